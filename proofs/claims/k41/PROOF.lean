import PyProof.Rows.All
import Wide.All
import OpenK.AllK
import Wide.FinOn
import HandS.ForMost
import HandS.IsInst
import HandS.TupAny
import HandS.Flow
import HandS.Style
import HandS.RevRange
import HandS.Conv
import HandS.More
import HandS.Zip
import KE.KDictZip
import KE.KDictList
import KE.KRevSl
import HandS.Codes
import HandS.Defaults
import HandS.Walk
import HandS.List
import HandS.Star
import PyProof.RulesMatch
import HandS.ForExc
import HandS.ExcInit
import HandS.ExcField
import HandS.HotCalls
import HandS.SetFor
import KE.KExcIs
import KE.GoesEnum
import KE.GoesMore
import HandS.ExcOwn
import HandS.WordsExc
import HandS.Deep
import HandS.CallLocal
import PyProof.Runs
import PyProof.Forget
import PyProof.GenQ
import HandS.Base
import HandS.Call
import HandS.Words
import PyProof.GenRules
import HandS.GenBody
import HandS.GenList
import HandS.Comp
import KE.DataEq
import HandS.Ends
import PyProof.ReprRoads
import PyProof.ReprLen
import HandS.RaiseMore
import KE.DatumOrd
import PySem.Challenge.RW_leastmaker_k41_examples_as_wishes
set_option Elab.async false
set_option linter.all false
set_option maxRecDepth 100000
set_option maxHeartbeats 2000000
namespace LmR
open PySem PySem.Spec PyProof.Rows L2
/-! ### t[::-1] of a tuple -/
section
variable {prog : Program} {w : World} {A : Around} {E : Value → Shared → Prop} {s : Shared}
theorem pick_rev (xs : Array Value) : ((List.range xs.size).filterMap fun (m : Nat) => xs[(((xs.size : Int) - 1) + (m : Int) * (-1)).toNat]?).toArray = xs.toList.reverse.toArray := by
  congr 1
  have e : ∀ n, n ≤ xs.size → ((List.range n).filterMap fun (m : Nat) => xs[(((xs.size : Int) - 1) + (m : Int) * (-1)).toNat]?) = (xs.toList.reverse).take n := by
    intro n
    induction n with
    | zero => intro _; rfl
    | succ n ih =>
      intro h
      rw [List.range_succ, List.filterMap_append, ih (by omega), List.take_add_one]
      congr 1
      have e1 : (((xs.size : Int) - 1) + (n : Int) * (-1)).toNat = xs.size - 1 - n := by omega
      have e2 : xs.toList.reverse[n]? = xs[xs.size - 1 - n]? := by
        rw [List.getElem?_reverse (by rw [Array.length_toList]; omega), Array.length_toList, Array.getElem?_toList]
      rw [e2]
      have hlt : xs.size - 1 - n < xs.size := by omega
      simp only [List.filterMap_cons, List.filterMap_nil]
      rw [e1, Array.getElem?_eq_getElem hlt]
      rfl
  rw [e xs.size (Nat.le_refl _)]
  exact List.take_of_length_le (by rw [List.length_reverse, Array.length_toList]; exact Nat.le_refl _)
theorem rev_applied {sl : Addr} {vl vu vs : Value} {n : Nat} {Q : Int × Int × Nat → Shared → Prop} (hs : s.heap.IsSliceOf sl vl vu vs) (pl : IsPart vl none) (pu : IsPart vu none) (ps : IsPart vs (some (-1)))
    (h : Q ((n : Int) - 1, -1, n) s) : wpAny (model prog w) A (Builtin.Slice.sliceApplied (.ref sl) (pure (n : Int))) Q E s := by
  obtain ⟨os, hos, hcs, hds⟩ := id hs
  unfold Builtin.Slice.sliceApplied Builtin.Slice.sliceFields
  refine wpAny_bind (wpAny_bind (wpAny_field hos hds (x := vl) rfl (wpAny_bind (wpAny_field hos hds (x := vu) rfl (wpAny_bind (wpAny_field hos hds (x := vs) rfl (wpAny_pure ?_)))))))
  refine wpAny_bind (HT.slicePart_ ps ?_)
  show wpAny _ _ (if ((-1 : Int) == 0) = true then _ else _) _ _ s
  rw [if_neg (by decide)]
  refine wpAny_bind (HT.slicePart_ pl (wpAny_bind (HT.slicePart_ pu (wpAny_bind (wpAny_pure ?_)))))
  have e : Builtin.Slice.sliceAdjust none none (-1) (n : Int) = ((n : Int) - 1, -1) := by
    simp [Builtin.Slice.sliceAdjust]
  have e2 : Builtin.Slice.slicePlaces ((n : Int) - 1) (-1) (-1) = n := by
    unfold Builtin.Slice.slicePlaces
    simp
    omega
  show wpAny _ _ (match Builtin.Slice.sliceAdjust none none (-1) (n : Int) with | (lo, hi) => pure (lo, (-1 : Int), Builtin.Slice.slicePlaces lo hi (-1))) _ _ s
  rw [e]
  show wpAny _ _ (pure ((n : Int) - 1, (-1 : Int), Builtin.Slice.slicePlaces ((n : Int) - 1) (-1) (-1))) _ _ s
  rw [e2]
  exact wpAny_pure h
theorem getItem_tuple_rev {t sl : Addr} {items : Array Value} {vl vu vs : Value} {Q : Value → Shared → Prop} (ht : IsTup s.heap t items) (hs : s.heap.IsSliceOf sl vl vu vs) (pl : IsPart vl none) (pu : IsPart vu none) (ps : IsPart vs (some (-1)))
    (h : Q (.ref s.heap.objs.size) { s with heap := s.heap.push { cls := .type "tuple", data := .seq items.toList.reverse.toArray } })
    (hsz : items.size ≤ sizeLine) : wpAny (model prog w) A (getItem (.ref t) (.ref sl)) Q E s := by
  have htake : sizeOk (.seq items.toList.reverse.toArray) := by
    show (items.toList.reverse).toArray.size ≤ sizeLine
    rw [List.size_toArray, List.length_reverse, Array.length_toList]
    omega
  obtain ⟨os, hos, hcs, hds⟩ := id hs
  have hTs : s.TypeIs (.ref sl) "slice" := ⟨os, hos, hcs⟩
  unfold getItem
  try with_reducible refine wpAny_holding ?_
  first | refine wpAny_bind (wpAny_pure ?_) | skip
  refine wpAny_bind (wpAny_sequenceKey ht.typeIs (by decide) ?_)
  refine wpAny_bind (wpAny_callSpecial?_slot (name := Str.ofString "__getitem__") ht.typeIs PyProof.Rows.slot_tuple_getitem
    (wpAny_call_entry PyProof.Rows.slot_tuple_getitem ht.typeIs PyProof.Rows.entry_tuple_getitem ?_ (PyProof.Rows.args_tuple_getitem _ _)))
  show wpAny _ _ (Builtin.Tuple.tupleItemsOf (.ref t) >>= _) _ _ s
  refine wpAny_bind (PyProof.Rows.tupleItemsOf_ ht ?_)
  refine wpAny_bind (wpAny_typeOf hTs ?_)
  rw [if_pos (by decide)]
  refine wpAny_bind (rev_applied hs pl pu ps ?_)
  have hno : ¬ (((items.size : Int) - 1 == 0 && (-1 : Int) == 1 && items.size == items.size) = true) := by
    intro q
    rw [Bool.and_eq_true, Bool.and_eq_true] at q
    exact absurd q.1.2 (by decide)
  show wpAny _ _ (if ((items.size : Int) - 1 == 0 && (-1 : Int) == 1 && items.size == items.size) = true then _ else _) _ _ s
  rw [if_neg hno, pick_rev]
  first
    | exact wpAny_bind (m := Builtin.Tuple.tupleExact _) (wpAny_newObj_type (wpAny_pure ⟨_, rfl, wpAny_pure h⟩) htake)
    | exact wpAny_bind (m := Builtin.Tuple.tupleExact _) (wpAny_newObj_type (wpAny_bind (wpAny_pure (wpAny_pure ⟨_, rfl, wpAny_pure h⟩))) htake)
    | exact wpAny_bind (wpAny_bind (m := Builtin.Tuple.tupleExact _) (wpAny_newObj_type (wpAny_pure (wpAny_pure ⟨_, rfl, wpAny_pure h⟩)) htake))
    | exact wpAny_bind (wpAny_bind (m := Builtin.Tuple.tupleExact _) (wpAny_newObj_type (wpAny_pure ⟨_, rfl, wpAny_pure h⟩) htake))
end
def tRevT (K : PySem.W.Frag) (te : TE) : TE := fun σ H Q => te σ H fun x H1 => ∃ a xs, x = .ref a ∧ SqT K H1 a xs ∧ ∀ p, H1 p = none → Q (.ref p) (upd H1 p (.tup xs.reverse))
section
variable {X : Cx}
theorem pe_revT {e : Expr} {te : TE} {k : Nat} {p1 p2 p3 pos : Pos} (he : PE X e te) : PE X (.Subscript e (.Slice none none (some (.UnaryOp .USub (.Constant (.int 1) k p1) p2)) p3) pos) (tRevT X.K te) := by
  refine ⟨fun pins s σ H Q I h => ?_⟩
  refine Subscript_ (thn (he.run pins s σ H _ I h) fun v s1 ⟨x, H1, I1, r1, q1⟩ => ?_)
  obtain ⟨a, xs, ex, hx, q⟩ := q1
  subst ex
  cases r1
  have hst : PO X (some (.UnaryOp .USub (.Constant (.int 1) k p1) p2)) (tPart (tUn (rU fun i => .int (-i)) (tC (.int 1)))) := po_some (pe_un un_neg pe_int)
  refine wpAny_Slice (thn (po_none.run pins s1 σ H1 (fun o H2 => o = none ∧ H2 = H1) I1 ⟨rfl, rfl⟩) fun vl s2 ⟨l, H2, I2, pl, el, e2⟩ => ?_)
  subst el e2
  refine thn (po_none.run pins s2 σ H2 (fun o H3 => o = none ∧ H3 = H2) I2 ⟨rfl, rfl⟩) fun vu s3 ⟨u, H3, I3, pu, eu, e3⟩ => ?_
  subst eu e3
  refine thn (hst.run pins s3 σ H3 (fun o H4 => o = some (-1) ∧ H4 = H3) I3 ⟨1, rfl, -1, rfl, rfl, rfl⟩) fun vs s4 ⟨o, H4, I4, ps, eo, e4⟩ => ?_
  subst eo e4
  have I5 : Inv X pins σ H4 { s4 with heap := s4.heap.push { cls := .type "slice", data := .fields #[vl, vu, vs] } } := I4.kept (t' := s4.toks) fun b ob q => Heap.get?_push_of_some _ q
  obtain ⟨its, r, ht, hz⟩ := I5.tuple hx
  have hlen := r.length
  show wpAny (model X.prog X.w) X.A (subscriptTail e (.Slice none none (some (.UnaryOp .USub (.Constant (.int 1) k p1) p2)) p3) (.ref a) (.ref s4.heap.objs.size)) (EP X pins σ Q) X.xe { s4 with heap := s4.heap.push { cls := .type "slice", data := .fields #[vl, vu, vs] } }
  refine tail_any (ops := [.ref a, .ref s4.heap.objs.size]) ht.typeIs (PyProof.Rows.slot_tuple_getitem.lookup) ?_ (by with_unfolding_all rfl)
  refine getItem_tuple_rev ht (Heap.IsSliceOf.new _ vl vu vs) pl pu ps ?_ (by rw [List.size_toArray]; omega)
  refine ⟨.ref _, _, I5.laid (t' := s4.toks) (o := .tup xs.reverse) (fun b ob q => Heap.get?_push_of_some _ q) (Nat.le_refl _) ?_, rfl, q _ (I5.hok.fresh (Nat.le_refl _))⟩
  exact ⟨by rw [List.length_reverse]; exact hz, its.reverse, r.reverse, ⟨_, Heap.get?_push_size _ rfl, rfl, _, rfl⟩⟩
end
/-! ### l.extend(t), t a tuple -/
theorem extend_tuple (l : Addr) (items : Array Value) (n : Nat) (b : Addr) (items2 : Array Value) (n2 : Nat) (dd : Option Addr) (sl : Array (Option Value)) (hs0 : ¬(!items.isEmpty && Builtin.List.listTooLong (items.size + items2.size)) = true) (hs1 : items.size ≤ sizeLine) (hs2 : items.size + items2.size ≤ sizeLine + 1 := by seq_fits) :
    Meets (Builtin.«list.extend» ⟨[.ref l, .ref b], []⟩) (fun _ R s => s.heap.get? l = some { cls := .type "list", dict := none, data := .seq items n, slots := #[] } ∧ s.heap.get? b = some { cls := .type "tuple", dict := dd, data := .seq items2 n2, slots := sl } ∧ R (.ok (.ret Value.none)) { s with heap := s.heap.update l (Obj.mapSeq fun x => x ++ items2), toks := s.toks }) :=
  .of_wp fun prog w A R s h => by
    obtain ⟨hp, g, d, tk, os⟩ := s; obtain ⟨hl, hb, h⟩ := h; have f1 := AutoSeq1.idx_int; have f2 := AutoSeq1.sub_tuple_tuple; have f3 := AutoSeq1.sub_list_list; have f4 := AutoSeq1.sub_tuple_list; have f5 := AutoSeq1.sub_list_tuple;
    have hz' : (items ++ items2).size ≤ sizeLine + 1 := by rw [Array.size_append]; exact hs2
    wp_walk using (wpAny_updateSeq hl rfl (hz := hs1) (_hz' := hz')), wpAny_loadPart' hl, wpAny_loadPart' hb; exact ⟨_, rfl, h⟩
def rExtT (K : PySem.W.Frag) : V → List V → Hp → VK → Prop := fun x vs H Q => ∃ l b xs zs, x = .ref l ∧ vs = [.ref b] ∧ H l = some (.lst xs) ∧ SqT K H b zs ∧ xs.length + zs.length ≤ sizeLine ∧ Q .non (upd H l (.lst (xs ++ zs)))
theorem mt_extendT {X : Cx} : MtM X "list.extend" (rExtT X.K) := by
  intro pins s σ H x vs v us Q I rx rv h
  obtain ⟨l, b, xs, zs, rfl, rfl, hH, hB, hz, q⟩ := h
  cases rx
  obtain ⟨u, rfl, ru⟩ := rv.one
  cases ru
  obtain ⟨z, its, n, r, hl, e⟩ := I.lstM hH
  obtain ⟨its2, r2, ⟨⟨cls, dd, dt, sl⟩, ho, hc, n2, hd⟩, _⟩ := I.tuple hB
  simp only at hc hd
  subst hc hd
  have hl2 := r2.length
  have hsz : its.toArray.size + its2.toArray.size ≤ sizeLine := by rw [List.size_toArray, List.size_toArray]; omega
  have hlong : ¬ (!its.toArray.isEmpty && Builtin.List.listTooLong (its.toArray.size + its2.toArray.size)) = true := by
    rw [notLongL hsz, Bool.and_false]
    exact Bool.false_ne_true
  refine call_meets F.slot_list_extend ⟨_, e, rfl⟩ F.entry_list_extend (F.args_list_extend_2 _ _)
    (extend_tuple l its.toArray n b its2.toArray n2 dd sl hlong (by rw [List.size_toArray]; omega) (by omega)) ⟨e, ho, ?_⟩
  refine ⟨.non, _, I.lset (its' := its ++ its2) hH e (by simp) (r.append r2) ?_, rfl, q⟩
  rw [List.length_append]
  omega
end LmR

set_option Elab.async false
set_option linter.all false
set_option maxRecDepth 100000
set_option maxHeartbeats 2000000
namespace LmR
open PySem PySem.Spec PyProof.Rows L2 RZ
theorem zip_no_len : typeLookup (.type "zip") "__len__" = pure none := by rw [typeLookup_type, builtinLookup_eq_fast]; kernel_rfl
theorem zip_no_hint : typeLookup (.type "zip") "__length_hint__" = pure none := by rw [typeLookup_type, builtinLookup_eq_fast]; kernel_rfl
section
variable {prog : Program} {w : World} {A : Around} {E : Value → Shared → Prop} {s : Shared}
theorem zipT_item_held {z TI TO T i1 i2 l1 l2 : Addr} {f : Bool} {oT : Obj} {k1 k2 : Nat} {xs ys : Array Value} {x y : Value} {Q : Value → Shared → Prop} (D : ZipApart z TI TO i1 i2 l1 l2)
    (hz : IsZipHeld s.heap z TI TO T f) (hT : s.heap.get? T = some oT) (hTI : IsPair s.heap TI (.ref i1) (.ref i2))
    (h1 : s.heap.IsTupleIter i1 l1 k1) (h2 : s.heap.IsTupleIter i2 l2 k2) (hl1 : s.heap.IsTuple l1 xs) (hl2 : s.heap.IsTuple l2 ys) (hx : xs[k1]? = some x) (hy : ys[k2]? = some y)
    (hQ : ∀ h', IsZipHeld h' z TI TO T true → h'.IsTupleIter i1 l1 (k1 + 1) → h'.IsTupleIter i2 l2 (k2 + 1) → IsPair h' s.heap.objs.size x y → h'.objs.size = s.heap.objs.size + 1 →
      (∀ c o, c ≠ z → c ≠ i1 → c ≠ i2 → s.heap.get? c = some o → h'.get? c = some o) → Q (.ref s.heap.objs.size) { s with heap := h' }) :
    wpAny (model prog w) A (Builtin.«zip.__next__» ⟨[.ref z], []⟩) (fun fin s' => ∃ v, fin = .done (.ret v) ∧ Q v s') E s := by
  show wpAny _ _ (field (.ref z) 2 >>= _) _ _ _
  refine wpAny_bind (wpAny_field hz rfl (x := .bool false) rfl ?_)
  show wpAny _ _ (field (.ref z) 3 >>= _) _ _ _
  refine wpAny_bind (wpAny_field hz rfl (x := .ref TI) rfl ?_)
  refine wpAny_bind (wpAny_seqItems hTI rfl ?_)
  show wpAny _ _ (Builtin.SmallTypes.ownedTupleIsFree (.ref z) >>= _) _ _ _
  refine wpAny_bind (wpAny_tupleHeld_zip hz hT fun h₁ hz₁ hs₁ => ?_)
  simp only [Bool.false_eq_true, if_false]
  refine wpAny_bind ?_
  rw [← Array.forIn_toList]
  simp only [List.forIn_cons, List.forIn_nil]
  refine wpAny_bind (wpAny_bind (wpAny_holding ?_))
  show wpAny _ _ (Builtin.SmallTypes.nextOf (.ref i1) >>= _) _ _ _
  refine wpAny_bind (nextOf_tuple_item (s := { s with heap := h₁ }) (h1.extBut hs₁.extBut D.i1z) (hl1.extBut hs₁.extBut D.l1z) hx fun h₂ h1₂ hs₂ => wpAny_pure ?_)
  refine wpAny_pure ?_
  refine wpAny_bind (wpAny_bind (wpAny_holding ?_))
  show wpAny _ _ (Builtin.SmallTypes.nextOf (.ref i2) >>= _) _ _ _
  refine wpAny_bind (nextOf_tuple_item (s := { s with heap := h₂ }) ((h2.extBut hs₁.extBut D.i2z).extBut hs₂.extBut D.i12.symm) ((hl2.extBut hs₁.extBut D.l2z).extBut hs₂.extBut D.l2i1) hy fun h₃ h2₃ hs₃ => wpAny_pure ?_)
  refine wpAny_pure (wpAny_pure ?_)
  show wpAny _ _ (newTuple [x, y] >>= _) _ _ _
  refine wpAny_bind (wpAny_newTuple ?_)
  have hsz : h₃.objs.size = s.heap.objs.size := by rw [hs₃.1, hs₂.1, hs₁.1]
  have hz₃ : IsZipHeld h₃ z TI TO T true := hs₃.extBut _ _ D.i2z.symm (hs₂.extBut _ _ D.i1z.symm hz₁)
  have hk : ∀ c o, c ≠ z → c ≠ i1 → c ≠ i2 → s.heap.get? c = some o → h₃.get? c = some o := fun c o c1 c2 c3 e => hs₃.extBut _ _ c3 (hs₂.extBut _ _ c2 (hs₁.extBut _ _ c1 e))
  have h1₃ : h₃.IsTupleIter i1 l1 (k1 + 1) := h1₂.extBut hs₃.extBut D.i12
  refine wpAny_pure ⟨_, rfl, ?_⟩
  show Q (.ref h₃.objs.size) _
  have hp : IsPair (h₃.push { cls := .type "tuple", data := .seq #[x, y] }) h₃.objs.size x y := Heap.get?_push_size _ rfl
  have hz4 : (h₃.push { cls := .type "tuple", data := .seq #[x, y] }).objs.size = h₃.objs.size + 1 := Heap.size_push ..
  rw [hsz] at hp hz4 ⊢
  exact hQ _ (Heap.get?_push_of_some _ hz₃) (h1₃.at fun o e => Heap.get?_push_of_some _ e) (h2₃.at fun o e => Heap.get?_push_of_some _ e) hp hz4 fun c o c1 c2 c3 e => Heap.get?_push_of_some _ (hk c o c1 c2 c3 e)
theorem zipT_end_held {z TI TO T i1 i2 l1 l2 : Addr} {f : Bool} {oT : Obj} {k1 k2 : Nat} {xs ys : Array Value} {Q : Fin → Shared → Prop} (hh : A.handled = none) (D : ZipApart z TI TO i1 i2 l1 l2)
    (hz : IsZipHeld s.heap z TI TO T f) (hT : s.heap.get? T = some oT) (hTI : IsPair s.heap TI (.ref i1) (.ref i2))
    (h1 : s.heap.IsTupleIter i1 l1 k1) (h2 : s.heap.IsTupleIter i2 l2 k2) (hl1 : s.heap.IsTuple l1 xs) (hl2 : s.heap.IsTuple l2 ys) (hx : xs[k1]? = none)
    (hE : ∀ h' e, (∀ c o, c ≠ z → c ≠ i1 → c ≠ i2 → s.heap.get? c = some o → h'.get? c = some o) → (∃ o, h'.get? e = some o ∧ o.cls = .type "StopIteration") → E (.ref e) { s with heap := h' }) :
    wpAny (model prog w) A (Builtin.«zip.__next__» ⟨[.ref z], []⟩) Q E s := by
  show wpAny _ _ (field (.ref z) 2 >>= _) _ _ _
  refine wpAny_bind (wpAny_field hz rfl (x := .bool false) rfl ?_)
  show wpAny _ _ (field (.ref z) 3 >>= _) _ _ _
  refine wpAny_bind (wpAny_field hz rfl (x := .ref TI) rfl ?_)
  refine wpAny_bind (wpAny_seqItems hTI rfl ?_)
  show wpAny _ _ (Builtin.SmallTypes.ownedTupleIsFree (.ref z) >>= _) _ _ _
  refine wpAny_bind (wpAny_tupleHeld_zip hz hT fun h₁ hz₁ hs₁ => ?_)
  simp only [Bool.false_eq_true, if_false]
  refine wpAny_bind ?_
  rw [← Array.forIn_toList]
  simp only [List.forIn_cons, List.forIn_nil]
  refine wpAny_bind (wpAny_bind (wpAny_holding ?_))
  show wpAny _ _ (Builtin.SmallTypes.nextOf (.ref i1) >>= _) _ _ _
  refine wpAny_bind (nextOf_tuple_end (s := { s with heap := h₁ }) hh (h1.extBut hs₁.extBut D.i1z) (hl1.extBut hs₁.extBut D.l1z) hx fun h₂ e hs₂ he => ?_)
  exact hE h₂ e (fun c o c1 c2 _ x => hs₂ _ _ c2 (hs₁.extBut _ _ c1 x)) he
/-- a zip of two tuples between two turns of list(..) -/
structure ZSt (h : Heap) (z TI TO i1 i2 l1 l2 S lo : Addr) (xs ys : Array Value) (i : Nat) : Prop where
  zip : (i = 0 ∧ IsZip h z TI TO .none ∧ ∃ a b, IsPair h TO a b) ∨ ∃ T f oT, IsZipHeld h z TI TO T f ∧ h.get? T = some oT ∧ lo ≤ T
  ti : IsPair h TI (.ref i1) (.ref i2)
  h1 : h.IsTupleIter i1 l1 i
  h2 : h.IsTupleIter i2 l2 i
  l1' : h.IsTuple l1 xs
  l2' : h.IsTuple l2 ys
/-- the addresses that are there ahead of the pairs -/
structure ZLo (z TI TO i1 i2 l1 l2 S lo : Addr) : Prop where
  z' : z < lo
  TI' : TI < lo
  TO' : TO < lo
  i1' : i1 < lo
  i2' : i2 < lo
  l1' : l1 < lo
  l2' : l2 < lo
  S' : S < lo
  Sz : S ≠ z
  STI : S ≠ TI
  STO : S ≠ TO
  Si1 : S ≠ i1
  Si2 : S ≠ i2
  Sl1 : S ≠ l1
  Sl2 : S ≠ l2
variable {z TI TO i1 i2 l1 l2 S lo : Addr} {xs ys : Array Value}
theorem ZSt.upd {h h' : Heap} {i : Nat} (L : ZLo z TI TO i1 i2 l1 l2 S lo) (st : ZSt h z TI TO i1 i2 l1 l2 S lo xs ys i) (k : ∀ b o, b ≠ S → h.get? b = some o → h'.get? b = some o) : ZSt h' z TI TO i1 i2 l1 l2 S lo xs ys i where
  zip := by
    rcases st.zip with ⟨e, hz, a, b, ht⟩ | ⟨T, f, oT, hz, hT, hl⟩
    · exact .inl ⟨e, k _ _ L.Sz.symm hz, a, b, k _ _ L.STO.symm ht⟩
    · exact .inr ⟨T, f, oT, k _ _ L.Sz.symm hz, k _ _ (fun e => by have := L.S'; rw [e] at hl; exact absurd hl (Nat.not_le.mpr this)) hT, hl⟩
  ti := k _ _ L.STI.symm st.ti
  h1 := st.h1.at fun o e => k _ _ L.Si1.symm e
  h2 := st.h2.at fun o e => k _ _ L.Si2.symm e
  l1' := by
    obtain ⟨o, ho, r⟩ := st.l1'
    exact ⟨o, k _ _ L.Sl1.symm ho, r⟩
  l2' := by
    obtain ⟨o, ho, r⟩ := st.l2'
    exact ⟨o, k _ _ L.Sl2.symm ho, r⟩
theorem tup_keep {h h' : Heap} {l : Addr} {its : Array Value} (t : h.IsTuple l its) (k : ∀ o, h.get? l = some o → h'.get? l = some o) : h'.IsTuple l its := by
  obtain ⟨o, ho, r⟩ := t
  exact ⟨o, k o ho, r⟩
theorem zst_item {i : Nat} {x y : Value} {Q : Option Value → Shared → Prop} (D : ZipApart z TI TO i1 i2 l1 l2) (L : ZLo z TI TO i1 i2 l1 l2 S lo) (hlo : lo ≤ s.heap.objs.size) (st : ZSt s.heap z TI TO i1 i2 l1 l2 S lo xs ys i) (hx : xs[i]? = some x) (hy : ys[i]? = some y)
    (hQ : ∀ h', ZSt h' z TI TO i1 i2 l1 l2 S lo xs ys (i + 1) → IsPair h' s.heap.objs.size x y → h'.objs.size = s.heap.objs.size + 1 →
      (∀ c o, c ≠ z → c ≠ TO → c ≠ i1 → c ≠ i2 → s.heap.get? c = some o → h'.get? c = some o) → Q (some (.ref s.heap.objs.size)) { s with heap := h' }) :
    wpAny (model prog w) A (pyNext (.ref z)) Q E s := by
  rcases st.zip with ⟨e, hz, a, b, ht⟩ | ⟨T, f, oT, hz, hT, hl⟩
  · refine pyNext_zipT_item D hz st.ti ht st.h1 st.h2 st.l1' st.l2' hx hy fun h' z' to' a1 a2 pr sz k => hQ h' ⟨.inr ⟨s.heap.objs.size, false, _, z', pr, hlo⟩, ?_, a1, a2, ?_, ?_⟩ pr sz k
    · exact k _ _ D.TIz D.TITO D.TIi1 D.TIi2 st.ti
    · exact tup_keep st.l1' fun o q => k _ _ D.l1z D.l1TO D.l1i1 D.l1i2 q
    · exact tup_keep st.l2' fun o q => k _ _ D.l2z D.l2TO D.l2i1 D.l2i2 q
  · have hTy : s.TypeIs (.ref z) "zip" := ⟨_, hz, rfl⟩
    unfold pyNext
    refine wpAny_bind (wpAny_attempt (wpAny_callSpecial?_slot (name := Str.ofString "__next__") hTy F.slot_zip_next
      (wpAny_call_entry F.slot_zip_next hTy F.entry_zip_next
        (zipT_item_held D hz hT st.ti st.h1 st.h2 st.l1' st.l2' hx hy fun h' z' a1 a2 pr sz k => wpAny_pure (hQ h' ⟨.inr ⟨T, true, oT, z', ?_, hl⟩, ?_, a1, a2, ?_, ?_⟩ pr sz fun c o c1 _ c3 c4 q => k c o c1 c3 c4 q)) (F.args_zip_next_1 _))))
    · exact k _ _ (fun e => by rw [e] at hl; exact absurd hl (Nat.not_le.mpr L.z')) (fun e => by rw [e] at hl; exact absurd hl (Nat.not_le.mpr L.i1')) (fun e => by rw [e] at hl; exact absurd hl (Nat.not_le.mpr L.i2')) hT
    · exact k _ _ D.TIz D.TIi1 D.TIi2 st.ti
    · exact tup_keep st.l1' fun o q => k _ _ D.l1z D.l1i1 D.l1i2 q
    · exact tup_keep st.l2' fun o q => k _ _ D.l2z D.l2i1 D.l2i2 q
theorem zst_done {i : Nat} {Q : Option Value → Shared → Prop} (hh : A.handled = none) (D : ZipApart z TI TO i1 i2 l1 l2) (st : ZSt s.heap z TI TO i1 i2 l1 l2 S lo xs ys i) (hx : xs[i]? = none)
    (hQ : ∀ h', (∀ c o, c ≠ z → c ≠ TO → c ≠ i1 → c ≠ i2 → s.heap.get? c = some o → h'.get? c = some o) → Q none { s with heap := h' }) : wpAny (model prog w) A (pyNext (.ref z)) Q E s := by
  rcases st.zip with ⟨e, hz, a, b, ht⟩ | ⟨T, f, oT, hz, hT, hl⟩
  · exact pyNext_zipT_end hh D hz st.ti ht st.h1 st.h2 st.l1' st.l2' (.inl hx) hQ
  · have hTy : s.TypeIs (.ref z) "zip" := ⟨_, hz, rfl⟩
    unfold pyNext
    refine wpAny_bind (wpAny_attempt (wpAny_callSpecial?_slot (name := Str.ofString "__next__") hTy F.slot_zip_next
      (wpAny_call_entry F.slot_zip_next hTy F.entry_zip_next (zipT_end_held hh D hz hT st.ti st.h1 st.h2 st.l1' st.l2' hx fun h' e hk he => ?_) (F.args_zip_next_1 _))))
    obtain ⟨o, ho, hc⟩ := he
    refine wpAny_bind (wpAny_isInstance (T := "StopIteration") (b := true) ⟨o, ho, hc⟩ isSubtype_stop ?_)
    exact wpAny_pure (hQ _ fun c o c1 _ c3 c4 q => hk c o c1 c3 c4 q)
/-- the pairs made so far -/
structure ZG (xs ys : Array Value) (lo : Addr) (h : Heap) (as : List Addr) : Prop where
  rise : as.Pairwise (· < ·)
  above : ∀ a ∈ as, lo ≤ a
  pairs : ∀ (j : Nat) (a : Addr), as[j]? = some a → ∃ x y, xs[j]? = some x ∧ ys[j]? = some y ∧ IsPair h a x y
theorem ZG.there {h : Heap} {as : List Addr} (g : ZG xs ys lo h as) {a : Addr} (ha : a ∈ as) : a < h.objs.size := by
  obtain ⟨j, hj⟩ := List.mem_iff_getElem?.mp ha
  obtain ⟨_, _, _, _, e⟩ := g.pairs j a hj
  exact Heap.lt_size e
theorem zl_loop {R : Result → Shared → Prop} (hh : A.handled = none) (D : ZipApart z TI TO i1 i2 l1 l2) (L : ZLo z TI TO i1 i2 l1 l2 S lo) (hl : xs.size = ys.size) (hn : xs.size ≤ sizeLine) (res : Value) {h₁ : Heap}
    (hR : ∀ h' tk acc c as, (∀ b o, b ≠ S → b ≠ z → b ≠ TO → b ≠ i1 → b ≠ i2 → h₁.get? b = some o → h'.get? b = some o) → h'.get? S = some { cls := .type "list", dict := none, data := .seq acc c, slots := #[] } → as.length = xs.size → ZG xs ys lo h' as →
      acc.toList = as.map Value.ref → R (.ok (.ret res)) { s with heap := h', toks := tk }) :
    ∀ (k i : Nat) (h : Heap) (tk c : Nat) (acc : Array Value) (as : List Addr), xs.size - i = k → i ≤ xs.size → ZSt h z TI TO i1 i2 l1 l2 S lo xs ys i → (∀ b o, b ≠ S → b ≠ z → b ≠ TO → b ≠ i1 → b ≠ i2 → h₁.get? b = some o → h.get? b = some o) →
      h.get? S = some { cls := .type "list", dict := none, data := .seq acc c, slots := #[] } → acc.toList = as.map Value.ref → as.length = i → ZG xs ys lo h as → lo ≤ h.objs.size →
      codeAny (model prog w) A (.builtin "list.extend.loop" ⟨[.ref S, .ref z, res], []⟩) R { s with heap := h, toks := tk } := by
  intro k
  induction k with
  | zero =>
    intro i h tk c acc as hk hi st hkeep hS hacc hal hG hlo
    have hin : i = xs.size := by omega
    refine codeAny_builtin PySem.F.entry_extend_loop ?_
    rw [Around.under_plainId PySem.F.plain_extend_loop _]
    show wpAny _ A.in1 (pyNext (.ref z) >>= _) _ _ _
    refine wpAny_bind (zst_done (s := { s with heap := h, toks := tk }) (A := A.in1) hh D st (Array.getElem?_eq_none (by omega)) fun h' he => ?_)
    refine wpAny_pure (hR h' tk acc c as (fun b o h1 h2 h3 h4 h5 e => he b o h2 h3 h4 h5 (hkeep b o h1 h2 h3 h4 h5 e)) (he S _ L.Sz L.STO L.Si1 L.Si2 hS) (by omega) ⟨hG.rise, hG.above, fun j a hj => ?_⟩ hacc)
    obtain ⟨x, y, e1, e2, e3⟩ := hG.pairs j a hj
    have ha := hG.above a (List.mem_of_getElem? hj)
    exact ⟨x, y, e1, e2, he a _ (Nat.ne_of_gt (Nat.lt_of_lt_of_le L.z' ha)) (Nat.ne_of_gt (Nat.lt_of_lt_of_le L.TO' ha)) (Nat.ne_of_gt (Nat.lt_of_lt_of_le L.i1' ha)) (Nat.ne_of_gt (Nat.lt_of_lt_of_le L.i2' ha)) e3⟩
  | succ k ih =>
    intro i h tk c acc as hk hi st hkeep hS hacc hal hG hlo
    have hlt : i < xs.size := by omega
    have hx : xs[i]? = some xs[i] := Array.getElem?_eq_getElem hlt
    have hlt2 : i < ys.size := by omega
    have hy : ys[i]? = some ys[i] := Array.getElem?_eq_getElem hlt2
    have hsz : acc.size = i := by rw [← Array.length_toList, hacc, List.length_map, hal]
    refine codeAny_builtin PySem.F.entry_extend_loop ?_
    rw [Around.under_plainId PySem.F.plain_extend_loop _]
    show wpAny _ A.in1 (pyNext (.ref z) >>= _) _ _ _
    refine wpAny_bind (zst_item (s := { s with heap := h, toks := tk }) (A := A.in1) D L hlo st hx hy fun h' st' ht hz hkp => ?_)
    dsimp only at ht hz hkp ⊢
    have hS' := hkp S _ L.Sz L.STO L.Si1 L.Si2 hS
    have up : ∀ b o, b ≠ S → h'.get? b = some o → (h'.update S (Obj.mapSeq (·.push (Value.ref h.objs.size)))).get? b = some o := fun b o hb e => (Heap.get?_update_other _ _ (Ne.symm hb)).trans e
    have hSl : S < h.objs.size := Heap.lt_size hS
    show wpAny _ A.in1 (updateSeq S (·.push (Value.ref h.objs.size)) >>= _) _ _ _
    refine wpAny_bind ?_
    refine wpAny_updateSeq hS' rfl (wpAny_pure ⟨plainId_quiet PySem.F.plain_extend_loop _, ih (i + 1) _ tk _ (acc.push (Value.ref h.objs.size)) (as ++ [h.objs.size]) (by omega) hlt (st'.upd L up)
      (fun b o h1 h2 h3 h4 h5 e => up b o h1 (hkp b o h2 h3 h4 h5 (hkeep b o h1 h2 h3 h4 h5 e))) (Heap.get?_update_self _ hS' rfl) (by rw [Array.toList_push, hacc, List.map_append]; rfl) (by rw [List.length_append, hal]; rfl) ⟨?_, ?_, ?_⟩ ?_⟩) (by rw [hsz]; omega) (by show (acc.push (Value.ref h.objs.size)).size ≤ sizeLine + 1; rw [Array.size_push, hsz]; omega)
    · refine List.pairwise_append.mpr ⟨hG.rise, List.pairwise_singleton _ _, fun a ha b hb => ?_⟩
      rw [List.mem_singleton.mp hb]
      exact hG.there ha
    · intro a ha
      rcases List.mem_append.mp ha with ha | ha
      · exact hG.above a ha
      · rw [List.mem_singleton.mp ha]; exact hlo
    · intro j b hj
      rcases Nat.lt_trichotomy j as.length with h1 | h1 | h1
      · rw [List.getElem?_append_left h1] at hj
        obtain ⟨x', y', e1, e2, e3⟩ := hG.pairs j b hj
        have hb := hG.above b (List.mem_of_getElem? hj)
        exact ⟨x', y', e1, e2, up b _ (Nat.ne_of_gt (Nat.lt_of_lt_of_le L.S' hb)) (hkp b _ (Nat.ne_of_gt (Nat.lt_of_lt_of_le L.z' hb)) (Nat.ne_of_gt (Nat.lt_of_lt_of_le L.TO' hb)) (Nat.ne_of_gt (Nat.lt_of_lt_of_le L.i1' hb)) (Nat.ne_of_gt (Nat.lt_of_lt_of_le L.i2' hb)) e3)⟩
      · subst h1
        have hb : h.objs.size = b := by simpa using hj
        subst hb
        exact ⟨xs[i], ys[i], by rw [hal]; exact hx, by rw [hal]; exact hy, up _ _ (Nat.ne_of_gt hSl) ht⟩
      · have hnone : (as ++ [h.objs.size])[j]? = none := List.getElem?_eq_none (by rw [List.length_append, List.length_singleton]; omega)
        rw [hnone] at hj; cases hj
    · have e : (h'.update S (Obj.mapSeq (·.push (Value.ref h.objs.size)))).get? h.objs.size = _ := up _ _ (Nat.ne_of_gt hSl) ht
      exact Nat.le_trans hlo (Nat.le_of_lt (Heap.lt_size e))
end
end LmR

set_option Elab.async false
set_option linter.all false
set_option maxRecDepth 100000
set_option maxHeartbeats 2000000
namespace LmR
open PySem PySem.Spec PyProof.Rows L2 RZ
section
variable {prog : Program} {w : World} {A : Around} {E : Value → Shared → Prop} {s : Shared}
variable {z TI TO i1 i2 l1 l2 S lo : Addr} {xs ys : Array Value}
theorem zl_extend {R : Result → Shared → Prop} (hh : A.handled = none) (D : ZipApart z TI TO i1 i2 l1 l2) (L : ZLo z TI TO i1 i2 l1 l2 S lo) (hl : xs.size = ys.size) (hn : xs.size ≤ sizeLine) (res : Value) (c₀ : Nat) (hlo : lo ≤ s.heap.objs.size)
    (st : ZSt s.heap z TI TO i1 i2 l1 l2 S lo xs ys 0) (hz : IsZip s.heap z TI TO .none) (hS : s.heap.get? S = some { cls := .type "list", data := .seq #[] c₀ })
    (hR : ∀ h' tk acc c as, (∀ b o, b ≠ S → b ≠ z → b ≠ TO → b ≠ i1 → b ≠ i2 → s.heap.get? b = some o → h'.get? b = some o) → h'.get? S = some { cls := .type "list", dict := none, data := .seq acc c, slots := #[] } → as.length = xs.size → ZG xs ys lo h' as →
      acc.toList = as.map Value.ref → R (.ok (.ret res)) { s with heap := h', toks := tk }) :
    wpAny (model prog w) A.in1 (Builtin.List.listExtendWith (.ref S) (.ref z) res)
      (fun fin s' => match fin with | .done f => R (.ok f) s' | .again c' => c'.quiet = true ∧ codeAny (model prog w) A c' R s') (fun e s' => R (.error e) s') s := by
  have hT : s.TypeIs (.ref z) "zip" := ⟨_, hz, rfl⟩
  unfold Builtin.List.listExtendWith
  refine wpAny_bind (wpAny_typeOf hT ?_)
  have h1 : Builtin.List.listSameRef (.ref S) (.ref z) = false := by simp [Builtin.List.listSameRef, L.Sz]
  have h2 : (Value.type "zip" == Value.type "list") = false := by decide
  have h3 : (Value.type "zip" == Value.type "tuple") = false := by decide
  simp only [h1, h2, h3, Bool.or_false, Bool.false_eq_true, if_false]
  refine wpAny_bind (wpAny_pyIter_zip hz ?_)
  refine wpAny_bind (wpAny_holding ?_)
  unfold Builtin.List.listLengthHint
  refine wpAny_bind (wpAny_specialOf hT zip_no_len ?_)
  show wpAny _ A.in1 (specialOf (Value.ref z) (Str.ofString "__length_hint__") >>= _) _ _ _
  refine wpAny_bind (wpAny_specialOf hT zip_no_hint ?_)
  refine wpAny_pure ?_
  show wpAny _ A.in1 (rule "list.extend.makes-room" >>= fun _ => Builtin.List.listTouch (.ref S) >>= fun _ =>
    again (.builtin "list.extend.loop" ⟨[.ref S, .ref z, res], []⟩)) _ _ _
  refine wpAny_bind (wpAny_rule ?_)
  refine wpAny_bind ?_
  show wpAny _ A.in1 (updateSeq S (·.push .none) >>= fun _ => updateSeq S (·.pop)) _ _ _
  refine wpAny_bind (wpAny_updateSeq hS rfl ?_)
  have hS₂ := Heap.get?_update_self (Obj.mapSeq (·.push Value.none)) hS rfl
  refine wpAny_updateSeq (hz := by seq_fits) hS₂ rfl ?_
  have hS₃ := Heap.get?_update_self (Obj.mapSeq (·.pop)) hS₂ rfl
  have oth : ∀ b o, b ≠ S → s.heap.get? b = some o → ((s.heap.update S (Obj.mapSeq (·.push Value.none))).update S (Obj.mapSeq (·.pop))).get? b = some o :=
    fun b o hb e => (Heap.get?_update_other _ _ (Ne.symm hb)).trans ((Heap.get?_update_other _ _ (Ne.symm hb)).trans e)
  refine wpAny_pure ⟨plainId_quiet PySem.F.plain_extend_loop _, zl_loop (s := s) (h₁ := s.heap) hh D L hl hn res hR xs.size 0 _ s.toks _ #[] [] (Nat.sub_zero _) (Nat.zero_le _) (st.upd L oth) (fun b o h1 _ _ _ _ e => oth b o h1 e) hS₃ rfl rfl ⟨List.Pairwise.nil, (fun _ ha => nomatch ha), (fun j a hj => by simp at hj)⟩ ?_⟩
  have zz := oth z _ L.Sz.symm hz
  have e1 : ((s.heap.update S (Obj.mapSeq (·.push Value.none))).update S (Obj.mapSeq (·.pop))).objs.size = s.heap.objs.size := by
    first
      | (rw [Heap.size_update, Heap.size_update])
      | (simp [Heap.update])
  rw [e1]
  exact hlo
theorem zl_init {R : Result → Shared → Prop} (hh : A.handled = none) (D : ZipApart z TI TO i1 i2 l1 l2) (L : ZLo z TI TO i1 i2 l1 l2 S lo) (hl : xs.size = ys.size) (hn : xs.size ≤ sizeLine) (hlo : lo ≤ s.heap.objs.size)
    (st : ZSt s.heap z TI TO i1 i2 l1 l2 S lo xs ys 0) (hz : IsZip s.heap z TI TO .none) (hS : s.heap.get? S = some { cls := .type "list", data := .seq #[] })
    (hR : ∀ h' tk acc c as, (∀ b o, b ≠ S → b ≠ z → b ≠ TO → b ≠ i1 → b ≠ i2 → s.heap.get? b = some o → h'.get? b = some o) → h'.get? S = some { cls := .type "list", dict := none, data := .seq acc c, slots := #[] } → as.length = xs.size → ZG xs ys lo h' as →
      acc.toList = as.map Value.ref → R (.ok (.ret .none)) { s with heap := h', toks := tk }) :
    wpAny (model prog w) A.in1 (Builtin.«list.__init__» ⟨[.ref S, .ref z], []⟩)
      (fun fin s' => match fin with | .done f => R (.ok f) s' | .again c' => c'.quiet = true ∧ codeAny (model prog w) A c' R s') (fun e s' => R (.error e) s') s := by
  show wpAny _ _ (do let old ← Builtin.List.listItems (.ref S); Builtin.List.listUpdate (.ref S) (fun _ => #[]); letGo old.toList.reverse; Builtin.List.listExtendWith (.ref S) (.ref z) .none) _ _ s
  refine wpAny_bind ?_
  unfold Builtin.List.listItems
  refine wpAny_bind (wpAny_seqItems hS rfl (wpAny_pure ?_))
  show wpAny _ _ (updateSeq S (fun _ => #[]) >>= fun _ => letGo (#[] : Array Value).toList.reverse >>= fun _ => Builtin.List.listExtendWith (.ref S) (.ref z) .none) _ _ s
  refine wpAny_bind (wpAny_updateSeq hS rfl ?_)
  have hS₂ := Heap.get?_update_self (Obj.mapSeq (fun _ => (#[] : Array Value))) hS rfl
  have oth : ∀ b o, b ≠ S → s.heap.get? b = some o → (s.heap.update S (Obj.mapSeq (fun _ => (#[] : Array Value)))).get? b = some o :=
    fun b o hb e => (Heap.get?_update_other _ _ (Ne.symm hb)).trans e
  refine wpAny_bind (wpAny_letGo ?_)
  have e1 : (s.heap.update S (Obj.mapSeq (fun _ => (#[] : Array Value)))).objs.size = s.heap.objs.size := by
    first
      | (rw [Heap.size_update])
      | (simp [Heap.update])
  refine zl_extend hh D L hl hn .none _ (by show lo ≤ (s.heap.update S _).objs.size; rw [e1]; exact hlo) (st.upd L oth) (oth z _ L.Sz.symm hz) hS₂ (fun h' tk acc c as hk hS' hl' hG hacc => ?_)
  exact hR h' tk acc c as (fun b o h1 h2 h3 h4 h5 e => hk b o h1 h2 h3 h4 h5 (oth b o h1 e)) hS' hl' hG hacc
theorem zl_call {Q : Value → Shared → Prop} (hh : A.handled = none) (D : ZipApart z TI TO i1 i2 l1 l2) (hl : xs.size = ys.size) (hn : xs.size ≤ sizeLine)
    (hz : IsZip s.heap z TI TO .none) (hTI : IsPair s.heap TI (.ref i1) (.ref i2)) (hTO : ∃ a b, IsPair s.heap TO a b) (h1 : s.heap.IsTupleIter i1 l1 0) (h2 : s.heap.IsTupleIter i2 l2 0) (hl1 : s.heap.IsTuple l1 xs) (hl2 : s.heap.IsTuple l2 ys)
    (hQ : ∀ h' tk acc c as, (∀ b o, b ≠ z → b ≠ TO → b ≠ i1 → b ≠ i2 → s.heap.get? b = some o → h'.get? b = some o) → h'.get? s.heap.objs.size = some { cls := .type "list", dict := none, data := .seq acc c, slots := #[] } → as.length = xs.size → ZG xs ys (s.heap.objs.size + 1) h' as →
      acc.toList = as.map Value.ref → Q (.ref s.heap.objs.size) { s with heap := h', toks := tk }) :
    wpAny (model prog w) A (call (.type "list") [.ref z]) Q E s := by
  refine callType_codes (Q₁ := fun obj s₁ => obj = .ref s.heap.objs.size ∧ s₁ = { s with heap := s.heap.push { cls := .type "list", data := .seq #[] } }) PySem.F.called_list (PySem.F.typeCall_list_1 _) PySem.F.entry_list_init
    (code_list_new _ ⟨rfl, rfl⟩) fun obj s₁ h₁ => ?_
  obtain ⟨rfl, rfl⟩ := h₁
  have hS : (s.heap.push { cls := .type "list", data := .seq #[] }).get? s.heap.objs.size = some { cls := .type "list", data := .seq #[] } := Heap.get?_push_size _ rfl
  have kp : ∀ b o, s.heap.get? b = some o → (s.heap.push { cls := .type "list", data := .seq #[] }).get? b = some o := fun b o e => Heap.get?_push_of_some _ e
  have lz := Heap.lt_size hz
  have lTI := Heap.lt_size hTI
  obtain ⟨ta, tb, hTO'⟩ := hTO
  have lTO := Heap.lt_size hTO'
  have li1 : i1 < s.heap.objs.size := let ⟨_, e, _⟩ := h1; Heap.lt_size e
  have li2 : i2 < s.heap.objs.size := let ⟨_, e, _⟩ := h2; Heap.lt_size e
  have ll1 : l1 < s.heap.objs.size := let ⟨_, e, _⟩ := hl1; Heap.lt_size e
  have ll2 : l2 < s.heap.objs.size := let ⟨_, e, _⟩ := hl2; Heap.lt_size e
  have L : ZLo z TI TO i1 i2 l1 l2 s.heap.objs.size (s.heap.objs.size + 1) := ⟨Nat.lt_succ_of_lt lz, Nat.lt_succ_of_lt lTI, Nat.lt_succ_of_lt lTO, Nat.lt_succ_of_lt li1, Nat.lt_succ_of_lt li2, Nat.lt_succ_of_lt ll1, Nat.lt_succ_of_lt ll2, Nat.lt_succ_self _,
    Nat.ne_of_gt lz, Nat.ne_of_gt lTI, Nat.ne_of_gt lTO, Nat.ne_of_gt li1, Nat.ne_of_gt li2, Nat.ne_of_gt ll1, Nat.ne_of_gt ll2⟩
  have st : ZSt (s.heap.push { cls := .type "list", data := .seq #[] }) z TI TO i1 i2 l1 l2 s.heap.objs.size (s.heap.objs.size + 1) xs ys 0 :=
    ⟨.inl ⟨rfl, kp _ _ hz, ta, tb, kp _ _ hTO'⟩, kp _ _ hTI, h1.at fun o e => kp _ _ e, h2.at fun o e => kp _ _ e, tup_keep hl1 fun o e => kp _ _ e, tup_keep hl2 fun o e => kp _ _ e⟩
  refine ⟨⟨_, hS, rfl⟩, PySem.F.args_list_init_2 _ _, zl_init (A := A.in1) hh D L hl hn (by show s.heap.objs.size + 1 ≤ (s.heap.push _).objs.size; rw [Heap.size_push]; exact Nat.le_refl _) st (kp _ _ hz) hS (fun h' tk acc c as hk hS' hl' hG hacc => ?_)⟩
  exact ⟨rfl, hQ h' tk acc c as (fun b o c1 c2 c3 c4 e => hk b o (Nat.ne_of_lt (Heap.lt_size e)) c1 c2 c3 c4 (kp b o e)) hS' hl' hG hacc⟩
end
/-! ### the rule -/
/-- pairs tracked at their addresses -/
def putZ : Hp → List Addr → List (V × V) → Hp
  | H, a :: as, p :: ps => putZ (upd H a (.tup [p.1, p.2])) as ps
  | H, _, _ => H
theorem putZ_off {b : Addr} : ∀ (as : List Addr) (ps : List (V × V)) (H : Hp), b ∉ as → putZ H as ps b = H b
  | [], _, _, _ => rfl
  | _ :: _, [], _, _ => rfl
  | a :: as, p :: ps, H, h => by
    show putZ (upd H a (.tup [p.1, p.2])) as ps b = H b
    rw [putZ_off as ps _ (fun z => h (List.mem_cons_of_mem _ z)), upd_ne (fun z => h (by rw [z]; exact List.mem_cons_self))]
theorem putZ_at : ∀ (as : List Addr) (ps : List (V × V)) (H : Hp) (j : Nat) (a : Addr) (p : V × V), as.Nodup → as[j]? = some a → ps[j]? = some p → putZ H as ps a = some (.tup [p.1, p.2])
  | [], _, _, j, _, _, _, h, _ => by simp at h
  | _ :: _, [], _, j, _, _, _, _, h => by simp at h
  | a :: as, p :: ps, H, 0, b, q, nd, h1, h2 => by
    have e1 : a = b := Option.some.inj h1
    have e2 : p = q := Option.some.inj h2
    subst e1 e2
    show putZ (upd H a (.tup [p.1, p.2])) as ps a = some (.tup [p.1, p.2])
    rw [putZ_off as ps _ (List.nodup_cons.mp nd).1, upd_same]
  | a :: as, p :: ps, H, j + 1, b, q, nd, h1, h2 => putZ_at as ps _ j b q (List.nodup_cons.mp nd).2 h1 h2
/-- list(zip(t, u)) of two tuples of one length -/
def tListZip (K : PySem.W.Frag) (ta : TA) : TE := fun σ H Q => ta σ H fun vs H1 => ∃ (a b : Addr) (xs ys : List V), vs = [.ref a, .ref b] ∧ SqT K H1 a xs ∧ SqT K H1 b ys ∧ xs.length = ys.length ∧
  ∀ (H' : Hp) (p : Addr) (ts : List Addr), Same H1 H' → H1 p = none → (∀ t ∈ ts, H1 t = none) → H' p = some (.lst (ts.map V.ref)) → ts.length = xs.length →
    (∀ (j : Nat) (t : Addr), ts[j]? = some t → ∃ x y, xs[j]? = some x ∧ ys[j]? = some y ∧ H' t = some (.tup [x, y])) → Q (.ref p) H'
section
variable {X : Cx}
theorem pe_listZip {e e2 : Expr} {ta : TA} {p p2 pos pos2 : Pos} (hc : X.calm = true) (hgl : Gl X "list") (hml : X.mg "list" = none) (hgz : Gl X "zip") (hmz : X.mg "zip" = none) (ha : PA X [e, e2] ta)
    (hs : starEach [e, e2] X.env = (false, eval e X.env) :: starEach [e2] X.env := by rfl) (hpl : (backTo pos2 (starEach [e2] X.env)).any (·.1) = false := by rfl)
    (hs2 : starEach [.Call (.Name "zip" p2) [e, e2] [] pos2] X.env = (false, eval (.Call (.Name "zip" p2) [e, e2] [] pos2) X.env) :: starEach [] X.env := by rfl) :
    PE X (.Call (.Name "list" p) [.Call (.Name "zip" p2) [e, e2] [] pos2] [] pos) (tListZip X.K ta) := by
  refine ⟨fun pins s σ H Q I h => ?_⟩
  refine wpAny_Call_Name_kw (ld_blt I hgl hml PyProof.Rows.boot_list ?_)
  refine PyProof.Rows.callWith_type1 ?_ hs2 rfl
  rw [hs2]
  show wpAny _ _ (spliced ((false, eval (.Call (.Name "zip" p2) [e, e2] [] pos2) X.env) :: backTo pos (starEach [] X.env))) _ _ s
  refine Calls.spliced_cons ?_
  refine Call_ (ld_blt I hgz hmz PyProof.Rows.boot_zip (PyProof.Rows.callWith_type1 (thn (ha.run pos2 pins s σ H _ I h) fun us s1 ⟨vs, H1, I1, r1, q1⟩ => ?_) hs hpl))
  obtain ⟨a, b, xs, ys, ex, hqx, hqy, hxy, q⟩ := q1
  subst ex
  cases r1 with
  | cons r rr =>
    cases rr with
    | cons r' rr =>
      cases rr
      cases r
      cases r'
      obtain ⟨its, rv, p1, hz1⟩ := I1.tuple hqx
      obtain ⟨its2, rv2, p2', _⟩ := I1.tuple hqy
      obtain ⟨o1, ho1, _⟩ := id p1
      obtain ⟨o2, ho2, _⟩ := id p2'
      have e1 := rv.length
      have e2 := rv2.length
      refine call_zipT (show s1.heap.IsTuple a its.toArray from p1) (show s1.heap.IsTuple b its2.toArray from p2') fun h' hz hTI hTO h1 h2 hsz hk => ?_
      refine Calls.spliced_nil ?_
      have D := PySem.W.ktu_apart s1.heap.objs.size a b (Heap.lt_size ho1) (Heap.lt_size ho2)
      refine zl_call (s := { s1 with heap := h' }) (xs := its.toArray) (ys := its2.toArray) (I1.ok.hd hc) D (by rw [List.size_toArray, List.size_toArray]; omega) (by rw [List.size_toArray]; omega) hz hTI ⟨_, _, hTO⟩ h1 h2 (tup_keep p1 fun o q => hk _ _ q) (tup_keep p2' fun o q => hk _ _ q) fun h2' tk acc c as hkk hS hl hG hacc => ?_
      have lo : ∀ b o, s1.heap.get? b = some o → h2'.get? b = some o := fun b o q => by
        have lb := Heap.lt_size q
        exact hkk b o (fun z => by rw [z] at lb; exact absurd lb (Nat.not_lt.mpr (Nat.le_add_right _ _))) (fun z => by rw [z] at lb; exact absurd lb (Nat.not_lt.mpr (Nat.le_add_right _ _))) (fun z => by rw [z] at lb; exact absurd lb (Nat.lt_irrefl _)) (fun z => by rw [z] at lb; exact absurd lb (Nat.not_lt.mpr (Nat.le_add_right _ _))) (hk b o q)
      have hsz' : h'.objs.size = s1.heap.objs.size + 5 := hsz
      have hal : as.length = xs.length := by
        rw [hl, List.size_toArray]
        omega
      have nd : as.Nodup := List.Pairwise.imp (fun {a b} (h : a < b) => Nat.ne_of_lt h) hG.rise
      have big : ∀ t ∈ as, h'.objs.size < t := fun t ht => hG.above t ht
      have hSn : h'.objs.size ∉ as := fun z => Nat.lt_irrefl _ (big _ z)
      have new : ∀ t ∈ as, H1 t = none := fun t ht => I1.hok.fresh (by have := big t ht; rw [hsz'] at this; exact Nat.le_of_lt (Nat.lt_of_le_of_lt (Nat.le_add_right _ _) this))
      have newS : H1 h'.objs.size = none := I1.hok.fresh (by rw [hsz']; exact Nat.le_add_right _ _)
      have lk : ∀ b o, s1.heap.get? b = some o → b ∉ as ∧ b ≠ h'.objs.size := fun b o q => by
        have lb := Heap.lt_size q
        refine ⟨fun z => ?_, fun z => ?_⟩
        · have := big b z
          rw [hsz'] at this
          exact absurd lb (Nat.not_lt.mpr (Nat.le_trans (Nat.le_add_right _ 5) (Nat.le_of_lt this)))
        · rw [z, hsz'] at lb
          exact absurd lb (Nat.not_lt.mpr (Nat.le_add_right _ _))
      have off : ∀ b, b ∉ as → b ≠ h'.objs.size → putZ (upd H1 h'.objs.size (.lst (as.map V.ref))) as (xs.zip ys) b = H1 b := fun b h1 h2 => by rw [putZ_off as _ _ h1, upd_ne h2]
      have kp : ∀ b u, H1 b = some u → putZ (upd H1 h'.objs.size (.lst (as.map V.ref))) as (xs.zip ys) b = some u := fun b u e => by
        rw [off b (fun z => by rw [new b z] at e; cases e) (fun z => by rw [z, newS] at e; cases e)]
        exact e
      have eS : putZ (upd H1 h'.objs.size (.lst (as.map V.ref))) as (xs.zip ys) h'.objs.size = some (.lst (as.map V.ref)) := by rw [putZ_off as _ _ hSn, upd_same]
      have prs : ∀ (j : Nat) (t : Addr), as[j]? = some t → ∃ x y u1 u2, xs[j]? = some x ∧ ys[j]? = some y ∧ RelV x u1 ∧ RelV y u2 ∧ IsPair h2' t u1 u2 ∧ putZ (upd H1 h'.objs.size (.lst (as.map V.ref))) as (xs.zip ys) t = some (.tup [x, y]) := fun j t ht => by
        obtain ⟨u1, u2, f1, f2, f3⟩ := hG.pairs j t ht
        have hj : j < xs.length := by
          have := (List.getElem?_eq_some_iff.mp ht).1
          omega
        have hj2 : j < ys.length := by omega
        have g1 : xs[j]? = some xs[j] := List.getElem?_eq_getElem hj
        have g2 : ys[j]? = some ys[j] := List.getElem?_eq_getElem hj2
        obtain ⟨w1, k1, r1⟩ := rv.get g1
        obtain ⟨w2, k2, r2⟩ := rv2.get g2
        have m1 : u1 = w1 := by
          rw [List.getElem?_toArray, k1] at f1
          exact (Option.some.inj f1).symm
        have m2 : u2 = w2 := by
          rw [List.getElem?_toArray, k2] at f2
          exact (Option.some.inj f2).symm
        subst m1 m2
        refine ⟨xs[j], ys[j], u1, u2, g1, g2, r1, r2, f3, ?_⟩
        exact putZ_at as (xs.zip ys) _ j t (xs[j], ys[j]) nd ht (by rw [List.getElem?_zip_eq_some]; exact ⟨g1, g2⟩)
      refine ⟨.ref _, putZ (upd H1 h'.objs.size (.lst (as.map V.ref))) as (xs.zip ys), ?_, rfl, q _ _ as kp newS new eS hal fun j t ht => ?_⟩
      · have Ik : Inv X pins σ H1 { s1 with heap := h2', toks := tk } := I1.kept (t' := tk) lo
        refine I1.call' (ch := []) rfl ⟨fun b o q _ _ _ => lo b o q, fun b o q _ _ _ => ⟨o.slots, lo b o q⟩, fun b o q n _ => ?_, fun b o q _ => ⟨o, lo b o q⟩, fun b zs q => kp b _ q, fun b o u q => kp b _ q, fun b ps q => ⟨#[], by rw [kp b _ q]; simp⟩⟩ (fun b u q => ?_) I1.bare fun b z => by simp at z
        · obtain ⟨z1, z2⟩ := lk b o q
          rw [off b z1 z2]
          exact n
        · by_cases hb : b ∈ as
          · obtain ⟨j, hj⟩ := List.mem_iff_getElem?.mp hb
            obtain ⟨x, y, u1, u2, _, _, r1, r2, f3, e⟩ := prs j b hj
            rw [e] at q
            cases q
            exact ⟨by show 2 ≤ sizeLine; decide, [u1, u2], .cons r1 (.cons r2 .nil), ⟨_, f3, rfl, _, rfl⟩⟩
          · by_cases hb2 : b = h'.objs.size
            · rw [hb2] at q ⊢
              rw [eS] at q
              cases q
              refine ⟨by rw [List.length_map]; omega, acc.toList, c, by rw [hacc]; exact (let rec go : ∀ as : List Addr, Vals (as.map V.ref) (as.map Value.ref) | [] => .nil | _ :: as => .cons rfl (go as); go as), ?_⟩
              rw [Array.toArray_toList]
              exact hS
            · rw [off b hb hb2] at q
              exact (I1.hok b u q).stay (fun d v _ y => lo d v y) (fun d y => kp d _ y) fun d xs y => kp d _ y
      · obtain ⟨x, y, _, _, g1, g2, _, _, _, e⟩ := prs j t ht
        exact ⟨x, y, g1, g2, e⟩
end
end LmR

set_option Elab.async false
set_option linter.all false
set_option maxRecDepth 100000
set_option maxHeartbeats 2000000
namespace Lm
open PySem PySem.Spec PyProof.Rows L2 LmR
/-! ### defs of the text, callable -/
/-- the def st stands in the text under the name x -/
def DefAt (K : PySem.W.Frag) (mg : Str → Option Value) (x : Str) (st : Stmt) (ps : List Str) : Prop := ∃ f fd, Fun K x x st f fd ∧ Binds K fd ps [] ∧ mg x = some (.ref f)
/-- what stands under the name x keeps sp, by at most level k -/
def Cal (P : Program) (w : World) (K : PySem.W.Frag) (mg : Str → Option Value) (base : Heap) (k : Nat) (x : Str) (ps : List Str) (sp : Sp) : Prop :=
  ∃ f fd, FnOk P w K mg base CX0 k f fd ps sp ∧ mg x = some (.ref f) ∧ PySem.W.keepIn K (.ref f) = true ∧ Binds K fd ps [] ∧ ∃ st, Fun K x x st f fd
section
variable {P : Program} {w : World} {K : PySem.W.Frag} {mg : Str → Option Value} {base : Heap}
theorem Cal.mono {j k : Nat} {x : Str} {ps : List Str} {sp : Sp} (c : Cal P w K mg base j x ps sp) (h : j ≤ k) : Cal P w K mg base k x ps sp := by
  obtain ⟨f, fd, F, g, kp, b⟩ := c
  exact ⟨f, fd, F.mono h, g, kp, b⟩
theorem Cal.weak {k : Nat} {x : Str} {ps : List Str} {sp sp' : Sp} (c : Cal P w K mg base k x ps sp) (h : ∀ vs H Q E, sp' vs H Q E → sp vs H Q E) : Cal P w K mg base k x ps sp' := by
  obtain ⟨f, fd, F, g, kp, b⟩ := c
  exact ⟨f, fd, ⟨fun vs H Q E z => F.len vs H Q E (h vs H Q E z), fun A outer s H args us vs Q E r e b v z => F.run A outer s H args us vs Q E r e b v (h vs H Q E z)⟩, g, kp, b⟩
theorem cal_of {x : Str} {st : Stmt} {N ps : List Str} {k : Nat} {sp : Sp} (D : DefAt K mg x st ps) (S : FnScope N ps (defScope st)) (len : ∀ vs H Q E, sp vs H Q E → vs.length = ps.length)
    (hbody : ∀ (f : Addr) (cdv : Value) (A : Around) (outer : List Env) (s : Shared) (H : Hp) (vs : List V) (Q : VK) (E : XK), Room k (A.deeper (envOfC x (defScope st) s.heap.objs.size f cdv)) → sp vs H Q E →
      ∃ t, PSs (cxOf CX0 P w K mg base N x (defScope st) f cdv A outer s H E).nox (defBody st) t ∧ t { nx := fun _ H' => Q .non H', rt := Q } (start N vs) H) : Cal P w K mg base (k + 1) x ps sp := by
  obtain ⟨f, fd, F, b, g⟩ := D
  exact ⟨f, fd, F.ok S len (hbody f), g, F.kp, b, _, F⟩
/-- nothing is asked: no call is allowed -/
theorem cal_no {x : Str} {st : Stmt} {ps : List Str} {sp : Sp} (D : DefAt K mg x st ps) (no : ∀ vs H Q E, ¬ sp vs H Q E) {k : Nat} : Cal P w K mg base k x ps sp := by
  obtain ⟨f, fd, F, b, g⟩ := D
  exact ⟨f, fd, ⟨fun vs H Q E h => absurd h (no vs H Q E), fun A outer s H args us vs Q E _ _ _ _ h => absurd h (no vs H Q E)⟩, g, F.kp, b, _, F⟩
end
/-- f(e, ..) -/
theorem pe_cal {X : Cx} {k : Nat} {x : Str} {ps : List Str} {sp : Sp} {e : Expr} {es : List Expr} {t : TA} {p pos : Pos} (C : Cal X.prog X.w X.K X.mg X.base k x ps sp) (hr : Room k X.A) (hg : Gl X x) (ha : PA X (e :: es) t)
    (hdb : (x == ("__debug__" : Str)) = false := by decide) (he : starEach (e :: es) X.env = (false, eval e X.env) :: starEach es X.env := by rfl) (hpl : (backTo pos (starEach es X.env)).any (·.1) = false := by rfl) :
    PE X (.Call (.Name x p) (e :: es) [] pos) (tCall sp [] (fun _ _ _ => False) t) := by
  obtain ⟨f, fd, F, g, kp, b, _⟩ := C
  exact pe_call F hr hg g kp b .nil pass0 ha hdb he hpl
/-- the built-ins that the text names and no one has rebound -/
structure Bt (mg : Str → Option Value) : Prop where
  len : mg "len" = none
  isinstance : mg "isinstance" = none
  tuple : mg "tuple" = none
  list : mg "list" = none
  str : mg "str" = none
  int : mg "int" = none
  bool : mg "bool" = none
  range : mg "range" = none
  zip : mg "zip" = none
  enumerate : mg "enumerate" = none
  reversed : mg "reversed" = none
  max : mg "max" = none
  all : mg "all" = none
  min : mg "min" = none
  sum : mg "sum" = none
  any : mg "any" = none
  sorted : mg "sorted" = none
  set : mg "set" = none
  repr : mg "repr" = none
  abs : mg "abs" = none
/-! ### heaps -/
/-- all that was tracked is as it was, but what stands at ws -/
def Ex (ws : List Addr) (H H' : Hp) : Prop := ∀ b o, H b = some o → b ∉ ws → H' b = some o
theorem Ex.refl (ws : List Addr) (H : Hp) : Ex ws H H := fun _ _ h _ => h
theorem Ex.trans {ws : List Addr} {H H1 H2 : Hp} (a : Ex ws H H1) (b : Ex ws H1 H2) : Ex ws H H2 := fun c o h n => b c o (a c o h n) n
theorem Ex.mono {ws us : List Addr} {H H' : Hp} (a : Ex ws H H') (h : ∀ b ∈ ws, b ∈ us) : Ex us H H' := fun c o e n => a c o e fun m => n (h c m)
theorem Ex.of_same {ws : List Addr} {H H' : Hp} (a : Same H H') : Ex ws H H' := fun c o e _ => a c o e
theorem Ex.same {H H' : Hp} (a : Ex [] H H') : Same H H' := fun c o e => a c o e (by simp)
theorem Ex.new {ws : List Addr} {H : Hp} {p : Addr} {o : HO} (h : H p = none) : Ex ws H (upd H p o) := fun b u q _ => by rw [upd_ne (ne_of_none q h)]; exact q
theorem Ex.at {ws : List Addr} {H : Hp} {p : Addr} {o : HO} (h : p ∈ ws) : Ex ws H (upd H p o) := fun b u q n => by rw [upd_ne (fun z => n (by rw [z]; exact h))]; exact q
theorem same_new {H : Hp} {p : Addr} {o : HO} (h : H p = none) : Same H (upd H p o) := fun b u q => by rw [upd_ne (ne_of_none q h)]; exact q
theorem Ex.free {ws : List Addr} {H H' : Hp} (a : Ex ws H H') {p : Addr} (h : H' p = none) (n : p ∉ ws) : H p = none := by
  cases q : H p with
  | none => rfl
  | some o =>
    rw [a p o q n] at h
    cases h
theorem Ex.ne {ws : List Addr} {H H' : Hp} (a : Ex ws H H') {p q : Addr} {o : HO} (h : H q = some o) (hq : q ∉ ws) (hp : H' p = none) : q ≠ p := fun z => by
  rw [← z, a q o h hq] at hp
  cases hp
theorem small {n : Nat} (h : n ≤ 100000) : n ≤ sizeLine := Nat.le_trans h (by decide)
theorem smallL {n : Nat} (h : n ≤ 100000) : n < sizeLine := Nat.lt_of_le_of_lt h (by decide)
/-! ### data: None, truths, ints, texts, tuples of these -/
/-- without lists and dicts -/
def flat : PyData → Bool
  | .none => true
  | .bool _ => true
  | .int _ => true
  | .str _ => true
  | .list _ => false
  | .tuple xs => flats xs
  | .dict _ => false
where flats : List PyData → Bool
  | [] => true
  | d :: ds => flat d && flats ds
/-- the tuples that were there are there -/
def Tp (K : PySem.W.Frag) (H H' : Hp) : Prop := ∀ a xs, SqT K H a xs → SqT K H' a xs
theorem Ex.tp {K : PySem.W.Frag} {ws : List Addr} {H H' : Hp} (a : Ex ws H H') (h : ∀ b ∈ ws, ∀ xs, ¬ Rd H b (.tup xs)) : Tp K H H' := fun b xs q => by
  rcases q with (q | ⟨o, q⟩) | q
  · exact .inl (.inl (a b _ q fun m => h b m xs (.inl q)))
  · exact .inl (.inr ⟨o, a b _ q fun m => h b m xs (.inr ⟨o, q⟩)⟩)
  · exact .inr q
theorem Tp.refl (K : PySem.W.Frag) (H : Hp) : Tp K H H := fun _ _ h => h
theorem Tp.trans {K : PySem.W.Frag} {H H1 H2 : Hp} (a : Tp K H H1) (b : Tp K H1 H2) : Tp K H H2 := fun c xs h => b c xs (a c xs h)
theorem Tp.same {K : PySem.W.Frag} {H H' : Hp} (a : Same H H') : Tp K H H' := fun b xs q => by
  rcases q with (q | ⟨o, q⟩) | q
  · exact .inl (.inl (a b _ q))
  · exact .inl (.inr ⟨o, a b _ q⟩)
  · exact .inr q
/-- a list (or dict) that is written -/
theorem Tp.put {K : PySem.W.Frag} {H : Hp} {p : Addr} {o o' : HO} (h : H p = some o) (n1 : ∀ xs, o ≠ .tup xs) (n2 : ∀ u v, o ≠ .frz u v) : Tp K H (upd H p o') := fun b xs q => by
  rcases q with (q | ⟨u, q⟩) | q
  · have nb : b ≠ p := fun z => by
      rw [z, h] at q
      exact n1 xs (Option.some.inj q)
    exact .inl (.inl (by rw [upd_ne nb]; exact q))
  · have nb : b ≠ p := fun z => by
      rw [z, h] at q
      exact n2 _ _ (Option.some.inj q)
    exact .inl (.inr ⟨u, by rw [upd_ne nb]; exact q⟩)
  · exact .inr q
theorem Tp.lst {K : PySem.W.Frag} {H : Hp} {p : Addr} {xs : List V} {o' : HO} (h : H p = some (.lst xs)) : Tp K H (upd H p o') := Tp.put h (fun _ z => nomatch z) (fun _ _ z => nomatch z)
theorem Tp.dct {K : PySem.W.Frag} {H : Hp} {p : Addr} {xs : List (Key × V)} {o' : HO} (h : H p = some (.dK xs)) : Tp K H (upd H p o') := Tp.put h (fun _ z => nomatch z) (fun _ _ z => nomatch z)
theorem Tp.new {K : PySem.W.Frag} {H : Hp} {p : Addr} {o : HO} (h : H p = none) : Tp K H (upd H p o) := Tp.same (same_new h)
mutual
theorem dp_keep {K : PySem.W.Frag} {H H' : Hp} (t : Tp K H H') : ∀ (d : PyData) (v : V), flat d = true → Dp K H v d → Dp K H' v d
  | .none, _, _, h => by cases h; exact .non
  | .bool b, _, _, h => by cases h; exact .bl b
  | .int i, _, _, h => by cases h; exact .int i
  | .str x, _, _, h => by cases h; exact .str x
  | .list ds, _, f, _ => by simp [flat] at f
  | .tuple ds, _, f, h => by
    cases h with
    | tup q r => exact .tup (t _ _ q) (dps_keep t ds _ f r)
  | .dict ds, _, f, _ => by simp [flat] at f
theorem dps_keep {K : PySem.W.Frag} {H H' : Hp} (t : Tp K H H') : ∀ (ds : List PyData) (vs : List V), flat.flats ds = true → DpAll K H vs ds → DpAll K H' vs ds
  | [], _, _, h => by cases h; exact .nil
  | d :: ds, _, f, h => by
    rw [flat.flats, Bool.and_eq_true] at f
    cases h with
    | cons a b => exact .cons (dp_keep t d _ f.1 a) (dps_keep t ds _ f.2 b)
end
/-- flat data at v -/
def Fd (K : PySem.W.Frag) (H : Hp) (v : V) (d : PyData) : Prop := flat d = true ∧ Dp K H v d
theorem Fd.keep {K : PySem.W.Frag} {H H' : Hp} {v : V} {d : PyData} (h : Fd K H v d) (t : Tp K H H') : Fd K H' v d := ⟨h.1, dp_keep t d v h.1 h.2⟩
/-! ### rules within a comprehension: the written part by its name -/
section
variable {X : Cx} {K : PySem.W.Frag}
theorem ix_tupK (h : X.K = K) : IxR X (rIxT K) := h ▸ ix_tup
theorem ix_listK (h : X.K = K) : IxR X (rIxL K) := h ▸ ix_list
def rLenK (K : PySem.W.Frag) : List V → Hp → VK → Prop := fun xs H Q => ∃ p ys, xs = [.ref p] ∧ (SqL K H p ys ∨ SqT K H p ys) ∧ Q (.int ys.length) H
theorem call_len_seqK (h : X.K = K) : CallR X (.builtin "len") (rLenK K) := h ▸ call_len_seq
theorem pe_bm0K {T : String} {name : Str} {id : String} {r : V → List V → Hp → VK → Prop} {o : Expr} {to : TE} {apos cpos : Pos} (h : X.K = K) (pa : PlainAttrs T) (slot : Slot T name id) (hty : typeOf (.builtin id) = pure (.type "method_descriptor")) (hm : MtR X id r) (ho : PE X o to)
    (hbase : attributeBase o name X.env (eval o X.env) = eval o X.env := by rfl) (hline : (apos.endLine == cpos.line) = true := by rfl) : PE X (.Call (.Attribute o name apos) [] [] cpos) (tBM0 K T r to) := h ▸ pe_bm0 pa slot hty hm ho hbase hline
end
end Lm

set_option Elab.async false
set_option linter.all false
set_option maxRecDepth 100000
set_option maxHeartbeats 2000000
namespace Lm
open PySem PySem.Spec PyProof.Rows L2 LmR
def topS (i : Nat) : Stmt := PySem.Challenge.pw_leastmaker_k41_examples_as_wishes.main.body.getD i (.Pass ⟨0, 0, 0, 0⟩)
section
variable {P : Program} {w : World} {K : PySem.W.Frag} {mg : Str → Option Value} {base : Heap}
/-! ### cell, flow, draw -/
abbrev s_l_cell : Stmt := topS 65
theorem sc_l_cell : FnScope ["_law_script", "_law_k", "_law_number"] ["_law_script", "_law_k"] (defScope s_l_cell) := ⟨rfl, rfl, rfl, by decide +kernel, rfl, by decide +kernel, by decide +kernel⟩
def spCell (K : PySem.W.Frag) : Sp := fun vs H Q _ => ∃ (a : Addr) (ns : List Int) (k : Int), vs = [.ref a, .int k] ∧ SqL K H a (ns.map V.int) ∧ 0 ≤ k ∧ ∀ i, Q (.int i) H
theorem ok_l_cell (B : Bt mg) (D : DefAt K mg "_law_cell" s_l_cell ["_law_script", "_law_k"]) : Cal P w K mg base 1 "_law_cell" ["_law_script", "_law_k"] (spCell K) := by
  refine cal_of D sc_l_cell (fun vs H Q E h => ?_) (fun f cdv A outer s H vs Q E hr h => ?_)
  · obtain ⟨a, ns, k, rfl, _⟩ := h
    rfl
  obtain ⟨a, ns, k, rfl, hS, h0, q⟩ := h
  refine ⟨_, (pss_cons (ps_if (pt_cmpR op_lt (pv 1) (pe_callB call_len_seq (by rfl) B.len PySem.boot_len (pa_cons (pv 0) pa_nil)) (nomark _))
        (pss_one (ps_ret (pe_ix ix_list (pv 0) (pv 1) (fun _ _ => rfl))))
        pss_nil)
      (pss_cons (ps_set (i := 2) sc_l_cell.nd rfl (.inl rfl) (pe_op op_add (pe_op op_mul (pv 1) pe_int) pe_int))
      (pss_cons (ps_if (pt_cmpR op_gt (pe_callB call_len_seq (by rfl) B.len PySem.boot_len (pa_cons (pv 0) pa_nil)) pe_int (nomark _))
        (pss_one (ps_set (i := 2) sc_l_cell.nd rfl (.inl rfl) (pe_op op_add (pe_op op_mul (pe_op op_mod (pe_ix ix_list (pv 0) (pe_op op_mod (pe_op op_mul (pv 1) pe_int) (pe_callB call_len_seq (by rfl) B.len PySem.boot_len (pa_cons (pv 0) pa_nil))) (fun _ _ => rfl)) pe_int) pe_int) (pe_op op_mul (pv 1) pe_int))))
        pss_nil)
      (pss_one (ps_ret (pe_op op_mul (pe_op op_mod (pv 2) pe_int) pe_int)))))), ?_⟩
  have hl : (ns.map V.int).length = ns.length := List.length_map _
  refine ⟨_, rfl, _, rfl, a, _, rfl, .inl hS, _, _, rfl, rfl, _, rfl, ite2 (fun c => ?_) (fun c => ?_)⟩
  · have c' : k < (((ns.map V.int).length : Nat) : Int) := of_decide_eq_true c
    rw [hl] at c'
    have e : (ns.map V.int)[k.toNat]? = some (.int ns[k.toNat]) := by
      rw [List.getElem?_map, List.getElem?_eq_getElem (by omega)]
      rfl
    exact ⟨_, rfl, _, rfl, a, _, _, _, rfl, rfl, hS, at_of (j := k.toNat) (by omega) e, q _⟩
  · refine ⟨_, rfl, _, _, rfl, rfl, .inr ⟨by decide, by decide⟩, _, _, rfl, rfl, ?_⟩
    refine ⟨_, rfl, a, _, rfl, .inl hS, _, _, rfl, rfl, _, rfl, ite2 (fun c2 => ?_) (fun c2 => ?_)⟩
    · have c2' : (((ns.map V.int).length : Nat) : Int) > 0 := of_decide_eq_true c2
      rw [hl] at c2'
      have hp : (0 : Int) < (((ns.map V.int).length : Nat) : Int) := by rw [hl]; omega
      have b1 : 0 ≤ (k * 7) % (((ns.map V.int).length : Nat) : Int) := Int.emod_nonneg _ (by omega)
      have b2 : (k * 7) % (((ns.map V.int).length : Nat) : Int) < (((ns.map V.int).length : Nat) : Int) := Int.emod_lt_of_pos _ hp
      generalize hj : (k * 7) % (((ns.map V.int).length : Nat) : Int) = j at b1 b2
      rw [hl] at b2
      have e : (ns.map V.int)[j.toNat]? = some (.int ns[j.toNat]) := by
        rw [List.getElem?_map, List.getElem?_eq_getElem (by omega)]
        rfl
      have m1 : 0 ≤ ns[j.toNat] % 2147483629 := Int.emod_nonneg _ (by decide)
      have m2 : ns[j.toNat] % 2147483629 < 2147483629 := Int.emod_lt_of_pos _ (by decide)
      refine ⟨_, rfl, _, rfl, _, _, rfl, rfl, .inr ⟨by decide, by decide⟩, _, rfl, a, _, rfl, .inl hS, _, _, rfl, rfl, hp, a, _, _, V.int ns[j.toNat], rfl, rfl, hS, ?_, _, _, rfl, rfl, (by show (0 : Int) < 2147483629; decide), _, _, rfl, rfl, .inl ⟨by omega, by omega⟩, _, rfl, _, _, rfl, rfl, .inr ⟨by decide, by decide⟩, _, _, rfl, rfl, ?_⟩
      · rw [hj]
        exact at_of (j := j.toNat) (by omega) e
      · have n1 := Int.emod_nonneg (ns[j.toNat] % 2147483629 * 48271 + k * 7919) (show (2147483647 : Int) ≠ 0 by decide)
        have n2 := Int.emod_lt_of_pos (ns[j.toNat] % 2147483629 * 48271 + k * 7919) (show (0 : Int) < 2147483647 by decide)
        exact ⟨_, rfl, _, _, rfl, rfl, (by show (0 : Int) < 2147483647; decide), _, _, rfl, rfl, .inr ⟨by decide, by decide⟩, q _⟩
    · exact ⟨_, rfl, _, _, rfl, rfl, (by show (0 : Int) < 2147483647; decide), _, _, rfl, rfl, .inr ⟨by decide, by decide⟩, q _⟩
/-! the flow that is drawn from -/
def Flow (H : Hp) (f : Addr) : Prop := ∃ own cnt seed : Int, H f = some (.lst [.int own, .int cnt, .int seed]) ∧ 0 ≤ seed ∧ seed < 2 ^ 40
abbrev s_l_flow : Stmt := topS 66
theorem sc_l_flow : FnScope ["_law_script", "_law_k", "_law_cell_here", "_law_own"] ["_law_script", "_law_k"] (defScope s_l_flow) := ⟨rfl, rfl, rfl, by decide +kernel, rfl, by decide +kernel, by decide +kernel⟩
def spFlow (K : PySem.W.Frag) : Sp := fun vs H Q _ => ∃ (a : Addr) (ns : List Int) (k : Int), vs = [.ref a, .int k] ∧ SqL K H a (ns.map V.int) ∧ 0 ≤ k ∧ k ≤ 63 ∧ ∀ (p : Addr) (o : HO), H p = none → Flow (upd H p o) p → Q (.ref p) (upd H p o)
theorem ok_l_flow (C_l_cell : Cal P w K mg base 1 "_law_cell" ["_law_script", "_law_k"] (spCell K)) (D : DefAt K mg "_law_flow" s_l_flow ["_law_script", "_law_k"]) : Cal P w K mg base 2 "_law_flow" ["_law_script", "_law_k"] (spFlow K) := by
  refine cal_of D sc_l_flow (fun vs H Q E h => ?_) (fun f cdv A outer s H vs Q E hr h => ?_)
  · obtain ⟨a, ns, k, rfl, _⟩ := h
    rfl
  obtain ⟨a, ns, k, rfl, hS, h0, h1, q⟩ := h
  have hr' : Room 1 _ := hr
  refine ⟨_, (pss_cons (ps_set (i := 2) sc_l_flow.nd rfl (.inl rfl) (pe_cal C_l_cell hr' (by rfl) (pa_cons (pv 0) (pa_cons (pv 1) pa_nil))))
      (pss_cons (ps_set (i := 3) sc_l_flow.nd rfl (.inl rfl) pe_int)
      (pss_cons (ps_if (pt_cmpR op_ge (pv 2) (pe_op op_pow pe_int pe_int) (nomark _))
        (pss_one (ps_set (i := 3) sc_l_flow.nd rfl (.inl rfl) (pv 2)))
        pss_nil)
      (pss_one (ps_ret (pe_lst (pa_cons (pv 3) (pa_cons pe_int (pa_cons (pe_op op_add (pe_op op_mod (pv 2) pe_int) (pe_op op_mul pe_int (pv 1))) pa_nil))))))))), ?_⟩
  refine ⟨_, rfl, _, rfl, a, ns, k, rfl, hS, h0, fun i => ?_⟩
  have m1 : 0 ≤ i % 2147483629 := Int.emod_nonneg _ (by decide)
  have m2 : i % 2147483629 < 2147483629 := Int.emod_lt_of_pos _ (by decide)
  have pw : CPow 10 18 := ⟨by decide, by decide, by decide⟩
  refine ⟨_, rfl, _, _, rfl, rfl, pw, _, _, rfl, rfl, _, rfl, ite2 (fun c => ?_) (fun c => ?_)⟩
  · refine ⟨_, rfl, _, rfl, _, rfl, _, _, rfl, rfl, (by show (0 : Int) < 2147483629; decide), _, rfl, _, _, rfl, rfl, .inl ⟨by decide, by decide⟩, _, _, rfl, rfl, (by show 3 ≤ sizeLine; decide), fun p hp => q p _ hp ⟨_, _, _, upd_same, by omega, by omega⟩⟩
  · refine ⟨_, rfl, _, rfl, _, _, rfl, rfl, (by show (0 : Int) < 2147483629; decide), _, rfl, _, _, rfl, rfl, .inl ⟨by decide, by decide⟩, _, _, rfl, rfl, (by show 3 ≤ sizeLine; decide), fun p hp => q p _ hp ⟨_, _, _, upd_same, by omega, by omega⟩⟩
/-- the flow at f was drawn from, nothing else changed -/
structure Dr (f : Addr) (H H' : Hp) : Prop where
  off : ∀ b, b ≠ f → H' b = H b
  fl : Flow H' f
theorem Flow.lst {H : Hp} {f : Addr} (h : Flow H f) : ∃ xs, H f = some (.lst xs) := by
  obtain ⟨a, b, c, e, _⟩ := h
  exact ⟨_, e⟩
theorem Dr.ex {f : Addr} {H H' : Hp} (d : Dr f H H') : Ex [f] H H' := fun b o h n => by
  rw [d.off b (fun z => n (by rw [z]; simp))]
  exact h
theorem Dr.trans {f : Addr} {H H1 H2 : Hp} (a : Dr f H H1) (b : Dr f H1 H2) : Dr f H H2 := ⟨fun c n => (b.off c n).trans (a.off c n), b.fl⟩
theorem Dr.tp {f : Addr} {H H' : Hp} (d : Dr f H H') (h : Flow H f) : Tp K H H' := by
  obtain ⟨xs, e⟩ := h.lst
  refine d.ex.tp fun b hb ys q => ?_
  rw [List.mem_singleton.mp hb] at q
  rcases q with q | ⟨o, q⟩
  · rw [e] at q; cases q
  · rw [e] at q; cases q
abbrev s_l_draw : Stmt := topS 67
theorem sc_l_draw : FnScope ["_law_flow_here", "_law_wide", "_law_number", "_law_digit"] ["_law_flow_here", "_law_wide"] (defScope s_l_draw) := ⟨rfl, rfl, rfl, by decide +kernel, rfl, by decide +kernel, by decide +kernel⟩
def spDraw : Sp := fun vs H Q _ => ∃ (f : Addr) (m : Int), vs = [.ref f, .int m] ∧ Flow H f ∧ 0 < m ∧ m < 1073741824 ∧ ∀ (d : Int) (H' : Hp), 0 ≤ d → d < m → Dr f H H' → Q (.int d) H'
theorem dr_put {f : Addr} {H H0 : Hp} {xs : List V} (o : ∀ b, b ≠ f → H0 b = H b) (fl : Flow (upd H0 f (.lst xs)) f) : Dr f H (upd H0 f (.lst xs)) := ⟨fun b n => by rw [upd_ne n]; exact o b n, fl⟩
theorem ok_l_draw (D : DefAt K mg "_law_draw" s_l_draw ["_law_flow_here", "_law_wide"]) : Cal P w K mg base 1 "_law_draw" ["_law_flow_here", "_law_wide"] (spDraw) := by
  refine cal_of D sc_l_draw (fun vs H Q E h => ?_) (fun f cdv A outer s H vs Q E hr h => ?_)
  · obtain ⟨a, m, rfl, _⟩ := h
    rfl
  obtain ⟨a, m, rfl, ⟨own, cnt, seed, hf, s0, s1⟩, m0, m1, q⟩ := h
  refine ⟨_, (pss_cons (ps_if (pt_cmpR op_gt (pe_ix ix_list (pv 0) pe_int (fun _ _ => rfl)) pe_int (nomark _))
        (pss_cons (ps_set (i := 3) sc_l_draw.nd rfl (.inl rfl) (pe_op op_mod (pe_ix ix_list (pv 0) pe_int (fun _ _ => rfl)) (pv 1)))
      (pss_cons (ps_asg (pe_op op_fdiv (pe_ix ix_list (pv 0) pe_int (fun _ _ => rfl)) (pv 1)) (pg_sub (pv 0) pe_int set_list))
      (pss_one (ps_ret (pv 3)))))
        pss_nil)
      (pss_cons (ps_asg (pe_op op_add (pe_ix ix_list (pv 0) pe_int (fun _ _ => rfl)) pe_int) (pg_sub (pv 0) pe_int set_list))
      (pss_cons (ps_set (i := 2) sc_l_draw.nd rfl (.inl rfl) (pe_op op_mod (pe_op op_add (pe_op op_add (pe_op op_mul (pe_ix ix_list (pv 0) pe_int (fun _ _ => rfl)) (pe_op op_add pe_int (pe_op op_mul pe_int (pe_ix ix_list (pv 0) pe_int (fun _ _ => rfl))))) (pe_op op_mul pe_int (pe_ix ix_list (pv 0) pe_int (fun _ _ => rfl)))) pe_int) pe_int))
      (pss_cons (ps_set (i := 2) sc_l_draw.nd rfl (.inl rfl) (pe_op op_mod (pe_op op_mul (pv 2) (pv 2)) pe_int))
      (pss_one (ps_ret (pe_op op_mod (pe_op op_fdiv (pe_op op_mod (pe_op op_mul (pe_op op_add (pv 2) pe_int) (pe_op op_add (pv 2) pe_int)) pe_int) pe_int) (pv 1)))))))), ?_⟩
  have L : SqL K H a [.int own, .int cnt, .int seed] := SqL.of hf
  refine ⟨_, rfl, a, _, 0, .int own, rfl, rfl, L, rfl, _, _, rfl, rfl, _, rfl, ite2 (fun c => ?_) (fun c => ?_)⟩
  · have b1 : 0 ≤ own % m := Int.emod_nonneg _ (by omega)
    have b2 : own % m < m := Int.emod_lt_of_pos _ m0
    refine ⟨_, rfl, a, _, 0, .int own, rfl, rfl, L, rfl, _, rfl, _, _, rfl, rfl, m0, ?_⟩
    refine ⟨_, rfl, a, _, 0, .int own, rfl, rfl, L, rfl, _, rfl, _, _, rfl, rfl, ⟨m0, m1⟩, ?_⟩
    refine ⟨_, rfl, a, _, 0, 0, rfl, rfl, hf, rfl, ?_⟩
    exact ⟨_, rfl, q _ _ b1 b2 (dr_put (fun _ _ => rfl) ⟨_, _, _, upd_same, s0, s1⟩)⟩
  · refine ⟨_, rfl, a, _, 1, .int cnt, rfl, rfl, L, rfl, _, _, rfl, rfl, ?_⟩
    refine ⟨_, rfl, a, _, 1, 1, rfl, rfl, hf, rfl, ?_⟩
    have hf2 : (upd H a (.lst (List.set [.int own, .int cnt, .int seed] 1 (.int (cnt + 1))))) a = some (.lst [.int own, .int (cnt + 1), .int seed]) := upd_same
    generalize hH : upd H a (.lst (List.set [.int own, .int cnt, .int seed] 1 (.int (cnt + 1)))) = H2 at hf2
    have off : ∀ b, b ≠ a → H2 b = H b := fun b n => by
      rw [← hH, upd_ne n]
    have L2' : SqL K H2 a [.int own, .int (cnt + 1), .int seed] := SqL.of hf2
    refine ⟨_, rfl, a, _, 2, .int seed, rfl, rfl, L2', rfl, _, rfl, a, _, 1, .int (cnt + 1), rfl, rfl, L2', rfl, _, _, rfl, rfl, .inl ⟨by decide, by decide⟩, _, _, rfl, rfl, _, _, rfl, rfl, .inl ⟨by omega, by omega⟩, ?_⟩
    refine ⟨_, rfl, a, _, 1, .int (cnt + 1), rfl, rfl, L2', rfl, _, _, rfl, rfl, .inl ⟨by decide, by decide⟩, _, _, rfl, rfl, _, _, rfl, rfl, _, _, rfl, rfl, (by show (0 : Int) < 2147483629; decide), ?_⟩
    have n1 := Int.emod_nonneg (seed * (48271 + 2 * (cnt + 1)) + 7919 * (cnt + 1) + 1) (show (2147483629 : Int) ≠ 0 by decide)
    have n2 := Int.emod_lt_of_pos (seed * (48271 + 2 * (cnt + 1)) + 7919 * (cnt + 1) + 1) (show (0 : Int) < 2147483629 by decide)
    generalize (seed * (48271 + 2 * (cnt + 1)) + 7919 * (cnt + 1) + 1) % 2147483629 = n at n1 n2
    refine ⟨_, rfl, _, rfl, _, _, rfl, rfl, .inl ⟨by omega, by omega⟩, _, _, rfl, rfl, (by show (0 : Int) < 2147483587; decide), ?_⟩
    have k1 := Int.emod_nonneg (n * n) (show (2147483587 : Int) ≠ 0 by decide)
    have k2 := Int.emod_lt_of_pos (n * n) (show (0 : Int) < 2147483587 by decide)
    generalize n * n % 2147483587 = k at k1 k2
    refine ⟨_, rfl, _, _, rfl, rfl, _, rfl, _, _, rfl, rfl, _, _, rfl, rfl, .inl ⟨by omega, by omega⟩, _, _, rfl, rfl, (by show (0 : Int) < 2147483579; decide), _, _, rfl, rfl, ⟨by decide, by decide⟩, _, rfl, _, _, rfl, rfl, m0, ?_⟩
    exact q _ _ (Int.emod_nonneg _ (by omega)) (Int.emod_lt_of_pos _ m0) ⟨off, ⟨_, _, _, hf2, s0, s1⟩⟩
end
end Lm

set_option Elab.async false
set_option linter.all false
set_option maxRecDepth 100000
set_option maxHeartbeats 2000000
namespace Lm
open PySem PySem.Spec PyProof.Rows L2 LmR
/-! ### flat data: kinds, sizes -/
def tyn : PyData → String
  | .none => "NoneType"
  | .bool _ => "bool"
  | .int _ => "int"
  | .str _ => "str"
  | .list _ => "list"
  | .tuple _ => "tuple"
  | .dict _ => "dict"
theorem tyx_tup {K : PySem.W.Frag} {H : Hp} {a : Addr} {xs : List V} (q : SqT K H a xs) : TyX K H (.ref a) (.type "tuple") := by
  rcases q with (q | ⟨o, q⟩) | ⟨o, its, n, hk, hc, _⟩
  · exact .base (.tup q)
  · exact .fTuple q
  · exact .kTuple hk hc
theorem Fd.ty {K : PySem.W.Frag} {H : Hp} {v : V} {d : PyData} (h : Fd K H v d) : TyX K H v (.type (tyn d)) := by
  obtain ⟨f, h⟩ := h
  cases h with
  | non => exact .base .non
  | bl b => exact .base (.bl b)
  | int i => exact .base (.int i)
  | str x => exact .base (.str x)
  | lst q r => simp [flat] at f
  | tup q r => exact tyx_tup q
def isTup : PyData → Bool
  | .tuple _ => true
  | _ => false
def isBl : PyData → Bool
  | .bool _ => true
  | _ => false
def isStr : PyData → Bool
  | .str _ => true
  | _ => false
def isInt : PyData → Bool
  | .bool _ => true
  | .int _ => true
  | _ => false
theorem kit_tup {K : PySem.W.Frag} (d : PyData) (h : flat d = true) : PySem.W.kitOne K (.type (tyn d)) (.type "tuple") = some (isTup d) := by
  cases d <;> first | (simp [flat] at h; done) | exact kit_ty (a := "NoneType") (r := true) (by decide +kernel) | exact kit_ty (a := "NoneType") (r := false) (by decide +kernel) | exact kit_ty (a := "bool") (r := true) (by decide +kernel) | exact kit_ty (a := "bool") (r := false) (by decide +kernel) | exact kit_ty (a := "int") (r := true) (by decide +kernel) | exact kit_ty (a := "int") (r := false) (by decide +kernel) | exact kit_ty (a := "str") (r := true) (by decide +kernel) | exact kit_ty (a := "str") (r := false) (by decide +kernel) | exact kit_ty (a := "tuple") (r := true) (by decide +kernel) | exact kit_ty (a := "tuple") (r := false) (by decide +kernel)
theorem kit_bl {K : PySem.W.Frag} (d : PyData) (h : flat d = true) : PySem.W.kitOne K (.type (tyn d)) (.type "bool") = some (isBl d) := by
  cases d <;> first | (simp [flat] at h; done) | exact kit_ty (a := "NoneType") (r := true) (by decide +kernel) | exact kit_ty (a := "NoneType") (r := false) (by decide +kernel) | exact kit_ty (a := "bool") (r := true) (by decide +kernel) | exact kit_ty (a := "bool") (r := false) (by decide +kernel) | exact kit_ty (a := "int") (r := true) (by decide +kernel) | exact kit_ty (a := "int") (r := false) (by decide +kernel) | exact kit_ty (a := "str") (r := true) (by decide +kernel) | exact kit_ty (a := "str") (r := false) (by decide +kernel) | exact kit_ty (a := "tuple") (r := true) (by decide +kernel) | exact kit_ty (a := "tuple") (r := false) (by decide +kernel)
theorem kit_str {K : PySem.W.Frag} (d : PyData) (h : flat d = true) : PySem.W.kitOne K (.type (tyn d)) (.type "str") = some (isStr d) := by
  cases d <;> first | (simp [flat] at h; done) | exact kit_ty (a := "NoneType") (r := true) (by decide +kernel) | exact kit_ty (a := "NoneType") (r := false) (by decide +kernel) | exact kit_ty (a := "bool") (r := true) (by decide +kernel) | exact kit_ty (a := "bool") (r := false) (by decide +kernel) | exact kit_ty (a := "int") (r := true) (by decide +kernel) | exact kit_ty (a := "int") (r := false) (by decide +kernel) | exact kit_ty (a := "str") (r := true) (by decide +kernel) | exact kit_ty (a := "str") (r := false) (by decide +kernel) | exact kit_ty (a := "tuple") (r := true) (by decide +kernel) | exact kit_ty (a := "tuple") (r := false) (by decide +kernel)
theorem kit_int {K : PySem.W.Frag} (d : PyData) (h : flat d = true) : PySem.W.kitOne K (.type (tyn d)) (.type "int") = some (isInt d) := by
  cases d <;> first | (simp [flat] at h; done) | exact kit_ty (a := "NoneType") (r := true) (by decide +kernel) | exact kit_ty (a := "NoneType") (r := false) (by decide +kernel) | exact kit_ty (a := "bool") (r := true) (by decide +kernel) | exact kit_ty (a := "bool") (r := false) (by decide +kernel) | exact kit_ty (a := "int") (r := true) (by decide +kernel) | exact kit_ty (a := "int") (r := false) (by decide +kernel) | exact kit_ty (a := "str") (r := true) (by decide +kernel) | exact kit_ty (a := "str") (r := false) (by decide +kernel) | exact kit_ty (a := "tuple") (r := true) (by decide +kernel) | exact kit_ty (a := "tuple") (r := false) (by decide +kernel)
end Lm

set_option Elab.async false
set_option linter.all false
set_option maxRecDepth 100000
set_option maxHeartbeats 2000000
namespace Lm
open PySem PySem.Spec PyProof.Rows L2 LmR
/-- how many things are in it -/
def dsz : PyData → Nat
  | .tuple xs => 1 + dszs xs
  | _ => 1
where dszs : List PyData → Nat
  | [] => 0
  | d :: ds => dsz d + dszs ds
theorem dsz_pos (d : PyData) : 1 ≤ dsz d := by cases d <;> simp [dsz]
theorem dszs_len : ∀ ds : List PyData, ds.length ≤ dsz.dszs ds
  | [] => Nat.le_refl _
  | d :: ds => by
    have h1 := dsz_pos d
    have h2 := dszs_len ds
    simp only [dsz.dszs, List.length_cons]
    omega
theorem dszs_app : ∀ ds es : List PyData, dsz.dszs (ds ++ es) = dsz.dszs ds + dsz.dszs es
  | [], es => by simp [dsz.dszs]
  | d :: ds, es => by
    have h := dszs_app ds es
    simp only [List.cons_append, dsz.dszs]
    omega
/-- a pair of two things alike -/
def Pr (K : PySem.W.Frag) (H : Hp) (t : Addr) (d : PyData) : Prop := ∃ x y, H t = some (.tup [x, y]) ∧ Fd K H x d ∧ Fd K H y d
theorem Pr.keep {K : PySem.W.Frag} {H H' : Hp} {t : Addr} {d : PyData} (h : Pr K H t d) (s : ∀ xs, H t = some (.tup xs) → H' t = some (.tup xs)) (t' : Tp K H H') : Pr K H' t d := by
  obtain ⟨x, y, e, a, b⟩ := h
  exact ⟨x, y, s _ e, a.keep t', b.keep t'⟩
theorem while_m {c : TT} {tb : TS} {D : Ends} {σ : L2.St} {H : Hp} (W : Nat → L2.St → Hp → Prop) (h0 : ∃ m, W m σ H)
    (hs : ∀ m σ H, W m σ H → c σ H fun b H1 => if b = true then ∃ N : L2.St → Hp → Prop, (∀ σ' H', N σ' H' → ∃ m', m' < m ∧ W m' σ' H') ∧ tb { D with nx := N, ct := N, bk := D.nx } σ H1 else D.nx σ H1) : tWhile c tb D σ H := ⟨W, h0, hs⟩
theorem dpall_get {K : PySem.W.Frag} {H : Hp} : ∀ {vs : List V} {ds : List PyData}, DpAll K H vs ds → ∀ (j : Nat) (v : V), vs[j]? = some v → ∃ d, ds[j]? = some d ∧ Dp K H v d
  | _, _, .nil, j, v, h => by simp at h
  | _, _, .cons a b, 0, v, h => by
    have e := Option.some.inj h
    subst e
    exact ⟨_, rfl, a⟩
  | _, _, .cons a b, j + 1, v, h => dpall_get b j v h
theorem dpall_len {K : PySem.W.Frag} {H : Hp} : ∀ {vs : List V} {ds : List PyData}, DpAll K H vs ds → vs.length = ds.length
  | _, _, .nil => rfl
  | _, _, .cons a b => by rw [List.length_cons, List.length_cons, dpall_len b]
theorem flats_get : ∀ {ds : List PyData}, flat.flats ds = true → ∀ (j : Nat) (d : PyData), ds[j]? = some d → flat d = true
  | [], _, j, d, h => by simp at h
  | e :: ds, f, 0, d, h => by
    rw [flat.flats, Bool.and_eq_true] at f
    have e := Option.some.inj h
    subst e
    exact f.1
  | e :: ds, f, j + 1, d, h => by
    rw [flat.flats, Bool.and_eq_true] at f
    exact flats_get f.2 j d h
section
variable {P : Program} {w : World} {K : PySem.W.Frag} {mg : Str → Option Value} {base : Heap}
end
end Lm

set_option Elab.async false
set_option linter.all false
set_option maxRecDepth 100000
set_option maxHeartbeats 2000000
namespace Lm
open PySem PySem.Spec PyProof.Rows L2 LmR
/-! ### programs -/
inductive Bw where
  | least
  | most
  | atmost
  | both
  | either
def Bw.str : Bw → Str
  | .least => "least"
  | .most => "most"
  | .atmost => "atmost"
  | .both => "both"
  | .either => "either"
/-- the kind due to its parts; its own (true: truth) -/
def Bw.arg : Bw → Bool
  | .least => false
  | .most => false
  | .atmost => false
  | .both => true
  | .either => true
def Bw.own : Bw → Bool
  | .least => false
  | .most => false
  | .atmost => true
  | .both => true
  | .either => true
inductive Pg where
  | inp (k : Nat)
  | num (c : Int)
  | tr (b : Bool)
  | plus (c : Int) (a : Pg)
  | bin (w : Bw) (a b : Pg)
  | neg (a : Pg)
  | ite (p a b : Pg)
def trS : Bool → Str
  | true => "yes"
  | false => "no"
def kS : Bool → Str
  | true => "truth"
  | false => "num"
def word : Pg → Str
  | .inp _ => "in"
  | .num _ => "num"
  | .tr b => trS b
  | .plus _ _ => "plus"
  | .bin w _ _ => w.str
  | .neg _ => "not"
  | .ite _ _ _ => "if"
def enc : Pg → PyData
  | .inp k => .tuple [.str "in", .int k]
  | .num c => .tuple [.str "num", .int c]
  | .tr b => .tuple [.str (trS b)]
  | .plus c a => .tuple [.str "plus", .int c, enc a]
  | .bin w a b => .tuple [.str w.str, enc a, enc b]
  | .neg a => .tuple [.str "not", enc a]
  | .ite p a b => .tuple [.str "if", enc p, enc a, enc b]
theorem flat_enc : ∀ p : Pg, flat (enc p) = true
  | .inp _ => rfl
  | .num _ => rfl
  | .tr _ => rfl
  | .plus c a => by simp [enc, flat, flat.flats, flat_enc a]
  | .bin w a b => by simp [enc, flat, flat.flats, flat_enc a, flat_enc b]
  | .neg a => by simp [enc, flat, flat.flats, flat_enc a]
  | .ite p a b => by simp [enc, flat, flat.flats, flat_enc a, flat_enc b, flat_enc p]
/-- its kind by itself -/
def own (ks : List Bool) : Pg → Bool
  | .inp k => ks.getD k false
  | .num _ => false
  | .tr _ => true
  | .plus _ _ => false
  | .bin w _ _ => w.own
  | .neg _ => true
  | .ite _ a _ => own ks a
/-- it is let by -/
def Wk (ks : List Bool) : Pg → Prop
  | .inp k => k < ks.length
  | .num _ => True
  | .tr _ => True
  | .plus _ a => Wk ks a ∧ own ks a = false
  | .bin w a b => Wk ks a ∧ Wk ks b ∧ own ks a = w.arg ∧ own ks b = w.arg
  | .neg a => Wk ks a ∧ own ks a = true
  | .ite p a b => Wk ks p ∧ Wk ks a ∧ Wk ks b ∧ own ks p = true ∧ own ks b = own ks a
def parts : Pg → List Pg
  | .inp _ => []
  | .num _ => []
  | .tr _ => []
  | .plus _ a => [a]
  | .bin _ a b => [a, b]
  | .neg a => [a]
  | .ite p a b => [p, a, b]
def psz : Pg → Nat
  | .inp _ => 1
  | .num _ => 1
  | .tr _ => 1
  | .plus _ a => psz a + 1
  | .bin _ a b => psz a + psz b + 1
  | .neg a => psz a + 1
  | .ite p a b => psz p + psz a + psz b + 1
def dep : Pg → Nat
  | .inp _ => 1
  | .num _ => 1
  | .tr _ => 1
  | .plus _ a => dep a + 1
  | .bin _ a b => max (dep a) (dep b) + 1
  | .neg a => dep a + 1
  | .ite p a b => max (dep p) (max (dep a) (dep b)) + 1
def kn : Pg → List Pg
  | .inp k => [.inp k]
  | .num c => [.num c]
  | .tr b => [.tr b]
  | .plus c a => .plus c a :: kn a
  | .bin w a b => .bin w a b :: (kn a ++ kn b)
  | .neg a => .neg a :: kn a
  | .ite p a b => .ite p a b :: (kn p ++ (kn a ++ kn b))
theorem kn_len : ∀ p : Pg, (kn p).length = psz p
  | .inp _ => rfl
  | .num _ => rfl
  | .tr _ => rfl
  | .plus c a => by simp [kn, psz, kn_len a]
  | .bin w a b => by simp [kn, psz, kn_len a, kn_len b]
  | .neg a => by simp [kn, psz, kn_len a]
  | .ite p a b => by simp [kn, psz, kn_len a, kn_len b, kn_len p]; omega
theorem psz_pos (p : Pg) : 1 ≤ psz p := by cases p <;> simp [psz]
theorem dep_pos (p : Pg) : 1 ≤ dep p := by cases p <;> simp [dep]
theorem dep_le : ∀ p : Pg, dep p ≤ psz p
  | .inp _ => Nat.le_refl _
  | .num _ => Nat.le_refl _
  | .tr _ => Nat.le_refl _
  | .plus c a => by have := dep_le a; simp only [dep, psz]; omega
  | .bin w a b => by have := dep_le a; have := dep_le b; simp only [dep, psz]; omega
  | .neg a => by have := dep_le a; simp only [dep, psz]; omega
  | .ite p a b => by have := dep_le a; have := dep_le b; have := dep_le p; simp only [dep, psz]; omega
theorem kn_eq (p : Pg) : kn p = p :: (parts p).flatMap kn := by cases p <;> simp [kn, parts]
theorem psz_eq (p : Pg) : psz p = 1 + ((parts p).map psz).sum := by cases p <;> simp [psz, parts] <;> omega
/-- the things behind its word, as they stand in the tuple -/
def front : Pg → List V
  | .inp k => [.str "in", .int k]
  | .num c => [.str "num", .int c]
  | .tr b => [.str (trS b)]
  | .plus c _ => [.str "plus", .int c]
  | .bin w _ _ => [.str w.str]
  | .neg _ => [.str "not"]
  | .ite _ _ _ => [.str "if"]
/-- the program p stands at v -/
def At (K : PySem.W.Frag) (H : Hp) (v : V) (p : Pg) : Prop := Dp K H v (enc p)
def Ats (K : PySem.W.Frag) (H : Hp) (vs : List V) (ps : List Pg) : Prop := DpAll K H vs (ps.map enc)
theorem At.fd {K : PySem.W.Frag} {H : Hp} {v : V} {p : Pg} (h : At K H v p) : Fd K H v (enc p) := ⟨flat_enc p, h⟩
theorem At.keep {K : PySem.W.Frag} {H H' : Hp} {v : V} {p : Pg} (h : At K H v p) (t : Tp K H H') : At K H' v p := dp_keep t _ _ (flat_enc p) h
theorem flats_encs : ∀ ps : List Pg, flat.flats (ps.map enc) = true
  | [] => rfl
  | p :: ps => by simp [flat.flats, flat_enc p, flats_encs ps]
theorem Ats.keep {K : PySem.W.Frag} {H H' : Hp} {vs : List V} {ps : List Pg} (h : Ats K H vs ps) (t : Tp K H H') : Ats K H' vs ps := dps_keep t _ _ (flats_encs ps) h
theorem Ats.nil {K : PySem.W.Frag} {H : Hp} : Ats K H [] [] := DpAll.nil
theorem Ats.cons {K : PySem.W.Frag} {H : Hp} {v : V} {vs : List V} {p : Pg} {ps : List Pg} (h : At K H v p) (t : Ats K H vs ps) : Ats K H (v :: vs) (p :: ps) := DpAll.cons h t
theorem Ats.app {K : PySem.W.Frag} {H : Hp} : ∀ {vs us : List V} {ps qs : List Pg}, Ats K H vs ps → Ats K H us qs → Ats K H (vs ++ us) (ps ++ qs)
  | [], _, [], _, _, b => b
  | v :: vs, _, p :: ps, _, a, b => by
    cases a with
    | cons h t => exact Ats.cons h (Ats.app (vs := vs) (ps := ps) t b)
  | [], _, p :: ps, _, a, _ => by cases a
  | v :: vs, _, [], _, a, _ => by cases a
theorem Ats.len {K : PySem.W.Frag} {H : Hp} : ∀ {vs : List V} {ps : List Pg}, Ats K H vs ps → vs.length = ps.length
  | [], [], _ => rfl
  | v :: vs, p :: ps, a => by
    cases a with
    | cons h t => rw [List.length_cons, List.length_cons, Ats.len (vs := vs) (ps := ps) t]
  | [], p :: ps, a => by cases a
  | v :: vs, [], a => by cases a
theorem Ats.get {K : PySem.W.Frag} {H : Hp} : ∀ {vs : List V} {ps : List Pg}, Ats K H vs ps → ∀ (j : Nat) (v : V), vs[j]? = some v → ∃ p, ps[j]? = some p ∧ At K H v p
  | [], [], _, j, v, h => by simp at h
  | u :: vs, p :: ps, a, 0, v, h => by
    cases a with
    | cons x t =>
      have e := Option.some.inj h
      subst e
      exact ⟨p, rfl, x⟩
  | u :: vs, p :: ps, a, j + 1, v, h => by
    cases a with
    | cons x t => exact Ats.get (vs := vs) (ps := ps) t j v h
  | [], p :: ps, a, _, _, _ => by cases a
  | v :: vs, [], a, _, _, _ => by cases a
/-- the tuple that it is -/
theorem At.open {K : PySem.W.Frag} {H : Hp} {v : V} {p : Pg} (h : At K H v p) : ∃ (a : Addr) (vs : List V), v = .ref a ∧ SqT K H a (front p ++ vs) ∧ Ats K H vs (parts p) := by
  cases p with
  | inp k =>
    cases h with
    | tup q r =>
      cases r with
      | cons r1 r =>
        cases r with
        | cons r2 r =>
          cases r
          cases r1
          cases r2
          exact ⟨_, [], rfl, q, .nil⟩
  | num c =>
    cases h with
    | tup q r =>
      cases r with
      | cons r1 r =>
        cases r with
        | cons r2 r =>
          cases r
          cases r1
          cases r2
          exact ⟨_, [], rfl, q, .nil⟩
  | tr b =>
    cases h with
    | tup q r =>
      cases r with
      | cons r1 r =>
        cases r
        cases r1
        exact ⟨_, [], rfl, q, .nil⟩
  | plus c a =>
    cases h with
    | tup q r =>
      cases r with
      | cons r1 r =>
        cases r with
        | cons r2 r =>
          cases r1
          cases r2
          exact ⟨_, _, rfl, q, r⟩
  | bin w a b =>
    cases h with
    | tup q r =>
      cases r with
      | cons r1 r =>
        cases r1
        exact ⟨_, _, rfl, q, r⟩
  | neg a =>
    cases h with
    | tup q r =>
      cases r with
      | cons r1 r =>
        cases r1
        exact ⟨_, _, rfl, q, r⟩
  | ite p a b =>
    cases h with
    | tup q r =>
      cases r with
      | cons r1 r =>
        cases r1
        exact ⟨_, _, rfl, q, r⟩
theorem At.make {K : PySem.W.Frag} {H : Hp} {a : Addr} {vs : List V} {p : Pg} (h : SqT K H a (front p ++ vs)) (b : Ats K H vs (parts p)) : At K H (.ref a) p := by
  cases p with
  | inp k => cases b; exact .tup h (.cons (.str _) (.cons (.int _) .nil))
  | num k => cases b; exact .tup h (.cons (.str _) (.cons (.int _) .nil))
  | tr k => cases b; exact .tup h (.cons (.str _) .nil)
  | plus c a => exact .tup h (.cons (.str _) (.cons (.int _) b))
  | bin w a c => exact .tup h (.cons (.str _) b)
  | neg a => exact .tup h (.cons (.str _) b)
  | ite p a c => exact .tup h (.cons (.str _) b)
theorem Ats.one {K : PySem.W.Frag} {H : Hp} {vs : List V} {p : Pg} (h : Ats K H vs [p]) : ∃ v, vs = [v] ∧ At K H v p := by
  cases h with
  | cons a r =>
    cases r
    exact ⟨_, rfl, a⟩
theorem Ats.two {K : PySem.W.Frag} {H : Hp} {vs : List V} {p q : Pg} (h : Ats K H vs [p, q]) : ∃ u v, vs = [u, v] ∧ At K H u p ∧ At K H v q := by
  cases h with
  | cons a r =>
    cases r with
    | cons b r =>
      cases r
      exact ⟨_, _, rfl, a, b⟩
theorem Ats.three {K : PySem.W.Frag} {H : Hp} {vs : List V} {p q r : Pg} (h : Ats K H vs [p, q, r]) : ∃ u v w, vs = [u, v, w] ∧ At K H u p ∧ At K H v q ∧ At K H w r := by
  cases h with
  | cons a t =>
    cases t with
    | cons b t =>
      cases t with
      | cons c t =>
        cases t
        exact ⟨_, _, _, rfl, a, b, c⟩
/-! ### sums of sizes -/
theorem kn_le : ∀ (p q : Pg), q ∈ kn p → psz q ≤ psz p
  | .inp _, q, h => by simp [kn] at h; rw [h]; exact Nat.le_refl _
  | .num _, q, h => by simp [kn] at h; rw [h]; exact Nat.le_refl _
  | .tr _, q, h => by simp [kn] at h; rw [h]; exact Nat.le_refl _
  | .plus c a, q, h => by
    simp only [kn, List.mem_cons] at h
    rcases h with h | h
    · rw [h]; exact Nat.le_refl _
    · have := kn_le a q h; simp only [psz]; omega
  | .bin w a b, q, h => by
    simp only [kn, List.mem_cons, List.mem_append] at h
    rcases h with h | h | h
    · rw [h]; exact Nat.le_refl _
    · have := kn_le a q h; simp only [psz]; omega
    · have := kn_le b q h; simp only [psz]; omega
  | .neg a, q, h => by
    simp only [kn, List.mem_cons] at h
    rcases h with h | h
    · rw [h]; exact Nat.le_refl _
    · have := kn_le a q h; simp only [psz]; omega
  | .ite p a b, q, h => by
    simp only [kn, List.mem_cons, List.mem_append] at h
    rcases h with h | h | h | h
    · rw [h]; exact Nat.le_refl _
    · have := kn_le p q h; simp only [psz]; omega
    · have := kn_le a q h; simp only [psz]; omega
    · have := kn_le b q h; simp only [psz]; omega
theorem kn_wk (ks : List Bool) : ∀ (p q : Pg), Wk ks p → q ∈ kn p → Wk ks q
  | .inp _, q, w, h => by simp [kn] at h; rw [h]; exact w
  | .num _, q, w, h => by simp [kn] at h; rw [h]; exact w
  | .tr _, q, w, h => by simp [kn] at h; rw [h]; exact w
  | .plus c a, q, w, h => by
    simp only [kn, List.mem_cons] at h
    rcases h with h | h
    · rw [h]; exact w
    · exact kn_wk ks a q w.1 h
  | .bin _ a b, q, w, h => by
    simp only [kn, List.mem_cons, List.mem_append] at h
    rcases h with h | h | h
    · rw [h]; exact w
    · exact kn_wk ks a q w.1 h
    · exact kn_wk ks b q w.2.1 h
  | .neg a, q, w, h => by
    simp only [kn, List.mem_cons] at h
    rcases h with h | h
    · rw [h]; exact w
    · exact kn_wk ks a q w.1 h
  | .ite p a b, q, w, h => by
    simp only [kn, List.mem_cons, List.mem_append] at h
    rcases h with h | h | h | h
    · rw [h]; exact w
    · exact kn_wk ks p q w.1 h
    · exact kn_wk ks a q w.2.1 h
    · exact kn_wk ks b q w.2.2.1 h
end Lm

set_option Elab.async false
set_option linter.all false
set_option maxRecDepth 100000
set_option maxHeartbeats 2000000
namespace Lm
open PySem PySem.Spec PyProof.Rows L2 LmR
section
variable {P : Program} {w : World} {K : PySem.W.Frag} {mg : Str → Option Value} {base : Heap}
/-- the flow was drawn from, what else stands at ws may have changed, things were made -/
structure Gr (ws : List Addr) (f : Addr) (H H' : Hp) : Prop where
  ex : Ex (f :: ws) H H'
  fl : Flow H' f
theorem Dr.gr {f : Addr} {H H' : Hp} {ws : List Addr} (d : Dr f H H') : Gr ws f H H' := ⟨d.ex.mono fun b hb => by rw [List.mem_singleton.mp hb]; exact List.mem_cons_self, d.fl⟩
theorem Gr.trans {ws : List Addr} {f : Addr} {H H1 H2 : Hp} (a : Gr ws f H H1) (b : Gr ws f H1 H2) : Gr ws f H H2 := ⟨a.ex.trans b.ex, b.fl⟩
theorem Gr.mono {ws us : List Addr} {f : Addr} {H H' : Hp} (a : Gr ws f H H') (h : ∀ b ∈ ws, b ∈ us) : Gr us f H H' := ⟨a.ex.mono fun b hb => by
  rcases List.mem_cons.mp hb with z | z
  · rw [z]; exact List.mem_cons_self
  · exact List.mem_cons_of_mem _ (h b z), a.fl⟩
theorem Gr.new {ws : List Addr} {f : Addr} {H : Hp} {p : Addr} {o : HO} (fl : Flow H f) (h : H p = none) : Gr ws f H (upd H p o) := by
  refine ⟨Ex.new h, ?_⟩
  obtain ⟨a, b, c, e, r⟩ := fl
  exact ⟨a, b, c, by rw [upd_ne (ne_of_none e h)]; exact e, r⟩
theorem Gr.tp {f : Addr} {H H' : Hp} (a : Gr [] f H H') (h : Flow H f) : Tp K H H' := by
  obtain ⟨xs, e⟩ := h.lst
  refine a.ex.tp fun b hb ys q => ?_
  rw [List.mem_singleton.mp hb] at q
  rcases q with q | ⟨o, q⟩
  · rw [e] at q; cases q
  · rw [e] at q; cases q
def kVs (ks : List Bool) : List V := ks.map fun b => V.str (kS b)
def wKV (ka : Addr) (c i n : Int) : List (Key × V) := [(Sum.inr "kinds", .ref ka), (Sum.inr "cmp", .int c), (Sum.inr "if", .int i), (Sum.inr "any", .int n)]
def Wld (H : Hp) (wd ka : Addr) : Prop := ∃ c i n : Int, H wd = some (.dK (wKV ka c i n))
theorem wv_kinds (ka : Addr) (c i n : Int) : valV (wKV ka c i n) (Sum.inr "kinds") = some (.ref ka) := rfl
theorem wv_cmp (ka : Addr) (c i n : Int) : valV (wKV ka c i n) (Sum.inr "cmp") = some (.int c) := rfl
theorem wv_if (ka : Addr) (c i n : Int) : valV (wKV ka c i n) (Sum.inr "if") = some (.int i) := rfl
theorem wv_any (ka : Addr) (c i n : Int) : valV (wKV ka c i n) (Sum.inr "any") = some (.int n) := rfl
theorem wp_cmp (ka : Addr) (c i n z : Int) : putK (wKV ka c i n) (Sum.inr "cmp") (.int z) = wKV ka z i n := rfl
theorem wp_if (ka : Addr) (c i n z : Int) : putK (wKV ka c i n) (Sum.inr "if") (.int z) = wKV ka c z n := rfl
theorem wp_any (ka : Addr) (c i n z : Int) : putK (wKV ka c i n) (Sum.inr "any") (.int z) = wKV ka c i z := rfl
/-- a dict with the kinds -/
def Kin (H : Hp) (wd ka : Addr) : Prop := ∃ kvs, H wd = some (.dK kvs) ∧ valV kvs (Sum.inr "kinds") = some (.ref ka)
theorem Wld.kin {H : Hp} {wd ka : Addr} (h : Wld H wd ka) : Kin H wd ka := by
  obtain ⟨c, i, n, e⟩ := h
  exact ⟨_, e, rfl⟩
/-- its numbers are from -1000 to 1000 -/
def Nb : Pg → Prop
  | .inp _ => True
  | .num c => -1000 ≤ c ∧ c ≤ 1000
  | .tr _ => True
  | .plus c a => (-1000 ≤ c ∧ c ≤ 1000) ∧ Nb a
  | .bin _ a b => Nb a ∧ Nb b
  | .neg a => Nb a
  | .ite p a b => Nb p ∧ Nb a ∧ Nb b
def Wn (ks : List Bool) (p : Pg) : Prop := Wk ks p ∧ Nb p
end
end Lm

set_option Elab.async false
set_option linter.all false
set_option maxRecDepth 100000
set_option maxHeartbeats 2000000
namespace Lm
open PySem PySem.Spec PyProof.Rows L2 LmR
/-- a loop over enumerate(list) -/
theorem for_enum {K : PySem.W.Frag} {a : Addr} {xs : List V} {g : TG} {tb : TS} {D : Ends} {σ : L2.St} {H : Hp} (Pv : Nat → L2.St → Hp → Prop) (h0 : Pv 0 σ H) (hq : ∀ i σ H, Pv i σ H → SqL K H a xs)
    (hs : ∀ (i : Nat) (x : V) (T : Addr) (σ : L2.St) (H : Hp), xs[i]? = some x → Pv i σ H → H T = none → g (.ref T) σ (upd H T (.tup [.int (i : Nat), x])) fun σ2 H2 => tb { D with nx := Pv (i + 1), ct := Pv (i + 1), bk := D.nx } σ2 H2) (hd : ∀ σ H, Pv xs.length σ H → D.nx σ H) :
    ∃ W : Nat → Nat → L2.St → Hp → Prop, (∃ m, W 0 m σ H) ∧ ∀ i m σ H, W i m σ H →
      ((Ite K a).stop i H ∧ D.nx σ H) ∨ ((Ite K a).go i H ∧ ∃ N : L2.St → Hp → Prop, (∀ σ' H', N σ' H' → ∃ m', m' < m ∧ W (i + 1) m' σ' H') ∧ ∀ v H', (Ite K a).yld i H v H' → g v σ H' fun σ2 H2 => tb { D with nx := N, ct := N, bk := D.nx } σ2 H2) := by
  refine ⟨fun i m σ H => m = xs.length - i ∧ i ≤ xs.length ∧ Pv i σ H, ⟨xs.length, rfl, Nat.zero_le _, h0⟩, ?_⟩
  rintro i m σ H ⟨rfl, hi, p⟩
  have qx := hq i σ H p
  by_cases hlt : i < xs.length
  · have hx : xs[i]? = some xs[i] := List.getElem?_eq_getElem hlt
    refine .inr ⟨⟨xs, _, qx, hx⟩, Pv (i + 1), fun σ' H' p' => ⟨xs.length - (i + 1), by omega, rfl, hlt, p'⟩, fun v H' y => ?_⟩
    obtain ⟨T, x', rfl, hT, rfl, f1⟩ := y
    exact hs i x' T σ H (f1 xs qx) p hT
  · have e : i = xs.length := by omega
    subst e
    exact .inl ⟨⟨xs, qx, Nat.le_refl _⟩, hd σ H p⟩
/-! ### the words that a program may be made with -/
inductive Ch where
  | plus
  | bin (w : Bw)
  | neg
  | ite
def Ch.str : Ch → Str
  | .plus => "plus"
  | .bin w => w.str
  | .neg => "not"
  | .ite => "if"
def Ch.fits (k : Bool) : Ch → Prop
  | .plus => k = false
  | .bin w => w.own = k
  | .neg => k = true
  | .ite => True
def Ch.ps (k : Bool) : Ch → List Bool
  | .plus => [false]
  | .bin w => [w.arg, w.arg]
  | .neg => [true]
  | .ite => [true, k, k]
def Ch.front (num : Int) : Ch → List V
  | .plus => [.str "plus", .int num]
  | .bin w => [.str w.str]
  | .neg => [.str "not"]
  | .ite => [.str "if"]
def Ch.sort : Ch → Str
  | .bin .least => "cmp"
  | .bin .most => "cmp"
  | .bin .atmost => "cmp"
  | .ite => "if"
  | _ => "any"
theorem map1 {α β : Type} {f : α → β} {l : List α} {x : β} (h : l.map f = [x]) : ∃ a, l = [a] ∧ f a = x := by
  match l, h with
  | [a], h => exact ⟨a, rfl, by simpa using h⟩
  | [], h => simp at h
  | a :: b :: r, h => simp at h
theorem map2 {α β : Type} {f : α → β} {l : List α} {x y : β} (h : l.map f = [x, y]) : ∃ a b, l = [a, b] ∧ f a = x ∧ f b = y := by
  match l, h with
  | [a, b], h => exact ⟨a, b, rfl, by simpa using h⟩
  | [], h => simp at h
  | [a], h => simp at h
  | a :: b :: c :: r, h => simp at h
theorem map3 {α β : Type} {f : α → β} {l : List α} {x y z : β} (h : l.map f = [x, y, z]) : ∃ a b c, l = [a, b, c] ∧ f a = x ∧ f b = y ∧ f c = z := by
  match l, h with
  | [a, b, c], h => exact ⟨a, b, c, rfl, by simpa using h⟩
  | [], h => simp at h
  | [a], h => simp at h
  | [a, b], h => simp at h
  | a :: b :: c :: d :: r, h => simp at h
/-- what is made of parts of the kinds due -/
theorem Ch.make {K : PySem.W.Frag} {H : Hp} {ks : List Bool} {k : Bool} {num : Int} (c : Ch) (hf : c.fits k) {t : Addr} {vs : List V} {ps : List Pg} (ha : Ats K H vs ps) (hw : ∀ p ∈ ps, Wn ks p) (hn : -1000 ≤ num ∧ num ≤ 1000) (hk : ps.map (own ks) = c.ps k)
    (ht : H t = some (.tup (c.front num ++ vs))) :
    ∃ p, At K H (.ref t) p ∧ Wn ks p ∧ own ks p = k ∧ psz p = 1 + (ps.map psz).sum := by
  cases c with
  | plus =>
    obtain ⟨a, rfl, e⟩ := map1 hk
    obtain ⟨v, rfl, h⟩ := ha.one
    exact ⟨.plus num a, .tup (.inl (.inl ht)) (.cons (.str _) (.cons (.int _) (.cons h .nil))), ⟨⟨(hw a (by simp)).1, e⟩, hn, (hw a (by simp)).2⟩, hf.symm, by simp [psz]; omega⟩
  | bin w =>
    obtain ⟨a, b, rfl, e1, e2⟩ := map2 hk
    obtain ⟨u, v, rfl, h1, h2⟩ := ha.two
    exact ⟨.bin w a b, .tup (.inl (.inl ht)) (.cons (.str _) (.cons h1 (.cons h2 .nil))), ⟨⟨(hw a (by simp)).1, (hw b (by simp)).1, e1, e2⟩, (hw a (by simp)).2, (hw b (by simp)).2⟩, hf, by simp [psz]; omega⟩
  | neg =>
    obtain ⟨a, rfl, e⟩ := map1 hk
    obtain ⟨v, rfl, h⟩ := ha.one
    exact ⟨.neg a, .tup (.inl (.inl ht)) (.cons (.str _) (.cons h .nil)), ⟨⟨(hw a (by simp)).1, e⟩, (hw a (by simp)).2⟩, hf.symm, by simp [psz]; omega⟩
  | ite =>
    obtain ⟨p, a, b, rfl, e1, e2, e3⟩ := map3 hk
    obtain ⟨u, v, z, rfl, h1, h2, h3⟩ := ha.three
    exact ⟨.ite p a b, .tup (.inl (.inl ht)) (.cons (.str _) (.cons h1 (.cons h2 (.cons h3 .nil)))), ⟨⟨(hw p (by simp)).1, (hw a (by simp)).1, (hw b (by simp)).1, e1, by rw [e2, e3]⟩, (hw p (by simp)).2, (hw a (by simp)).2, (hw b (by simp)).2⟩, e2, by simp [psz]; omega⟩
theorem Gr.put {ws : List Addr} {f : Addr} {H H' : Hp} {p : Addr} {o : HO} (g : Gr ws f H H') (h : H p = none) (n : p ≠ f) : Gr ws f H (upd H' p o) := by
  refine ⟨fun b u hb nb => ?_, ?_⟩
  · rw [upd_ne (ne_of_none hb h)]
    exact g.ex b u hb nb
  · obtain ⟨x, y, z, e, r⟩ := g.fl
    exact ⟨x, y, z, by rw [upd_ne n.symm]; exact e, r⟩
section
variable {P : Program} {w : World} {K : PySem.W.Frag} {mg : Str → Option Value} {base : Heap}
end
end Lm

set_option Elab.async false
set_option linter.all false
set_option maxRecDepth 100000
set_option maxHeartbeats 2000000
namespace Lm
open PySem PySem.Spec PyProof.Rows L2 LmR
section
variable {P : Program} {w : World} {K : PySem.W.Frag} {mg : Str → Option Value} {base : Heap}
end
end Lm

set_option Elab.async false
set_option linter.all false
set_option maxRecDepth 100000
set_option maxHeartbeats 2000000
namespace Lm
open PySem PySem.Spec PyProof.Rows L2 LmR
/-! ### closed bounds: places 0 .. m, a row (a, b, c) says that x of a is at most x of b and c -/
abbrev Mat := Nat → Nat → Option Int
abbrev Edge := Nat × Nat × Int
inductive Wlk (R : List Edge) : Nat → Nat → Int → Prop where
  | nil (a : Nat) : Wlk R a a 0
  | cons {a b c : Nat} {w t : Int} (h : (a, c, w) ∈ R) (r : Wlk R c b t) : Wlk R a b (w + t)
theorem Wlk.mono {R R' : List Edge} {a b : Nat} {t : Int} (h : Wlk R a b t) (s : ∀ e ∈ R, e ∈ R') : Wlk R' a b t := by
  induction h with
  | nil a => exact .nil a
  | cons h _ ih => exact .cons (s _ h) ih
theorem Wlk.app {R : List Edge} {a b c : Nat} {s t : Int} (h : Wlk R a b s) (r : Wlk R b c t) : Wlk R a c (s + t) := by
  induction h with
  | nil a => rw [Int.zero_add]; exact r
  | cons h _ ih => rw [Int.add_assoc]; exact .cons h (ih r)
theorem Wlk.one {R : List Edge} {a b : Nat} {w : Int} (h : (a, b, w) ∈ R) : Wlk R a b w := by
  have z := Wlk.cons h (.nil b)
  rw [Int.add_zero] at z
  exact z
def leO (o : Option Int) (z : Int) : Prop := ∃ d, o = some d ∧ d ≤ z
theorem leO.le {o : Option Int} {x y : Int} (h : leO o x) (l : x ≤ y) : leO o y := by
  obtain ⟨d, e, q⟩ := h
  exact ⟨d, e, by omega⟩
def lesserF (old : Option Int) (way : Int) (more : Option Int) : Option Int := match more with
  | none => old
  | some m => match old with
    | none => some (way + m)
    | some o => if o ≤ way + m then some o else some (way + m)
def leB (o : Option Int) (c : Int) : Bool := match o with
  | some t => decide (t ≤ c)
  | none => false
def ltB (o : Option Int) (c : Int) : Bool := match o with
  | some t => decide (t + c < 0)
  | none => false
theorem leB_tt {o : Option Int} {c : Int} (h : leB o c = true) : leO o c := by
  cases o with
  | none => cases h
  | some t => exact ⟨t, rfl, of_decide_eq_true h⟩
def knownF (D : Mat) (i j : Nat) (c : Int) : Option Bool :=
  if leB (D i j) c = true then some true else if ltB (D j i) c = true then some false else none
def stepF (D : Mat) (i j : Nat) (c : Int) : Mat := fun a b => match D a i with
  | none => D a b
  | some w => lesserF (D a b) (w + c) (D j b)
def tightF (D : Mat) (i j : Nat) (c : Int) : Option Mat := match knownF D i j c with
  | some true => some D
  | some false => none
  | none => some (stepF D i j c)
def openF : Mat := fun a b => if a = b then some 0 else none
def closedF : List Edge → Mat → Option Mat
  | [], D => some D
  | (i, j, c) :: R, D => match tightF D i j c with
    | none => none
    | some D' => closedF R D'
structure Clo (R : List Edge) (m : Nat) (D : Mat) : Prop where
  ed : ∀ e ∈ R, e.1 ≤ m ∧ e.2.1 ≤ m
  w : ∀ a b d, D a b = some d → Wlk R a b d
  z : ∀ a, a ≤ m → D a a = some 0
  t : ∀ a b c x y, a ≤ m → b ≤ m → c ≤ m → D a c = some x → D c b = some y → leO (D a b) (x + y)
  e : ∀ e ∈ R, leO (D e.1 e.2.1) e.2.2
theorem clo_open (m : Nat) : Clo [] m openF := by
  refine ⟨fun e h => absurd h (by simp), fun a b d h => ?_, fun a _ => if_pos rfl, fun a b c x y _ _ _ h1 h2 => ?_, fun e h => absurd h (by simp)⟩
  · unfold openF at h
    split at h
    · rename_i e; cases h; rw [e]; exact .nil _
    · cases h
  · unfold openF at h1 h2 ⊢
    split at h1
    · rename_i e1
      split at h2
      · rename_i e2; cases h1; cases h2; exact ⟨0, if_pos (e1.trans e2), by decide⟩
      · cases h2
    · cases h1
theorem Clo.walk {R : List Edge} {m : Nat} {D : Mat} (C : Clo R m D) {a b : Nat} {t : Int} (h : Wlk R a b t) (hb : b ≤ m) (ha : a ≤ m) : leO (D a b) t := by
  induction h with
  | nil a => exact ⟨0, C.z a ha, Int.le_refl _⟩
  | cons h _ ih =>
    have hc := C.ed _ h
    obtain ⟨y, ey, ly⟩ := ih hb hc.2
    obtain ⟨x, ex, lx⟩ := C.e _ h
    exact (C.t _ _ _ _ _ hc.1 hb hc.2 ex ey).le (by simp only at lx; omega)
theorem Clo.noneg {R : List Edge} {m : Nat} {D : Mat} (C : Clo R m D) {a : Nat} {t : Int} (h : Wlk R a a t) (ha : a ≤ m) : 0 ≤ t := by
  obtain ⟨d, e, l⟩ := C.walk h ha ha
  rw [C.z a ha] at e
  cases e
  exact l
theorem lesser_le {o : Option Int} {w : Int} {m : Option Int} {d : Int} (h : o = some d) : leO (lesserF o w m) d := by
  subst h
  cases m with
  | none => exact ⟨d, rfl, Int.le_refl _⟩
  | some m =>
    show leO (if d ≤ w + m then some d else some (w + m)) d
    split
    · exact ⟨d, rfl, Int.le_refl _⟩
    · exact ⟨_, rfl, by omega⟩
theorem lesser_via {o : Option Int} {w : Int} {m : Option Int} {y : Int} (h : m = some y) : leO (lesserF o w m) (w + y) := by
  subst h
  cases o with
  | none => exact ⟨_, rfl, Int.le_refl _⟩
  | some d =>
    show leO (if d ≤ w + y then some d else some (w + y)) (w + y)
    split
    · exact ⟨d, rfl, by assumption⟩
    · exact ⟨_, rfl, Int.le_refl _⟩
theorem lesser_eq {o : Option Int} {w : Int} {m : Option Int} {d : Int} (h : lesserF o w m = some d) : o = some d ∨ ∃ y, m = some y ∧ d = w + y := by
  cases m with
  | none => exact .inl h
  | some y =>
    cases o with
    | none => cases h; exact .inr ⟨y, rfl, rfl⟩
    | some x =>
      have h' : (if x ≤ w + y then some x else some (w + y)) = some d := h
      split at h'
      · exact .inl h'
      · cases h'; exact .inr ⟨y, rfl, rfl⟩
theorem step_le {D : Mat} {i j : Nat} {c : Int} {a b : Nat} {d : Int} (h : D a b = some d) : leO (stepF D i j c a b) d := by
  unfold stepF
  cases D a i with
  | none => exact ⟨d, h, Int.le_refl _⟩
  | some w => exact lesser_le h
theorem step_via {D : Mat} {i j : Nat} {c : Int} {a b : Nat} {x y : Int} (h1 : D a i = some x) (h2 : D j b = some y) : leO (stepF D i j c a b) (x + c + y) := by
  unfold stepF
  rw [h1]
  exact lesser_via h2
theorem step_eq {D : Mat} {i j : Nat} {c : Int} {a b : Nat} {d : Int} (h : stepF D i j c a b = some d) : D a b = some d ∨ ∃ x y, D a i = some x ∧ D j b = some y ∧ d = x + c + y := by
  unfold stepF at h
  cases e : D a i with
  | none => rw [e] at h; exact .inl h
  | some w =>
    rw [e] at h
    rcases lesser_eq h with z | ⟨y, z, q⟩
    · exact .inl z
    · exact .inr ⟨w, y, rfl, z, q⟩
theorem known_no {D : Mat} {i j : Nat} {c : Int} (h : knownF D i j c = none) : ∀ b, D j i = some b → 0 ≤ b + c := by
  intro b hb
  unfold knownF at h
  by_cases h1 : leB (D i j) c = true
  · rw [if_pos h1] at h; cases h
  · rw [if_neg h1] at h
    by_cases h2 : ltB (D j i) c = true
    · rw [if_pos h2] at h; cases h
    · rw [hb] at h2
      have h3 : ¬ decide (b + c < 0) = true := h2
      simp only [decide_eq_true_eq] at h3
      omega
theorem known_tt {D : Mat} {i j : Nat} {c : Int} (h : knownF D i j c = some true) : leO (D i j) c := by
  unfold knownF at h
  by_cases h1 : leB (D i j) c = true
  · exact leB_tt h1
  · rw [if_neg h1] at h
    by_cases h2 : ltB (D j i) c = true
    · rw [if_pos h2] at h; cases h
    · rw [if_neg h2] at h; cases h
theorem known_ff {D : Mat} {i j : Nat} {c : Int} (h : knownF D i j c = some false) : ∃ b, D j i = some b ∧ b + c < 0 := by
  unfold knownF at h
  by_cases h1 : leB (D i j) c = true
  · rw [if_pos h1] at h; cases h
  · rw [if_neg h1] at h
    by_cases h2 : ltB (D j i) c = true
    · cases e : D j i with
      | none => rw [e] at h2; cases h2
      | some t => rw [e] at h2; exact ⟨t, rfl, of_decide_eq_true h2⟩
    · rw [if_neg h2] at h; cases h
theorem Clo.tight {R : List Edge} {m : Nat} {D : Mat} (C : Clo R m D) {i j : Nat} {c : Int} (hi : i ≤ m) (hj : j ≤ m) {D' : Mat} (h : tightF D i j c = some D') : Clo (R ++ [(i, j, c)]) m D' := by
  have sub : ∀ e ∈ R, e ∈ R ++ [(i, j, c)] := fun e he => List.mem_append_left _ he
  have ed : ∀ e ∈ R ++ [(i, j, c)], e.1 ≤ m ∧ e.2.1 ≤ m := fun e he => by
    rcases List.mem_append.mp he with z | z
    · exact C.ed e z
    · rw [List.mem_singleton.mp z]; exact ⟨hi, hj⟩
  unfold tightF at h
  split at h
  · rename_i hk
    cases h
    refine ⟨ed, fun a b d q => (C.w a b d q).mono sub, C.z, C.t, fun e he => ?_⟩
    rcases List.mem_append.mp he with z | z
    · exact C.e e z
    · rw [List.mem_singleton.mp z]; exact known_tt hk
  · cases h
  · rename_i hk
    cases h
    have nn := known_no hk
    refine ⟨ed, fun a b d q => ?_, fun a ha => ?_, fun a b k x y ha hb hk' hx hy => ?_, fun e he => ?_⟩
    · rcases step_eq q with z | ⟨x, y, hx, hy, rfl⟩
      · exact (C.w a b d z).mono sub
      · have h1 := (C.w _ _ _ hx).mono sub
        have h2 := (C.w _ _ _ hy).mono sub
        have h3 := (h1.app (Wlk.one (List.mem_append_right R (List.mem_singleton.mpr rfl)))).app h2
        exact h3
    · obtain ⟨d, e, l⟩ := step_le (i := i) (j := j) (c := c) (C.z a ha)
      rcases step_eq e with z | ⟨x, y, hx, hy, rfl⟩
      · rw [C.z a ha] at z; cases z; exact e
      · obtain ⟨b, hb, lb⟩ := C.t j i a _ _ hj hi ha hy hx
        have := nn b hb
        have z : x + c + y = 0 := by omega
        rw [z] at e
        exact e
    · rcases step_eq hx with zx | ⟨x1, y1, hx1, hy1, rfl⟩
      · rcases step_eq hy with zy | ⟨x2, y2, hx2, hy2, rfl⟩
        · obtain ⟨d, e, l⟩ := C.t a b k _ _ ha hb hk' zx zy
          exact (step_le e).le l
        · obtain ⟨d, e, l⟩ := C.t a i k _ _ ha hi hk' zx hx2
          exact (step_via e hy2).le (by omega)
      · rcases step_eq hy with zy | ⟨x2, y2, hx2, hy2, rfl⟩
        · obtain ⟨d, e, l⟩ := C.t j b k _ _ hj hb hk' hy1 zy
          exact (step_via hx1 e).le (by omega)
        · obtain ⟨d, e, l⟩ := C.t j i k _ _ hj hi hk' hy1 hx2
          have := nn d e
          exact (step_via hx1 hy2).le (by omega)
    · rcases List.mem_append.mp he with z | z
      · obtain ⟨d, q, l⟩ := C.e e z
        exact (step_le q).le l
      · rw [List.mem_singleton.mp z]
        exact (step_via (C.z i hi) (C.z j hj)).le (by simp)
theorem Clo.untight {R : List Edge} {m : Nat} {D : Mat} (C : Clo R m D) {i j : Nat} {c : Int} (h : tightF D i j c = none) : ∃ t, t < 0 ∧ Wlk (R ++ [(i, j, c)]) i i t := by
  unfold tightF at h
  split at h
  · cases h
  · rename_i hk
    obtain ⟨b, hb, l⟩ := known_ff hk
    refine ⟨c + b, by omega, .cons (List.mem_append_right R (List.mem_singleton.mpr rfl)) ((C.w _ _ _ hb).mono fun e he => List.mem_append_left _ he)⟩
  · cases h
theorem closed_ok {m : Nat} : ∀ (R R0 : List Edge) (D : Mat), Clo R0 m D → (∀ e ∈ R, e.1 ≤ m ∧ e.2.1 ≤ m) → (∀ D', closedF R D = some D' → Clo (R0 ++ R) m D') ∧ (closedF R D = none → ∃ a t, a ≤ m ∧ t < 0 ∧ Wlk (R0 ++ R) a a t)
  | [], R0, D, C, _ => ⟨fun D' h => (by cases h; rw [List.append_nil]; exact C), fun h => (by cases h)⟩
  | (i, j, c) :: R, R0, D, C, hR => by
    have h1 := hR (i, j, c) List.mem_cons_self
    have h2 : ∀ e ∈ R, e.1 ≤ m ∧ e.2.1 ≤ m := fun e he => hR e (List.mem_cons_of_mem _ he)
    have ea : R0 ++ (i, j, c) :: R = (R0 ++ [(i, j, c)]) ++ R := by simp
    cases e : tightF D i j c with
    | none =>
      have ec : closedF ((i, j, c) :: R) D = none := by unfold closedF; rw [e]
      refine ⟨fun D' h => (by rw [ec] at h; cases h), fun _ => ?_⟩
      obtain ⟨t, l, wk⟩ := C.untight e
      exact ⟨i, t, h1.1, l, by rw [ea]; exact wk.mono fun e he => List.mem_append_left _ he⟩
    | some D2 =>
      have ec : closedF ((i, j, c) :: R) D = closedF R D2 := by conv => lhs; unfold closedF; rw [e]
      rw [ec, ea]
      exact closed_ok R (R0 ++ [(i, j, c)]) D2 (C.tight h1.1 h1.2 e) h2
theorem closed_some {m : Nat} {R : List Edge} (hR : ∀ e ∈ R, e.1 ≤ m ∧ e.2.1 ≤ m) {D : Mat} (h : closedF R openF = some D) : Clo R m D := (closed_ok R [] openF (clo_open m) hR).1 D h
theorem closed_none {m : Nat} {R : List Edge} (hR : ∀ e ∈ R, e.1 ≤ m ∧ e.2.1 ≤ m) (h : closedF R openF = none) : ∃ a t, a ≤ m ∧ t < 0 ∧ Wlk R a a t := (closed_ok R [] openF (clo_open m) hR).2 h
theorem closed_snoc : ∀ (R : List Edge) (D : Mat) (e : Edge), closedF (R ++ [e]) D = match closedF R D with | none => none | some D' => tightF D' e.1 e.2.1 e.2.2
  | [], D, (i, j, c) => by
    show (match tightF D i j c with | none => none | some D' => some D') = tightF D i j c
    cases tightF D i j c <;> rfl
  | (i, j, c) :: R, D, e => by
    show (match tightF D i j c with | none => none | some D' => closedF (R ++ [e]) D') = match (match tightF D i j c with | none => none | some D' => closedF R D') with | none => none | some D' => tightF D' e.1 e.2.1 e.2.2
    cases tightF D i j c with
    | none => rfl
    | some D' => exact closed_snoc R D' e
/-- numbers keep the rows -/
def KeepsF (x : Nat → Int) (R : List Edge) : Prop := ∀ e ∈ R, x e.1 ≤ x e.2.1 + e.2.2
theorem Wlk.keeps {R : List Edge} {x : Nat → Int} (h : KeepsF x R) {a b : Nat} {t : Int} (w : Wlk R a b t) : x a ≤ x b + t := by
  induction w with
  | nil a => omega
  | cons e _ ih => have := h _ e; simp only at this; omega
/-- low a: the least that stands in the row of a -/
def IsLow (D : Mat) (m a : Nat) (l : Int) : Prop := (∀ b, b ≤ m → ∀ d, D a b = some d → l ≤ d) ∧ ∃ b, b ≤ m ∧ D a b = some l
theorem point_keeps {R : List Edge} {m : Nat} {D : Mat} (C : Clo R m D) {low : Nat → Int} (hl : ∀ a, a ≤ m → IsLow D m a (low a)) (z : Int) : KeepsF (fun a => low a - z) R := fun e he => by
  obtain ⟨h1, h2⟩ := C.ed e he
  obtain ⟨x, ex, lx⟩ := C.e e he
  obtain ⟨k, hk, ek⟩ := (hl _ h2).2
  obtain ⟨d, ed, ld⟩ := C.t _ _ _ _ _ h1 hk h2 ex ek
  have := (hl _ h1).1 k hk d ed
  show low e.1 - z ≤ low e.2.1 - z + e.2.2
  omega
/-! ### sums lowered along rows, turn by turn -/
abbrev Sums := Nat → Option Int
def stE (p : Sums × Bool) (e : Edge) : Sums × Bool := match p.1 e.2.1 with
  | none => p
  | some y => match p.1 e.1 with
    | none => (fun k => if k = e.1 then some (y + e.2.2) else p.1 k, true)
    | some x => if y + e.2.2 < x then (fun k => if k = e.1 then some (y + e.2.2) else p.1 k, true) else p
def turnF (R : List Edge) (S : Sums) : Sums × Bool := R.foldl stE (S, false)
def itF (R : List Edge) (S : Sums) : Nat → Sums × Bool
  | 0 => (S, false)
  | n + 1 => turnF R (itF R S n).1
def s0F (b : Nat) : Sums := fun k => if k = b then some 0 else none
theorem turn_still : ∀ (R : List Edge) (p : Sums × Bool), (R.foldl stE p).2 = false → p.2 = false ∧ R.foldl stE p = p ∧ ∀ e ∈ R, ∀ y, p.1 e.2.1 = some y → leO (p.1 e.1) (y + e.2.2)
  | [], p, h => ⟨h, rfl, fun e he => absurd he (by simp)⟩
  | e :: R, p, h => by
    obtain ⟨h1, h2, h3⟩ := turn_still R (stE p e) h
    have hp : stE p e = p ∧ ∀ y, p.1 e.2.1 = some y → leO (p.1 e.1) (y + e.2.2) := by
      unfold stE at h1 ⊢
      cases ej : p.1 e.2.1 with
      | none => exact ⟨rfl, fun y hy => by cases hy⟩
      | some y =>
        rw [ej] at h1
        cases ei : p.1 e.1 with
        | none => rw [ei] at h1; cases h1
        | some x =>
          rw [ei] at h1
          simp only at h1 ⊢
          split at h1
          · cases h1
          · rename_i hlt
            rw [if_neg hlt]
            exact ⟨rfl, fun y' hy' => ⟨x, rfl, by cases hy'; omega⟩⟩
    rw [hp.1] at h1 h2 h3
    refine ⟨h1, ?_, fun e' he' => ?_⟩
    · show R.foldl stE (stE p e) = p
      rw [hp.1]; exact h2
    · rcases List.mem_cons.mp he' with rfl | z
      · exact hp.2
      · exact h3 e' z
/-- what stands in the sums are walks to b -/
def WS (R : List Edge) (b : Nat) (S : Sums) : Prop := (∀ a d, S a = some d → Wlk R a b d) ∧ leO (S b) 0
theorem WS.s0 (R : List Edge) (b : Nat) : WS R b (s0F b) := by
  refine ⟨fun a d h => ?_, 0, if_pos rfl, Int.le_refl _⟩
  unfold s0F at h
  split at h
  · rename_i e; cases h; rw [e]; exact .nil _
  · cases h
theorem WS.st {R : List Edge} {b : Nat} {p : Sums × Bool} {e : Edge} (h : WS R b p.1) (he : e ∈ R) : WS R b (stE p e).1 := by
  unfold stE
  cases ej : p.1 e.2.1 with
  | none => exact h
  | some y =>
    have wn : Wlk R e.1 b (y + e.2.2) := by
      have z := Wlk.cons (show (e.1, e.2.1, e.2.2) ∈ R from he) (h.1 _ _ ej)
      rw [Int.add_comm] at z
      exact z
    have put : ∀ (hb : e.1 = b → y + e.2.2 ≤ 0), WS R b (fun k => if k = e.1 then some (y + e.2.2) else p.1 k) := fun hb => by
      refine ⟨fun a d q => ?_, ?_⟩
      · simp only at q
        split at q
        · rename_i ea; cases q; rw [ea]; exact wn
        · exact h.1 a d q
      · simp only
        split
        · rename_i eb; exact ⟨_, rfl, hb eb.symm⟩
        · exact h.2
    cases ei : p.1 e.1 with
    | none =>
      refine put fun eb => ?_
      rw [eb] at ei
      obtain ⟨d, z, _⟩ := h.2
      rw [ei] at z; cases z
    | some x =>
      simp only
      split
      · rename_i lt
        refine put fun eb => ?_
        rw [eb] at ei
        obtain ⟨d, z, l⟩ := h.2
        rw [ei] at z; cases z
        omega
      · exact h
theorem WS.fold {R : List Edge} {b : Nat} : ∀ (l : List Edge) (p : Sums × Bool), (∀ e ∈ l, e ∈ R) → WS R b p.1 → WS R b (l.foldl stE p).1
  | [], _, _, h => h
  | e :: l, p, s, h => WS.fold l (stE p e) (fun e' he' => s e' (List.mem_cons_of_mem _ he')) (h.st (s e List.mem_cons_self))
theorem WS.it {R : List Edge} {b : Nat} : ∀ n, WS R b (itF R (s0F b) n).1
  | 0 => WS.s0 R b
  | n + 1 => WS.fold R ((itF R (s0F b) n).1, false) (fun _ h => h) (WS.it n)
theorem still_walk {R : List Edge} {S : Sums} (hf : ∀ e ∈ R, ∀ y, S e.2.1 = some y → leO (S e.1) (y + e.2.2)) {a b : Nat} {t y : Int} (w : Wlk R a b t) (hb : S b = some y) : leO (S a) (y + t) := by
  induction w with
  | nil a => exact ⟨y, hb, by omega⟩
  | cons h _ ih =>
    obtain ⟨d, e, l⟩ := ih hb
    exact (hf _ h d e).le (by simp only; omega)
/-- no turn fell: then the sums stand still -/
theorem it_still {R : List Edge} {S : Sums} {n : Nat} (h : (itF R S (n + 1)).2 = false) : ∀ e ∈ R, ∀ y, (itF R S (n + 1)).1 e.2.1 = some y → leO ((itF R S (n + 1)).1 e.1) (y + e.2.2) := by
  obtain ⟨_, h2, h3⟩ := turn_still R ((itF R S n).1, false) h
  have e : (itF R S (n + 1)).1 = (itF R S n).1 := congrArg (·.1) h2
  rw [e]
  exact h3
theorem down_eq {R : List Edge} {m : Nat} {D : Mat} (C : Clo R m D) {a b n : Nat} (ha : a ≤ m) (hb : b ≤ m) (h : (itF R (s0F b) (n + 1)).2 = false) : (itF R (s0F b) (n + 1)).1 a = D a b := by
  have st := it_still h
  have ws := WS.it (R := R) (b := b) (n + 1)
  obtain ⟨y, ey, ly⟩ := ws.2
  cases e : D a b with
  | none =>
    cases e2 : (itF R (s0F b) (n + 1)).1 a with
    | none => rfl
    | some x =>
      obtain ⟨d, z, _⟩ := C.walk (ws.1 a x e2) hb ha
      rw [e] at z; cases z
  | some d =>
    obtain ⟨x, ex, lx⟩ := still_walk st (C.w a b d e) ey
    obtain ⟨d', z, l'⟩ := C.walk (ws.1 a x ex) hb ha
    rw [e] at z; cases z
    rw [ex]
    have : x = d := by omega
    rw [this]
theorem still_noneg {R : List Edge} {m n : Nat} (h : ∀ b, b ≤ m → (itF R (s0F b) (n + 1)).2 = false) {a : Nat} (ha : a ≤ m) {t : Int} (w : Wlk R a a t) : 0 ≤ t := by
  have st := it_still (h a ha)
  obtain ⟨y, ey, ly⟩ := (WS.it (R := R) (b := a) (n + 1)).2
  obtain ⟨x, ex, lx⟩ := still_walk st w ey
  rw [ey] at ex; cases ex
  omega
theorem still_closed {R : List Edge} {m n : Nat} (hR : ∀ e ∈ R, e.1 ≤ m ∧ e.2.1 ≤ m) (h : ∀ b, b ≤ m → (itF R (s0F b) (n + 1)).2 = false) : ∃ D, closedF R openF = some D ∧ Clo R m D := by
  cases e : closedF R openF with
  | none =>
    obtain ⟨a, t, ha, l, w⟩ := closed_none hR e
    have := still_noneg h ha w
    omega
  | some D => exact ⟨D, rfl, closed_some hR e⟩
/-- a number's place -/
def pl (m : Nat) (i : Int) : Nat := if i = -1 then m else i.toNat
theorem pl_le {m : Nat} {i : Int} (h1 : -1 ≤ i) (h2 : i < m) : pl m i ≤ m := by unfold pl; split <;> omega
end Lm

set_option Elab.async false
set_option linter.all false
set_option maxRecDepth 100000
set_option maxHeartbeats 2000000
namespace Lm
open PySem PySem.Spec PyProof.Rows L2 LmR
/-! ### own classes: their methods, their making -/
structure ClsAt (K : PySem.W.Frag) (mg : Str → Option Value) (x : Str) (C : Addr) (fs : List Str) : Prop where
  g : mg x = some (.ref C)
  c : Cls K C
  n : ∀ f ∈ fs, NoAttr K C f
def DefM (K : PySem.W.Frag) (C : Addr) (m q : Str) (st : Stmt) (ps : List Str) : Prop := ∃ f fd, Fun K m q st f fd ∧ Meth K C m f ∧ Binds K fd ps []
def CalM (P : Program) (w : World) (K : PySem.W.Frag) (mg : Str → Option Value) (base : Heap) (k : Nat) (C : Addr) (m : Str) (ps : List Str) (sp : Sp) : Prop :=
  ∃ f fd, FnOk P w K mg base CX0 k f fd ps sp ∧ Meth K C m f ∧ Binds K fd ps []
section
variable {P : Program} {w : World} {K : PySem.W.Frag} {mg : Str → Option Value} {base : Heap}
theorem CalM.mono {j k : Nat} {C : Addr} {m : Str} {ps : List Str} {sp : Sp} (c : CalM P w K mg base j C m ps sp) (h : j ≤ k) : CalM P w K mg base k C m ps sp := by
  obtain ⟨f, fd, F, g⟩ := c
  exact ⟨f, fd, F.mono h, g⟩
theorem calm_of {C : Addr} {m q : Str} {st : Stmt} {N ps : List Str} {k : Nat} {sp : Sp} (D : DefM K C m q st ps) (S : FnScope N ps (defScope st)) (len : ∀ vs H Q E, sp vs H Q E → vs.length = ps.length)
    (hbody : ∀ (f : Addr) (cdv : Value) (A : Around) (outer : List Env) (s : Shared) (H : Hp) (vs : List V) (Q : VK) (E : XK), Room k (A.deeper (envOfC q (defScope st) s.heap.objs.size f cdv)) → sp vs H Q E →
      ∃ t, PSs (cxOf CX0 P w K mg base N q (defScope st) f cdv A outer s H E).nox (defBody st) t ∧ t { nx := fun _ H' => Q .non H', rt := Q } (start N vs) H) : CalM P w K mg base (k + 1) C m ps sp := by
  obtain ⟨f, fd, F, g, b⟩ := D
  exact ⟨f, fd, F.ok S len (hbody f), g, b⟩
end
section
variable {X : Cx}
theorem pe_calM {k : Nat} {C : Addr} {m : Str} {ps : List Str} {sp : Sp} {o e : Expr} {es : List Expr} {to : TE} {t : TA} {apos pos : Pos} {pl : Sem Bool} (C' : CalM X.prog X.w X.K X.mg X.base k C m ps sp) (c : Cls X.K C) (hr : Room k X.A) (ho : PE X o to) (ha : PA X (e :: es) t)
    (ht : eval (.Call (.Attribute o m apos) (e :: es) [] pos) X.env = (do
      let ov ← eval o X.env
      standAt apos.atName
      let (f, first) ← holding [ov] (getMethod ov m pl)
      callWith pos f first (backTo pos (starEach (e :: es) X.env)) (backToKw pos (keywordEach [] X.env))) := by rfl)
    (he : starEach (e :: es) X.env = (false, eval e X.env) :: starEach es X.env := by rfl) (hpl : (backTo pos (starEach es X.env)).any (·.1) = false := by rfl) :
    PE X (.Call (.Attribute o m apos) (e :: es) [] pos) (tMeth C m sp [] (fun _ _ _ => False) to t) := by
  obtain ⟨f, fd, F, g, b⟩ := C'
  exact pe_meth ho c g F hr b .nil pass0 ha he hpl ht
theorem pe_calM0 {k : Nat} {C : Addr} {m : Str} {ps : List Str} {sp : Sp} {o : Expr} {to : TE} {apos pos : Pos} {pl : Sem Bool} (C' : CalM X.prog X.w X.K X.mg X.base k C m ps sp) (c : Cls X.K C) (hr : Room k X.A) (ho : PE X o to)
    (ht : eval (.Call (.Attribute o m apos) [] [] pos) X.env = (do
      let ov ← eval o X.env
      standAt apos.atName
      let (f, first) ← holding [ov] (getMethod ov m pl)
      callWith pos f first (backTo pos (starEach [] X.env)) (backToKw pos (keywordEach [] X.env))) := by rfl) :
    PE X (.Call (.Attribute o m apos) [] [] pos) (tMeth C m sp [] (fun _ _ _ => False) to tNil) := by
  obtain ⟨f, fd, F, g, b⟩ := C'
  exact pe_meth0 ho c g F hr b .nil pass0 ht
end
/-! ### C(e, ..), __init__ with a default behind -/
/-- n values (self among them) are written, ds fill up -/
def DefI (K : PySem.W.Frag) (mg : Str → Option Value) (C : Addr) (x q : Str) (st : Stmt) (ps : List Str) (dvs : List V) (n : Nat) : Prop :=
  ∃ f fd, FunD K "__init__" q (defArgs st) (defBody st) (defScope st) dvs [] f fd ∧ Mk K C f ∧ mg x = some (.ref C) ∧ ∃ ds, Vals (dvs.drop n) ds ∧ Binds K fd ps ds
def CalI (P : Program) (w : World) (K : PySem.W.Frag) (mg : Str → Option Value) (base : Heap) (k : Nat) (C : Addr) (x : Str) (ps : List Str) (dvs : List V) (n : Nat) (sp : Sp) : Prop :=
  ∃ f fd, FnOk P w K mg base CX0 k f fd ps sp ∧ Mk K C f ∧ mg x = some (.ref C) ∧ (∃ ds, Vals (dvs.drop n) ds ∧ Binds K fd ps ds) ∧ ∃ q pa bo sc, FunD K "__init__" q pa bo sc dvs [] f fd
section
variable {P : Program} {w : World} {K : PySem.W.Frag} {mg : Str → Option Value} {base : Heap}
theorem CalI.mono {j k n : Nat} {C : Addr} {x : Str} {ps : List Str} {dvs : List V} {sp : Sp} (c : CalI P w K mg base j C x ps dvs n sp) (h : j ≤ k) : CalI P w K mg base k C x ps dvs n sp := by
  obtain ⟨f, fd, F, g⟩ := c
  exact ⟨f, fd, F.mono h, g⟩
theorem cali_of {C : Addr} {x q : Str} {st : Stmt} {N ps : List Str} {k n : Nat} {dvs : List V} {sp : Sp} (D : DefI K mg C x q st ps dvs n) (S : FnScope N ps (defScope st)) (len : ∀ vs H Q E, sp vs H Q E → vs.length = ps.length)
    (hbody : ∀ (f : Addr) (cdv : Value) (A : Around) (outer : List Env) (s : Shared) (H : Hp) (vs : List V) (Q : VK) (E : XK), Room k (A.deeper (envOfC q (defScope st) s.heap.objs.size f cdv)) → sp vs H Q E →
      ∃ t, PSs (cxOf CX0 P w K mg base N q (defScope st) f cdv A outer s H E).nox (defBody st) t ∧ t { nx := fun _ H' => Q .non H', rt := Q } (start N vs) H) : CalI P w K mg base (k + 1) C x ps dvs n sp := by
  obtain ⟨f, fd, F, g1, g2, g3⟩ := D
  refine ⟨f, fd, F.ok S len (fun cdv A outer s H vs Q E hr hsp => ?_), g1, g2, g3, _, _, _, _, F⟩
  obtain ⟨t, h, q⟩ := hbody f cdv A outer s H vs Q E hr hsp
  exact ⟨t, h.nox, q⟩
end
theorem pe_calI {X : Cx} {k n : Nat} {C : Addr} {x : Str} {ps : List Str} {dvs : List V} {sp : Sp} {e : Expr} {es : List Expr} {t : TA} {p pos : Pos} (C' : CalI X.prog X.w X.K X.mg X.base k C x ps dvs n sp) (hr : Room (k + 1) X.A) (hg : Gl X x) (ha : PA X (e :: es) t)
    (hdb : (x == ("__debug__" : Str)) = false := by decide) (he : starEach (e :: es) X.env = (false, eval e X.env) :: starEach es X.env := by rfl) (hpl : (backTo pos (starEach es X.env)).any (·.1) = false := by rfl) :
    PE X (.Call (.Name x p) (e :: es) [] pos) (tMake C sp (dvs.drop n) (fun _ _ _ => False) t) := by
  obtain ⟨f, fd, F, M, g, ⟨ds, hd, b⟩, _⟩ := C'
  exact pe_make M F hr hg g b hd pass0 ha hdb he hpl
def rTupK (K : PySem.W.Frag) : List V → Hp → VK → Prop := fun xs H Q => ∃ p ys, xs = [.ref p] ∧ ((SqL K H p ys ∧ ∀ l, H l = none → Q (.ref l) (upd H l (.tup ys))) ∨ (SqT K H p ys ∧ Q (.ref p) H))
theorem call_tuple_ofK {X : Cx} {K : PySem.W.Frag} (h : X.K = K) : CallR X (.type "tuple") (rTupK K) := h ▸ call_tuple_of
theorem pi_listK {X : Cx} {K : PySem.W.Frag} {tg l : Expr} {tl : TE} (h : X.K = K) (hl : PE X l tl) : PI X tg l (iList K tl) := h ▸ pi_list hl
theorem pi_tupK {X : Cx} {K : PySem.W.Frag} {tg l : Expr} {tl : TE} (h : X.K = K) (hl : PE X l tl) : PI X tg l (iTup K tl) := h ▸ pi_tup hl
theorem walk_zipT {K : PySem.W.Frag} {a b : Addr} {xs ys : List V} {n : Nat} (hn : n = min xs.length ys.length) : Walk (RZ.ItzT K a b) n (fun H => SqT K H a xs ∧ SqT K H b ys) (YPair (fun i => xs[i]?) (fun i => ys[i]?)) := by
  subst hn
  refine ⟨fun i _ hi q => ?_, fun _ q => ⟨xs, ys, q.1, q.2, by omega⟩, fun i H v H' _ q y => ?_⟩
  · have h1 : i < xs.length := by omega
    have h2 : i < ys.length := by omega
    exact ⟨xs, ys, xs[i], ys[i], q.1, q.2, by simp [h1], by simp [h2]⟩
  · obtain ⟨T, x, z, h1, h2, h3, h4, h5⟩ := y
    exact ⟨T, x, z, h1, h2, h3, h4 xs q.1, h5 ys q.2⟩
theorem pg_tupK {X : Cx} {K : PySem.W.Frag} {es : List Expr} {k : Nat} {t : TGs} {n : Nat} {pos : Pos} (hK : X.K = K) (hc : X.calm = true) (h : PGs X es t)
    (hn : (assignEach es X.env).length = n := by rfl) (hst : (assignEach es X.env).findIdx? (·.1) = none := by rfl) : PG X (.Tuple es k pos) (gTup K n t) := hK ▸ pg_tup hc h hn hst
theorem cr_minQ {X : Cx} {K : PySem.W.Frag} (h : X.K = K) (hc : X.calm = true) : CallR X (.builtin "min") (rMin K) := h ▸ cr_min hc
/-! ### for x in e, e a list or a tuple -/
section
variable {X : Cx} {tg : Expr}
def iLT (K : PySem.W.Frag) (tl : TE) : TI := fun σ H R => tl σ H fun x H1 => ∃ a, x = .ref a ∧ (((∃ xs, SqL K H1 a xs) ∧ R (Itl K a) H1) ∨ ((∃ xs, SqT K H1 a xs) ∧ R (Itt K a) H1))
theorem pi_lt {l : Expr} {tl : TE} (hl : PE X l tl) : PI X tg l (iLT X.K tl) := by
  refine ⟨fun pins s σ H R I h => ?_⟩
  refine thn (hl.run pins s σ H _ I h) fun v s1 ⟨x, H1, I1, r1, q1⟩ => ?_
  obtain ⟨a, e, q⟩ := q1
  subst e
  cases r1
  rcases q with ⟨⟨xs, hq⟩, q⟩ | ⟨⟨xs, hq⟩, q⟩
  · obtain ⟨its, rv, p, hz⟩ := I1.list hq
    refine wpAny_pyIter_list p.isList ?_
    refine ⟨s1.heap.objs.size, [s1.heap.objs.size], _, _, H1, rfl, I1.kept (t' := s1.toks) fun b o e => Heap.get?_push_of_some _ e, turn_list a _, ⟨_, Heap.get?_push_size _ rfl, rfl, rfl⟩, fun b hb => ?_, q⟩
    have e : b = s1.heap.objs.size := by simpa using hb
    subst e
    exact I1.fpOk (Nat.le_refl _) (I1.hok.fresh (Nat.le_refl _))
  · obtain ⟨its, rv, p, hz⟩ := I1.tuple hq
    refine wpAny_pyIter_tuple (show s1.heap.IsTuple a its.toArray from p) ?_
    refine ⟨s1.heap.objs.size, [s1.heap.objs.size], _, _, H1, rfl, I1.kept (t' := s1.toks) fun b o e => Heap.get?_push_of_some _ e, turn_tuple a _, ⟨_, Heap.get?_push_size _ rfl, rfl, rfl⟩, fun b hb => ?_, q⟩
    have e : b = s1.heap.objs.size := by simpa using hb
    subst e
    exact I1.fpOk (Nat.le_refl _) (I1.hok.fresh (Nat.le_refl _))
end
end Lm

set_option Elab.async false
set_option linter.all false
set_option maxRecDepth 100000
set_option maxHeartbeats 2000000
set_option pp.maxSteps 600
set_option pp.deepTerms.threshold 6
namespace Lm
open PySem PySem.Spec PyProof.Rows L2 LmR RZ
/-! ### closed bounds as data -/
def oV : Option Int → V
  | none => .non
  | some i => .int i
def oPD : Option Int → PyData
  | none => .none
  | some i => .int i
def rowV (D : Mat) (m a : Nat) : List V := (List.range (m + 1)).map fun b => oV (D a b)
def rowPD (D : Mat) (m a : Nat) : PyData := .tuple ((List.range (m + 1)).map fun b => oPD (D a b))
def cloPD (D : Mat) (m : Nat) : PyData := .tuple ((List.range (m + 1)).map fun a => rowPD D m a)
theorem oPD_flat (o : Option Int) : flat (oPD o) = true := by cases o <;> rfl
theorem flats_map {α : Type} (f : α → PyData) (h : ∀ x, flat (f x) = true) : ∀ l : List α, flat.flats (l.map f) = true
  | [] => rfl
  | x :: l => by rw [List.map_cons, flat.flats, h x, flats_map f h l]; rfl
theorem rowPD_flat (D : Mat) (m a : Nat) : flat (rowPD D m a) = true := flats_map _ (fun _ => oPD_flat _) _
theorem cloPD_flat (D : Mat) (m : Nat) : flat (cloPD D m) = true := flats_map _ (fun a => rowPD_flat D m a) _
theorem oV_dp {K : PySem.W.Frag} {H : Hp} (o : Option Int) : Dp K H (oV o) (oPD o) := by
  cases o
  · exact .non
  · exact .int _
theorem dp_oPD {K : PySem.W.Frag} {H : Hp} {v : V} {o : Option Int} (h : Dp K H v (oPD o)) : v = oV o := by
  cases o <;> cases h <;> rfl
theorem dps_oPD {K : PySem.W.Frag} {H : Hp} {α : Type} (f : α → Option Int) : ∀ {l : List α} {vs : List V}, DpAll K H vs (l.map fun x => oPD (f x)) → vs = l.map fun x => oV (f x)
  | [], _, h => by cases h; rfl
  | x :: l, _, h => by
    cases h with
    | cons a r => rw [dp_oPD a, dps_oPD f r]; rfl
theorem oVs_dp {K : PySem.W.Frag} {H : Hp} {α : Type} (f : α → Option Int) : ∀ l : List α, DpAll K H (l.map fun x => oV (f x)) (l.map fun x => oPD (f x))
  | [] => .nil
  | x :: l => .cons (oV_dp _) (oVs_dp f l)
theorem dpall_getM {K : PySem.W.Frag} {H : Hp} {α : Type} (f : α → PyData) : ∀ {l : List α} {vs : List V}, DpAll K H vs (l.map f) → vs.length = l.length ∧ ∀ (k : Nat) (x : α), l[k]? = some x → ∃ v, vs[k]? = some v ∧ Dp K H v (f x)
  | [], _, h => by cases h; exact ⟨rfl, fun k x z => by simp at z⟩
  | x :: l, _, h => by
    cases h with
    | cons a r =>
      obtain ⟨h1, h2⟩ := dpall_getM f r
      refine ⟨by rw [List.length_cons, h1]; rfl, fun k y z => ?_⟩
      cases k with
      | zero => cases z; exact ⟨_, rfl, a⟩
      | succ k => exact h2 k y z
theorem row_open {K : PySem.W.Frag} {H : Hp} {v : V} {D : Mat} {m a : Nat} (h : Dp K H v (rowPD D m a)) : ∃ r, v = .ref r ∧ SqT K H r (rowV D m a) := by
  unfold rowPD at h
  cases h with
  | tup q r =>
    have e := dps_oPD (fun b => D a b) r
    subst e
    exact ⟨_, rfl, q⟩
theorem row_mk {K : PySem.W.Frag} {H : Hp} {r : Addr} {D : Mat} {m a : Nat} (h : SqT K H r (rowV D m a)) : Dp K H (.ref r) (rowPD D m a) := .tup h (oVs_dp _ _)
/-- closed bounds that stand at v -/
theorem clo_open_at {K : PySem.W.Frag} {H : Hp} {v : V} {D : Mat} {m : Nat} (h : Fd K H v (cloPD D m)) : ∃ t rs, v = .ref t ∧ SqT K H t rs ∧ rs.length = m + 1 ∧ ∀ a, a ≤ m → ∃ r, rs[a]? = some (.ref r) ∧ SqT K H r (rowV D m a) := by
  obtain ⟨_, h⟩ := h
  unfold cloPD at h
  cases h with
  | tup q r =>
    obtain ⟨hl, hg⟩ := dpall_getM _ r
    rw [List.length_range] at hl
    refine ⟨_, _, rfl, q, hl, fun a ha => ?_⟩
    obtain ⟨v, hv, hd⟩ := hg a a (List.getElem?_range (by omega))
    obtain ⟨r, rfl, hr⟩ := row_open hd
    exact ⟨r, hv, hr⟩
theorem rowV_at (D : Mat) (m a : Nat) {b : Nat} (hb : b ≤ m) : (rowV D m a)[b]? = some (oV (D a b)) := by
  unfold rowV
  rw [List.getElem?_map, List.getElem?_range (by omega)]
  rfl
theorem rowV_len (D : Mat) (m a : Nat) : (rowV D m a).length = m + 1 := by unfold rowV; rw [List.length_map, List.length_range]
theorem at_pl {xs : List V} {m : Nat} {i : Int} {v : V} (hl : xs.length = m + 1) (h1 : -1 ≤ i) (h2 : i < m) (h : xs[pl m i]? = some v) : atI xs i = some v := by
  unfold atI ixN
  unfold pl at h
  by_cases e : i = -1
  · rw [if_pos e] at h
    rw [if_neg (by omega), if_pos (by omega)]
    have z : (i + (xs.length : Int)).toNat = m := by omega
    show xs[(i + (xs.length : Int)).toNat]? = some v
    rw [z]; exact h
  · rw [if_neg e] at h
    rw [if_pos (by omega), if_pos (by omega)]
    exact h
theorem scal_o (o : Option Int) : ∀ i : Int, oV o = .int i → o = some i := by cases o <;> intro i h <;> cases h; rfl
def oB : Option Bool → V
  | none => .non
  | some b => .bl b
theorem nonO (o : Option Int) : decide (oV o = V.non) = o.isNone := by
  cases o with
  | none => rfl
  | some i => exact decide_eq_false (fun z => by cases z)
theorem dpall_app' {K : PySem.W.Frag} {H : Hp} : ∀ {xs ys : List V} {ds es : List PyData}, DpAll K H xs ds → DpAll K H ys es → DpAll K H (xs ++ ys) (ds ++ es)
  | [], _, _, _, .nil, b => b
  | _ :: _, _, _, _, .cons a r, b => .cons a (dpall_app' r b)
section
variable {P : Program} {w : World} {K : PySem.W.Frag} {mg : Str → Option Value} {base : Heap}
abbrev s_open_bounds : Stmt := topS 20
theorem sc_open_bounds : FnScope ["many", "i", "j"] ["many"] (defScope s_open_bounds) := ⟨rfl, rfl, rfl, by decide +kernel, rfl, by decide +kernel, by decide +kernel⟩
def spOpen (K : PySem.W.Frag) : Sp := fun vs H Q _ => ∃ m : Nat, vs = [.int m] ∧ m ≤ 100 ∧ ∀ (v : V) (H' : Hp), Same H H' → Fd K H' v (cloPD openF m) → Q v H'
theorem ok_open_bounds (B : Bt mg) (D : DefAt K mg "open_bounds" s_open_bounds ["many"]) : Cal P w K mg base 1 "open_bounds" ["many"] (spOpen K) := by
  refine cal_of D sc_open_bounds (fun vs H Q E h => ?_) (fun f cdv A outer s H vs Q E hr h => ?_)
  · obtain ⟨m, rfl, _⟩ := h
    rfl
  obtain ⟨m, rfl, hm, q⟩ := h
  refine ⟨_, (pss_one (ps_ret (pe_callTy call_tuple_of (by rfl) B.tuple PyProof.Rows.boot_tuple (pa_cons (pe_lc (own := [("i", 1)]) (g := gName 1) rfl sc_open_bounds.nd (pi_range1 (by rfl) B.range (pa_cons (pe_op op_add (pv 0) pe_int) pa_nil)) (blkOk_by (own := [("i", 1)]) (N := ["many", "i", "j"]) (sc := defScope s_open_bounds) (by decide +kernel)) (fun _ _ _ _ _ => (pg_name (i := 1) sc_open_bounds.nd rfl (.inr rfl))) (fun _ _ _ _ _ => pts_nil) (fun _ _ _ _ _ => (pe_callTy (call_tuple_ofK (K := K) rfl) (by rfl) B.tuple PyProof.Rows.boot_tuple (pa_cons (pe_lc (own := [("j", 2)]) (g := gName 2) rfl sc_open_bounds.nd (pi_range1 (by rfl) B.range (pa_cons (pe_op op_add (pv 0) pe_int) pa_nil)) (blkOk_by (own := [("j", 2)]) (N := ["many", "i", "j"]) (by rfl)) (fun _ _ _ _ _ => (pg_name (i := 2) sc_open_bounds.nd rfl (.inl rfl))) (fun _ _ _ _ _ => pts_nil) (fun _ _ _ _ _ => (pe_ifExp (pt_cmpR op_eq (pv 1) (pv 2) (nomark _)) pe_int pe_non))) pa_nil)))) pa_nil)))), ?_⟩
  have n1 : ((m : Int) + 1).toNat = m + 1 := by omega
  refine ⟨_, rfl, _, _, rfl, rfl, (m : Int) + 1, rfl, by omega, by omega, fun D hD => lc_range (lo := 0) (n := ((m : Int) + 1).toNat) (fun i H' => Same H H' ∧ ∃ us, H' D = some (.lst us) ∧ us.length = i ∧ DpAll K H' us ((List.range i).map fun a => rowPD openF m a)) ?_ ?_ ?_⟩
  · exact ⟨same_new hD, [], upd_same, rfl, .nil⟩
  · rintro i H' hi ⟨s', us, hD', ul, hus⟩
    refine ⟨rfl, _, rfl, _, _, rfl, rfl, (m : Int) + 1, rfl, by omega, by omega, fun D2 hD2 => lc_range (lo := 0) (n := ((m : Int) + 1).toNat) (fun j H2 => Same H' H2 ∧ H2 D2 = some (.lst ((List.range j).map fun b => oV (openF i b)))) ?_ ?_ ?_⟩
    · exact ⟨same_new hD2, by rw [upd_same]; rfl⟩
    · rintro j H2 hj ⟨s2, hD2'⟩
      have fin : ∀ o : Option Int, openF i j = o → ∃ acc, H2 D2 = some (.lst acc) ∧ acc.length < sizeLine ∧ (Same H' (upd H2 D2 (.lst (acc ++ [oV o]))) ∧ (upd H2 D2 (.lst (acc ++ [oV o]))) D2 = some (.lst ((List.range (j + 1)).map fun b => oV (openF i b)))) := fun o ho => by
        refine ⟨_, hD2', by rw [List.length_map, List.length_range]; exact smallL (by omega), fun b u z => ?_, ?_⟩
        · rw [upd_ne (ne_of_none z hD2)]
          exact s2 _ _ z
        · rw [upd_same, List.range_succ, List.map_append, ← ho]
          rfl
      refine ⟨rfl, _, rfl, _, rfl, rfl, _, rfl, ite2 (fun c => ?_) (fun c => ?_)⟩
      · have e : i = j := by
          have z := V.int.inj (of_decide_eq_true c)
          omega
        exact fin (some 0) (if_pos e)
      · exact fin none (if_neg fun e => c (decide_eq_true (by rw [e])))
    · rintro H3 ⟨s3, hD3⟩
      rw [n1] at hD3
      refine ⟨D2, _, rfl, .inl ⟨SqL.of hD3, fun t ht => ?_⟩⟩
      have s4 : Same H' (upd H3 t (.tup ((List.range (m + 1)).map fun b => oV (openF i b)))) := s3.trans (same_new ht)
      have e4 : (upd H3 t (.tup ((List.range (m + 1)).map fun b => oV (openF i b)))) t = some (.tup (rowV openF m i)) := upd_same
      generalize upd H3 t (.tup ((List.range (m + 1)).map fun b => oV (openF i b))) = H4 at s4 e4
      have hD4 := s4 _ _ hD'
      have t5 : Tp K H4 (upd H4 D (.lst (us ++ [.ref t]))) := Tp.lst hD4
      refine ⟨us, hD4, smallL (by omega), fun b u z => ?_, us ++ [.ref t], upd_same, by rw [List.length_append, ul]; rfl, ?_⟩
      · rw [upd_ne (ne_of_none z hD)]
        exact s4 _ _ (s' _ _ z)
      · rw [List.range_succ, List.map_append]
        exact dpall_app' (dps_keep ((Tp.same s4).trans t5) _ _ (flats_map _ (fun a => rowPD_flat openF m a) _) hus) (.cons (row_mk (t5 _ _ (.inl (.inl e4)))) .nil)
  · rintro H1 ⟨s1, us, hD1, ul, hus⟩
    rw [n1] at hus
    refine ⟨D, us, rfl, .inl ⟨SqL.of hD1, fun t ht => q _ _ (s1.trans (same_new ht)) ⟨cloPD_flat _ _, .tup (.inl (.inl upd_same)) (dps_keep (Tp.new ht) _ _ (flats_map _ (fun a => rowPD_flat openF m a) _) hus)⟩⟩⟩
abbrev s_known : Stmt := topS 22
theorem sc_known : FnScope ["closed", "i", "j", "c", "there", "back"] ["closed", "i", "j", "c"] (defScope s_known) := ⟨rfl, rfl, rfl, by decide +kernel, rfl, by decide +kernel, by decide +kernel⟩
def spKnown (K : PySem.W.Frag) : Sp := fun vs H Q _ => ∃ (v : V) (D : Mat) (m : Nat) (i j c : Int), vs = [v, .int i, .int j, .int c] ∧ Fd K H v (cloPD D m) ∧ -1 ≤ i ∧ i < m ∧ -1 ≤ j ∧ j < m ∧ Q (oB (knownF D (pl m i) (pl m j) c)) H
theorem ok_known (B : Bt mg) (D : DefAt K mg "known" s_known ["closed", "i", "j", "c"]) : Cal P w K mg base 1 "known" ["closed", "i", "j", "c"] (spKnown K) := by
  refine cal_of D sc_known (fun vs H Q E h => ?_) (fun f cdv A outer s H vs Q E hr h => ?_)
  · obtain ⟨v, D, m, i, j, c, rfl, _⟩ := h
    rfl
  obtain ⟨v, D, m, i, j, c, rfl, hv, i1, i2, j1, j2, q⟩ := h
  refine ⟨_, (pss_cons (ps_par (i := 4) (j := 5) rfl sc_known.nd rfl rfl (by decide) rfl rfl (pa_cons (pe_ix ix_tup (pe_ix ix_tup (pv 0) (pv 1) (fun _ _ => rfl)) (pv 2) (fun _ _ => rfl)) (pa_cons (pe_ix ix_tup (pe_ix ix_tup (pv 0) (pv 2) (fun _ _ => rfl)) (pv 1) (fun _ _ => rfl)) pa_nil)) rfl)
      (pss_cons (ps_if (PW.pt (pw_and (pt_cmpR op_notN (pv 4) pe_non (nomark _)) (pw_and1 (pt_cmpR op_le (pv 4) (pv 3) (nomark _)))))
        (pss_one (ps_ret pe_bl))
        pss_nil)
      (pss_cons (ps_if (PW.pt (pw_and (pt_cmpR op_notN (pv 5) pe_non (nomark _)) (pw_and1 (pt_cmpR op_lt (pe_op op_add (pv 5) (pv 3)) pe_int (nomark _)))))
        (pss_one (ps_ret pe_bl))
        pss_nil)
      (pss_one (ps_ret pe_non))))), ?_⟩
  obtain ⟨t, rs, rfl, ht, hl, hrow⟩ := clo_open_at hv
  obtain ⟨r1, e1, h1⟩ := hrow (pl m i) (pl_le i1 i2)
  obtain ⟨r2, e2, h2⟩ := hrow (pl m j) (pl_le j1 j2)
  refine ⟨_, rfl, _, rfl, t, rs, i, _, rfl, rfl, ht, at_pl hl i1 i2 e1, _, rfl, r1, _, j, _, rfl, rfl, h1, at_pl (rowV_len D m _) j1 j2 (rowV_at D m _ (pl_le j1 j2)), ?_⟩
  refine ⟨_, rfl, _, rfl, t, rs, j, _, rfl, rfl, ht, at_pl hl j1 j2 e2, _, rfl, r2, _, i, _, rfl, rfl, h2, at_pl (rowV_len D m _) i1 i2 (rowV_at D m _ (pl_le i1 i2)), ?_⟩
  refine ⟨_, _, rfl, ?_⟩
  unfold knownF at q
  generalize D (pl m i) (pl m j) = o1 at q
  generalize D (pl m j) (pl m i) = o2 at q
  have c1 : ∀ t, o1 = some t → (t ≤ c → Q (.bl true) H) := fun t e l => by
    rw [e] at q
    rw [if_pos (show leB (some t) c = true from decide_eq_true l)] at q
    exact q
  have c2 : ¬ leB o1 c = true → Q (oB (if ltB o2 c = true then some false else none)) H := fun n => by
    rw [if_neg n] at q
    exact q
  have c3 : ∀ t, o2 = some t → ¬ leB o1 c = true → (t + c < 0 → Q (.bl false) H) ∧ (¬ t + c < 0 → Q .non H) := fun t e n => by
    have q' := c2 n
    rw [e] at q'
    refine ⟨fun l => ?_, fun l => ?_⟩
    · rw [if_pos (show ltB (some t) c = true from decide_eq_true l)] at q'
      exact q'
    · rw [if_neg (show ¬ ltB (some t) c = true from fun z => l (of_decide_eq_true z))] at q'
      exact q'
  have c4 : o2 = none → ¬ leB o1 c = true → Q .non H := fun e n => by
    have q' := c2 n
    rw [e] at q'
    exact q'
  cases o1 with
  | none =>
    refine ⟨_, rfl, rfl, _, rfl, iteF ?_⟩
    have n : ¬ leB none c = true := Bool.false_ne_true
    cases o2 with
    | none => exact ⟨_, rfl, rfl, _, rfl, iteF (c4 rfl n)⟩
    | some b =>
      refine ⟨_, rfl, rfl, _, rfl, iteT ⟨_, rfl, _, rfl, _, _, rfl, rfl, _, _, rfl, rfl, _, rfl, ite2 (fun z => ?_) (fun z => ?_)⟩⟩
      · exact (c3 b rfl n).1 (of_decide_eq_true z)
      · exact (c3 b rfl n).2 fun l => z (decide_eq_true l)
  | some t =>
    refine ⟨_, rfl, rfl, _, rfl, iteT ⟨_, rfl, _, rfl, _, _, rfl, rfl, _, rfl, ite2 (fun z => ?_) (fun z => ?_)⟩⟩
    · exact c1 t rfl (of_decide_eq_true z)
    have n : ¬ leB (some t) c = true := fun y => z y
    cases o2 with
    | none => exact ⟨_, rfl, rfl, _, rfl, iteF (c4 rfl n)⟩
    | some b =>
      refine ⟨_, rfl, rfl, _, rfl, iteT ⟨_, rfl, _, rfl, _, _, rfl, rfl, _, _, rfl, rfl, _, rfl, ite2 (fun z => ?_) (fun z => ?_)⟩⟩
      · exact (c3 b rfl n).1 (of_decide_eq_true z)
      · exact (c3 b rfl n).2 fun l => z (decide_eq_true l)
abbrev s_lesser : Stmt := topS 24
theorem sc_lesser : FnScope ["old", "way", "more"] ["old", "way", "more"] (defScope s_lesser) := ⟨rfl, rfl, rfl, by decide +kernel, rfl, by decide +kernel, by decide +kernel⟩
def spLess : Sp := fun vs H Q _ => ∃ (o p : Option Int) (w : Int), vs = [oV o, .int w, oV p] ∧ Q (oV (lesserF o w p)) H
theorem ok_lesser (D : DefAt K mg "lesser" s_lesser ["old", "way", "more"]) : Cal P w K mg base 1 "lesser" ["old", "way", "more"] (spLess) := by
  refine cal_of D sc_lesser (fun vs H Q E h => ?_) (fun f cdv A outer s H vs Q E hr h => ?_)
  · obtain ⟨o, p, w, rfl, _⟩ := h
    rfl
  obtain ⟨o, p, w, rfl, q⟩ := h
  refine ⟨_, (pss_cons (ps_if (PW.pt (pw_or (pt_cmpR op_isN (pv 2) pe_non (nomark _)) (pw_or1 (PW.pt (pw_and (pt_cmpR op_notN (pv 0) pe_non (nomark _)) (pw_and1 (pt_cmpR op_le (pv 0) (pe_op op_add (pv 1) (pv 2)) (nomark _))))))))
        (pss_one (ps_ret (pv 0)))
        pss_nil)
      (pss_one (ps_ret (pe_op op_add (pv 1) (pv 2))))), ?_⟩
  cases p with
  | none => exact ⟨_, rfl, rfl, _, rfl, iteT ⟨_, rfl, q⟩⟩
  | some y =>
    cases o with
    | none => exact ⟨_, rfl, rfl, _, rfl, iteF ⟨_, rfl, rfl, _, rfl, iteF ⟨_, rfl, _, rfl, _, _, rfl, rfl, q⟩⟩⟩
    | some x =>
      have q' : Q (oV (if x ≤ w + y then some x else some (w + y))) H := q
      refine ⟨_, rfl, rfl, _, rfl, iteF ⟨_, rfl, rfl, _, rfl, iteT ⟨_, rfl, _, rfl, _, rfl, _, _, rfl, rfl, _, _, rfl, rfl, _, rfl, ite2 (fun z => ?_) (fun z => ?_)⟩⟩⟩
      · rw [if_pos (of_decide_eq_true z)] at q'
        exact ⟨_, rfl, q'⟩
      · rw [if_neg fun l => z (decide_eq_true l)] at q'
        exact ⟨_, rfl, _, rfl, _, _, rfl, rfl, q'⟩
abbrev s_row_through : Stmt := topS 23
theorem sc_row_through : FnScope ["row", "way", "onward", "old", "more"] ["row", "way", "onward"] (defScope s_row_through) := ⟨rfl, rfl, rfl, by decide +kernel, rfl, by decide +kernel, by decide +kernel⟩
def spThrough (K : PySem.W.Frag) : Sp := fun vs H Q _ => ∃ (r1 r2 : Addr) (f g : Nat → Option Int) (m : Nat) (w : Int), vs = [.ref r1, .int w, .ref r2] ∧ m ≤ 100 ∧ SqT K H r1 ((List.range (m + 1)).map fun b => oV (f b)) ∧ SqT K H r2 ((List.range (m + 1)).map fun b => oV (g b)) ∧
  ∀ (t : Addr) (H' : Hp), Same H H' → H' t = some (.tup ((List.range (m + 1)).map fun b => oV (lesserF (f b) w (g b)))) → Q (.ref t) H'
theorem range_atV {n k : Nat} {f : Nat → V} {x : V} (h : ((List.range n).map f)[k]? = some x) : k < n ∧ x = f k := by
  have l := (List.getElem?_eq_some_iff.mp h).1
  rw [List.length_map, List.length_range] at l
  rw [List.getElem?_map, List.getElem?_range l] at h
  exact ⟨l, (Option.some.inj h).symm⟩
theorem ok_row_through (B : Bt mg) (C_lesser : Cal P w K mg base 1 "lesser" ["old", "way", "more"] (spLess)) (D : DefAt K mg "row_through" s_row_through ["row", "way", "onward"]) : Cal P w K mg base 2 "row_through" ["row", "way", "onward"] (spThrough K) := by
  refine cal_of D sc_row_through (fun vs H Q E h => ?_) (fun f cdv A outer s H vs Q E hr h => ?_)
  · obtain ⟨r1, r2, f, g, m, w, rfl, _⟩ := h
    rfl
  obtain ⟨r1, r2, f, g, m, w, rfl, hm, h1, h2, q⟩ := h
  have hr' : Room 1 _ := hr
  refine ⟨_, (pss_one (ps_ret (pe_callTy call_tuple_of (by rfl) B.tuple PyProof.Rows.boot_tuple (pa_cons (pe_lc (own := [("old", 3), ("more", 4)]) (g := gTup K 2 (gCons (gName 3) (gCons (gName 4) gNil))) rfl sc_row_through.nd (pi_zipA (by rfl) B.zip (pa_cons (pv 0) (pa_cons (pv 2) pa_nil))) (blkOk_by (own := [("old", 3), ("more", 4)]) (N := ["row", "way", "onward", "old", "more"]) (sc := defScope s_row_through) (by decide +kernel)) (fun _ _ _ _ _ => (pg_tupK (K := K) rfl rfl (pgs_cons (pg_name (i := 3) sc_row_through.nd rfl (.inl rfl)) (pgs_cons (pg_name (i := 4) sc_row_through.nd rfl (.inl rfl)) pgs_nil)))) (fun _ _ _ _ _ => pts_nil) (fun _ _ _ _ _ => (pe_cal C_lesser hr' (by rfl) (pa_cons (pv 3) (pa_cons (pv 1) (pa_cons (pv 4) pa_nil)))))) pa_nil)))), ?_⟩
  refine ⟨_, rfl, _, rfl, r1, r2, _, _, rfl, .inr ⟨h1, h2, fun D hD => lc_it (walk_zipT (K := K) (a := r1) (b := r2) (xs := (List.range (m + 1)).map fun b => oV (f b)) (ys := (List.range (m + 1)).map fun b => oV (g b)) (n := m + 1) (by simp)) (fun j H' => Same H H' ∧ H' D = some (.lst ((List.range j).map fun b => oV (lesserF (f b) w (g b))))) ?_ ?_ ?_ ?_⟩⟩
  · exact ⟨same_new hD, upd_same⟩
  · rintro j H' _ ⟨s', _⟩
    exact ⟨Tp.same s' _ _ h1, Tp.same s' _ _ h2⟩
  · rintro j x H1 H2 hj ⟨s', hD'⟩ ⟨T, p, y, rfl, hT, rfl, hp, hy⟩
    have sm2 : Same H1 (upd H1 T (.tup [p, y])) := same_new hT
    refine ⟨T, _, rfl, .inl (.inl upd_same), rfl, _, _, rfl, _, _, rfl, rfl, ?_⟩
    obtain ⟨_, rfl⟩ := range_atV hp
    obtain ⟨_, rfl⟩ := range_atV hy
    refine ⟨rfl, _, rfl, _, rfl, _, rfl, f j, g j, w, rfl, _, sm2 _ _ hD', by rw [List.length_map, List.length_range]; exact smallL (by omega), fun b o z => ?_, ?_⟩
    · rw [upd_ne (ne_of_none z hD)]
      exact sm2 _ _ (s' _ _ z)
    · rw [upd_same, List.range_succ, List.map_append]
      rfl
  · rintro H1 ⟨s1, hD1⟩
    refine ⟨D, _, rfl, .inl ⟨SqL.of hD1, fun t ht => q t _ (s1.trans (same_new ht)) upd_same⟩⟩
abbrev s_tightened : Stmt := topS 21
theorem sc_tightened : FnScope ["closed", "i", "j", "c", "answer", "tight", "row"] ["closed", "i", "j", "c"] (defScope s_tightened) := ⟨rfl, rfl, rfl, by decide +kernel, rfl, by decide +kernel, by decide +kernel⟩
def oClo (m : Nat) : Option Mat → PyData
  | none => .none
  | some D => cloPD D m
theorem oClo_flat (m : Nat) (o : Option Mat) : flat (oClo m o) = true := by
  cases o
  · rfl
  · exact cloPD_flat _ _
def spTight (K : PySem.W.Frag) : Sp := fun vs H Q _ => ∃ (v : V) (D : Mat) (m : Nat) (i j c : Int), vs = [v, .int i, .int j, .int c] ∧ m ≤ 100 ∧ Fd K H v (cloPD D m) ∧ -1 ≤ i ∧ i < m ∧ -1 ≤ j ∧ j < m ∧ ∀ (u : V) (H' : Hp), Same H H' → Fd K H' u (oClo m (tightF D (pl m i) (pl m j) c)) → Q u H'
theorem ok_tightened (B : Bt mg) (C_known : Cal P w K mg base 1 "known" ["closed", "i", "j", "c"] (spKnown K)) (C_row_through : Cal P w K mg base 2 "row_through" ["row", "way", "onward"] (spThrough K)) (D : DefAt K mg "tightened" s_tightened ["closed", "i", "j", "c"]) : Cal P w K mg base 3 "tightened" ["closed", "i", "j", "c"] (spTight K) := by
  refine cal_of D sc_tightened (fun vs H Q E h => ?_) (fun f cdv A outer s H vs Q E hr h => ?_)
  · obtain ⟨v, D, m, i, j, c, rfl, _⟩ := h
    rfl
  obtain ⟨v, D, m, i, j, c, rfl, hm, hv, i1, i2, j1, j2, q⟩ := h
  have hr' : Room 2 _ := hr
  have C_known := C_known.mono (k := 2) (by decide)
  refine ⟨_, (pss_cons (ps_set (i := 4) sc_tightened.nd rfl (.inl rfl) (pe_cal C_known hr' (by rfl) (pa_cons (pv 0) (pa_cons (pv 1) (pa_cons (pv 2) (pa_cons (pv 3) pa_nil))))))
      (pss_cons (ps_if (pt_cmpR op_notN (pv 4) pe_non (nomark _))
        (pss_one (ps_ret (pe_ifExp (pt_val (pv 4)) (pv 0) pe_non)))
        pss_nil)
      (pss_cons (ps_set (i := 5) sc_tightened.nd rfl (.inl rfl) (pe_lst pa_nil))
      (pss_cons (ps_for PassesOwn.never rfl (pi_tup (pv 0)) (pg_name (i := 6) sc_tightened.nd rfl (.inl rfl))
        (pss_one (ps_if (pt_cmpR op_isN (pe_ix ix_tup (pv 6) (pv 1) (fun _ _ => rfl)) pe_non (nomark _))
        (pss_one (ps_expr (pe_bm PySem.F.plainAttrs_list PySem.F.slot_list_append PySem.F.type_list_append mt_append (pv 5) (pa_cons (pv 6) pa_nil))))
        (pss_one (ps_expr (pe_bm PySem.F.plainAttrs_list PySem.F.slot_list_append PySem.F.type_list_append mt_append (pv 5) (pa_cons (pe_cal C_row_through hr' (by rfl) (pa_cons (pv 6) (pa_cons (pe_op op_add (pe_ix ix_tup (pv 6) (pv 1) (fun _ _ => rfl)) (pv 3)) (pa_cons (pe_ix ix_tup (pv 0) (pv 2) (fun _ _ => rfl)) pa_nil)))) pa_nil)))))))
      (pss_one (ps_ret (pe_callTy call_tuple_of (by rfl) B.tuple PyProof.Rows.boot_tuple (pa_cons (pv 5) pa_nil)))))))), ?_⟩
  obtain ⟨t, rs, rfl, ht, hl, hrow⟩ := clo_open_at hv
  refine ⟨_, rfl, _, rfl, _, rfl, _, rfl, .ref t, D, m, i, j, c, rfl, hv, i1, i2, j1, j2, ?_⟩
  unfold tightF at q
  have hpi := pl_le i1 i2
  have hpj := pl_le j1 j2
  cases hk : knownF D (pl m i) (pl m j) c with
  | some b =>
    rw [hk] at q
    refine ⟨_, rfl, rfl, _, rfl, iteT ⟨_, rfl, b, rfl, ?_⟩⟩
    cases b with
    | true => exact iteT ⟨_, rfl, q _ _ (Same.refl _) hv⟩
    | false => exact iteF (q _ _ (Same.refl _) ⟨rfl, .non⟩)
  | none =>
    rw [hk] at q
    refine ⟨_, rfl, rfl, _, rfl, iteF ⟨(by show 0 ≤ sizeLine; decide), fun L hL => ?_⟩⟩
    have s1 := same_new (o := .lst []) hL
    have e1 : (upd H L (.lst [])) L = some (.lst []) := upd_same
    generalize upd H L (.lst []) = H1 at s1 e1
    refine ⟨_, rfl, t, rfl, ⟨_, Tp.same s1 _ _ ht⟩, for_tup (K := K) (a := t) (xs := rs) (fun a σ' H' => (∃ y6 : Option V, σ' = [some (.ref t), some (.int i), some (.int j), some (.int c), some (oB none), some (.ref L), y6]) ∧ Same H H' ∧ ∃ us, H' L = some (.lst us) ∧ us.length = a ∧ DpAll K H' us ((List.range a).map fun a => rowPD (stepF D (pl m i) (pl m j) c) m a)) ?_ ?_ ?_ ?_⟩
    · exact ⟨⟨_, rfl⟩, s1, [], e1, rfl, .nil⟩
    · rintro a σ' H' _ ⟨_, s', _⟩
      exact Tp.same s' _ _ ht
    · rintro a x σ' H' hx ⟨⟨y6, rfl⟩, s', us, hL', ul, hus⟩
      have al : a < m + 1 := by rw [← hl]; exact (List.getElem?_eq_some_iff.mp hx).1
      obtain ⟨r, er, hr1⟩ := hrow a (by omega)
      rw [hx] at er
      cases er
      have hr2 := Tp.same s' _ _ hr1
      have hat : atI (rowV D m a) i = some (oV (D a (pl m i))) := at_pl (rowV_len D m a) i1 i2 (rowV_at D m a hpi)
      have fin : ∀ (H2 : Hp) (r' : Addr), Same H' H2 → SqT K H2 r' (rowV (stepF D (pl m i) (pl m j) c) m a) → Same H (upd H2 L (.lst (us ++ [.ref r']))) ∧ ∃ us2, (upd H2 L (.lst (us ++ [.ref r']))) L = some (.lst us2) ∧ us2.length = a + 1 ∧ DpAll K (upd H2 L (.lst (us ++ [.ref r']))) us2 ((List.range (a + 1)).map fun a => rowPD (stepF D (pl m i) (pl m j) c) m a) := fun H2 r' s2 hq => by
        have hL2 := s2 _ _ hL'
        have t2 : Tp K H2 (upd H2 L (.lst (us ++ [.ref r']))) := Tp.lst hL2
        refine ⟨fun b o z => ?_, us ++ [.ref r'], upd_same, by rw [List.length_append, ul]; rfl, ?_⟩
        · rw [upd_ne (ne_of_none z hL)]
          exact s2 _ _ (s' _ _ z)
        · rw [List.range_succ, List.map_append]
          exact dpall_app' (dps_keep ((Tp.same s2).trans t2) _ _ (flats_map _ (fun a => rowPD_flat _ m a) _) hus) (.cons (row_mk (t2 _ _ hq)) .nil)
      cases e : D a (pl m i) with
      | none =>
        rw [e] at hat
        refine ⟨_, rfl, _, rfl, r, _, i, _, rfl, rfl, hr2, hat, rfl, _, rfl, iteT ?_⟩
        have ev : rowV (stepF D (pl m i) (pl m j) c) m a = rowV D m a := by
          unfold rowV
          congr 1
          funext b
          unfold stepF
          rw [e]
        refine ⟨_, rfl, .inl ⟨rfl, _, SqL.of hL'⟩, _, rfl, L, us, _, rfl, rfl, hL', smallL (by omega), ?_⟩
        exact ⟨⟨_, rfl⟩, fin H' r (Same.refl _) (by rw [ev]; exact hr2)⟩
      | some w =>
        rw [e] at hat
        obtain ⟨rj, ej, hrj⟩ := hrow (pl m j) hpj
        have ev : rowV (stepF D (pl m i) (pl m j) c) m a = (List.range (m + 1)).map fun b => oV (lesserF (D a b) (w + c) (D (pl m j) b)) := by
          unfold rowV
          congr 1
          funext b
          unfold stepF
          rw [e]
        refine ⟨_, rfl, _, rfl, r, _, i, _, rfl, rfl, hr2, hat, rfl, _, rfl, iteF ?_⟩
        refine ⟨_, rfl, .inl ⟨rfl, _, SqL.of hL'⟩, _, rfl, _, rfl, _, rfl, r, _, i, _, rfl, rfl, hr2, hat, _, rfl, _, _, rfl, rfl, _, rfl, _, rfl, t, rs, j, _, rfl, rfl, Tp.same s' _ _ ht, at_pl hl j1 j2 ej, ?_⟩
        refine ⟨r, rj, D a, D (pl m j), m, w + c, rfl, hm, hr2, Tp.same s' _ _ hrj, fun t2 H2 s2 ht2 => ?_⟩
        refine ⟨L, us, _, rfl, rfl, s2 _ _ hL', smallL (by omega), ?_⟩
        exact ⟨⟨_, rfl⟩, fin H2 t2 s2 (by rw [ev]; exact .inl (.inl ht2))⟩
    · rintro σ' H' ⟨⟨y6, rfl⟩, s', us, hL', ul, hus⟩
      rw [hl] at hus
      refine ⟨_, rfl, L, us, rfl, .inl ⟨SqL.of hL', fun t2 ht2 => q _ _ (s'.trans (same_new ht2)) ⟨cloPD_flat _ _, .tup (.inl (.inl upd_same)) (dps_keep (Tp.new ht2) _ _ (flats_map _ (fun a => rowPD_flat _ m a) _) hus)⟩⟩⟩
end
end Lm

set_option Elab.async false
set_option linter.all false
set_option maxRecDepth 100000
set_option maxHeartbeats 2000000
namespace Lm
open PySem PySem.Spec PyProof.Rows L2 LmR
section
variable {P : Program} {w : World} {K : PySem.W.Frag} {mg : Str → Option Value} {base : Heap}
abbrev s_taken : Stmt := topS 14
theorem sc_taken : FnScope ["pile", "many", "turn"] ["pile", "many"] (defScope s_taken) := ⟨rfl, rfl, rfl, by decide +kernel, rfl, by decide +kernel, by decide +kernel⟩
def spTaken : Sp := fun vs H Q _ => ∃ (l : Addr) (xs ys : List V), vs = [.ref l, .int (ys.length : Nat)] ∧ H l = some (.lst (xs ++ ys.reverse)) ∧ ys.length ≤ 1000 ∧ ∀ (t : Addr) (H' : Hp), Ex [l] H H' → H' l = some (.lst xs) → H' t = some (.tup ys) → Q (.ref t) H'
theorem ok_taken (B : Bt mg) (D : DefAt K mg "taken" s_taken ["pile", "many"]) : Cal P w K mg base 1 "taken" ["pile", "many"] (spTaken) := by
  refine cal_of D sc_taken (fun vs H Q E h => ?_) (fun f cdv A outer s H vs Q E hr h => ?_)
  · obtain ⟨l, xs, ys, rfl, _⟩ := h
    rfl
  obtain ⟨l, xs, ys, rfl, hL, hlen, q⟩ := h
  refine ⟨_, (pss_one (ps_ret (pe_callTy call_tuple_of (by rfl) B.tuple PyProof.Rows.boot_tuple (pa_cons (pe_lc (own := [("turn", 2)]) (g := gName 2) rfl sc_taken.nd (pi_range1 (by rfl) B.range (pa_cons (pv 1) pa_nil)) (blkOk_by (own := [("turn", 2)]) (N := ["pile", "many", "turn"]) (sc := defScope s_taken) (by decide +kernel)) (fun _ _ _ _ _ => (pg_name (i := 2) sc_taken.nd rfl (.inl rfl))) (fun _ _ _ _ _ => pts_nil) (fun _ _ _ _ _ => (pe_bm0K (K := K) rfl PySem.F.plainAttrs_list PySem.F.slot_list_pop PySem.F.type_list_pop mt_pop (pv 0)))) pa_nil)))), ?_⟩
  refine ⟨_, rfl, _, rfl, by omega, by omega, fun D hD => lc_range (lo := 0) (n := ((ys.length : Nat) : Int).toNat) (fun i H' => Ex [l] H H' ∧ H' l = some (.lst (xs ++ (ys.drop i).reverse)) ∧ H' D = some (.lst (ys.take i))) ?_ ?_ ?_⟩
  · have n1 : l ≠ D := ne_of_none hL hD
    exact ⟨Ex.new hD, by rw [upd_ne n1, List.drop_zero]; exact hL, upd_same⟩
  · rintro i H' hi ⟨ex, h1, h2⟩
    have n1 : l ≠ D := ne_of_none hL hD
    have hi' : i < ys.length := by omega
    have ed : ys.drop i = ys[i] :: ys.drop (i + 1) := List.drop_eq_getElem_cons hi'
    rw [ed, List.reverse_cons, ← List.append_assoc] at h1
    refine ⟨rfl, _, rfl, .inl ⟨rfl, _, SqL.of h1⟩, l, _, ys[i], rfl, rfl, h1, ?_, ?_⟩
    · rw [List.length_append, List.length_singleton, Nat.add_sub_cancel, List.getElem?_append_right (Nat.le_refl _), Nat.sub_self]
      rfl
    rw [List.dropLast_concat]
    refine ⟨ys.take i, by rw [upd_ne n1.symm]; exact h2, by rw [List.length_take]; exact smallL (by omega), ?_, ?_, ?_⟩
    · intro b o hb nb
      have nbl : b ≠ l := fun z => nb (by rw [z]; simp)
      rw [upd_ne (ne_of_none hb hD), upd_ne nbl]
      exact ex b o hb nb
    · rw [upd_ne n1, upd_same]
    · rw [upd_same, List.take_add_one, List.getElem?_eq_getElem hi']
      rfl
  · rintro H' ⟨ex, h1, h2⟩
    have n1 : l ≠ D := ne_of_none hL hD
    have et : ((ys.length : Nat) : Int).toNat = ys.length := Int.toNat_natCast _
    rw [et, List.drop_length, List.reverse_nil, List.append_nil] at h1
    rw [et, List.take_length] at h2
    refine ⟨D, _, rfl, .inl ⟨SqL.of h2, fun t ht => q t _ (ex.trans (Ex.new ht)) ?_ upd_same⟩⟩
    rw [upd_ne (ne_of_none h1 ht)]
    exact h1
end
end Lm

set_option Elab.async false
set_option linter.all false
set_option maxRecDepth 100000
set_option maxHeartbeats 2000000
namespace Lm
open PySem PySem.Spec PyProof.Rows L2 LmR
theorem pe_gr {X : Cx} {x : Str} {a : Addr} {pos : Pos} (hg : Gl X x) (hm : X.mg x = some (.ref a)) (hd : (x == ("__debug__" : Str)) = false := by decide) : PE X (.Name x pos) (tC (.ref a)) := pe_glob (v := .ref a) hg hm rfl hd
/-! ### the table of forms -/
def nn : Pg → Nat
  | .inp _ => 1
  | .num _ => 1
  | .tr _ => 0
  | .plus _ _ => 1
  | .bin _ _ _ => 0
  | .neg _ => 0
  | .ite _ _ _ => 0
def due : Pg → List V
  | .inp _ => []
  | .num _ => []
  | .tr _ => []
  | .plus _ _ => [.str (kS false)]
  | .bin w _ _ => [.str (kS w.arg), .str (kS w.arg)]
  | .neg _ => [.str (kS true)]
  | .ite _ _ _ => [.str (kS true), .non, .non]
def ownV : Pg → V
  | .inp _ => .non
  | .num _ => .str (kS false)
  | .tr _ => .str (kS true)
  | .plus _ _ => .str (kS false)
  | .bin w _ _ => .str (kS w.own)
  | .neg _ => .str (kS true)
  | .ite _ _ _ => .non
/-- a tuple of the written part -/
def KTup (K : PySem.W.Frag) (a : Addr) (xs : List V) : Prop := ∃ (o : Obj) (its : Array Value) (n : Nat), K.lookup a = some o ∧ o.cls = .type "tuple" ∧ o.data = .seq its n ∧ its.size ≤ sizeLine ∧ Vals xs its.toList
theorem KTup.sq {K : PySem.W.Frag} {a : Addr} {xs : List V} (h : KTup K a xs) (H : Hp) : SqT K H a xs := .inr h
/-- FORMS stands at d -/
structure Forms (K : PySem.W.Frag) (w : World) (mg : Str → Option Value) (d : Addr) : Prop where
  g : mg "FORMS" = some (.ref d)
  k : ∃ es n, KDict K w d es n
  e : ∀ p : Pg, ∃ t u : Addr, PySem.W.nsIn K d (word p) = some (some (.ref t)) ∧ KTup K t [.int (nn p), .ref u, ownV p] ∧ KTup K u (due p)
theorem Forms.at {K : PySem.W.Frag} {w : World} {mg : Str → Option Value} {d : Addr} (F : Forms K w mg d) (p : Pg) : ∃ t u : Addr, KDct K w d (word p) (.ref t) ∧ KTup K t [.int (nn p), .ref u, ownV p] ∧ KTup K u (due p) := by
  obtain ⟨t, u, e, a, b⟩ := F.e p
  obtain ⟨es, n, D⟩ := F.k
  exact ⟨t, u, ⟨es, n, .ref t, D.at_, D.lit, e, rfl⟩, a, b⟩
theorem due_len (p : Pg) : (due p).length = (parts p).length := by cases p <;> rfl
theorem front_len (p : Pg) : (front p).length = 1 + nn p := by cases p <;> rfl
theorem at_word (p : Pg) (vs : List V) : atI (front p ++ vs) 0 = some (.str (word p)) := at_of (j := 0) rfl (by cases p <;> rfl)
theorem at_num (p : Pg) (vs : List V) (h : nn p ≠ 0) : ∃ i, atI (front p ++ vs) 1 = some (.int i) := by
  cases p <;> first | exact absurd rfl h | exact ⟨_, at_of (j := 1) rfl rfl⟩
theorem kTT {K : PySem.W.Frag} : PySem.W.kitOne K (.type "tuple") (.type "tuple") = some true := kit_ty (by decide +kernel)
theorem kSS {K : PySem.W.Frag} : PySem.W.kitOne K (.type "str") (.type "str") = some true := kit_ty (by decide +kernel)
section
variable {P : Program} {w : World} {K : PySem.W.Frag} {mg : Str → Option Value} {base : Heap}
abbrev s_is_whole : Stmt := topS 8
theorem sc_is_whole : FnScope ["thing"] ["thing"] (defScope s_is_whole) := ⟨rfl, rfl, rfl, by decide +kernel, rfl, by decide +kernel, by decide +kernel⟩
def spWhole (K : PySem.W.Frag) : Sp := fun vs H Q _ => ∃ (v : V) (d : PyData), vs = [v] ∧ Fd K H v d ∧ Q (.bl (isInt d && !isBl d)) H
theorem ok_is_whole (B : Bt mg) (D : DefAt K mg "is_whole" s_is_whole ["thing"]) : Cal P w K mg base 1 "is_whole" ["thing"] (spWhole K) := by
  refine cal_of D sc_is_whole (fun vs H Q E h => ?_) (fun f cdv A outer s H vs Q E hr h => ?_)
  · obtain ⟨v, d, rfl, _⟩ := h
    rfl
  obtain ⟨v, d, rfl, hv, q⟩ := h
  refine ⟨_, (pss_one (ps_ret (pe_and (pe_callB call_isi (by rfl) B.isinstance (by decide +kernel) (pa_cons (pv 0) (pa_cons (pe_bltn (v := .ty "int") (by rfl) B.int PyProof.Rows.boot_int rfl) pa_nil))) (pe_one (pe_not (pe_callB call_isi (by rfl) B.isinstance (by decide +kernel) (pa_cons (pv 0) (pa_cons (pe_bltn (v := .ty "bool") (by rfl) B.bool PyProof.Rows.boot_bool rfl) pa_nil)))))))), ?_⟩
  refine ⟨_, rfl, v, _, _, _, _, rfl, .ty _, hv.ty, kit_int d hv.1, _, rfl, ite2 (fun c => ?_) (fun c => ?_)⟩
  · rw [c] at q
    exact ⟨_, rfl, v, _, _, _, _, rfl, .ty _, hv.ty, kit_bl d hv.1, _, rfl, q⟩
  · rw [Bool.eq_false_iff.mpr c] at q
    exact q
abbrev s_many_numbers : Stmt := topS 10
theorem sc_many_numbers : FnScope ["word"] ["word"] (defScope s_many_numbers) := ⟨rfl, rfl, rfl, by decide +kernel, rfl, by decide +kernel, by decide +kernel⟩
def spMN : Sp := fun vs H Q _ => ∃ p : Pg, vs = [.str (word p)] ∧ Q (.int (nn p)) H
theorem ok_many_numbers {d : Addr} (F : Forms K w mg d) (D : DefAt K mg "many_numbers" s_many_numbers ["word"]) : Cal P w K mg base 1 "many_numbers" ["word"] (spMN) := by
  refine cal_of D sc_many_numbers (fun vs H Q E h => ?_) (fun f cdv A outer s H vs Q E hr h => ?_)
  · obtain ⟨p, rfl, _⟩ := h
    rfl
  obtain ⟨p, rfl, q⟩ := h
  have hFORMS := F.g
  refine ⟨_, (pss_one (ps_ret (pe_ix ix_tup (pe_ix ix_kdict (pe_gr (by rfl) hFORMS) (pv 0) (fun _ _ => rfl)) pe_int (fun _ _ => rfl)))), ?_⟩
  obtain ⟨t, u, e, a, b⟩ := F.at p
  exact ⟨_, rfl, d, word p, .ref t, rfl, rfl, e, t, _, 0, .int (nn p), rfl, rfl, a.sq _, rfl, q⟩
abbrev s_many_parts : Stmt := topS 11
theorem sc_many_parts : FnScope ["word"] ["word"] (defScope s_many_parts) := ⟨rfl, rfl, rfl, by decide +kernel, rfl, by decide +kernel, by decide +kernel⟩
def spMP : Sp := fun vs H Q _ => ∃ p : Pg, vs = [.str (word p)] ∧ Q (.int ((parts p).length : Nat)) H
theorem ok_many_parts {d : Addr} (B : Bt mg) (F : Forms K w mg d) (D : DefAt K mg "many_parts" s_many_parts ["word"]) : Cal P w K mg base 1 "many_parts" ["word"] (spMP) := by
  refine cal_of D sc_many_parts (fun vs H Q E h => ?_) (fun f cdv A outer s H vs Q E hr h => ?_)
  · obtain ⟨p, rfl, _⟩ := h
    rfl
  obtain ⟨p, rfl, q⟩ := h
  have hFORMS := F.g
  refine ⟨_, (pss_one (ps_ret (pe_callB call_len_seq (by rfl) B.len PySem.boot_len (pa_cons (pe_ix ix_tup (pe_ix ix_kdict (pe_gr (by rfl) hFORMS) (pv 0) (fun _ _ => rfl)) pe_int (fun _ _ => rfl)) pa_nil)))), ?_⟩
  obtain ⟨t, u, e, a, b⟩ := F.at p
  rw [← due_len] at q
  exact ⟨_, rfl, d, word p, .ref t, rfl, rfl, e, t, _, 1, .ref u, rfl, rfl, a.sq _, rfl, u, _, rfl, .inr (b.sq _), q⟩
abbrev s_has_form : Stmt := topS 9
theorem sc_has_form : FnScope ["thing", "word"] ["thing"] (defScope s_has_form) := ⟨rfl, rfl, rfl, by decide +kernel, rfl, by decide +kernel, by decide +kernel⟩
def spHF (K : PySem.W.Frag) : Sp := fun vs H Q _ => ∃ (v : V) (p : Pg), vs = [v] ∧ At K H v p ∧ Q (.bl true) H
theorem ok_has_form {d : Addr} (B : Bt mg) (F : Forms K w mg d) (C_is_whole : Cal P w K mg base 1 "is_whole" ["thing"] (spWhole K)) (C_many_numbers : Cal P w K mg base 1 "many_numbers" ["word"] (spMN)) (C_many_parts : Cal P w K mg base 1 "many_parts" ["word"] (spMP)) (D : DefAt K mg "has_form" s_has_form ["thing"]) : Cal P w K mg base 2 "has_form" ["thing"] (spHF K) := by
  refine cal_of D sc_has_form (fun vs H Q E h => ?_) (fun f cdv A outer s H vs Q E hr h => ?_)
  · obtain ⟨v, p, rfl, _⟩ := h
    rfl
  obtain ⟨v, p, rfl, hv, q⟩ := h
  have hFORMS := F.g
  obtain ⟨es, n, kd⟩ := F.k
  have hr' : Room 1 _ := hr
  refine ⟨_, (pss_cons (ps_if (PW.pt (pw_or (pt_not (pt_val (pe_callB call_isi (by rfl) B.isinstance (by decide +kernel) (pa_cons (pv 0) (pa_cons (pe_bltn (v := .ty "tuple") (by rfl) B.tuple PyProof.Rows.boot_tuple rfl) pa_nil))))) (pw_or (pt_cmpR op_eq (pe_callB call_len_seq (by rfl) B.len PySem.boot_len (pa_cons (pv 0) pa_nil)) pe_int (nomark _)) (pw_or1 (pt_not (pt_val (pe_callB call_isi (by rfl) B.isinstance (by decide +kernel) (pa_cons (pe_ix ix_tup (pv 0) pe_int (fun _ _ => rfl)) (pa_cons (pe_bltn (v := .ty "str") (by rfl) B.str PyProof.Rows.boot_str rfl) pa_nil)))))))))
        (pss_one (ps_ret pe_bl))
        pss_nil)
      (pss_cons (ps_set (i := 1) sc_has_form.nd rfl (.inl rfl) (pe_ix ix_tup (pv 0) pe_int (fun _ _ => rfl)))
      (pss_cons (ps_if (PW.pt (pw_or (pt_cmpR (op_notIn_kd kd) (pv 1) (pe_gr (by rfl) hFORMS) rfl) (pw_or1 (pt_cmpR op_ne (pe_callB call_len_seq (by rfl) B.len PySem.boot_len (pa_cons (pv 0) pa_nil)) (pe_op op_add (pe_op op_add pe_int (pe_cal C_many_numbers hr' (by rfl) (pa_cons (pv 1) pa_nil))) (pe_cal C_many_parts hr' (by rfl) (pa_cons (pv 1) pa_nil))) (nomark _)))))
        (pss_one (ps_ret pe_bl))
        pss_nil)
      (pss_one (ps_ret (pe_or (pe_cmpR op_eq (pe_cal C_many_numbers hr' (by rfl) (pa_cons (pv 1) pa_nil)) pe_int (nomark _)) (pe_one (pe_cal C_is_whole hr' (by rfl) (pa_cons (pe_ix ix_tup (pv 0) pe_int (fun _ _ => rfl)) pa_nil))))))))), ?_⟩
  obtain ⟨a, vs, rfl, ha, hvs⟩ := hv.open
  obtain ⟨t, u, e, _, _⟩ := F.e p
  have hl : (front p ++ vs).length = 1 + nn p + (parts p).length := by rw [List.length_append, front_len, hvs.len]
  refine ⟨_, rfl, _, _, _, _, _, rfl, .ty _, tyx_tup ha, kTT, _, rfl, ?_⟩
  refine ⟨_, rfl, a, _, rfl, .inr ha, rfl, _, rfl, ite2 (fun z => ?_) (fun _ => ?_)⟩
  · have z' : V.int (((front p ++ vs).length : Nat) : Int) = V.int 0 := of_decide_eq_true z
    have z2 := V.int.inj z'
    omega
  refine ⟨_, rfl, a, _, 0, _, rfl, rfl, ha, at_word p vs, _, _, _, _, _, rfl, .ty _, .base (.str _), kSS, _, rfl, ?_⟩
  refine ⟨_, rfl, a, _, 0, _, rfl, rfl, ha, at_word p vs, ?_⟩
  refine ⟨_, rfl, word p, _, rfl, rfl, e, _, rfl, ?_⟩
  refine ⟨_, rfl, a, _, rfl, .inr ha, _, rfl, p, rfl, _, _, rfl, rfl, _, rfl, p, rfl, _, _, rfl, rfl, rfl, _, rfl, iteNS ?_ ?_⟩
  · rw [hl]
    exact congrArg V.int (by omega)
  refine ⟨_, rfl, p, rfl, rfl, _, rfl, ite2 (fun _ => q) (fun z => ?_)⟩
  have hn : nn p ≠ 0 := fun y => z (decide_eq_true (by rw [y]; rfl))
  obtain ⟨i, ei⟩ := at_num p vs hn
  exact ⟨_, rfl, a, _, 1, _, rfl, rfl, ha, ei, .int i, .int i, rfl, ⟨rfl, .int i⟩, q⟩
theorem cut_from (n : Nat) (xs ys : List V) (h : xs.length = n) : cutV (xs ++ ys) (some (n : Int)) none = ys := by
  unfold cutV
  rw [show HT.sIx (xs ++ ys).length 0 (some (n : Int)) = min n (xs ++ ys).length from HT.sIx_nat _ 0 n, HT.sIx_none]
  have e : min n (xs ++ ys).length = n := by rw [List.length_append]; omega
  rw [e, ← h, List.drop_left, List.length_append, Nat.add_sub_cancel_left, List.take_length]
abbrev s_parts_of : Stmt := topS 13
theorem sc_parts_of : FnScope ["knot"] ["knot"] (defScope s_parts_of) := ⟨rfl, rfl, rfl, by decide +kernel, rfl, by decide +kernel, by decide +kernel⟩
def spPO (K : PySem.W.Frag) : Sp := fun vs H Q _ => ∃ (v : V) (p : Pg), vs = [v] ∧ At K H v p ∧ ∀ (t : Addr) (us : List V), H t = none → Ats K H us (parts p) → Q (.ref t) (upd H t (.tup us))
theorem ok_parts_of (C_many_numbers : Cal P w K mg base 1 "many_numbers" ["word"] (spMN)) (D : DefAt K mg "parts_of" s_parts_of ["knot"]) : Cal P w K mg base 2 "parts_of" ["knot"] (spPO K) := by
  refine cal_of D sc_parts_of (fun vs H Q E h => ?_) (fun f cdv A outer s H vs Q E hr h => ?_)
  · obtain ⟨v, p, rfl, _⟩ := h
    rfl
  obtain ⟨v, p, rfl, hv, q⟩ := h
  have hr' : Room 1 _ := hr
  refine ⟨_, (pss_one (ps_ret (pe_slice sl_tup (pv 0) (po_some (pe_op op_add pe_int (pe_cal C_many_numbers hr' (by rfl) (pa_cons (pe_ix ix_tup (pv 0) pe_int (fun _ _ => rfl)) pa_nil)))) po_none))), ?_⟩
  obtain ⟨a, vs, rfl, ha, hvs⟩ := hv.open
  have e1 : (1 : Int) + (nn p : Int) = ((1 + nn p : Nat) : Int) := by omega
  refine ⟨_, rfl, _, rfl, a, _, 0, _, rfl, rfl, ha, at_word p vs, p, rfl, _, _, rfl, rfl, _, rfl, a, _, rfl, ha, ?_, fun t ht => ?_⟩
  · rintro ⟨z, _⟩
    rw [e1, show HT.sIx (front p ++ vs).length 0 (some ((1 + nn p : Nat) : Int)) = min (1 + nn p) (front p ++ vs).length from HT.sIx_nat _ 0 _, List.length_append, front_len] at z
    omega
  · rw [e1, cut_from _ _ _ (front_len p)]
    exact q t vs ht hvs
end
end Lm

set_option Elab.async false
set_option linter.all false
set_option maxRecDepth 100000
set_option maxHeartbeats 2000000
namespace Lm
open PySem PySem.Spec PyProof.Rows L2 LmR
/-! ### forests -/
def knf (fs : List Pg) : List Pg := fs.flatMap kn
theorem knf_cons (q : Pg) (fs : List Pg) : knf (q :: fs) = q :: knf (parts q ++ fs) := by
  unfold knf
  rw [List.flatMap_cons, kn_eq, List.flatMap_append, List.cons_append]
theorem knf_one (p : Pg) : knf [p] = kn p := by simp [knf]
theorem knf_drop : ∀ (j : Nat) (fs : List Pg), ∃ gs, (knf fs).drop j = knf gs
  | 0, fs => ⟨fs, rfl⟩
  | j + 1, [] => ⟨[], by simp [knf]⟩
  | j + 1, q :: fs => by
    rw [knf_cons, List.drop_succ_cons]
    exact knf_drop j _
theorem knf_inj : ∀ (n : Nat) (fs gs : List Pg), (knf fs).length ≤ n → knf fs = knf gs → fs = gs
  | n, [], [], _, _ => rfl
  | n, [], q :: gs, _, h => by rw [knf_cons] at h; simp [knf] at h
  | n, q :: fs, [], _, h => by rw [knf_cons] at h; simp [knf] at h
  | 0, q :: fs, r :: gs, l, _ => by rw [knf_cons] at l; simp at l
  | n + 1, q :: fs, r :: gs, l, h => by
    rw [knf_cons, knf_cons] at h
    rw [knf_cons, List.length_cons] at l
    obtain ⟨rfl, h⟩ := List.cons.inj h
    have e := knf_inj n _ _ (by omega) h
    rw [List.append_cancel_left e]
/-- one knot more from the end -/
theorem knf_step {p : Pg} {j : Nat} {x : Pg} {fs : List Pg} (hx : (kn p)[j]? = some x) (hf : (kn p).drop (j + 1) = knf fs) : ∃ rest, fs = parts x ++ rest ∧ (kn p).drop j = knf (x :: rest) := by
  obtain ⟨gs, hg⟩ := knf_drop j [p]
  rw [knf_one] at hg
  obtain ⟨hj, ex⟩ := List.getElem?_eq_some_iff.mp hx
  have e : (kn p).drop j = x :: (kn p).drop (j + 1) := by rw [List.drop_eq_getElem_cons hj, ex]
  rw [e, hf] at hg
  cases gs with
  | nil => simp [knf] at hg
  | cons q rest =>
    rw [knf_cons] at hg
    obtain ⟨rfl, h⟩ := List.cons.inj hg
    refine ⟨rest, knf_inj _ _ _ (Nat.le_refl _) h, ?_⟩
    rw [e, hf, knf_cons, h]
/-! ### which word it is -/
theorem word_in {p : Pg} (h : V.str (word p) = V.str "in") : ∃ k, p = .inp k := by
  cases p with
  | inp k => exact ⟨k, rfl⟩
  | tr b => cases b <;> first | exact absurd h (show ¬ V.str ("num" : Str) = V.str "in" by decide +kernel) | exact absurd h (show ¬ V.str ("yes" : Str) = V.str "in" by decide +kernel) | exact absurd h (show ¬ V.str ("no" : Str) = V.str "in" by decide +kernel) | exact absurd h (show ¬ V.str ("plus" : Str) = V.str "in" by decide +kernel) | exact absurd h (show ¬ V.str ("least" : Str) = V.str "in" by decide +kernel) | exact absurd h (show ¬ V.str ("most" : Str) = V.str "in" by decide +kernel) | exact absurd h (show ¬ V.str ("atmost" : Str) = V.str "in" by decide +kernel) | exact absurd h (show ¬ V.str ("both" : Str) = V.str "in" by decide +kernel) | exact absurd h (show ¬ V.str ("either" : Str) = V.str "in" by decide +kernel) | exact absurd h (show ¬ V.str ("not" : Str) = V.str "in" by decide +kernel) | exact absurd h (show ¬ V.str ("if" : Str) = V.str "in" by decide +kernel)
  | bin w a b => cases w <;> first | exact absurd h (show ¬ V.str ("num" : Str) = V.str "in" by decide +kernel) | exact absurd h (show ¬ V.str ("yes" : Str) = V.str "in" by decide +kernel) | exact absurd h (show ¬ V.str ("no" : Str) = V.str "in" by decide +kernel) | exact absurd h (show ¬ V.str ("plus" : Str) = V.str "in" by decide +kernel) | exact absurd h (show ¬ V.str ("least" : Str) = V.str "in" by decide +kernel) | exact absurd h (show ¬ V.str ("most" : Str) = V.str "in" by decide +kernel) | exact absurd h (show ¬ V.str ("atmost" : Str) = V.str "in" by decide +kernel) | exact absurd h (show ¬ V.str ("both" : Str) = V.str "in" by decide +kernel) | exact absurd h (show ¬ V.str ("either" : Str) = V.str "in" by decide +kernel) | exact absurd h (show ¬ V.str ("not" : Str) = V.str "in" by decide +kernel) | exact absurd h (show ¬ V.str ("if" : Str) = V.str "in" by decide +kernel)
  | _ => first | exact absurd h (show ¬ V.str ("num" : Str) = V.str "in" by decide +kernel) | exact absurd h (show ¬ V.str ("yes" : Str) = V.str "in" by decide +kernel) | exact absurd h (show ¬ V.str ("no" : Str) = V.str "in" by decide +kernel) | exact absurd h (show ¬ V.str ("plus" : Str) = V.str "in" by decide +kernel) | exact absurd h (show ¬ V.str ("least" : Str) = V.str "in" by decide +kernel) | exact absurd h (show ¬ V.str ("most" : Str) = V.str "in" by decide +kernel) | exact absurd h (show ¬ V.str ("atmost" : Str) = V.str "in" by decide +kernel) | exact absurd h (show ¬ V.str ("both" : Str) = V.str "in" by decide +kernel) | exact absurd h (show ¬ V.str ("either" : Str) = V.str "in" by decide +kernel) | exact absurd h (show ¬ V.str ("not" : Str) = V.str "in" by decide +kernel) | exact absurd h (show ¬ V.str ("if" : Str) = V.str "in" by decide +kernel)
theorem word_if {p : Pg} (h : V.str (word p) = V.str "if") : ∃ q a b, p = .ite q a b := by
  cases p with
  | ite q a b => exact ⟨q, a, b, rfl⟩
  | tr b => cases b <;> first | exact absurd h (show ¬ V.str ("in" : Str) = V.str "if" by decide +kernel) | exact absurd h (show ¬ V.str ("num" : Str) = V.str "if" by decide +kernel) | exact absurd h (show ¬ V.str ("yes" : Str) = V.str "if" by decide +kernel) | exact absurd h (show ¬ V.str ("no" : Str) = V.str "if" by decide +kernel) | exact absurd h (show ¬ V.str ("plus" : Str) = V.str "if" by decide +kernel) | exact absurd h (show ¬ V.str ("least" : Str) = V.str "if" by decide +kernel) | exact absurd h (show ¬ V.str ("most" : Str) = V.str "if" by decide +kernel) | exact absurd h (show ¬ V.str ("atmost" : Str) = V.str "if" by decide +kernel) | exact absurd h (show ¬ V.str ("both" : Str) = V.str "if" by decide +kernel) | exact absurd h (show ¬ V.str ("either" : Str) = V.str "if" by decide +kernel) | exact absurd h (show ¬ V.str ("not" : Str) = V.str "if" by decide +kernel)
  | bin w a b => cases w <;> first | exact absurd h (show ¬ V.str ("in" : Str) = V.str "if" by decide +kernel) | exact absurd h (show ¬ V.str ("num" : Str) = V.str "if" by decide +kernel) | exact absurd h (show ¬ V.str ("yes" : Str) = V.str "if" by decide +kernel) | exact absurd h (show ¬ V.str ("no" : Str) = V.str "if" by decide +kernel) | exact absurd h (show ¬ V.str ("plus" : Str) = V.str "if" by decide +kernel) | exact absurd h (show ¬ V.str ("least" : Str) = V.str "if" by decide +kernel) | exact absurd h (show ¬ V.str ("most" : Str) = V.str "if" by decide +kernel) | exact absurd h (show ¬ V.str ("atmost" : Str) = V.str "if" by decide +kernel) | exact absurd h (show ¬ V.str ("both" : Str) = V.str "if" by decide +kernel) | exact absurd h (show ¬ V.str ("either" : Str) = V.str "if" by decide +kernel) | exact absurd h (show ¬ V.str ("not" : Str) = V.str "if" by decide +kernel)
  | _ => first | exact absurd h (show ¬ V.str ("in" : Str) = V.str "if" by decide +kernel) | exact absurd h (show ¬ V.str ("num" : Str) = V.str "if" by decide +kernel) | exact absurd h (show ¬ V.str ("yes" : Str) = V.str "if" by decide +kernel) | exact absurd h (show ¬ V.str ("no" : Str) = V.str "if" by decide +kernel) | exact absurd h (show ¬ V.str ("plus" : Str) = V.str "if" by decide +kernel) | exact absurd h (show ¬ V.str ("least" : Str) = V.str "if" by decide +kernel) | exact absurd h (show ¬ V.str ("most" : Str) = V.str "if" by decide +kernel) | exact absurd h (show ¬ V.str ("atmost" : Str) = V.str "if" by decide +kernel) | exact absurd h (show ¬ V.str ("both" : Str) = V.str "if" by decide +kernel) | exact absurd h (show ¬ V.str ("either" : Str) = V.str "if" by decide +kernel) | exact absurd h (show ¬ V.str ("not" : Str) = V.str "if" by decide +kernel)
theorem word_plus {p : Pg} (h : V.str (word p) = V.str "plus") : ∃ c a, p = .plus c a := by
  cases p with
  | plus c a => exact ⟨c, a, rfl⟩
  | tr b => cases b <;> first | exact absurd h (show ¬ V.str ("in" : Str) = V.str "plus" by decide +kernel) | exact absurd h (show ¬ V.str ("num" : Str) = V.str "plus" by decide +kernel) | exact absurd h (show ¬ V.str ("yes" : Str) = V.str "plus" by decide +kernel) | exact absurd h (show ¬ V.str ("no" : Str) = V.str "plus" by decide +kernel) | exact absurd h (show ¬ V.str ("least" : Str) = V.str "plus" by decide +kernel) | exact absurd h (show ¬ V.str ("most" : Str) = V.str "plus" by decide +kernel) | exact absurd h (show ¬ V.str ("atmost" : Str) = V.str "plus" by decide +kernel) | exact absurd h (show ¬ V.str ("both" : Str) = V.str "plus" by decide +kernel) | exact absurd h (show ¬ V.str ("either" : Str) = V.str "plus" by decide +kernel) | exact absurd h (show ¬ V.str ("not" : Str) = V.str "plus" by decide +kernel) | exact absurd h (show ¬ V.str ("if" : Str) = V.str "plus" by decide +kernel)
  | bin w a b => cases w <;> first | exact absurd h (show ¬ V.str ("in" : Str) = V.str "plus" by decide +kernel) | exact absurd h (show ¬ V.str ("num" : Str) = V.str "plus" by decide +kernel) | exact absurd h (show ¬ V.str ("yes" : Str) = V.str "plus" by decide +kernel) | exact absurd h (show ¬ V.str ("no" : Str) = V.str "plus" by decide +kernel) | exact absurd h (show ¬ V.str ("least" : Str) = V.str "plus" by decide +kernel) | exact absurd h (show ¬ V.str ("most" : Str) = V.str "plus" by decide +kernel) | exact absurd h (show ¬ V.str ("atmost" : Str) = V.str "plus" by decide +kernel) | exact absurd h (show ¬ V.str ("both" : Str) = V.str "plus" by decide +kernel) | exact absurd h (show ¬ V.str ("either" : Str) = V.str "plus" by decide +kernel) | exact absurd h (show ¬ V.str ("not" : Str) = V.str "plus" by decide +kernel) | exact absurd h (show ¬ V.str ("if" : Str) = V.str "plus" by decide +kernel)
  | _ => first | exact absurd h (show ¬ V.str ("in" : Str) = V.str "plus" by decide +kernel) | exact absurd h (show ¬ V.str ("num" : Str) = V.str "plus" by decide +kernel) | exact absurd h (show ¬ V.str ("yes" : Str) = V.str "plus" by decide +kernel) | exact absurd h (show ¬ V.str ("no" : Str) = V.str "plus" by decide +kernel) | exact absurd h (show ¬ V.str ("least" : Str) = V.str "plus" by decide +kernel) | exact absurd h (show ¬ V.str ("most" : Str) = V.str "plus" by decide +kernel) | exact absurd h (show ¬ V.str ("atmost" : Str) = V.str "plus" by decide +kernel) | exact absurd h (show ¬ V.str ("both" : Str) = V.str "plus" by decide +kernel) | exact absurd h (show ¬ V.str ("either" : Str) = V.str "plus" by decide +kernel) | exact absurd h (show ¬ V.str ("not" : Str) = V.str "plus" by decide +kernel) | exact absurd h (show ¬ V.str ("if" : Str) = V.str "plus" by decide +kernel)
theorem word_num {p : Pg} (h : V.str (word p) = V.str "num") : ∃ c, p = .num c := by
  cases p with
  | num c => exact ⟨c, rfl⟩
  | tr b => cases b <;> first | exact absurd h (show ¬ V.str ("in" : Str) = V.str "num" by decide +kernel) | exact absurd h (show ¬ V.str ("yes" : Str) = V.str "num" by decide +kernel) | exact absurd h (show ¬ V.str ("no" : Str) = V.str "num" by decide +kernel) | exact absurd h (show ¬ V.str ("plus" : Str) = V.str "num" by decide +kernel) | exact absurd h (show ¬ V.str ("least" : Str) = V.str "num" by decide +kernel) | exact absurd h (show ¬ V.str ("most" : Str) = V.str "num" by decide +kernel) | exact absurd h (show ¬ V.str ("atmost" : Str) = V.str "num" by decide +kernel) | exact absurd h (show ¬ V.str ("both" : Str) = V.str "num" by decide +kernel) | exact absurd h (show ¬ V.str ("either" : Str) = V.str "num" by decide +kernel) | exact absurd h (show ¬ V.str ("not" : Str) = V.str "num" by decide +kernel) | exact absurd h (show ¬ V.str ("if" : Str) = V.str "num" by decide +kernel)
  | bin w a b => cases w <;> first | exact absurd h (show ¬ V.str ("in" : Str) = V.str "num" by decide +kernel) | exact absurd h (show ¬ V.str ("yes" : Str) = V.str "num" by decide +kernel) | exact absurd h (show ¬ V.str ("no" : Str) = V.str "num" by decide +kernel) | exact absurd h (show ¬ V.str ("plus" : Str) = V.str "num" by decide +kernel) | exact absurd h (show ¬ V.str ("least" : Str) = V.str "num" by decide +kernel) | exact absurd h (show ¬ V.str ("most" : Str) = V.str "num" by decide +kernel) | exact absurd h (show ¬ V.str ("atmost" : Str) = V.str "num" by decide +kernel) | exact absurd h (show ¬ V.str ("both" : Str) = V.str "num" by decide +kernel) | exact absurd h (show ¬ V.str ("either" : Str) = V.str "num" by decide +kernel) | exact absurd h (show ¬ V.str ("not" : Str) = V.str "num" by decide +kernel) | exact absurd h (show ¬ V.str ("if" : Str) = V.str "num" by decide +kernel)
  | _ => first | exact absurd h (show ¬ V.str ("in" : Str) = V.str "num" by decide +kernel) | exact absurd h (show ¬ V.str ("yes" : Str) = V.str "num" by decide +kernel) | exact absurd h (show ¬ V.str ("no" : Str) = V.str "num" by decide +kernel) | exact absurd h (show ¬ V.str ("plus" : Str) = V.str "num" by decide +kernel) | exact absurd h (show ¬ V.str ("least" : Str) = V.str "num" by decide +kernel) | exact absurd h (show ¬ V.str ("most" : Str) = V.str "num" by decide +kernel) | exact absurd h (show ¬ V.str ("atmost" : Str) = V.str "num" by decide +kernel) | exact absurd h (show ¬ V.str ("both" : Str) = V.str "num" by decide +kernel) | exact absurd h (show ¬ V.str ("either" : Str) = V.str "num" by decide +kernel) | exact absurd h (show ¬ V.str ("not" : Str) = V.str "num" by decide +kernel) | exact absurd h (show ¬ V.str ("if" : Str) = V.str "num" by decide +kernel)
section
variable {P : Program} {w : World} {K : PySem.W.Frag} {mg : Str → Option Value} {base : Heap}
abbrev s_refuse_forms : Stmt := topS 15
theorem sc_refuse_forms : FnScope ["every", "at", "knot"] ["every"] (defScope s_refuse_forms) := ⟨rfl, rfl, rfl, by decide +kernel, rfl, by decide +kernel, by decide +kernel⟩
def spRF (K : PySem.W.Frag) : Sp := fun vs H Q _ => ∃ (l : Addr) (us : List V) (ps : List Pg), vs = [.ref l] ∧ H l = some (.lst us) ∧ Ats K H us ps ∧ ∀ H', Same H H' → Q .non H'
theorem ok_refuse_forms (B : Bt mg) (C_has_form : Cal P w K mg base 2 "has_form" ["thing"] (spHF K)) (D : DefAt K mg "refuse_forms" s_refuse_forms ["every"]) : Cal P w K mg base 3 "refuse_forms" ["every"] (spRF K) := by
  refine cal_of D sc_refuse_forms (fun vs H Q E h => ?_) (fun f cdv A outer s H vs Q E hr h => ?_)
  · obtain ⟨l, us, ps, rfl, _⟩ := h
    rfl
  obtain ⟨l, us, ps, rfl, hL, ha, q⟩ := h
  have hr' : Room 2 _ := hr
  refine ⟨_, (pss_one (ps_for PassesOwn.never rfl (pi_enum (by rfl) B.enumerate (pa_cons (pv 0) pa_nil)) (pg_tup rfl (pgs_cons (pg_name (i := 1) sc_refuse_forms.nd rfl (.inl rfl)) (pgs_cons (pg_name (i := 2) sc_refuse_forms.nd rfl (.inl rfl)) pgs_nil)))
        (pss_one (ps_if (pt_not (pt_val (pe_cal C_has_form hr' (by rfl) (pa_cons (pv 2) pa_nil))))
        (pss_one ps_never)
        pss_nil)))), ?_⟩
  refine ⟨_, rfl, l, _, rfl, SqL.of hL, for_enum (K := K) (a := l) (xs := us) (fun i σ' H' => ∃ y1 y2 : Option V, σ' = [some (.ref l), y1, y2] ∧ Same H H') ⟨none, none, rfl, Same.refl _⟩ ?_ ?_ ?_⟩
  · rintro i σ' H' ⟨y1, y2, rfl, sm⟩
    exact SqL.of (sm _ _ hL)
  · rintro i x T σ' H' hx ⟨y1, y2, rfl, sm⟩ hT
    obtain ⟨p, _, hp⟩ := ha.get i x hx
    have sT := sm.trans (same_new (o := .tup [.int (i : Nat), x]) hT)
    refine ⟨T, _, rfl, .inl (.inl upd_same), rfl, _, _, rfl, _, [], rfl, rfl, ?_⟩
    exact ⟨_, rfl, x, p, rfl, hp.keep (Tp.same sT), _, rfl, _, _, rfl, sT⟩
  · rintro σ' H' ⟨y1, y2, rfl, sm⟩
    exact q H' sm
abbrev s_refuse_inputs : Stmt := topS 16
theorem sc_refuse_inputs : FnScope ["every", "many", "at", "knot"] ["every", "many"] (defScope s_refuse_inputs) := ⟨rfl, rfl, rfl, by decide +kernel, rfl, by decide +kernel, by decide +kernel⟩
def spRI (K : PySem.W.Frag) : Sp := fun vs H Q _ => ∃ (l : Addr) (us : List V) (ps : List Pg) (ks : List Bool), vs = [.ref l, .int (ks.length : Nat)] ∧ H l = some (.lst us) ∧ Ats K H us ps ∧ (∀ p ∈ ps, Wk ks p) ∧ ∀ H', Same H H' → Q .non H'
theorem ok_refuse_inputs (B : Bt mg) (D : DefAt K mg "refuse_inputs" s_refuse_inputs ["every", "many"]) : Cal P w K mg base 1 "refuse_inputs" ["every", "many"] (spRI K) := by
  refine cal_of D sc_refuse_inputs (fun vs H Q E h => ?_) (fun f cdv A outer s H vs Q E hr h => ?_)
  · obtain ⟨l, us, ps, ks, rfl, _⟩ := h
    rfl
  obtain ⟨l, us, ps, ks, rfl, hL, ha, hw, q⟩ := h
  refine ⟨_, (pss_one (ps_for PassesOwn.never rfl (pi_enum (by rfl) B.enumerate (pa_cons (pv 0) pa_nil)) (pg_tup rfl (pgs_cons (pg_name (i := 2) sc_refuse_inputs.nd rfl (.inl rfl)) (pgs_cons (pg_name (i := 3) sc_refuse_inputs.nd rfl (.inl rfl)) pgs_nil)))
        (pss_one (ps_if (PW.pt (pw_and (pt_cmpR op_eq (pe_ix ix_tup (pv 3) pe_int (fun _ _ => rfl)) pe_str (nomark _)) (pw_and1 (pt_not (pt_chain op_le op_lt pe_int (pe_ix ix_tup (pv 3) pe_int (fun _ _ => rfl)) (pv 1))))))
        (pss_one ps_never)
        pss_nil)))), ?_⟩
  refine ⟨_, rfl, l, _, rfl, SqL.of hL, for_enum (K := K) (a := l) (xs := us) (fun i σ' H' => ∃ y1 y2 : Option V, σ' = [some (.ref l), some (.int (ks.length : Nat)), y1, y2] ∧ Same H H') ⟨none, none, rfl, Same.refl _⟩ ?_ ?_ ?_⟩
  · rintro i σ' H' ⟨y1, y2, rfl, sm⟩
    exact SqL.of (sm _ _ hL)
  · rintro i x T σ' H' hx ⟨y1, y2, rfl, sm⟩ hT
    obtain ⟨p, hpi, hp⟩ := ha.get i x hx
    have hwp := hw p (List.mem_of_getElem? hpi)
    have sT := sm.trans (same_new (o := .tup [.int (i : Nat), x]) hT)
    refine ⟨T, _, rfl, .inl (.inl upd_same), rfl, _, _, rfl, _, [], rfl, rfl, ?_⟩
    obtain ⟨a, vs, rfl, hA, hvs⟩ := (hp.keep (Tp.same sT)).open
    refine ⟨_, rfl, a, _, 0, _, rfl, rfl, hA, at_word p vs, rfl, _, rfl, ite2 (fun z => ?_) (fun z => ?_)⟩
    · have z' : V.str (word p) = V.str "in" := of_decide_eq_true z
      obtain ⟨k, rfl⟩ := word_in z'
      have hk : k < ks.length := hwp
      refine ⟨_, rfl, a, _, 1, .int k, rfl, rfl, hA, at_of (j := 1) rfl rfl, _, _, rfl, rfl, _, rfl, ite2 (fun _ => ?_) (fun y => ?_)⟩
      · refine ⟨_, rfl, _, _, rfl, rfl, _, rfl, ite2 (fun y => ?_) (fun y => ?_)⟩
        · have : decide ((k : Int) < ((ks.length : Nat) : Int)) = true := decide_eq_true (by omega)
          rw [this] at y
          cases y
        · exact ⟨_, _, rfl, sT⟩
      · exact absurd (decide_eq_true (by omega)) y
    · exact ⟨_, _, rfl, sT⟩
  · rintro σ' H' ⟨y1, y2, rfl, sm⟩
    exact q H' sm
end
end Lm

set_option Elab.async false
set_option linter.all false
set_option maxRecDepth 100000
set_option maxHeartbeats 2000000
namespace Lm
open PySem PySem.Spec PyProof.Rows L2 LmR
def kD (b : Bool) : PyData := .str (kS b)
theorem sh0 : SeqAt.shaped (.tuple []) = true := by decide +kernel
theorem sh1 (a : Bool) : SeqAt.shaped (.tuple [kD a]) = true := by revert a; decide +kernel
theorem sh2 (a b : Bool) : SeqAt.shaped (.tuple [kD a, kD b]) = true := by revert a b; decide +kernel
theorem sh3 (a b c : Bool) : SeqAt.shaped (.tuple [kD a, kD b, kD c]) = true := by revert a b c; decide +kernel
theorem eqv_sh {d : PyData} (h : SeqAt.shaped d = true) : PyData.eqv d d = true := by
  unfold SeqAt.shaped at h
  rw [Bool.and_eq_true] at h
  exact SeqAt.eqv_refl d h.1
/-- the kinds of some programs -/
def kids (ks : List Bool) (ps : List Pg) : List V := ps.map fun p => V.str (kS (own ks p))
section
variable {P : Program} {w : World} {K : PySem.W.Frag} {mg : Str → Option Value} {base : Heap}
abbrev s_parts_fit : Stmt := topS 17
theorem sc_parts_fit : FnScope ["word", "told", "due"] ["word", "told"] (defScope s_parts_fit) := ⟨rfl, rfl, rfl, by decide +kernel, rfl, by decide +kernel, by decide +kernel⟩
def spPF (K : PySem.W.Frag) : Sp := fun vs H Q _ => ∃ (p : Pg) (ks : List Bool) (t : Addr), vs = [.str (word p), .ref t] ∧ SqT K H t (kids ks (parts p)) ∧ Wk ks p ∧ ∀ H', Same H H' → Q (.bl true) H'
theorem ok_parts_fit {d : Addr} (F : Forms K w mg d) (D : DefAt K mg "parts_fit" s_parts_fit ["word", "told"]) : Cal P w K mg base 1 "parts_fit" ["word", "told"] (spPF K) := by
  refine cal_of D sc_parts_fit (fun vs H Q E h => ?_) (fun f cdv A outer s H vs Q E hr h => ?_)
  · obtain ⟨p, ks, t, rfl, _⟩ := h
    rfl
  obtain ⟨p, ks, t, rfl, ht, hw, q⟩ := h
  have hFORMS := F.g
  refine ⟨_, (pss_cons (ps_set (i := 2) sc_parts_fit.nd rfl (.inl rfl) (pe_ix ix_tup (pe_ix ix_kdict (pe_gr (by rfl) hFORMS) (pv 0) (fun _ _ => rfl)) pe_int (fun _ _ => rfl)))
      (pss_cons (ps_if (pt_cmpR op_eq (pv 0) pe_str (nomark _))
        (pss_one (ps_ret (pe_cmpR (op_eqD hr.units) (pv 1) (pe_tup (pa_cons (pe_ix ix_tup (pv 2) pe_int (fun _ _ => rfl)) (pa_cons (pe_ix ix_tup (pv 1) pe_int (fun _ _ => rfl)) (pa_cons (pe_ix ix_tup (pv 1) pe_int (fun _ _ => rfl)) pa_nil)))) (nomark _))))
        pss_nil)
      (pss_one (ps_ret (pe_cmpR (op_eqD hr.units) (pv 1) (pv 2) (nomark _)))))), ?_⟩
  obtain ⟨ft, fu, e, fa, fb⟩ := F.at p
  refine ⟨_, rfl, d, word p, .ref ft, rfl, rfl, e, ft, _, 1, .ref fu, rfl, rfl, fa.sq _, rfl, ?_⟩
  refine ⟨_, rfl, rfl, _, rfl, ite2 (fun z => ?_) (fun z => ?_)⟩
  · have z' : V.str (word p) = V.str "if" := of_decide_eq_true z
    obtain ⟨r, x, y, rfl⟩ := word_if z'
    obtain ⟨_, _, _, h1, h2⟩ := hw
    refine ⟨_, rfl, _, rfl, fu, _, 0, _, rfl, rfl, fb.sq _, rfl, _, rfl, t, _, 1, _, rfl, rfl, ht, rfl, _, rfl, t, _, 1, _, rfl, rfl, ht, rfl, (by show 3 ≤ sizeLine; decide), fun n hn => ?_⟩
    have sn : Same H (upd H n (.tup [.str (kS true), .str (kS (own ks x)), .str (kS (own ks x))])) := same_new hn
    refine ⟨.tuple [kD true, kD (own ks x), kD (own ks x)], .tuple [kD true, kD (own ks x), kD (own ks x)], ?_, .tup (.inl (.inl upd_same)) (.cons (.str _) (.cons (.str _) (.cons (.str _) .nil))), sh3 _ _ _, sh3 _ _ _, ?_⟩
    · have e2 : kids ks (parts (.ite r x y)) = [.str (kS true), .str (kS (own ks x)), .str (kS (own ks x))] := by
        show [V.str (kS (own ks r)), V.str (kS (own ks x)), V.str (kS (own ks y))] = _
        rw [h1, h2]
      rw [e2] at ht
      exact .tup (Tp.same sn _ _ ht) (.cons (.str _) (.cons (.str _) (.cons (.str _) .nil)))
    · rw [eqv_sh (sh3 _ _ _)]
      exact q _ sn
  · have fin : ∀ ds : List PyData, DpAll K H (kids ks (parts p)) ds → DpAll K H (due p) ds → SeqAt.shaped (.tuple ds) = true → ∃ d e, Dp K H (.ref t) d ∧ Dp K H (.ref fu) e ∧ SeqAt.shaped d = true ∧ SeqAt.shaped e = true ∧ Q (.bl (PyData.eqv d e)) H := fun ds h1 h2 h3 => ⟨_, _, .tup ht h1, .tup (fb.sq _) h2, h3, h3, by rw [eqv_sh h3]; exact q _ (Same.refl _)⟩
    refine ⟨_, rfl, _, rfl, ?_⟩
    cases p with
    | inp k => exact fin [] .nil .nil sh0
    | num k => exact fin [] .nil .nil sh0
    | tr k => exact fin [] .nil .nil sh0
    | plus c a =>
      obtain ⟨_, h⟩ := hw
      refine fin [kD false] ?_ (.cons (.str _) .nil) (sh1 _)
      show DpAll K H [V.str (kS (own ks a))] _
      rw [h]
      exact .cons (.str _) .nil
    | bin w a b =>
      obtain ⟨_, _, h1, h2⟩ := hw
      refine fin [kD w.arg, kD w.arg] ?_ (.cons (.str _) (.cons (.str _) .nil)) (sh2 _ _)
      show DpAll K H [V.str (kS (own ks a)), V.str (kS (own ks b))] _
      rw [h1, h2]
      exact .cons (.str _) (.cons (.str _) .nil)
    | neg a =>
      obtain ⟨_, h⟩ := hw
      refine fin [kD true] ?_ (.cons (.str _) .nil) (sh1 _)
      show DpAll K H [V.str (kS (own ks a))] _
      rw [h]
      exact .cons (.str _) .nil
    | ite r x y => exact absurd (decide_eq_true rfl) z
abbrev s_own_kind : Stmt := topS 18
theorem sc_own_kind : FnScope ["kinds", "knot", "told"] ["kinds", "knot", "told"] (defScope s_own_kind) := ⟨rfl, rfl, rfl, by decide +kernel, rfl, by decide +kernel, by decide +kernel⟩
def spOK (K : PySem.W.Frag) : Sp := fun vs H Q _ => ∃ (p : Pg) (ks : List Bool) (ka t : Addr) (v : V), vs = [.ref ka, v, .ref t] ∧ SqT K H ka (kVs ks) ∧ At K H v p ∧ SqT K H t (kids ks (parts p)) ∧ Wk ks p ∧ Q (.str (kS (own ks p))) H
theorem ok_own_kind {d : Addr} (F : Forms K w mg d) (D : DefAt K mg "own_kind" s_own_kind ["kinds", "knot", "told"]) : Cal P w K mg base 1 "own_kind" ["kinds", "knot", "told"] (spOK K) := by
  refine cal_of D sc_own_kind (fun vs H Q E h => ?_) (fun f cdv A outer s H vs Q E hr h => ?_)
  · obtain ⟨p, ks, ka, t, v, rfl, _⟩ := h
    rfl
  obtain ⟨p, ks, ka, t, v, rfl, hk, hv, ht, hw, q⟩ := h
  have hFORMS := F.g
  refine ⟨_, (pss_cons (ps_if (pt_cmpR op_eq (pe_ix ix_tup (pv 1) pe_int (fun _ _ => rfl)) pe_str (nomark _))
        (pss_one (ps_ret (pe_ix ix_tup (pv 0) (pe_ix ix_tup (pv 1) pe_int (fun _ _ => rfl)) (fun _ _ => rfl))))
        pss_nil)
      (pss_cons (ps_if (pt_cmpR op_eq (pe_ix ix_tup (pv 1) pe_int (fun _ _ => rfl)) pe_str (nomark _))
        (pss_one (ps_ret (pe_ix ix_tup (pv 2) pe_int (fun _ _ => rfl))))
        pss_nil)
      (pss_one (ps_ret (pe_ix ix_tup (pe_ix ix_kdict (pe_gr (by rfl) hFORMS) (pe_ix ix_tup (pv 1) pe_int (fun _ _ => rfl)) (fun _ _ => rfl)) pe_int (fun _ _ => rfl)))))), ?_⟩
  obtain ⟨a, vs, rfl, ha, hvs⟩ := hv.open
  obtain ⟨ft, fu, e, a', b⟩ := F.at p
  refine ⟨_, rfl, a, _, 0, _, rfl, rfl, ha, at_word p vs, rfl, _, rfl, ite2 (fun z => ?_) (fun z => ?_)⟩
  · have z' : V.str (word p) = V.str "in" := of_decide_eq_true z
    obtain ⟨k, rfl⟩ := word_in z'
    have hk' : k < ks.length := hw
    have ek : (kVs ks)[k]? = some (.str (kS (own ks (.inp k)))) := by
      unfold kVs
      rw [List.getElem?_map, List.getElem?_eq_getElem hk']
      show some (V.str (kS ks[k])) = some (V.str (kS (ks.getD k false)))
      rw [List.getD_eq_getElem?_getD, List.getElem?_eq_getElem hk']
      rfl
    exact ⟨_, rfl, _, rfl, a, _, 1, .int k, rfl, rfl, ha, at_of (j := 1) rfl rfl, ka, _, _, _, rfl, rfl, hk, at_of (j := k) rfl ek, q⟩
  refine ⟨_, rfl, a, _, 0, _, rfl, rfl, ha, at_word p vs, rfl, _, rfl, ite2 (fun y => ?_) (fun y => ?_)⟩
  · have y' : V.str (word p) = V.str "if" := of_decide_eq_true y
    obtain ⟨r, x, u, rfl⟩ := word_if y'
    exact ⟨_, rfl, t, _, 1, .str (kS (own ks x)), rfl, rfl, ht, rfl, q⟩
  · have eo : ownV p = .str (kS (own ks p)) := by
      cases p with
      | inp k => exact absurd (decide_eq_true rfl) z
      | ite r x u => exact absurd (decide_eq_true rfl) y
      | _ => rfl
    rw [eo] at a'
    exact ⟨_, rfl, a, _, 0, _, rfl, rfl, ha, at_word p vs, d, word p, .ref ft, rfl, rfl, e, ft, _, 2, _, rfl, rfl, a'.sq _, rfl, q⟩
theorem knf_len : ∀ fs : List Pg, fs.length ≤ (knf fs).length
  | [] => Nat.le_refl _
  | q :: fs => by
    have := knf_len fs
    have h : knf (q :: fs) = kn q ++ knf fs := by simp [knf]
    rw [h, List.length_append, kn_len, List.length_cons]
    have := psz_pos q
    omega
abbrev s_knots : Stmt := topS 6
theorem sc_knots : FnScope ["program", "told", "waiting", "knot"] ["program"] (defScope s_knots) := ⟨rfl, rfl, rfl, by decide +kernel, rfl, by decide +kernel, by decide +kernel⟩
def spKnots (K : PySem.W.Frag) : Sp := fun vs H Q _ => ∃ (v : V) (p : Pg), vs = [v] ∧ At K H v p ∧ psz p ≤ 10000 ∧ ∀ (l : Addr) (us : List V) (H' : Hp), Same H H' → H l = none → H' l = some (.lst us) → Ats K H' us (kn p) → Q (.ref l) H'
theorem ok_knots (C_has_form : Cal P w K mg base 2 "has_form" ["thing"] (spHF K)) (C_parts_of : Cal P w K mg base 2 "parts_of" ["knot"] (spPO K)) (D : DefAt K mg "knots" s_knots ["program"]) : Cal P w K mg base 3 "knots" ["program"] (spKnots K) := by
  refine cal_of D sc_knots (fun vs H Q E h => ?_) (fun f cdv A outer s H vs Q E hr h => ?_)
  · obtain ⟨v, p, rfl, _⟩ := h
    rfl
  obtain ⟨v, p, rfl, hv, hsz, q⟩ := h
  have hr' : Room 2 _ := hr
  refine ⟨_, (pss_cons (ps_set (i := 1) sc_knots.nd rfl (.inl rfl) (pe_lst pa_nil))
      (pss_cons (ps_set (i := 2) sc_knots.nd rfl (.inl rfl) (pe_lst (pa_cons (pv 0) pa_nil)))
      (pss_cons (ps_while PassesOwn.never (pt_truth (pv 2) (by intro _; rfl))
        (pss_cons (ps_set (i := 3) sc_knots.nd rfl (.inl rfl) (pe_bm0 PySem.F.plainAttrs_list PySem.F.slot_list_pop PySem.F.type_list_pop mt_pop (pv 2)))
      (pss_cons (ps_expr (pe_bm PySem.F.plainAttrs_list PySem.F.slot_list_append PySem.F.type_list_append mt_append (pv 1) (pa_cons (pv 3) pa_nil)))
      (pss_one (ps_if (pt_val (pe_cal C_has_form hr' (by rfl) (pa_cons (pv 3) pa_nil)))
        (pss_one (ps_expr (pe_bm PySem.F.plainAttrs_list PySem.F.slot_list_extend PySem.F.type_list_extend mt_extendT (pv 2) (pa_cons (pe_revT (pe_cal C_parts_of hr' (by rfl) (pa_cons (pv 3) pa_nil))) pa_nil))))
        pss_nil)))))
      (pss_one (ps_ret (pv 1)))))), ?_⟩
  refine ⟨(by show 0 ≤ sizeLine; decide), fun lt hlt => ⟨_, rfl, (by show 1 ≤ sizeLine; decide), fun lw hlw => ?_⟩⟩
  have s1 : Same H (upd H lt (.lst [])) := same_new hlt
  have s2 : Same (upd H lt (.lst [])) (upd (upd H lt (.lst [])) lw (.lst [v])) := same_new hlw
  have lw0 : H lw = none := s1.free hlw
  have ntw : lt ≠ lw := fun z => by rw [← z, upd_same] at hlw; cases hlw
  refine ⟨fun m σ H' => ∃ (fs done : List Pg) (us ws : List V) (y3 : Option V), σ = [some v, some (.ref lt), some (.ref lw), y3] ∧ m = (knf fs).length ∧ Same H H' ∧ H' lt = some (.lst us) ∧ H' lw = some (.lst ws.reverse) ∧ Ats K H' ws fs ∧ Ats K H' us done ∧ done ++ knf fs = kn p, ?_, ?_⟩
  · refine ⟨_, [p], [], [], [v], none, rfl, rfl, s1.trans s2, s2 _ _ upd_same, upd_same, .cons (hv.keep (Tp.same (s1.trans s2))) .nil, .nil, by rw [knf_one]; rfl⟩
  · rintro m σ H' ⟨fs, done, us, ws, y3, rfl, rfl, sm, ht, hw, aw, au, ek⟩
    have lk : done.length + (knf fs).length = psz p := by rw [← kn_len, ← ek, List.length_append]
    refine ⟨_, rfl, _, .inl ⟨_, SqL.of hw, rfl⟩, ite2 (fun c => ?_) (fun c => ?_)⟩
    · cases ws with
      | nil => simp at c
      | cons x ws =>
        cases fs with
        | nil => cases aw
        | cons r fs =>
          obtain ⟨ax, aws⟩ : At K H' x r ∧ Ats K H' ws fs := by
            cases aw with
            | cons a b => exact ⟨a, b⟩
          rw [List.reverse_cons] at hw
          rw [knf_cons] at ek lk ⊢
          rw [List.length_cons] at lk ⊢
          refine ⟨fun σ' H2 => ∃ m', m' < (knf (parts r ++ fs)).length + 1 ∧ ∃ (fs done : List Pg) (us ws : List V) (y3 : Option V), σ' = [some v, some (.ref lt), some (.ref lw), y3] ∧ m' = (knf fs).length ∧ Same H H2 ∧ H2 lt = some (.lst us) ∧ H2 lw = some (.lst ws.reverse) ∧ Ats K H2 ws fs ∧ Ats K H2 us done ∧ done ++ knf fs = kn p, fun σ' H2 h => h, ?_⟩
          refine ⟨_, rfl, .inl ⟨rfl, _, SqL.of hw⟩, lw, _, x, rfl, rfl, hw, ?_, ?_⟩
          · rw [List.length_append, List.length_singleton, Nat.add_sub_cancel, List.getElem?_append_right (Nat.le_refl _), Nat.sub_self]
            rfl
          rw [List.dropLast_concat]
          have t2 : Tp K H' (upd H' lw (.lst ws.reverse)) := Tp.lst hw
          have hw2 : (upd H' lw (.lst ws.reverse)) lw = some (.lst ws.reverse) := upd_same
          have ht2 : (upd H' lw (.lst ws.reverse)) lt = some (.lst us) := by rw [upd_ne ntw]; exact ht
          have sm2 : Same H (upd H' lw (.lst ws.reverse)) := fun b o z => by
            rw [upd_ne (ne_of_none z lw0)]
            exact sm b o z
          generalize upd H' lw (.lst ws.reverse) = H2 at t2 hw2 ht2 sm2
          have ul : us.length = done.length := au.len
          refine ⟨_, rfl, .inl ⟨rfl, _, SqL.of ht2⟩, _, rfl, lt, _, _, rfl, rfl, ht2, smallL (by omega), ?_⟩
          have t3 : Tp K H2 (upd H2 lt (.lst (us ++ [x]))) := Tp.lst ht2
          have hw3 : (upd H2 lt (.lst (us ++ [x]))) lw = some (.lst ws.reverse) := by rw [upd_ne ntw.symm]; exact hw2
          have ht3 : (upd H2 lt (.lst (us ++ [x]))) lt = some (.lst (us ++ [x])) := upd_same
          have sm3 : Same H (upd H2 lt (.lst (us ++ [x]))) := fun b o z => by
            rw [upd_ne (ne_of_none z hlt)]
            exact sm2 b o z
          generalize upd H2 lt (.lst (us ++ [x])) = H3 at t3 hw3 ht3 sm3
          have t13 := t2.trans t3
          have ax3 := ax.keep t13
          refine ⟨_, rfl, x, r, rfl, ax3, _, rfl, ?_⟩
          refine ⟨_, rfl, .inl ⟨rfl, _, SqL.of hw3⟩, _, rfl, x, r, rfl, ax3, fun t vs ht' hvs => ?_⟩
          have s4 : Same H3 (upd H3 t (.tup vs)) := same_new ht'
          refine ⟨t, vs, rfl, .inl (.inl upd_same), fun t2' ht2' => ?_⟩
          have s5 : Same (upd H3 t (.tup vs)) (upd (upd H3 t (.tup vs)) t2' (.tup vs.reverse)) := same_new ht2'
          have s35 := s4.trans s5
          have hw5 := s35 _ _ hw3
          have ht5 := s35 _ _ ht3
          have vl := hvs.len
          have wl := aws.len
          have kl := knf_len (parts r ++ fs)
          rw [List.length_append] at kl
          refine ⟨lw, t2', _, _, rfl, rfl, hw5, .inl (.inl upd_same), by rw [List.length_reverse, List.length_reverse]; exact small (by omega), ?_⟩
          have t6 : Tp K H3 (upd (upd (upd H3 t (.tup vs)) t2' (.tup vs.reverse)) lw (.lst (ws.reverse ++ vs.reverse))) := (Tp.same s35).trans (Tp.lst hw5)
          refine ⟨(knf (parts r ++ fs)).length, Nat.lt_succ_self _, parts r ++ fs, done ++ [r], us ++ [x], vs ++ ws, some x, rfl, rfl, ?_, by rw [upd_ne ntw]; exact ht5, by rw [upd_same, List.reverse_append], (hvs.keep t6).app ((aws.keep t13).keep t6), ((au.keep t13).keep t6).app (.cons (ax3.keep t6) .nil), by rw [← ek, List.append_assoc]; rfl⟩
          intro b o z
          rw [upd_ne (ne_of_none z lw0)]
          exact s35 _ _ (sm3 b o z)
    · cases ws with
      | cons x ws => exact absurd (by simp) c
      | nil =>
        cases fs with
        | cons r fs => cases aw
        | nil =>
          have ed : done = kn p := by rw [← ek]; simp [knf]
          rw [ed] at au
          exact ⟨_, rfl, q lt us H' sm hlt ht au⟩
end
end Lm

set_option Elab.async false
set_option linter.all false
set_option maxRecDepth 100000
set_option maxHeartbeats 2000000
namespace Lm
open PySem PySem.Spec PyProof.Rows L2 LmR
section
variable {P : Program} {w : World} {K : PySem.W.Frag} {mg : Str → Option Value} {base : Heap}
abbrev s_kind_of : Stmt := topS 5
theorem sc_kind_of : FnScope ["kinds", "program", "every", "wrong", "ready", "at", "word", "told"] ["kinds", "program"] (defScope s_kind_of) := ⟨rfl, rfl, rfl, by decide +kernel, rfl, by decide +kernel, by decide +kernel⟩
def spKO (K : PySem.W.Frag) : Sp := fun vs H Q _ => ∃ (ka : Addr) (ks : List Bool) (v : V) (p : Pg), vs = [.ref ka, v] ∧ SqT K H ka (kVs ks) ∧ At K H v p ∧ Wk ks p ∧ psz p ≤ 10000 ∧ ∀ H', Same H H' → Q (.str (kS (own ks p))) H'
theorem ok_kind_of (B : Bt mg) (C_knots : Cal P w K mg base 3 "knots" ["program"] (spKnots K)) (C_refuse_forms : Cal P w K mg base 3 "refuse_forms" ["every"] (spRF K)) (C_refuse_inputs : Cal P w K mg base 1 "refuse_inputs" ["every", "many"] (spRI K)) (C_taken : Cal P w K mg base 1 "taken" ["pile", "many"] (spTaken)) (C_many_parts : Cal P w K mg base 1 "many_parts" ["word"] (spMP)) (C_parts_fit : Cal P w K mg base 1 "parts_fit" ["word", "told"] (spPF K)) (C_own_kind : Cal P w K mg base 1 "own_kind" ["kinds", "knot", "told"] (spOK K)) (D : DefAt K mg "kind_of" s_kind_of ["kinds", "program"]) : Cal P w K mg base 4 "kind_of" ["kinds", "program"] (spKO K) := by
  refine cal_of D sc_kind_of (fun vs H Q E h => ?_) (fun f cdv A outer s H vs Q E hr h => ?_)
  · obtain ⟨ka, ks, v, p, rfl, _⟩ := h
    rfl
  obtain ⟨ka, ks, v, p, rfl, hk, hv, hw, hsz, q⟩ := h
  have C_refuse_inputs := C_refuse_inputs.mono (k := 3) (by decide)
  have C_taken := C_taken.mono (k := 3) (by decide)
  have C_many_parts := C_many_parts.mono (k := 3) (by decide)
  have C_parts_fit := C_parts_fit.mono (k := 3) (by decide)
  have C_own_kind := C_own_kind.mono (k := 3) (by decide)
  have hr' : Room 3 _ := hr
  refine ⟨_, (pss_cons (ps_set (i := 2) sc_kind_of.nd rfl (.inl rfl) (pe_cal C_knots hr' (by rfl) (pa_cons (pv 1) pa_nil)))
      (pss_cons (ps_expr (pe_cal C_refuse_forms hr' (by rfl) (pa_cons (pv 2) pa_nil)))
      (pss_cons (ps_expr (pe_cal C_refuse_inputs hr' (by rfl) (pa_cons (pv 2) (pa_cons (pe_callB call_len_seq (by rfl) B.len PySem.boot_len (pa_cons (pv 0) pa_nil)) pa_nil))))
      (pss_cons (ps_set (i := 3) sc_kind_of.nd rfl (.inl rfl) pe_non)
      (pss_cons (ps_set (i := 4) sc_kind_of.nd rfl (.inl rfl) (pe_lst pa_nil))
      (pss_cons (ps_for PassesOwn.never rfl (pi_revR (by rfl) B.reversed (prg_1 (by rfl) B.range (pe_callB call_len_seq (by rfl) B.len PySem.boot_len (pa_cons (pv 2) pa_nil)))) (pg_name (i := 5) sc_kind_of.nd rfl (.inl rfl))
        (pss_cons (ps_set (i := 6) sc_kind_of.nd rfl (.inl rfl) (pe_ix ix_tup (pe_ix ix_list (pv 2) (pv 5) (fun _ _ => rfl)) pe_int (fun _ _ => rfl)))
      (pss_cons (ps_set (i := 7) sc_kind_of.nd rfl (.inl rfl) (pe_cal C_taken hr' (by rfl) (pa_cons (pv 4) (pa_cons (pe_cal C_many_parts hr' (by rfl) (pa_cons (pv 6) pa_nil)) pa_nil))))
      (pss_cons (ps_if (pt_not (pt_val (pe_cal C_parts_fit hr' (by rfl) (pa_cons (pv 6) (pa_cons (pv 7) pa_nil)))))
        (pss_one (ps_set (i := 3) sc_kind_of.nd rfl (.inl rfl) (pv 5)))
        pss_nil)
      (pss_one (ps_expr (pe_bm PySem.F.plainAttrs_list PySem.F.slot_list_append PySem.F.type_list_append mt_append (pv 4) (pa_cons (pe_cal C_own_kind hr' (by rfl) (pa_cons (pv 0) (pa_cons (pe_ix ix_list (pv 2) (pv 5) (fun _ _ => rfl)) (pa_cons (pv 7) pa_nil)))) pa_nil))))))))
      (pss_cons (ps_if (pt_cmpR op_notN (pv 3) pe_non (nomark _))
        (pss_one ps_never)
        pss_nil)
      (pss_one (ps_ret (pe_ix ix_list (pv 4) pe_int (fun _ _ => rfl))))))))))), ?_⟩
  refine ⟨_, rfl, v, p, rfl, hv, hsz, fun le us H1 s1 le0 hle hus => ?_⟩
  refine ⟨_, rfl, le, us, kn p, rfl, hle, hus, fun H2 s2 => ?_⟩
  have klen : (kVs ks).length = ks.length := List.length_map _
  have hk2 : SqT K H2 ka (kVs ks) := Tp.same (s1.trans s2) _ _ hk
  refine ⟨_, rfl, _, rfl, ka, _, rfl, .inr hk2, le, us, kn p, ks, by rw [klen]; rfl, s2 _ _ hle, hus.keep (Tp.same s2), fun q' hq' => kn_wk ks p q' hw hq', fun H3 s3 => ?_⟩
  refine ⟨(by show 0 ≤ sizeLine; decide), fun lr hlr => ?_⟩
  have s4 : Same H3 (upd H3 lr (.lst [])) := same_new hlr
  have s03 : Same H H3 := s1.trans (s2.trans s3)
  have lr0 : H lr = none := s03.free hlr
  have hle4 : (upd H3 lr (.lst [])) le = some (.lst us) := (s2.trans (s3.trans s4)) _ _ hle
  have hus4 : Ats K (upd H3 lr (.lst [])) us (kn p) := hus.keep (Tp.same (s2.trans (s3.trans s4)))
  have hk4 : SqT K (upd H3 lr (.lst [])) ka (kVs ks) := Tp.same (s03.trans s4) _ _ hk
  have hlr4 : (upd H3 lr (.lst [])) lr = some (.lst []) := upd_same
  have s04 := s03.trans s4
  have nler : le ≠ lr := fun z => by
    rw [← z, (s2.trans s3) _ _ hle] at hlr
    cases hlr
  generalize upd H3 lr (.lst []) = H4 at hle4 hus4 hk4 hlr4 s04
  have ul : us.length = (kn p).length := hus.len
  have kl := kn_len p
  refine ⟨_, rfl, le, us, rfl, .inl (SqL.of hle4), _, rfl, by omega, by omega, by omega, by omega, for_rangeC (n := (((us.length : Nat) : Int) - 0).toNat) (fun i σ' H' => ∃ (fs : List Pg) (y5 y6 y7 : Option V), σ' = [some (.ref ka), some v, some (.ref le), some .non, some (.ref lr), y5, y6, y7] ∧ Same H H' ∧ H' le = some (.lst us) ∧ Ats K H' us (kn p) ∧ SqT K H' ka (kVs ks) ∧ (kn p).drop (us.length - i) = knf fs ∧ H' lr = some (.lst (kids ks fs).reverse)) ?_ ?_ ?_⟩
  · exact ⟨[], none, none, none, rfl, s04, hle4, hus4, hk4, by rw [ul, Nat.sub_zero, List.drop_length]; rfl, hlr4⟩
  · rintro i σ' H' hi ⟨fs, y5, y6, y7, rfl, sm, hle', hus', hk', hdrop, hlr'⟩
    have hi' : i < us.length := by omega
    obtain ⟨x, hx⟩ : ∃ x, (kn p)[us.length - (i + 1)]? = some x := ⟨_, List.getElem?_eq_getElem (by omega)⟩
    have hu : us[us.length - (i + 1)]? = some us[us.length - (i + 1)] := List.getElem?_eq_getElem (by omega)
    obtain ⟨x', hx', hax⟩ := hus'.get _ _ hu
    rw [hx] at hx'
    have ex := Option.some.inj hx'
    subst ex
    generalize us[us.length - (i + 1)] = xv at hu hax
    have e1 : us.length - (i + 1) + 1 = us.length - i := by omega
    obtain ⟨rest, rfl, hdr⟩ := knf_step hx (by rw [e1]; exact hdrop)
    have hwx : Wk ks x := kn_wk ks p x hw (List.mem_of_getElem? hx)
    have eidx : (0 : Int) + ((((us.length : Nat) : Int) - 0).toNat : Int) - 1 + (i : Int) * (-1) = ((us.length - (i + 1) : Nat) : Int) := by omega
    obtain ⟨a, vs, rfl, ha, hvs⟩ := hax.open
    refine ⟨_, rfl, _, rfl, le, us, _, _, rfl, rfl, SqL.of hle', at_of (j := us.length - (i + 1)) eidx hu, a, _, 0, _, rfl, rfl, ha, at_word x vs, ?_⟩
    have ekids : kids ks (parts x ++ rest) = kids ks (parts x) ++ kids ks rest := List.map_append ..
    have elen : (kids ks (parts x)).length = (parts x).length := List.length_map _
    have plen : (parts x).length ≤ 3 := by cases x <;> simp [parts]
    rw [ekids, List.reverse_append] at hlr'
    refine ⟨_, rfl, _, rfl, x, rfl, lr, (kids ks rest).reverse, kids ks (parts x), by rw [elen]; rfl, hlr', by omega, fun t H5 ex5 hlr5 ht5 => ?_⟩
    have nar : ∀ {o : HO}, ∀ b, H b = some o → b ∉ [lr] := fun b hb => by simp [ne_of_none hb lr0]
    have sm5 : Same H H5 := fun b o hb => ex5 b o (sm b o hb) (nar b hb)
    have tp5 : Tp K H' H5 := ex5.tp fun b hb ys z => by
      rw [List.mem_singleton.mp hb] at z
      rcases z with z | ⟨o, z⟩
      · rw [hlr'] at z; cases z
      · rw [hlr'] at z; cases z
    have hle5 := ex5 _ _ hle' (by simp [nler])
    have hus5 := hus'.keep tp5
    have hk5 := tp5 _ _ hk'
    refine ⟨_, rfl, _, rfl, x, ks, t, rfl, .inl (.inl ht5), hwx, fun H6 s6 => ⟨_, rfl, ?_⟩⟩
    have hlr6 := s6 _ _ hlr5
    have hle6 := s6 _ _ hle5
    have hax6 : At K H6 (.ref a) x := (hax.keep tp5).keep (Tp.same s6)
    refine ⟨_, rfl, .inl ⟨rfl, _, SqL.of hlr6⟩, _, rfl, _, rfl, _, rfl, le, us, _, _, rfl, rfl, SqL.of hle6, at_of (j := us.length - (i + 1)) eidx hu, _, rfl, ?_⟩
    refine ⟨x, ks, ka, t, .ref a, rfl, Tp.same s6 _ _ hk5, hax6, .inl (.inl (s6 _ _ ht5)), hwx, ?_⟩
    have rl : (kids ks rest).length ≤ 10000 := by
      have z := knf_len rest
      have z2 : (kn p).length - (us.length - (i + 1)) = (knf (x :: rest)).length := by rw [← hdr, List.length_drop]
      rw [knf_cons, List.length_cons] at z2
      have z3 : knf (parts x ++ rest) = knf (parts x) ++ knf rest := by simp [knf]
      rw [z3, List.length_append] at z2
      rw [show (kids ks rest).length = rest.length from List.length_map _]
      omega
    have t7 : Tp K H6 (upd H6 lr (.lst ((kids ks rest).reverse ++ [V.str (kS (own ks x))]))) := Tp.lst hlr6
    refine ⟨lr, _, _, rfl, rfl, hlr6, by rw [List.length_reverse]; exact smallL (by omega), x :: rest, _, _, _, rfl, fun b o hb => ?_, by rw [upd_ne nler]; exact hle6, (hus5.keep (Tp.same s6)).keep t7, t7 _ _ (Tp.same s6 _ _ hk5), hdr, ?_⟩
    · rw [upd_ne (ne_of_none hb lr0)]
      exact s6 _ _ (sm5 b o hb)
    · rw [upd_same]
      show _ = some (HO.lst (V.str (kS (own ks x)) :: kids ks rest).reverse)
      rw [List.reverse_cons]
  · rintro σ' H' ⟨fs, y5, y6, y7, rfl, sm, hle', hus', hk', hdrop, hlr'⟩
    have e0 : us.length - (((us.length : Nat) : Int) - 0).toNat = 0 := by omega
    rw [e0, List.drop_zero, ← knf_one] at hdrop
    have ef := knf_inj _ _ _ (Nat.le_refl _) hdrop
    subst ef
    exact ⟨_, rfl, rfl, _, rfl, _, rfl, lr, _, 0, _, rfl, rfl, SqL.of hlr', rfl, q _ sm⟩
end
end Lm

set_option Elab.async false
set_option linter.all false
namespace Lm
open PySem PySem.Spec PyProof.Rows L2 LmR
theorem dep_part (p q : Pg) (h : q ∈ parts p) : dep q + 1 ≤ dep p := by
  cases p with
  | inp k => simp [parts] at h
  | num k => simp [parts] at h
  | tr k => simp [parts] at h
  | plus c a => simp only [parts, List.mem_singleton] at h; subst h; simp only [dep]; omega
  | bin w a b =>
    simp only [parts, List.mem_cons, List.not_mem_nil, or_false] at h
    rcases h with rfl | rfl <;> (simp only [dep]; omega)
  | neg a => simp only [parts, List.mem_singleton] at h; subst h; simp only [dep]; omega
  | ite r a b =>
    simp only [parts, List.mem_cons, List.not_mem_nil, or_false] at h
    rcases h with rfl | rfl | rfl <;> (simp only [dep]; omega)
theorem psz_part (p q : Pg) (h : q ∈ parts p) : psz q + 1 ≤ psz p := by
  cases p with
  | inp k => simp [parts] at h
  | num k => simp [parts] at h
  | tr k => simp [parts] at h
  | plus c a => simp only [parts, List.mem_singleton] at h; subst h; simp only [psz]; omega
  | bin w a b =>
    simp only [parts, List.mem_cons, List.not_mem_nil, or_false] at h
    rcases h with rfl | rfl <;> (simp only [psz]; omega)
  | neg a => simp only [parts, List.mem_singleton] at h; subst h; simp only [psz]; omega
  | ite r a b =>
    simp only [parts, List.mem_cons, List.not_mem_nil, or_false] at h
    rcases h with rfl | rfl | rfl <;> (simp only [psz]; omega)
end Lm

set_option Elab.async false
set_option linter.all false
set_option maxRecDepth 100000
set_option maxHeartbeats 2000000
namespace Lm
open PySem PySem.Spec PyProof.Rows L2 LmR
/-! ### put in -/
def psub (ss : List Pg) : Pg → Pg
  | .inp k => ss.getD k (.inp k)
  | .num c => .num c
  | .tr b => .tr b
  | .plus c a => .plus c (psub ss a)
  | .bin w a b => .bin w (psub ss a) (psub ss b)
  | .neg a => .neg (psub ss a)
  | .ite p a b => .ite (psub ss p) (psub ss a) (psub ss b)
theorem psub_front (ss : List Pg) (p : Pg) (h : ∀ k, p ≠ .inp k) : front (psub ss p) = front p ∧ parts (psub ss p) = (parts p).map (psub ss) := by
  cases p with
  | inp k => exact absurd rfl (h k)
  | _ => exact ⟨rfl, rfl⟩
/-- a program by its tuple -/
theorem psub_psz (m : Nat) (ss : List Pg) (h1 : 1 ≤ m) (hm : ∀ s ∈ ss, psz s ≤ m) : ∀ p : Pg, psz (psub ss p) ≤ m * psz p
  | .inp k => by
    simp only [psub, psz, Nat.mul_one]
    rw [List.getD_eq_getElem?_getD]
    cases e : ss[k]? with
    | none => exact h1
    | some s => exact hm s (List.mem_of_getElem? e)
  | .num c => by simp only [psub, psz]; omega
  | .tr b => by simp only [psub, psz]; omega
  | .plus c a => by
    have := psub_psz m ss h1 hm a
    simp only [psub, psz, Nat.mul_add]; omega
  | .bin w a b => by
    have := psub_psz m ss h1 hm a
    have := psub_psz m ss h1 hm b
    simp only [psub, psz, Nat.mul_add]; omega
  | .neg a => by
    have := psub_psz m ss h1 hm a
    simp only [psub, psz, Nat.mul_add]; omega
  | .ite p a b => by
    have := psub_psz m ss h1 hm a
    have := psub_psz m ss h1 hm b
    have := psub_psz m ss h1 hm p
    simp only [psub, psz, Nat.mul_add]; omega
theorem psub_own (ks os : List Bool) (ss : List Pg) (hl : ss.length = ks.length) (ho : ss.map (own os) = ks) : ∀ p : Pg, Wk ks p → own os (psub ss p) = own ks p
  | .inp k, hw => by
    have hk : k < ks.length := hw
    have hs : k < ss.length := by omega
    show own os (ss.getD k _) = ks.getD k false
    rw [List.getD_eq_getElem?_getD, List.getElem?_eq_getElem hs, List.getD_eq_getElem?_getD, List.getElem?_eq_getElem hk]
    show own os ss[k] = ks[k]
    subst ho
    rw [List.getElem_map]
  | .num c, _ => rfl
  | .tr b, _ => rfl
  | .plus c a, _ => rfl
  | .bin w a b, _ => rfl
  | .neg a, _ => rfl
  | .ite p a b, hw => psub_own ks os ss hl ho a hw.2.1
theorem psub_wk (ks os : List Bool) (ss : List Pg) (hl : ss.length = ks.length) (ho : ss.map (own os) = ks) (hw : ∀ s ∈ ss, Wk os s) : ∀ p : Pg, Wk ks p → Wk os (psub ss p)
  | .inp k, h => by
    have hk : k < ks.length := h
    have hs : k < ss.length := by omega
    show Wk os (ss.getD k _)
    rw [List.getD_eq_getElem?_getD, List.getElem?_eq_getElem hs]
    exact hw _ (List.getElem_mem hs)
  | .num c, _ => True.intro
  | .tr b, _ => True.intro
  | .plus c a, h => ⟨psub_wk ks os ss hl ho hw a h.1, by rw [psub_own ks os ss hl ho a h.1]; exact h.2⟩
  | .bin w a b, h => ⟨psub_wk ks os ss hl ho hw a h.1, psub_wk ks os ss hl ho hw b h.2.1, by rw [psub_own ks os ss hl ho a h.1]; exact h.2.2.1, by rw [psub_own ks os ss hl ho b h.2.1]; exact h.2.2.2⟩
  | .neg a, h => ⟨psub_wk ks os ss hl ho hw a h.1, by rw [psub_own ks os ss hl ho a h.1]; exact h.2⟩
  | .ite p a b, h => ⟨psub_wk ks os ss hl ho hw p h.1, psub_wk ks os ss hl ho hw a h.2.1, psub_wk ks os ss hl ho hw b h.2.2.1, by rw [psub_own ks os ss hl ho p h.1]; exact h.2.2.2.1,
    by rw [psub_own ks os ss hl ho b h.2.2.1, psub_own ks os ss hl ho a h.2.1]; exact h.2.2.2.2⟩
/-- its inputs are among so many -/
def Low (n : Nat) : Pg → Prop
  | .inp k => k < n
  | .num _ => True
  | .tr _ => True
  | .plus _ a => Low n a
  | .bin _ a b => Low n a ∧ Low n b
  | .neg a => Low n a
  | .ite p a b => Low n p ∧ Low n a ∧ Low n b
theorem wk_low {ks : List Bool} : ∀ p : Pg, Wk ks p → Low ks.length p
  | .inp _, h => h
  | .num _, _ => True.intro
  | .tr _, _ => True.intro
  | .plus c a, h => wk_low a h.1
  | .bin w a b, h => ⟨wk_low a h.1, wk_low b h.2.1⟩
  | .neg a, h => wk_low a h.1
  | .ite p a b, h => ⟨wk_low p h.1, wk_low a h.2.1, wk_low b h.2.2.1⟩
theorem low_part {n : Nat} (p q : Pg) (hp : Low n p) (h : q ∈ parts p) : Low n q := by
  cases p with
  | inp k => simp [parts] at h
  | num k => simp [parts] at h
  | tr k => simp [parts] at h
  | plus c a => simp only [parts, List.mem_singleton] at h; subst h; exact hp
  | bin w a b =>
    simp only [parts, List.mem_cons, List.not_mem_nil, or_false] at h
    rcases h with rfl | rfl
    · exact hp.1
    · exact hp.2
  | neg a => simp only [parts, List.mem_singleton] at h; subst h; exact hp
  | ite r a b =>
    simp only [parts, List.mem_cons, List.not_mem_nil, or_false] at h
    rcases h with rfl | rfl | rfl
    · exact hp.1
    · exact hp.2.1
    · exact hp.2.2
theorem low_knf {n : Nat} : ∀ (m : Nat) (fs : List Pg), (knf fs).length ≤ m → (∀ q ∈ fs, Low n q) → ∀ q ∈ knf fs, Low n q
  | m, [], _, _, q, h => by simp [knf] at h
  | 0, r :: fs, l, _, _, _ => by rw [knf_cons] at l; simp at l
  | m + 1, r :: fs, l, hf, q, h => by
    rw [knf_cons] at l h
    rcases List.mem_cons.mp h with rfl | h
    · exact hf _ List.mem_cons_self
    · refine low_knf m _ (by rw [List.length_cons] at l; omega) (fun s hs => ?_) q h
      rcases List.mem_append.mp hs with z | z
      · exact low_part r s (hf r List.mem_cons_self) z
      · exact hf s (List.mem_cons_of_mem _ z)
theorem low_kn {n : Nat} (p : Pg) (h : Low n p) (q : Pg) (hq : q ∈ kn p) : Low n q := low_knf _ [p] (Nat.le_refl _) (fun s hs => by rw [List.mem_singleton.mp hs]; exact h) q (by rw [knf_one]; exact hq)
theorem psub_low {n m : Nat} (ss : List Pg) (hl : ss.length = n) (hs : ∀ s ∈ ss, Low m s) : ∀ p : Pg, Low n p → Low m (psub ss p)
  | .inp k, h => by
    have hk : k < n := h
    have hs' : k < ss.length := by omega
    show Low m (ss.getD k _)
    rw [List.getD_eq_getElem?_getD, List.getElem?_eq_getElem hs']
    exact hs _ (List.getElem_mem hs')
  | .num _, _ => True.intro
  | .tr _, _ => True.intro
  | .plus c a, h => psub_low ss hl hs a h
  | .bin w a b, h => ⟨psub_low ss hl hs a h.1, psub_low ss hl hs b h.2⟩
  | .neg a, h => psub_low ss hl hs a h
  | .ite p a b, h => ⟨psub_low ss hl hs p h.1, psub_low ss hl hs a h.2.1, psub_low ss hl hs b h.2.2⟩
/-- a loop over reversed(list) -/
theorem for_rev {K : PySem.W.Frag} {a : Addr} {xs : List V} {g : TG} {tb : TS} {D : Ends} {σ : L2.St} {H : Hp} (Pv : Nat → L2.St → Hp → Prop) (h0 : Pv 0 σ H) (hq : ∀ i σ H, Pv i σ H → SqL K H a xs)
    (hs : ∀ (i : Nat) (x : V) (σ : L2.St) (H : Hp), i < xs.length → xs[xs.length - 1 - i]? = some x → Pv i σ H → g x σ H fun σ2 H2 => tb { D with nx := Pv (i + 1), ct := Pv (i + 1), bk := D.nx } σ2 H2) (hd : ∀ σ H, Pv xs.length σ H → D.nx σ H) :
    ∃ W : Nat → Nat → L2.St → Hp → Prop, (∃ m, W 0 m σ H) ∧ ∀ i m σ H, W i m σ H →
      ((Itv K a xs.length).stop i H ∧ D.nx σ H) ∨ ((Itv K a xs.length).go i H ∧ ∃ N : L2.St → Hp → Prop, (∀ σ' H', N σ' H' → ∃ m', m' < m ∧ W (i + 1) m' σ' H') ∧ ∀ v H', (Itv K a xs.length).yld i H v H' → g v σ H' fun σ2 H2 => tb { D with nx := N, ct := N, bk := D.nx } σ2 H2) := by
  refine ⟨fun i m σ H => m = xs.length - i ∧ i ≤ xs.length ∧ Pv i σ H, ⟨xs.length, rfl, Nat.zero_le _, h0⟩, ?_⟩
  rintro i m σ H ⟨rfl, hi, p⟩
  have qx := hq i σ H p
  by_cases hlt : i < xs.length
  · have hx : xs[xs.length - 1 - i]? = some xs[xs.length - 1 - i] := List.getElem?_eq_getElem (by omega)
    refine .inr ⟨⟨hlt, xs, _, qx, hx⟩, Pv (i + 1), fun σ' H' p' => ⟨xs.length - (i + 1), by omega, rfl, hlt, p'⟩, fun v H' y => ?_⟩
    obtain ⟨rfl, f1⟩ := y
    exact hs i v σ H' hlt (f1 xs qx) p
  · have e : i = xs.length := by omega
    subst e
    exact .inl ⟨Nat.le_refl _, hd σ H p⟩
theorem cut_to (n : Nat) (xs ys : List V) (h : xs.length = n) : cutV (xs ++ ys) none (some (n : Int)) = xs := by
  unfold cutV
  rw [HT.sIx_none, show HT.sIx (xs ++ ys).length (xs ++ ys).length (some (n : Int)) = min n (xs ++ ys).length from HT.sIx_nat _ _ n]
  have e : min n (xs ++ ys).length = n := by rw [List.length_append]; omega
  rw [e, List.drop_zero, Nat.sub_zero, ← h, List.take_left]
section
variable {P : Program} {w : World} {K : PySem.W.Frag} {mg : Str → Option Value} {base : Heap}
abbrev s_front_of : Stmt := topS 12
theorem sc_front_of : FnScope ["knot"] ["knot"] (defScope s_front_of) := ⟨rfl, rfl, rfl, by decide +kernel, rfl, by decide +kernel, by decide +kernel⟩
def spFO (K : PySem.W.Frag) : Sp := fun vs H Q _ => ∃ (v : V) (p : Pg), vs = [v] ∧ At K H v p ∧ ∀ (t : Addr) (H' : Hp), Same H H' → SqT K H' t (front p) → Q (.ref t) H'
theorem ok_front_of (C_many_numbers : Cal P w K mg base 1 "many_numbers" ["word"] (spMN)) (D : DefAt K mg "front_of" s_front_of ["knot"]) : Cal P w K mg base 2 "front_of" ["knot"] (spFO K) := by
  refine cal_of D sc_front_of (fun vs H Q E h => ?_) (fun f cdv A outer s H vs Q E hr h => ?_)
  · obtain ⟨v, p, rfl, _⟩ := h
    rfl
  obtain ⟨v, p, rfl, hv, q⟩ := h
  have hr' : Room 1 _ := hr
  refine ⟨_, (pss_one (ps_ret (pe_slice sl_tupA (pv 0) po_none (po_some (pe_op op_add pe_int (pe_cal C_many_numbers hr' (by rfl) (pa_cons (pe_ix ix_tup (pv 0) pe_int (fun _ _ => rfl)) pa_nil))))))), ?_⟩
  obtain ⟨a, vs, rfl, ha, hvs⟩ := hv.open
  have e1 : (1 : Int) + (nn p : Int) = ((1 + nn p : Nat) : Int) := by omega
  refine ⟨_, rfl, _, rfl, a, _, 0, _, rfl, rfl, ha, at_word p vs, p, rfl, _, _, rfl, rfl, _, rfl, a, _, rfl, ha, fun z => ?_, fun z t ht => ?_⟩
  · obtain ⟨_, z⟩ := z
    rw [e1, show HT.sIx (front p ++ vs).length (front p ++ vs).length (some ((1 + nn p : Nat) : Int)) = min (1 + nn p) (front p ++ vs).length from HT.sIx_nat _ _ _, List.length_append, front_len] at z
    have hz : vs = [] := List.eq_nil_of_length_eq_zero (by omega)
    rw [hz, List.append_nil] at ha
    exact q a H (Same.refl _) ha
  · rw [e1, cut_to _ _ _ (front_len p)]
    exact q t _ (same_new ht) (.inl (.inl upd_same))
abbrev s_put : Stmt := topS 7
theorem sc_put : FnScope ["program", "some", "ready", "knot", "parts"] ["program", "some"] (defScope s_put) := ⟨rfl, rfl, rfl, by decide +kernel, rfl, by decide +kernel, by decide +kernel⟩
def spPut (K : PySem.W.Frag) : Sp := fun vs H Q _ => ∃ (v : V) (p : Pg) (t : Addr) (us : List V) (ss : List Pg), vs = [v, .ref t] ∧ At K H v p ∧ SqT K H t us ∧ Ats K H us ss ∧ Low ss.length p ∧ psz p ≤ 10000 ∧ ∀ (u : V) (H' : Hp), Same H H' → At K H' u (psub ss p) → Q u H'
theorem ok_put (B : Bt mg) (C_knots : Cal P w K mg base 3 "knots" ["program"] (spKnots K)) (C_taken : Cal P w K mg base 1 "taken" ["pile", "many"] (spTaken)) (C_many_parts : Cal P w K mg base 1 "many_parts" ["word"] (spMP)) (C_front_of : Cal P w K mg base 2 "front_of" ["knot"] (spFO K)) (D : DefAt K mg "put" s_put ["program", "some"]) : Cal P w K mg base 4 "put" ["program", "some"] (spPut K) := by
  refine cal_of D sc_put (fun vs H Q E h => ?_) (fun f cdv A outer s H vs Q E hr h => ?_)
  · obtain ⟨v, p, t, us, ss, rfl, _⟩ := h
    rfl
  obtain ⟨v, p, t, us, ss, rfl, hv, ht, hus, hlow, hsz, q⟩ := h
  have C_taken := C_taken.mono (k := 3) (by decide)
  have C_many_parts := C_many_parts.mono (k := 3) (by decide)
  have C_front_of := C_front_of.mono (k := 3) (by decide)
  have hr' : Room 3 _ := hr
  refine ⟨_, (pss_cons (ps_set (i := 2) sc_put.nd rfl (.inl rfl) (pe_lst pa_nil))
      (pss_cons (ps_for PassesOwn.never rfl (pi_reversed (by rfl) B.reversed (pa_cons (pe_cal C_knots hr' (by rfl) (pa_cons (pv 0) pa_nil)) pa_nil)) (pg_name (i := 3) sc_put.nd rfl (.inl rfl))
        (pss_cons (ps_set (i := 4) sc_put.nd rfl (.inl rfl) (pe_cal C_taken hr' (by rfl) (pa_cons (pv 2) (pa_cons (pe_cal C_many_parts hr' (by rfl) (pa_cons (pe_ix ix_tup (pv 3) pe_int (fun _ _ => rfl)) pa_nil)) pa_nil))))
      (pss_one (ps_if (pt_cmpR op_eq (pe_ix ix_tup (pv 3) pe_int (fun _ _ => rfl)) pe_str (nomark _))
        (pss_one (ps_expr (pe_bm PySem.F.plainAttrs_list PySem.F.slot_list_append PySem.F.type_list_append mt_append (pv 2) (pa_cons (pe_ix ix_tup (pv 1) (pe_ix ix_tup (pv 3) pe_int (fun _ _ => rfl)) (fun _ _ => rfl)) pa_nil))))
        (pss_one (ps_expr (pe_bm PySem.F.plainAttrs_list PySem.F.slot_list_append PySem.F.type_list_append mt_append (pv 2) (pa_cons (pe_op op_catA (pe_cal C_front_of hr' (by rfl) (pa_cons (pv 3) pa_nil)) (pv 4)) pa_nil))))))))
      (pss_one (ps_ret (pe_ix ix_list (pv 2) pe_int (fun _ _ => rfl)))))), ?_⟩
  refine ⟨(by show 0 ≤ sizeLine; decide), fun lr hlr => ?_⟩
  have s1 : Same H (upd H lr (.lst [])) := same_new hlr
  have r1 : (upd H lr (.lst [])) lr = some (.lst []) := upd_same
  generalize upd H lr (.lst []) = H1 at s1 r1
  refine ⟨_, rfl, v, p, rfl, hv.keep (Tp.same s1), hsz, fun le ks H2 s2 le0 hle hks => ?_⟩
  have s02 := s1.trans s2
  have nler : le ≠ lr := fun z => by rw [z, r1] at le0; cases le0
  have kl := kn_len p
  have ul : ks.length = (kn p).length := hks.len
  refine ⟨le, ks, rfl, SqL.of hle, for_rev (K := K) (a := le) (xs := ks) (fun i σ' H' => ∃ (fs : List Pg) (ws : List V) (y3 y4 : Option V), σ' = [some v, some (.ref t), some (.ref lr), y3, y4] ∧ Same H H' ∧ H' le = some (.lst ks) ∧ Ats K H' ks (kn p) ∧ (kn p).drop (ks.length - i) = knf fs ∧ H' lr = some (.lst ws.reverse) ∧ Ats K H' ws (fs.map (psub ss))) ?_ ?_ ?_ ?_⟩
  · exact ⟨[], [], none, none, rfl, s02, hle, hks, by rw [ul, Nat.sub_zero, List.drop_length]; rfl, s2 _ _ r1, .nil⟩
  · rintro i σ' H' ⟨fs, ws, y3, y4, rfl, sm, hle', _⟩
    exact SqL.of hle'
  · rintro i xv σ' H' hi hxv ⟨fs, ws, y3, y4, rfl, sm, hle', hks', hdrop, hlr', hws⟩
    have eI : ks.length - 1 - i = ks.length - (i + 1) := by omega
    rw [eI] at hxv
    obtain ⟨x, hx, hax⟩ := hks'.get _ _ hxv
    have e1 : ks.length - (i + 1) + 1 = ks.length - i := by omega
    obtain ⟨rest, rfl, hdr⟩ := knf_step hx (by rw [e1]; exact hdrop)
    have hlx : Low ss.length x := low_kn p hlow x (List.mem_of_getElem? hx)
    obtain ⟨a, vs, rfl, ha, hvs⟩ := hax.open
    have plen : (parts x).length ≤ 3 := by cases x <;> simp [parts]
    rw [List.map_append] at hws
    -- the parts' values and the rest's
    obtain ⟨w1, w2, rfl, hw1, hw2⟩ : ∃ w1 w2, ws = w1 ++ w2 ∧ Ats K H' w1 ((parts x).map (psub ss)) ∧ Ats K H' w2 (rest.map (psub ss)) := by
      have z : ∀ (as bs : List Pg) (ws : List V), Ats K H' ws (as ++ bs) → ∃ w1 w2, ws = w1 ++ w2 ∧ Ats K H' w1 as ∧ Ats K H' w2 bs := by
        intro as
        induction as with
        | nil => intro bs ws h; exact ⟨[], ws, rfl, .nil, h⟩
        | cons q as ih =>
          intro bs ws h
          cases ws with
          | nil => cases h
          | cons u ws =>
            cases h with
            | cons h1 h2 =>
              obtain ⟨w1, w2, rfl, g1, g2⟩ := ih bs ws h2
              exact ⟨u :: w1, w2, rfl, .cons h1 g1, g2⟩
      exact z _ _ _ hws
    have wl1 : w1.length = (parts x).length := by rw [hw1.len, List.length_map]
    rw [List.reverse_append] at hlr'
    refine ⟨_, rfl, _, rfl, a, _, 0, _, rfl, rfl, ha, at_word x vs, x, rfl, lr, w2.reverse, w1, by rw [wl1]; rfl, hlr', by omega, fun tt H5 ex5 hlr5 ht5 => ?_⟩
    have sm5 : Same H H5 := fun b o hb => ex5 b o (sm b o hb) (by simp [ne_of_none hb hlr])
    have tp5 : Tp K H' H5 := ex5.tp fun b hb ys z => by
      rw [List.mem_singleton.mp hb] at z
      rcases z with z | ⟨o, z⟩
      · rw [hlr'] at z; cases z
      · rw [hlr'] at z; cases z
    have hle5 := ex5 _ _ hle' (by simp [nler])
    have hks5 := hks'.keep tp5
    have ha5 := tp5 _ _ ha
    have hw15 := hw1.keep tp5
    have hw25 := hw2.keep tp5
    have rl : w2.length ≤ 10000 := by
      have z := knf_len rest
      have z2 : (kn p).length - (ks.length - (i + 1)) = (knf (x :: rest)).length := by rw [← hdr, List.length_drop]
      rw [knf_cons, List.length_cons] at z2
      have z3 : knf (parts x ++ rest) = knf (parts x) ++ knf rest := by simp [knf]
      rw [z3, List.length_append] at z2
      have z4 := hw2.len
      rw [List.length_map] at z4
      omega
    have fin : ∀ (y3 y4 : Option V) (u : V) (H6 : Hp), Same H5 H6 → At K H6 u (psub ss x) → ∃ (l : Addr) (xs : List V) (y : V), V.ref lr = .ref l ∧ [u] = [y] ∧ H6 l = some (.lst xs) ∧ xs.length < sizeLine ∧ ∃ (fs : List Pg) (ws : List V) (z3 z4 : Option V), [some v, some (.ref t), some (.ref lr), y3, y4] = [some v, some (.ref t), some (.ref lr), z3, z4] ∧ Same H (upd H6 l (.lst (xs ++ [y]))) ∧ (upd H6 l (.lst (xs ++ [y]))) le = some (.lst ks) ∧ Ats K (upd H6 l (.lst (xs ++ [y]))) ks (kn p) ∧ (kn p).drop (ks.length - (i + 1)) = knf fs ∧ (upd H6 l (.lst (xs ++ [y]))) lr = some (.lst ws.reverse) ∧ Ats K (upd H6 l (.lst (xs ++ [y]))) ws (fs.map (psub ss)) := fun y3 y4 u H6 s6 hu => by
      have hlr6 := s6 _ _ hlr5
      have t7 : Tp K H6 (upd H6 lr (.lst (w2.reverse ++ [u]))) := Tp.lst hlr6
      refine ⟨lr, _, u, rfl, rfl, hlr6, by rw [List.length_reverse]; exact smallL (by omega), x :: rest, u :: w2, y3, y4, rfl, fun b o hb => ?_, by rw [upd_ne nler]; exact s6 _ _ hle5, (hks5.keep (Tp.same s6)).keep t7, hdr, by rw [upd_same, List.reverse_cons], .cons (hu.keep t7) ((hw25.keep (Tp.same s6)).keep t7)⟩
      rw [upd_ne (ne_of_none hb hlr)]
      exact s6 _ _ (sm5 b o hb)
    refine ⟨_, rfl, a, _, 0, _, rfl, rfl, ha5, at_word x vs, rfl, _, rfl, ite2 (fun z => ?_) (fun z => ?_)⟩
    · have z' : V.str (word x) = V.str "in" := of_decide_eq_true z
      obtain ⟨k, rfl⟩ := word_in z'
      have hk : k < ss.length := hlx
      have hus5 : Ats K H5 us ss := hus.keep (Tp.same sm5)
      obtain ⟨uk, huk⟩ : ∃ u, us[k]? = some u := ⟨_, List.getElem?_eq_getElem (by rw [hus.len]; exact hk)⟩
      obtain ⟨s', hs', has⟩ := hus5.get k _ huk
      refine ⟨_, rfl, .inl ⟨rfl, _, SqL.of hlr5⟩, _, rfl, _, rfl, a, _, 1, .int k, rfl, rfl, ha5, at_of (j := 1) rfl rfl, t, us, _, uk, rfl, rfl, Tp.same sm5 _ _ ht, at_of (j := k) rfl huk, ?_⟩
      refine fin _ _ _ H5 (Same.refl _) ?_
      show At K H5 uk (ss.getD k (.inp k))
      rw [List.getD_eq_getElem?_getD, hs']
      exact has
    · have hni : ∀ k, x ≠ .inp k := fun k e => z (decide_eq_true (by rw [e]; rfl))
      obtain ⟨ef, ep⟩ := psub_front ss x hni
      refine ⟨_, rfl, .inl ⟨rfl, _, SqL.of hlr5⟩, _, rfl, .ref a, x, rfl, hax.keep tp5, fun ft H6 s6 hf => ?_⟩
      have fl := front_len x
      have fne : front x ≠ [] := fun e => by rw [e] at fl; simp at fl; omega
      have hw16 : Ats K H6 w1 (parts (psub ss x)) := by rw [ep]; exact hw15.keep (Tp.same s6)
      have htt : SqT K H6 tt w1 := .inl (.inl (s6 _ _ ht5))
      refine ⟨_, rfl, ft, tt, _, _, rfl, rfl, hf, htt, ?_, fun e => absurd e fne, fun _ e => ?_, fun _ e p2 hp2 => ?_⟩
      · have : nn x ≤ 1 := by cases x <;> simp [nn]
        exact small (by omega)
      · refine fin _ _ _ H6 s6 ?_
        subst e
        exact At.make (vs := []) (by rw [ef, List.append_nil]; exact hf) hw16
      · have s7 : Same H6 (upd H6 p2 (.tup (front x ++ w1))) := same_new hp2
        refine fin _ _ _ _ (s6.trans s7) ?_
        exact At.make (vs := w1) (by rw [ef]; exact .inl (.inl upd_same)) (hw16.keep (Tp.same s7))
  · rintro σ' H' ⟨fs, ws, y3, y4, rfl, sm, hle', hks', hdrop, hlr', hws⟩
    rw [Nat.sub_self, List.drop_zero, ← knf_one] at hdrop
    have ef := knf_inj _ _ _ (Nat.le_refl _) hdrop
    subst ef
    obtain ⟨u, rfl, hu⟩ := Ats.one hws
    exact ⟨_, rfl, lr, _, 0, u, rfl, rfl, SqL.of hlr', rfl, q u H' sm hu⟩
end
end Lm

set_option Elab.async false
set_option linter.all false
set_option maxRecDepth 100000
set_option maxHeartbeats 2000000
namespace Lm
open PySem PySem.Spec PyProof.Rows L2 LmR
/-! ### match e: case "text": .. case _: .. -/
abbrev TM := V → TS
structure PM (X : Cx) (cs : List MatchCase) (t : TM) : Prop where
  run : ∀ (pins : List (Addr × Obj)) (s : Shared) (σ : L2.St) (H : Hp) (D : Ends) (x : V) (v : Value) (first : Bool), Inv X pins σ H s → RelV x v → t x D σ H → wpAny (model X.prog X.w) X.A (matchCases cs X.env v first) (SP X pins D) X.xe s
section
variable {X : Cx} {e : Expr} {te : TE} {cs : List MatchCase} {t : TS} {u : TM} {body : List Stmt} {pos p : Pos}
def tMatch (te : TE) (u : TM) : TS := fun D σ H => te σ H fun x H1 => u x D σ H1
theorem ps_match (he : PE X e te) (hm : PM X cs u) : PS X (.Match e cs pos) (tMatch te u) := by
  refine ⟨fun pins s σ H D I h => ?_⟩
  exact wpAny_Match (thn (he.run pins s σ H _ I h) fun v s1 ⟨x, H1, I1, r1, q1⟩ => hm.run pins s1 σ H1 D x v true I1 r1 q1)
theorem pm_nil : PM X [] (fun _ => tNext) := ⟨fun _ _ σ H _ _ _ _ I _ h => wpAny_matchCases_nil ⟨σ, H, I, h⟩⟩
theorem pm_any (hb : PSs X body t) : PM X (⟨.MatchAs none none pos, none, body⟩ :: cs) (fun _ => t) :=
  ⟨fun pins s σ H D x v first I r h => wpAny_matchCases_cons (wpAny_matchPattern_Capture (wpAny_assignInOrder_none (hb.run pins s σ H D I h)))⟩
def tCaseS (z : Str) (t : TS) (u : TM) : TM := fun x D σ H => ∃ y, x = .str y ∧ (y = z → t D σ H) ∧ (y ≠ z → u x D σ H)
theorem pm_str {z : Str} {j : Nat} (hb : PSs X body t) (hr : PM X cs u) : PM X (⟨.MatchValue (.Constant (.str z) j p) pos, none, body⟩ :: cs) (tCaseS z t u) := by
  refine ⟨fun pins s σ H D x v first I r h => ?_⟩
  obtain ⟨y, rfl, h1, h2⟩ := h
  refine wpAny_matchCases_cons (wpAny_matchPattern_Value ?_)
  refine thn ((pe_str (X := X) (x := z)).run pins s σ H (fun c H' => c = .str z ∧ H' = H) I ⟨rfl, rfl⟩) fun c s1 ⟨w, H1, I1, r1, ew, eH⟩ => ?_
  subst ew
  subst eH
  refine thn (op_eq (X := X) pins s1 σ H1 (.str y) (.str z) v c (fun b H' => b = .bl (decide (V.str y = V.str z)) ∧ H' = H1) I1 r r1 ⟨rfl, rfl, rfl⟩) fun c2 s2 ⟨b, H2, I2, r2, eb, eH⟩ => ?_
  subst eb
  subst eH
  cases r2
  refine wpAny_truthy_bool ?_
  by_cases c : y = z
  · rw [decide_eq_true (congrArg V.str c)]
    exact wpAny_assignInOrder_none (hb.run pins s2 σ H2 D I2 (h1 c))
  · rw [decide_eq_false fun q => c (V.str.inj q)]
    exact hr.run pins s2 σ H2 D (.str y) v false I2 r (h2 c)
end
end Lm

set_option Elab.async false
set_option linter.all false
set_option maxRecDepth 100000
set_option maxHeartbeats 2000000
namespace Lm
open PySem PySem.Spec PyProof.Rows L2 LmR
/-! ### a def called within an except suite, handed the exception -/
structure FnP (P : Program) (w : World) (K : PySem.W.Frag) (mg : Str → Option Value) (base : Heap) (p : Addr × Obj) (k : Nat) (f : Addr) (fd : FuncData) (ps : List Str) (sp : Sp) : Prop where
  len : ∀ vs H Q E, sp vs H Q E → vs.length = ps.length
  run : ∀ (A : Around) (outer : List Env) (s : Shared) (H : Hp) (args : Args) (us : List Value) (vs : List V) (Q : VK) (E : XK), L2H.RoomH k A → L2H.PinOk outer H s p → Env0 P w K mg base A outer s H → BindsTo s fd args (ps.zip us) → Vals vs us → sp vs H Q E →
    codeAny (model P w) A (.call (.ref f) args) (CR CX0 outer P w H s Q E) s
theorem fn_ofP {P : Program} {w : World} {K : PySem.W.Frag} {mg : Str → Option Value} {base : Heap} {k : Nat} {x : Str} {st : Stmt} {f : Addr} {fd : FuncData} {N ps : List Str} {sp : Sp} {p : Addr × Obj} (F : Fun K x x st f fd) (S : FnScope N ps (defScope st))
    (len : ∀ vs H Q E, sp vs H Q E → vs.length = ps.length)
    (hbody : ∀ (cdv : Value) (A : Around) (outer : List Env) (s : Shared) (H : Hp) (vs : List V) (Q : VK) (E : XK), L2H.RoomH k (A.deeper (envOfC x (defScope st) s.heap.objs.size f cdv)) → sp vs H Q E →
      ∃ t, PSs (L2H.cxH CX0 P w K mg base N x (defScope st) f cdv A outer s H E p) (defBody st) t ∧ t { nx := fun _ H' => Q .non H', rt := Q } (L2.start N vs) H) : FnP P w K mg base p (k + 1) f fd ps sp := by
  obtain ⟨oc, od, kV, doc, pm, an, cdv, ct, osl, rfl, lk, hcd⟩ := F.ex
  refine ⟨len, fun A outer s H args us vs Q E hr hpin e0 hb r hsp => ?_⟩
  have hl := len _ _ _ _ hsp
  have KX : K.In s.heap := e0.mod.kin.keeps fun b o e => (e0.bs b o e).1
  have lim : s.heap.NoLimit := e0.mod.nolimit.keeps fun b o e => (e0.bs b o e).1
  have hkind : ∀ y ∈ ps.zip us, (defScope st).names.lookup y.1 = some .local ∨ ((defScope st).names.lookup y.1 = some .cell ∧ ((cellsFrom (s.heap.objs.size + 1) (defScope st).names []).lookup y.1).isSome = true) := fun ⟨n, v⟩ hy => by
    rcases S.par n (List.of_mem_zip hy).1 with q | q
    · exact .inl q
    · exact .inr ⟨q, PySem.W.cellsFrom_some _ _ _ (.inl q)⟩
  refine codeAny_call_function hr.depth (KX _ _ lk) rfl S.co S.gen rfl (PySem.W.codeRec_of KX hcd) (hb _ _ _ _ ?_)
  refine wpAny_newFunctionEnv_cells S.kind hkind fun env he s1 y => ?_
  subst he
  refine ⟨lim.keeps y.toInCall.keep, codeAny_func ?_⟩
  obtain ⟨t, ht, hq⟩ := hbody cdv A outer s H vs Q E (hr.deeper _) hsp
  have I : Inv (L2H.cxH CX0 P w K mg base N x (defScope st) f cdv A outer s H E p) [] (L2.start N vs) H s1 := L2H.inv_startH S hpin e0 hl r y
  refine wpAny_mono (ht.run [] s1 (L2.start N vs) H _ I hq) (fun fl s' hs => ?_) fun e s' hs => hs
  have fin : ∀ {σ' : L2.St} {H' : Hp} {v : V} {u : Value}, Inv (L2H.cxH CX0 P w K mg base N x (defScope st) f cdv A outer s H E p) [] σ' H' s' → RelV v u → Q v H' → CE outer P w H s Q u s' :=
    fun {σ' H' v u} J rv q => ⟨v, H', J.os, J.bare, J.base, J.hok, rv, q⟩
  cases fl with
  | ret u =>
    obtain ⟨v, σ', H', J, rv, q⟩ := hs
    exact fin J rv q
  | next =>
    obtain ⟨σ', H', J, q⟩ := hs
    exact fin (v := V.non) (u := Value.none) J rfl q
  | brk =>
    obtain ⟨_, _, _, q⟩ := hs
    exact False.elim q
  | cont =>
    obtain ⟨_, _, _, q⟩ := hs
    exact False.elim q
theorem pe_callP {X : Cx} {k : Nat} {f : Addr} {fd : FuncData} {ps : List Str} {sp : Sp} {x : Str} {q pos : Pos} {e : Expr} {es : List Expr} {t : TA} {p : Addr × Obj} (F : FnP X.prog X.w X.K X.mg X.base p k f fd ps sp) (hr : L2H.RoomH k X.A) (hp : p ∈ X.pn) (hg : Gl X x) (hm : X.mg x = some (.ref f)) (hk : PySem.W.keepIn X.K (.ref f) = true) (hb : Binds X.K fd ps [])
    (ha : PA X (e :: es) t) (hdb : (x == ("__debug__" : Str)) = false := by decide) (he : starEach (e :: es) X.env = (false, eval e X.env) :: starEach es X.env := by rfl) (hpl : (backTo pos (starEach es X.env)).any (·.1) = false := by rfl) :
    PE X (.Call (.Name x q) (e :: es) [] pos) (tCall sp [] (fun _ _ _ => False) t) := by
  refine ⟨fun pins s σ H Q I h => ?_⟩
  refine wpAny_Call_Name_kw (ld_glob I hg hm ?_ hdb)
  refine PySem.W.callWith_K (h₀ := X.base) I.ok.mod.kin hk (thn (ha.run pos pins s σ H _ I h) fun us s1 ⟨vs, H1, I1, r, q⟩ => ⟨I1.kIn, ?_⟩) he hpl
  have q : sp vs H1 Q (fun _ _ _ => False) := by
    have z : sp (vs ++ []) H1 Q (fun _ _ _ => False) := q
    rw [List.append_nil] at z
    exact z
  have hl : us.length = ps.length := by rw [← r.length]; exact F.len _ _ _ _ q
  have b := hb s1 us I1.kIn (by rw [List.append_nil]; exact hl)
  rw [List.append_nil] at b
  have P1 := I1.pin p (List.mem_append_left _ hp)
  have hpin : L2H.PinOk X.stack H1 s1 p := ⟨P1.1, P1.2.1, fun hm => (List.mem_cons.mp (I1.stkSub p.1 hm)).elim P1.2.2.1 P1.2.2.2.1, P1.2.2.2.2⟩
  refine wpAny_call (codeAny_mono (F.run X.A X.stack s1 H1 ⟨us, []⟩ us vs Q (fun _ _ _ => False) hr hpin I1.env0 b r q) fun r s' hq => ?_)
  cases r with
  | error e => exact hq.elim
  | ok fl =>
    cases fl with
    | ret u => exact I1.after hq
    | next => exact False.elim hq
    | brk => exact False.elim hq
    | cont => exact False.elim hq
/-! ### isinstance of an exception that is pinned -/
structure ExK (K : PySem.W.Frag) (C : Addr) : Prop where
  cl : (PySem.W.clsIn K C).isSome = true
  ga : PySem.W.findIn K (.ref C) "__getattribute__" = some (some (.builtin "BaseException.__getattribute__"))
  gg : PySem.W.findIn K (.ref C) "__getattr__" = some none
  ex : PySem.W.subIn K (.ref C) (.type "BaseException") = some true
  ca : PySem.W.findIn K (.ref C) "__class__" = some (some (.builtin "object.__class__"))
  gn : PySem.W.specialIn K (.builtin "object.__class__") "__get__" = some (some (.builtin "getset_descriptor.__get__"))
  tk : PySem.W.takesIn K (.builtin "object.__class__") = some true
  ob : PySem.W.mroIn K C (.type "object") = some true
/-- isinstance(e, c), e the exception at a of the class at C -/
def rIsP (K : PySem.W.Frag) (C a : Addr) : List V → Hp → VK → Prop := fun xs H Q => ∃ (D : Addr) (b : Bool), xs = [.ref a, .ref D] ∧ PySem.W.kitOne K (.ref C) (.ref D) = some b ∧ Q (.bl b) H
theorem call_isP {X : Cx} {a C : Addr} {oe : Obj} {dct : Option Addr} (k : ExK X.K C) (hz : Zc (.ref C) dct oe) (hf : ∃ vs, oe.data = .fields vs) (hp : (a, oe) ∈ X.pn) (hd : ∀ pins σ H s, Inv X pins σ H s → ∃ od : Option Obj, PySem.W.InstAt s.heap a oe C od) : CallR X (.builtin "isinstance") (rIsP X.K C a) := by
  intro pins s σ H xs us Q I r h
  obtain ⟨D, b, rfl, e, q⟩ := h
  obtain ⟨u1, u2, rfl, r1, r2⟩ := vals2 r
  cases (show u1 = Value.ref a from r1)
  cases (show u2 = Value.ref D from r2)
  obtain ⟨od, J⟩ := hd pins σ H s I
  exact PySem.W.kia_one (PySem.W.kitx_exc k.cl k.ga k.gg k.ex k.ca k.gn k.tk k.ob) I.kIn J e (fun z => nomatch z) fun tk => ⟨.bl b, H, I.tok tk, rfl, q⟩
/-! ### xs.count(True) of truths -/
theorem mt_countB {X : Cx} : MtR X "list.count" (fun x xs H Q => ∃ (p : Addr) (bs : List Bool), x = .ref p ∧ xs = [.bl true] ∧ SqL X.K H p (bs.map V.bl) ∧ Q (.int (bs.count true : Nat)) H) := by
  intro pins s σ H x xs v us Q I rx rxs h
  obtain ⟨p, bs, rfl, rfl, hs, q⟩ := h
  cases rx
  obtain ⟨u, rfl, ru⟩ := rxs.one
  cases (show u = Value.bool true from ru)
  obtain ⟨its, rv, ⟨⟨cls, dd, data, sl⟩, n, ho, hc, hdn, hd⟩, hlen⟩ := I.list hs
  simp only at hc hd
  subst hc hd
  have key : ∀ (bs : List Bool) (its : List Value), Vals (bs.map V.bl) its → its = bs.map Value.bool := by
    intro bs
    induction bs with
    | nil => intro its r; cases r; rfl
    | cons b bs ih =>
      intro its r
      cases r with
      | cons a r =>
        rename_i u us'
        rw [List.map_cons, ih us' r]
        congr 1
  have ei := key bs its rv
  subst ei
  let g : Value → Bool := fun y => y == .bool true
  refine call_meets PySem.F.slot_list_count ⟨_, ho, rfl⟩ PySem.F.entry_list_count (PySem.F.args_list_count_2 _ _)
    (SeqAt.list_countAt p (bs.map Value.bool).toArray n dd sl (.bool true) g) ⟨ho, fun y hy => ?_, ?_⟩
  · have hy' : y ∈ bs.map Value.bool := by simpa using hy
    obtain ⟨b, _, rfl⟩ := List.mem_map.mp hy'
    have eg : g (.bool b) = eqV (.bl b) (.bl true) := by cases b <;> rfl
    rw [eg]
    exact eqAt_V (y := .bl b) (x := .bl true) rfl rfl rfl rfl
  · have ec : ((bs.map Value.bool).toArray.toList.countP g) = bs.count true := by
      show (bs.map Value.bool).countP g = _
      rw [List.countP_map]
      unfold List.count
      congr 1
      funext b
      cases b <;> rfl
    refine ⟨.int (bs.count true : Nat), H, I.tok _, ⟨s.toks, ?_⟩, q⟩
    show Value.int (((bs.map Value.bool).toArray.toList.countP g : Nat) : Int) s.toks = Value.int ((bs.count true : Nat) : Int) s.toks
    rw [ec]
end Lm

set_option Elab.async false
set_option linter.all false
set_option maxRecDepth 100000
set_option maxHeartbeats 2000000
namespace Lm
open PySem PySem.Spec PyProof.Rows L2 LmR
/-! ### what a program tells -/
def iv : V → Int
  | .int i => i
  | _ => 0
def bv : V → Bool
  | .bl b => b
  | _ => false
def bval : Bw → V → V → V
  | .least, x, y => .int (if iv y < iv x then iv y else iv x)
  | .most, x, y => .int (if iv y > iv x then iv y else iv x)
  | .atmost, x, y => .bl (decide (iv x ≤ iv y))
  | .both, x, y => .bl (bv x && bv y)
  | .either, x, y => .bl (bv x || bv y)
def pval (us : List V) : Pg → V
  | .inp k => us.getD k .non
  | .num c => .int c
  | .tr b => .bl b
  | .plus c a => .int (iv (pval us a) + c)
  | .bin w a b => bval w (pval us a) (pval us b)
  | .neg a => .bl (!bv (pval us a))
  | .ite p a b => if bv (pval us p) = true then pval us a else pval us b
/-- a value of the kind -/
def Kv : Bool → V → Prop
  | false, v => ∃ i, v = .int i
  | true, v => ∃ b, v = .bl b
def Kvs (ks : List Bool) (us : List V) : Prop := us.length = ks.length ∧ ∀ (j : Nat) (k : Bool) (v : V), ks[j]? = some k → us[j]? = some v → Kv k v
theorem bval_kv (w : Bw) (x y : V) : Kv w.own (bval w x y) := by cases w <;> exact ⟨_, rfl⟩
theorem pval_kv {ks : List Bool} {us : List V} (h : Kvs ks us) : ∀ p : Pg, Wk ks p → Kv (own ks p) (pval us p)
  | .inp k, hw => by
    have hk : k < ks.length := hw
    have hu : k < us.length := by rw [h.1]; exact hk
    have e1 : us.getD k .non = us[k] := by rw [List.getD_eq_getElem?_getD, List.getElem?_eq_getElem hu]; rfl
    have e2 : ks.getD k false = ks[k] := by rw [List.getD_eq_getElem?_getD, List.getElem?_eq_getElem hk]; rfl
    show Kv (ks.getD k false) (us.getD k .non)
    rw [e1, e2]
    exact h.2 k _ _ (List.getElem?_eq_getElem hk) (List.getElem?_eq_getElem hu)
  | .num c, _ => ⟨_, rfl⟩
  | .tr b, _ => ⟨_, rfl⟩
  | .plus c a, _ => ⟨_, rfl⟩
  | .bin w a b, _ => bval_kv w _ _
  | .neg a, _ => ⟨_, rfl⟩
  | .ite p a b, hw => by
    have h1 := pval_kv h a hw.2.1
    have h2 := pval_kv h b hw.2.2.1
    rw [hw.2.2.2.2] at h2
    show Kv (own ks a) (if bv (pval us p) = true then pval us a else pval us b)
    split
    · exact h1
    · exact h2
theorem kv_int {v : V} (h : Kv false v) : v = .int (iv v) := by obtain ⟨i, rfl⟩ := h; rfl
theorem kv_bl {v : V} (h : Kv true v) : v = .bl (bv v) := by obtain ⟨i, rfl⟩ := h; rfl
theorem pval_int {ks : List Bool} {us : List V} (h : Kvs ks us) {p : Pg} (hw : Wk ks p) (ho : own ks p = false) : pval us p = .int (iv (pval us p)) := kv_int (ho ▸ pval_kv h p hw)
theorem pval_bl {ks : List Bool} {us : List V} (h : Kvs ks us) {p : Pg} (hw : Wk ks p) (ho : own ks p = true) : pval us p = .bl (bv (pval us p)) := kv_bl (ho ▸ pval_kv h p hw)
theorem pval_at {ks : List Bool} {us : List V} (h : Kvs ks us) {k : Nat} (hk : k < ks.length) : us[k]? = some (pval us (.inp k)) := by
  have hu : k < us.length := by rw [h.1]; exact hk
  show us[k]? = some (us.getD k .non)
  rw [List.getD_eq_getElem?_getD, List.getElem?_eq_getElem hu]
  rfl
end Lm

set_option Elab.async false
set_option linter.all false
set_option maxRecDepth 100000
set_option maxHeartbeats 2000000
namespace Lm
open PySem PySem.Spec PyProof.Rows L2 LmR
section
variable {P : Program} {w : World} {K : PySem.W.Frag} {mg : Str → Option Value} {base : Heap}
end
end Lm

set_option Elab.async false
set_option linter.all false
set_option maxRecDepth 100000
set_option maxHeartbeats 2000000
namespace Lm
open PySem PySem.Spec PyProof.Rows L2 LmR
abbrev oEnum (a : Addr) : Obj := { cls := .type "enumerate", data := .fields #[.none, .bool false, .ref a, rawInt 0, .none, .none] }
/-- enumerate(v): two new cells -/
theorem enum_new1 {v : Value} {o : Obj} {G : Heap → Prop} (B : Begins v o G) :
    Meets (Builtin.«enumerate.__new__» ⟨[.type "enumerate", v], []⟩) (fun _ R s => G s.heap ∧ R (.ok (.ret (.ref (s.heap.push o).objs.size))) { s with heap := (s.heap.push o).push (oEnum s.heap.objs.size) }) :=
  .of_wp fun prog w A R s hh => by
    obtain ⟨hp, g, d, tk, os⟩ := s
    obtain ⟨hG, hR⟩ := hh
    have hsub := sub_enumerate
    have go : ∀ {A' : Around} {E : Value → Shared → Prop} {Q : Value → Shared → Prop}, Q (.ref hp.objs.size) ⟨hp.push o, g, d, tk, os⟩ → wpAny (model prog w) A' (pyIter v) Q E ⟨hp, g, d, tk, os⟩ :=
      fun q => B.iter prog w _ _ _ _ hG q
    wp_walk using go
    refine wpAny_stack_any fun st => wpAny_pure ?_
    split
    · rename_i c _ _ _ _ _
      cases (c == Value.type "enumerate") <;> (wp_walk using go; exact ⟨_, rfl, hR⟩)
    · wp_walk using go
      exact ⟨_, rfl, hR⟩
theorem enum_call1 {prog : Program} {w : World} {A : Around} {E : Value → Shared → Prop} {s : Shared} {v : Value} {o : Obj} {G : Heap → Prop} {Q : Value → Shared → Prop} (B : Begins v o G) (hG : G s.heap)
    (hQ : ∀ h2, IsEnum h2 (s.heap.objs.size + 1) s.heap.objs.size 0 .none → h2.get? s.heap.objs.size = some o → (∀ b ob, s.heap.get? b = some ob → h2.get? b = some ob) → Q (.ref (s.heap.objs.size + 1)) { s with heap := h2 }) :
    wpAny (model prog w) A (call (.type "enumerate") [v]) Q E s := by
  refine callType_new F.called_enumerate (by decide) (F.typeCall_enumerate_1 _) (F.newCall_enumerate_1 _) (fun obj => F.args_object_init_2 obj _) F.entry_enumerate_new (enum_new1 B) ⟨hG, ?_⟩
  have z : (s.heap.push o).objs.size = s.heap.objs.size + 1 := Heap.size_push ..
  show _ ∧ _
  rw [z]
  have he : IsEnum ((s.heap.push o).push (oEnum s.heap.objs.size)) (s.heap.objs.size + 1) s.heap.objs.size 0 .none := by
    have y := Heap.get?_push_size (s.heap.push o) (o := oEnum s.heap.objs.size) rfl
    rw [z] at y
    exact y
  exact ⟨⟨_, he, rfl⟩, hQ _ he (Heap.get?_push_of_some _ (Heap.get?_push_size _ B.free)) fun b ob x => Heap.get?_push_of_some _ (Heap.get?_push_of_some _ x)⟩
theorem enum_over {prog : Program} {w : World} {A : Around} {E : Value → Shared → Prop} {s : Shared} {e it a : Addr} {i : Nat} {items : Array Value} {c : Int} {old : Value} {Q : Option Value → Shared → Prop} (hd : A.handled = none)
    (he : IsEnum s.heap e it c old) (hit : s.heap.IsTupleIter it a i) (ht : s.heap.IsTuple a items) (hx : items[i]? = none) (hQ : ∀ h2, Heap.ExtBut it s.heap h2 → Q none { s with heap := h2 }) : wpAny (model prog w) A (pyNext (.ref e)) Q E s := by
  have D : Draws prog w A.in1 it [it, a] i (fun _ _ => True) (fun j h => j = i ∧ h.IsTupleIter it a i ∧ h.IsTuple a items) :=
    { live := fun _ _ st => by obtain ⟨_, ⟨o, ho, _⟩, _⟩ := st; exact ⟨o, ho⟩
      frame := fun _ _ _ st hk => ⟨st.1, st.2.1.at fun o q => hk it (by simp) o q, st.2.2.at fun o q => hk a (by simp) o q⟩
      item := fun j s Q E hj st _ => absurd st.1 (Nat.ne_of_lt hj)
      done := fun s Q E st hE => wpAny_nextOf_tuple_end (by first | exact hd | (show A.in1.handled = none; exact hd)) st.2.1 st.2.2 hx hE }
  exact wpAny_pyNext_enum_endD D he ⟨rfl, hit, ht⟩ hQ
/-- the tuple at a: each item, its number ahead of it, in a new pair -/
def IteT (K : PySem.W.Frag) (a : Addr) : It :=
  ⟨fun i H => ∃ (xs : List V) (x : V), SqT K H a xs ∧ xs[i]? = some x,
    fun i H v H' => ∃ T x, v = .ref T ∧ H T = none ∧ H' = upd H T (.tup [.int (i : Nat), x]) ∧ ∀ xs, SqT K H a xs → xs[i]? = some x,
    fun i H => ∃ xs : List V, SqT K H a xs ∧ xs.length ≤ i⟩
theorem turn_enumT {P : Program} {w : World} {K : PySem.W.Frag} {elts : List Expr} {kk : Nat} {tpos : Pos} (a e it : Addr) :
    Turn P w K (.Tuple elts kk tpos) (IteT K a) [e, it] e (fun i h => (∃ old, IsEnum h e it ((i : Nat) : Int) old) ∧ h.IsTupleIter it a i ∧ e ≠ it ∧ a ≠ e ∧ a ≠ it) where
  mem := by simp
  obj := fun i h st b hb => by
    obtain ⟨⟨old, he⟩, ⟨o, ho, hc, hd⟩, _⟩ := st
    have e' : b = e ∨ b = it := by simpa using hb
    rcases e' with z | z
    · rw [z]; exact ⟨_, he, fun v q => nomatch q⟩
    · rw [z]; exact ⟨o, ho, fun v q => by rw [hd] at q; cases q⟩
  keep := fun i h h' st k => by
    obtain ⟨⟨old, he⟩, hi, r⟩ := st
    exact ⟨⟨old, k e (by simp) _ he⟩, hi.at fun o q => k it (by simp) o q, r⟩
  item := by
    intro X hP hw hK hc i pins s σ H E I hf st hg
    subst hP hw hK
    obtain ⟨⟨old, he⟩, hit, hne, hae, hai⟩ := st
    obtain ⟨xs, x, hq, hx⟩ := hg
    obtain ⟨its, rv, p, hz⟩ := I.tuple hq
    obtain ⟨u, hu, ru⟩ := rv.get hx
    have ht : s.heap.IsTuple a its.toArray := p
    have hel : e < s.heap.objs.size := Heap.lt_size he
    have hil : it < s.heap.objs.size := by obtain ⟨_, q, _⟩ := hit; exact Heap.lt_size q
    have D := Draws.tuple (prog := X.prog) (w := X.w) (A := X.A.in1) (I.ok.hd hc) it a hai its.toArray
    have hlt : i < its.toArray.size := by
      have z : i < its.length := (List.getElem?_eq_some_iff.mp hu).1
      simpa using z
    refine wpAny_pyNext_enum_itemD D he ⟨hit, ht⟩ hlt hne (by simp [hne, Ne.symm hae]) fun y h' tk hy ho hst hT hsz hk => ?_
    have ey : y = u := by
      have z : its[i]? = some y := by simpa using hy
      rw [hu] at z
      exact (Option.some.inj z).symm
    subst ey
    refine ⟨_, rfl, wpAny_letOwnedTupleGo_enum (s := { s with heap := h', toks := tk + 1 }) ho fun h'' he' sb => ?_⟩
    have hT2 : h''.get? s.heap.objs.size = some { cls := .type "tuple", data := .seq #[.int i tk, y] } := (sb.2 _ (Nat.ne_of_gt hel)).trans hT
    have new : ObjOk X.prog X.w (upd H s.heap.objs.size (.tup [.int (i : Nat), x])) h'' s.heap.objs.size (.tup [.int (i : Nat), x]) :=
      ⟨by show 2 ≤ sizeLine; decide, [.int i tk, y], .cons ⟨_, rfl⟩ (.cons ru .nil), ⟨_, hT2, rfl, _, rfl⟩⟩
    have I1 : Inv X pins σ (upd H s.heap.objs.size (.tup [.int (i : Nat), x])) { s with heap := h'', toks := tk + 1 } :=
      I.turnedNew (ch := [e, it]) (fun b ob hb q => (sb.2 b (fun z => hb (by simp [z]))).trans (hk b ob (fun z => hb (by simp [z])) (fun z => hb (by simp [z])) q)) hf (Nat.le_refl _) new
    have fr : H s.heap.objs.size = none := I.hok.fresh (Nat.le_refl _)
    refine ⟨.ref s.heap.objs.size, _, I1, rfl, ⟨_, x, rfl, fr, rfl, fun ys hy => by rw [I.tuple_inj hy hq]; exact hx⟩, ⟨⟨y, ?_⟩, hst.1.at fun o q => (sb.2 it (Ne.symm hne)).trans q, hne, hae, hai⟩, fun b hb => ?_⟩
    · have e1 : ((i + 1 : Nat) : Int) = (i : Int) + 1 := by omega
      rw [e1]; exact he'
    · have e' : b = e ∨ b = it := by simpa using hb
      have hb' : b < s.heap.objs.size := by rcases e' with z | z <;> rw [z] <;> assumption
      rw [upd_ne (Nat.ne_of_lt hb')]
      exact (hf b hb).1
  done := by
    intro X hP hw hK hc i pins s σ H E I hf st hg
    subst hP hw hK
    obtain ⟨⟨old, he⟩, hit, hne, hae, hai⟩ := st
    obtain ⟨xs, hq, hx⟩ := hg
    obtain ⟨its, rv, p, hz⟩ := I.tuple hq
    have ht : s.heap.IsTuple a its.toArray := p
    obtain ⟨f0, f1, f2, f3, f4, f5⟩ := hf it (by simp)
    have hl := rv.length
    have hT : s.TypeIs (.ref e) "enumerate" := ⟨_, he, rfl⟩
    refine enum_over (I.ok.hd hc) he hit ht (by simp; omega) fun h' eb => ⟨rfl, I.turned (t' := s.toks) (fun b o hb q => eb b o hb q) f0 f1 f3 f4 f5⟩
  self := fun A i s Q E st h => by
    obtain ⟨⟨_, he⟩, _⟩ := st
    exact wpAny_pyIter_enum he h
def iEnumT (K : PySem.W.Frag) (ta : TA) : TI := fun σ H R => ta σ H fun vs H1 => ∃ a xs, vs = [.ref a] ∧ SqT K H1 a xs ∧ R (IteT K a) H1
theorem pi_enumT {X : Cx} {e : Expr} {ta : TA} {p pos tpos : Pos} {elts : List Expr} {kk : Nat} (hg : Gl X "enumerate") (hm : X.mg "enumerate" = none) (ha : PA X [e] ta) (hs : starEach [e] X.env = [(false, eval e X.env)] := by rfl) :
    PI X (.Tuple elts kk tpos) (.Call (.Name "enumerate" p) [e] [] pos) (iEnumT X.K ta) := by
  refine ⟨fun pins s σ H R I h => ?_⟩
  refine Call_ (ld_blt I hg hm boot_enumerate (PyProof.Rows.callWith_type1 (thn (ha.run pos pins s σ H _ I h) fun us s1 ⟨vs, H1, I1, r1, q1⟩ => ?_) hs rfl))
  obtain ⟨a, xs, ex, hq, q⟩ := q1
  subst ex
  cases r1 with
  | cons r rr =>
    cases rr
    cases r
    obtain ⟨its, rv, pt, hz⟩ := I1.tuple hq
    have ht : s1.heap.IsTuple a its.toArray := pt
    have hal : a < s1.heap.objs.size := by obtain ⟨_, q, _⟩ := ht; exact Heap.lt_size q
    refine enum_call1 (begins_tuple a its.toArray) ht fun h2 he hit hk => wpAny_pyIter_enum he ?_
    have I2 : Inv X pins σ H1 { s1 with heap := h2 } := I1.kept (t' := s1.toks) hk
    refine ⟨s1.heap.objs.size + 1, [s1.heap.objs.size + 1, s1.heap.objs.size], _, _, H1, rfl, I2, turn_enumT a (s1.heap.objs.size + 1) s1.heap.objs.size, ⟨⟨.none, he⟩, ⟨_, hit, rfl, rfl⟩, Nat.succ_ne_self _, Nat.ne_of_lt (Nat.lt_succ_of_lt hal), Nat.ne_of_lt hal⟩, fun b hb => ?_, q⟩
    have e' : b = s1.heap.objs.size + 1 ∨ b = s1.heap.objs.size := by simpa using hb
    have hle : s1.heap.objs.size ≤ b := by rcases e' with z | z <;> rw [z] <;> first | exact Nat.le_succ _ | exact Nat.le_refl _
    exact I1.fpOk hle (I1.hok.fresh hle)
end Lm

set_option Elab.async false
set_option linter.all false
set_option maxRecDepth 100000
set_option maxHeartbeats 2000000
namespace Lm
open PySem PySem.Spec PyProof.Rows L2 LmR
/-! ### defs that may refuse -/
def CalX (P : Program) (w : World) (K : PySem.W.Frag) (mg : Str → Option Value) (base : Heap) (k : Nat) (x : Str) (ps : List Str) (sp : Sp) : Prop :=
  ∃ f fd, FnOk P w K mg base (L2.CX P w) k f fd ps sp ∧ mg x = some (.ref f) ∧ PySem.W.keepIn K (.ref f) = true ∧ Binds K fd ps [] ∧ ∃ st, Fun K x x st f fd
section
variable {P : Program} {w : World} {K : PySem.W.Frag} {mg : Str → Option Value} {base : Heap}
theorem calx_of {x : Str} {st : Stmt} {N ps : List Str} {k : Nat} {sp : Sp} (D : DefAt K mg x st ps) (S : FnScope N ps (defScope st)) (len : ∀ vs H Q E, sp vs H Q E → vs.length = ps.length)
    (hbody : ∀ (f : Addr) (cdv : Value) (A : Around) (outer : List Env) (s : Shared) (H : Hp) (vs : List V) (Q : VK) (E : XK), Room k (A.deeper (envOfC x (defScope st) s.heap.objs.size f cdv)) → sp vs H Q E →
      ∃ t, PSs (cxOf (L2.CX P w) P w K mg base N x (defScope st) f cdv A outer s H E) (defBody st) t ∧ t { nx := fun _ H' => Q .non H', rt := Q } (start N vs) H) : CalX P w K mg base (k + 1) x ps sp := by
  obtain ⟨f, fd, F, b, g⟩ := D
  exact ⟨f, fd, F.okX S len (hbody f), g, F.kp, b, _, F⟩
end
theorem pe_calX {X : Cx} {W : WX} {k : Nat} {x : Str} {ps : List Str} {sp : Sp} {e : Expr} {es : List Expr} {t : TA} {p pos : Pos} (C : CalX X.prog X.w X.K X.mg X.base k x ps sp) (tk : Takes X W) (hr : Room k X.A) (hg : Gl X x) (ha : PA X (e :: es) t)
    (hdb : (x == ("__debug__" : Str)) = false := by decide) (he : starEach (e :: es) X.env = (false, eval e X.env) :: starEach es X.env := by rfl) (hpl : (backTo pos (starEach es X.env)).any (·.1) = false := by rfl) :
    PE X (.Call (.Name x p) (e :: es) [] pos) (tCallS sp (WE W) t) := by
  obtain ⟨f, fd, F, g, kp, b, _⟩ := C
  exact pe_callS F hr hg g kp b (fun σ => passAt tk σ) ha hdb he hpl
/-! ### classes of refusals -/
/-- the class x at C, its __init__ (st) keeps the fields fs -/
structure Rf (K : PySem.W.Frag) (mg : Str → Option Value) (x q : Str) (C fI : Addr) (fd : FuncData) (st : Stmt) (fs : List Str) : Prop where
  g : mg x = some (.ref C)
  o : OexC K C
  f : XfC K C
  k : ExK K C
  te : PySem.W.exmOne K (.ref C) (.ref C) = some true
  fld : ∀ n ∈ fs, PySem.W.findIn K (.ref C) n = some none
  iC : PySem.W.findIn K (.ref C) "__init__" = some (some (.ref fI))
  tI : PySem.W.typeIn K (.ref fI) = some (.type "function")
  F : Fun K "__init__" q st fI fd
  b : Binds K fd ("self" :: fs) []
/-- __init__(self, f, g) -/
def spIni2 (C : Addr) (f g : Str) : Sp := fun vs H Q E => ∃ a x y, vs = [.ref a, x, y] ∧ H a = some (exo a C none) ∧
  ∀ (d : Addr) (H' : Hp), H d = none → H' a = some (exo a C (some d)) → H' d = some (exd d [(g, y), (f, x)]) → (∀ b, b ≠ a → b ≠ d → H' b = H b) → Q .non H'
def spIni1 (C : Addr) (f : Str) : Sp := fun vs H Q E => ∃ a x, vs = [.ref a, x] ∧ H a = some (exo a C none) ∧
  ∀ (d : Addr) (H' : Hp), H d = none → H' a = some (exo a C (some d)) → H' d = some (exd d [(f, x)]) → (∀ b, b ≠ a → b ≠ d → H' b = H b) → Q .non H'
/-- what refusing leaves: the fields at d, all else as it was -/
def Raised (H H' : Hp) (d : Addr) (fs : List (Str × V)) : Prop := H d = none ∧ H' d = some (.xd fs) ∧ ∀ b, b ≠ d → H' b = H b
theorem Raised.same {H H' : Hp} {d : Addr} {fs : List (Str × V)} (r : Raised H H' d fs) : Same H H' := fun b o e => by
  have n : b ≠ d := fun z => by rw [z, r.1] at e; cases e
  rw [r.2.2 b n]; exact e
theorem mk_two {C : Addr} {f g : Str} {x y : V} {H : Hp} {Q : XK} (hq : ∀ d H', Raised H H' d [(g, y), (f, x)] → Q (.ref C) (some d) H') :
    [x, y].length ≤ 1000 ∧ ∀ a, H a = none → spIni2 C f g (.ref a :: ([x, y] ++ [])) (upd H a (exo a C none))
      (fun v H2 => v = .non ∧ ∃ (d : Addr) (fs : List (Str × V)), H2 a = some (exo a C (some d)) ∧ H2 d = some (exd d fs) ∧ H d = none ∧ Q (.ref C) (some d) (upd (del H2 a) d (.xd fs))) (fun _ _ _ => False) := by
  refine ⟨by show 2 ≤ 1000; decide, fun a ha => ⟨a, x, y, rfl, upd_same, fun d H' hd h1 h2 h3 => ⟨rfl, d, _, h1, h2, ?_, hq d _ ⟨?_, upd_same, fun b hb => ?_⟩⟩⟩⟩
  all_goals
    have nd : d ≠ a := fun z => by rw [z, upd_same] at hd; cases hd
  · rw [upd_ne nd] at hd; exact hd
  · rw [upd_ne nd] at hd; exact hd
  · rw [upd_ne hb]
    by_cases z : b = a
    · rw [z, del_same, ha]
    · rw [del_ne z, h3 b z hb, upd_ne z]
theorem mk_one {C : Addr} {f : Str} {x : V} {H : Hp} {Q : XK} (hq : ∀ d H', Raised H H' d [(f, x)] → Q (.ref C) (some d) H') :
    [x].length ≤ 1000 ∧ ∀ a, H a = none → spIni1 C f (.ref a :: ([x] ++ [])) (upd H a (exo a C none))
      (fun v H2 => v = .non ∧ ∃ (d : Addr) (fs : List (Str × V)), H2 a = some (exo a C (some d)) ∧ H2 d = some (exd d fs) ∧ H d = none ∧ Q (.ref C) (some d) (upd (del H2 a) d (.xd fs))) (fun _ _ _ => False) := by
  refine ⟨by show 1 ≤ 1000; decide, fun a ha => ⟨a, x, rfl, upd_same, fun d H' hd h1 h2 h3 => ⟨rfl, d, _, h1, h2, ?_, hq d _ ⟨?_, upd_same, fun b hb => ?_⟩⟩⟩⟩
  all_goals
    have nd : d ≠ a := fun z => by rw [z, upd_same] at hd; cases hd
  · rw [upd_ne nd] at hd; exact hd
  · rw [upd_ne nd] at hd; exact hd
  · rw [upd_ne hb]
    by_cases z : b = a
    · rw [z, del_same, ha]
    · rw [del_ne z, h3 b z hb, upd_ne z]
theorem pass_no {X : Cx} : Passes (L2.CX X.prog X.w) X (fun _ _ _ => False) := fun _ _ _ _ _ _ _ c => by
  obtain ⟨_, _, _, _, _, _, _, _, _, _, _, _, z⟩ := c
  exact z.elim
/-- raise x(e, ..) -/
theorem ps_ref {X : Cx} {W : WX} {x q : Str} {C fI : Addr} {fd : FuncData} {st : Stmt} {fs : List Str} {sp : Sp} {k : Nat} {e : Expr} {es : List Expr} {ta : TA} {p pos pos' : Pos} (R : Rf X.K X.mg x q C fI fd st fs) (F : FnOk X.prog X.w X.K X.mg X.base (L2.CX X.prog X.w) k fI fd ("self" :: fs) sp) (hr : Room (k + 1) X.A)
    (hc : X.calm = true) (tk : Takes X W) (hg : Gl X x) (ha : PA X (e :: es) ta)
    (hdb : (x == ("__debug__" : Str)) = false := by decide) (he : starEach (e :: es) X.env = (false, eval e X.env) :: starEach es X.env := by rfl) (hpl : (backTo pos (starEach es X.env)).any (·.1) = false := by rfl) :
    PS X (.Raise (some (.Call (.Name x p) (e :: es) [] pos)) none pos') (fun _ σ H => tMkO C sp [] ta σ H fun cls d H' => W cls d σ H') :=
  ps_raise hc tk (pmk_oex R.o R.iC R.tI F hr R.b .nil pass_no hg R.g ha hdb he hpl)
end Lm
namespace Lm
open PySem PySem.Spec PyProof.Rows L2 LmR
/-! ### x not in a tuple of texts, x any flat data -/
def strIn (ss : List Str) : PyData → Bool
  | .str s => ss.any fun y => y == s
  | _ => false
def rNotInD (K : PySem.W.Frag) : R2 := fun x y H Q => ∃ (p : Addr) (ss : List Str) (d : PyData), y = .ref p ∧ SqT K H p (ss.map V.str) ∧ Fd K H x d ∧ Q (.bl (!strIn ss d)) H
theorem all_str : ∀ ss : List Str, (ss.map V.str).all flatV = true
  | [] => rfl
  | _ :: ss => by rw [List.map_cons, List.all_cons, all_str ss]; rfl
theorem inV_str (ss : List Str) (x : V) (d : PyData) (h : ∀ y : Str, eqV (.str y) x = strIn [y] d) : inV x (ss.map V.str) = strIn ss d := by
  unfold inV
  induction ss with
  | nil => cases d <;> rfl
  | cons s ss ih =>
    rw [List.map_cons, List.any_cons, ih, h s]
    cases d with
    | str z => simp [strIn]
    | _ => rfl
theorem op_notInD {X : Cx} {K : PySem.W.Frag} (hK : X.K = K) (hu : X.A.units + 1 < cLine) : OpR X (compareOp .NotIn) (rNotInD K) := by
  subst hK
  intro pins s σ H x y v u Q I rx ry h
  obtain ⟨p, ss, d, rfl, hq, ⟨fd, hd⟩, q⟩ := h
  by_cases ht : ∃ ds, d = .tuple ds
  · obtain ⟨ds, rfl⟩ := ht
    cases hd with
    | tup qa r =>
      rename_i a vs
      cases rx
      cases ry
      obtain ⟨its, rv, pl, hz⟩ := I.tuple hq
      obtain ⟨itz, rz, plz, hzz⟩ := I.tuple qa
      refine SeqAt.notIn_tupleAt (fun _ => false) pl (fun w hw => ?_) ⟨.bl _, H, I, rfl, ?_⟩
      · have hw' : w ∈ its := by simpa using hw
        have st : ∀ (ss : List Str) (its : List Value), Vals (ss.map V.str) its → ∀ w ∈ its, ∃ b t, w = .str b t := by
          intro ss
          induction ss with
          | nil => intro its r w hw; cases r; cases hw
          | cons z ss ih =>
            intro its r w hw
            cases r with
            | cons ra rb =>
              rcases List.mem_cons.mp hw with e | e
              · obtain ⟨t, et⟩ := ra
                exact ⟨z, t, e.trans et⟩
              · exact ih _ rb w e
        obtain ⟨b, t, rfl⟩ := st ss its rv w hw'
        exact SeqAt.EqAt.str_tuple b t plz (by first | exact hu | (show X.A.units + 1 < cLine; exact hu) | (have := hu; omega))
      · have e : (!(its.toArray.any fun _ => false)) = !strIn ss (.tuple ds) := by simp [strIn]
        rw [e]
        exact q
  · have fx : flatV x = true ∧ ∀ y : Str, eqV (.str y) x = strIn [y] d := by
      cases hd with
      | non => exact ⟨rfl, fun _ => rfl⟩
      | bl b => exact ⟨rfl, fun _ => rfl⟩
      | int i => exact ⟨rfl, fun _ => rfl⟩
      | str z => exact ⟨rfl, fun y => by simp [strIn, eqV]⟩
      | lst q r => simp [flat] at fd
      | tup q r => exact absurd ⟨_, rfl⟩ ht
    refine op_notIn_seq pins s σ H x _ v u Q I rx ry ⟨p, _, rfl, .inr hq, fx.1, all_str ss, ?_⟩
    rw [if_pos rfl, inV_str ss x d fx.2]
    exact q
/-! ### for i, x in enumerate(tuple) -/
theorem for_enumT {K : PySem.W.Frag} {a : Addr} {xs : List V} {g : TG} {tb : TS} {D : Ends} {σ : L2.St} {H : Hp} (Pv : Nat → L2.St → Hp → Prop) (h0 : Pv 0 σ H) (hq : ∀ i σ H, Pv i σ H → SqT K H a xs)
    (hstep : ∀ i x σ H T, xs[i]? = some x → Pv i σ H → H T = none → g (.ref T) σ (upd H T (.tup [.int (i : Nat), x])) fun σ2 H2 => tb { D with nx := Pv (i + 1), ct := Pv (i + 1), bk := D.nx } σ2 H2)
    (hend : ∀ σ H, Pv xs.length σ H → D.nx σ H) :
    ∃ W : Nat → Nat → L2.St → Hp → Prop, (∃ m, W 0 m σ H) ∧ ∀ i m σ H, W i m σ H →
      ((IteT K a).stop i H ∧ D.nx σ H) ∨ ((IteT K a).go i H ∧ ∃ N : L2.St → Hp → Prop, (∀ σ' H', N σ' H' → ∃ m', m' < m ∧ W (i + 1) m' σ' H') ∧ ∀ x H', (IteT K a).yld i H x H' → g x σ H' fun σ2 H2 => tb { D with nx := N, ct := N, bk := D.nx } σ2 H2) := by
  refine ⟨fun i m σ H => i ≤ xs.length ∧ m = xs.length - i ∧ Pv i σ H, ⟨_, Nat.zero_le _, rfl, h0⟩, fun i m σ H ⟨hi, hm, hp⟩ => ?_⟩
  have hs := hq i σ H hp
  rcases Nat.lt_or_ge i xs.length with hlt | hge
  · obtain ⟨x, hx⟩ : ∃ x, xs[i]? = some x := ⟨xs[i], List.getElem?_eq_getElem hlt⟩
    refine .inr ⟨⟨xs, x, hs, hx⟩, Pv (i + 1), fun σ' H' h' => ⟨xs.length - (i + 1), by omega, hlt, rfl, h'⟩, ?_⟩
    rintro y H' ⟨T, z, rfl, hT, rfl, hz⟩
    have e := hz xs hs
    rw [hx] at e
    cases e
    exact hstep i x σ H T hx hp hT
  · have e : i = xs.length := Nat.le_antisymm hi hge
    refine .inl ⟨⟨xs, hs, hge⟩, hend σ H (e ▸ hp)⟩
/-- the defs within a class -/
def clsBody : Stmt → List Stmt
  | .ClassDef _ _ _ b _ _ _ _ _ _ _ => b
  | _ => []
end Lm
namespace Lm
open PySem PySem.Spec PyProof.Rows L2 LmR
/-- isinstance(e, c), e the exception at a, of the class at C, its fields at dd -/
def rIsX (K : PySem.W.Frag) (C a dd : Addr) : List V → Hp → VK → Prop := fun xs H Q => ∃ (D : Addr) (b : Bool), xs = [.ref a, .ref D] ∧ PySem.W.kitOne K (.ref C) (.ref D) = some b ∧ (∃ fs, H dd = some (.xd fs)) ∧ Q (.bl b) H
theorem call_isX {X : Cx} {a C dd : Addr} {oe : Obj} (k : ExK X.K C) (hz : Zc (.ref C) (some dd) oe) (hf : ∃ vs, oe.data = .fields vs) (hp : (a, oe) ∈ X.pn) : CallR X (.builtin "isinstance") (rIsX X.K C a dd) := by
  intro pins s σ H xs us Q I r h
  obtain ⟨D, b, rfl, e, ⟨fs, ea⟩, q⟩ := h
  obtain ⟨u1, u2, rfl, r1, r2⟩ := vals2 r
  cases (show u1 = Value.ref a from r1)
  cases (show u2 = Value.ref D from r2)
  obtain ⟨ha, _⟩ := I.pin (a, oe) (List.mem_append_left _ hp)
  obtain ⟨vs, hd⟩ := hf
  have hx : ObjOk X.prog X.w H s.heap dd (.xd fs) := I.hok dd _ ea
  obtain ⟨mA, hns, hr⟩ := hx
  obtain ⟨od, ho, hl⟩ := lookIn_ns hns
  have J : PySem.W.InstAt s.heap a oe C (some od) := ⟨ha, hz.1, by unfold PySem.W.notCls; rw [hd] <;> rfl, by rw [hz.2]; exact ho⟩
  exact PySem.W.kia_one (PySem.W.kitx_exc k.cl k.ga k.gg k.ex k.ca k.gn k.tk k.ob) I.kIn J e (fun z => nomatch z) fun tk => ⟨.bl b, H, I.tok tk, rfl, q⟩
/-- the twelve classes, and of which of them the class at C is -/
structure Srt (K : PySem.W.Frag) (mg : Str → Option Value) (C : Addr) (c1 c2 c3 c4 c5 c6 c7 c8 c9 c10 c11 c12 : Addr) (b1 b2 b3 b4 b5 b6 b7 b8 b9 b10 b11 b12 : Bool) : Prop where
  g1 : mg "NoHead" = some (.ref c1)
  g2 : mg "NoProgram" = some (.ref c2)
  g3 : mg "NoText" = some (.ref c3)
  g4 : mg "NoStock" = some (.ref c4)
  g5 : mg "NoAnswer" = some (.ref c5)
  g6 : mg "NoInputs" = some (.ref c6)
  g7 : mg "Clash" = some (.ref c7)
  g8 : mg "NoRow" = some (.ref c8)
  g9 : mg "NoQuestion" = some (.ref c9)
  g10 : mg "NoDoer" = some (.ref c10)
  g11 : mg "NotKept" = some (.ref c11)
  g12 : mg "NoName" = some (.ref c12)
  k1 : PySem.W.kitOne K (.ref C) (.ref c1) = some b1
  k2 : PySem.W.kitOne K (.ref C) (.ref c2) = some b2
  k3 : PySem.W.kitOne K (.ref C) (.ref c3) = some b3
  k4 : PySem.W.kitOne K (.ref C) (.ref c4) = some b4
  k5 : PySem.W.kitOne K (.ref C) (.ref c5) = some b5
  k6 : PySem.W.kitOne K (.ref C) (.ref c6) = some b6
  k7 : PySem.W.kitOne K (.ref C) (.ref c7) = some b7
  k8 : PySem.W.kitOne K (.ref C) (.ref c8) = some b8
  k9 : PySem.W.kitOne K (.ref C) (.ref c9) = some b9
  k10 : PySem.W.kitOne K (.ref C) (.ref c10) = some b10
  k11 : PySem.W.kitOne K (.ref C) (.ref c11) = some b11
  k12 : PySem.W.kitOne K (.ref C) (.ref c12) = some b12
def Sorts (K : PySem.W.Frag) (mg : Str → Option Value) (C : Addr) (bs : List Bool) : Prop := ∃ c1 c2 c3 c4 c5 c6 c7 c8 c9 c10 c11 c12 b1 b2 b3 b4 b5 b6 b7 b8 b9 b10 b11 b12,
  Srt K mg C c1 c2 c3 c4 c5 c6 c7 c8 c9 c10 c11 c12 b1 b2 b3 b4 b5 b6 b7 b8 b9 b10 b11 b12 ∧ bs = [b1, b2, b3, b4, b5, b6, b7, b8, b9, b10, b11, b12]
def spSorts (C a : Addr) (cls : Value) (d : Option Addr) (bs : List Bool) : Sp := fun vs H Q _ => vs = [.ref a] ∧ cls = .ref C ∧ ∃ dd fs, d = some dd ∧ H dd = some (.xd fs) ∧ ∀ H' l, Same H H' → H' l = some (.lst (bs.map V.bl)) → Q (.ref l) H'
end Lm

set_option Elab.async false
set_option linter.all false
set_option maxRecDepth 100000
set_option maxHeartbeats 2000000
namespace Lm
open PySem PySem.Spec PyProof.Rows L2 LmR
theorem call_isiK {X : Cx} {K : PySem.W.Frag} (h : X.K = K) : CallR X (.builtin "isinstance") (rIsi K) := h ▸ call_isi
theorem walk_enumT {K : PySem.W.Frag} {a : Addr} {xs : List V} : Walk (IteT K a) xs.length (fun H => SqT K H a xs) (YPair (fun i => some (.int (i : Nat))) (fun i => xs[i]?)) := by
  refine ⟨fun i H hi q => ⟨xs, xs[i], q, by simp [hi]⟩, fun H q => ⟨xs, q, Nat.le_refl _⟩, fun i H x H' hi q y => ?_⟩
  obtain ⟨T, z, h1, h2, h3, h4⟩ := y
  exact ⟨T, _, z, h1, h2, h3, rfl, h4 xs q⟩
end Lm

set_option Elab.async false
set_option linter.all false
set_option maxRecDepth 100000
set_option maxHeartbeats 2000000
set_option pp.maxSteps 600
set_option pp.deepTerms.threshold 6
namespace Lm
open PySem PySem.Spec PyProof.Rows L2 LmR
theorem fl_ne {f : Addr} {H : Hp} (g : Flow H f) {D : Addr} (h : H D = none) : D ≠ f := fun z => by
  obtain ⟨xs, e⟩ := g.lst
  rw [z, e] at h
  cases h
theorem gr_same' {f : Addr} {H H' : Hp} (fl : Flow H f) (s : Same H H') : Gr [] f H H' := ⟨Ex.of_same s, by
  obtain ⟨x, y, z, e, r⟩ := fl
  exact ⟨x, y, z, s _ _ e, r⟩⟩
theorem Gr.lst {f : Addr} {H H' : Hp} (g : Gr [] f H H') {p : Addr} {o : HO} (h : H p = some o) (n : p ≠ f) : H' p = some o := g.ex p o h (by simp [n])
theorem Dr.g {f : Addr} {H H' : Hp} (d : Dr f H H') : Gr [] f H H' := d.gr
section
variable {P : Program} {w : World} {K : PySem.W.Frag} {mg : Str → Option Value} {base : Heap}
abbrev s_l_kinds : Stmt := topS 68
theorem sc_l_kinds : FnScope ["_law_flow_here", "_law_top", "_law_size", "_law_k"] ["_law_flow_here", "_law_top"] (defScope s_l_kinds) := ⟨rfl, rfl, rfl, by decide +kernel, rfl, by decide +kernel, by decide +kernel⟩
def spKinds2 (K : PySem.W.Frag) : Sp := fun vs H Q _ => ∃ (f : Addr) (top : Int), vs = [.ref f, .int top] ∧ Flow H f ∧ 0 ≤ top ∧ top ≤ 100 ∧ ∀ (a : Addr) (ks : List Bool) (H' : Hp), Gr [] f H H' → (ks.length : Int) ≤ top → H' a = some (.tup (kVs ks)) → Q (.ref a) H'
theorem ok_l_kinds2 (B : Bt mg) (C_l_draw : Cal P w K mg base 1 "_law_draw" ["_law_flow_here", "_law_wide"] (spDraw)) (D : DefAt K mg "_law_kinds" s_l_kinds ["_law_flow_here", "_law_top"]) : Cal P w K mg base 2 "_law_kinds" ["_law_flow_here", "_law_top"] (spKinds2 K) := by
  refine cal_of D sc_l_kinds (fun vs H Q E h => ?_) (fun f cdv A outer s H vs Q E hr h => ?_)
  · obtain ⟨a, top, rfl, _⟩ := h
    rfl
  obtain ⟨f, top, rfl, fl, t0, t1, q⟩ := h
  have hr' : Room 1 _ := hr
  refine ⟨_, (pss_cons (ps_set (i := 2) sc_l_kinds.nd rfl (.inl rfl) (pe_callB (call_max2 rfl) (by rfl) B.max PyProof.Rows.boot_max (pa_cons (pe_cal C_l_draw hr' (by rfl) (pa_cons (pv 0) (pa_cons (pe_op op_add (pv 1) pe_int) pa_nil))) (pa_cons (pe_cal C_l_draw hr' (by rfl) (pa_cons (pv 0) (pa_cons (pe_op op_add (pv 1) pe_int) pa_nil))) pa_nil))))
      (pss_one (ps_ret (pe_callTy call_tuple_of (by rfl) B.tuple PyProof.Rows.boot_tuple (pa_cons (pe_lc (own := [("_law_k", 3)]) (g := gName 3) rfl sc_l_kinds.nd (pi_range1 (by rfl) B.range (pa_cons (pv 2) pa_nil)) (blkOk_by (own := [("_law_k", 3)]) (N := ["_law_flow_here", "_law_top", "_law_size", "_law_k"]) (sc := defScope s_l_kinds) (by decide +kernel)) (fun _ _ _ _ _ => (pg_name (i := 3) sc_l_kinds.nd rfl (.inl rfl))) (fun _ _ _ _ _ => pts_nil) (fun _ _ _ _ _ => (pe_ix (ix_listK (K := K) rfl) (pe_lst (pa_cons pe_str (pa_cons pe_str (pa_cons pe_str (pa_cons pe_str pa_nil))))) (pe_cal C_l_draw hr' (by rfl) (pa_cons (pv 0) (pa_cons pe_int pa_nil))) (fun _ _ => rfl)))) pa_nil))))), ?_⟩
  refine ⟨_, rfl, _, rfl, _, _, rfl, rfl, f, _, rfl, fl, by omega, by omega, fun n1 H1 n10 n11 dr1 => ⟨_, rfl, _, rfl, _, _, rfl, rfl, f, _, rfl, dr1.fl, by omega, by omega, fun n2 H2 n20 n21 dr2 => ⟨_, _, rfl, ?_⟩⟩⟩
  obtain ⟨n, en, n0, n3⟩ : ∃ n : Int, (if n2 > n1 then n2 else n1) = n ∧ 0 ≤ n ∧ n ≤ top := by
    refine ⟨_, rfl, ?_, ?_⟩ <;> split <;> omega
  rw [en]
  have g2 := dr1.g.trans dr2.g
  refine ⟨_, rfl, n, rfl, by omega, by omega, fun D hD => lc_range (lo := 0) (n := n.toNat) (fun i H' => Gr [] f H2 H' ∧ ∃ ks : List Bool, ks.length = i ∧ H' D = some (.lst (kVs ks))) ?_ ?_ ?_⟩
  · exact ⟨Gr.new dr2.fl hD, [], rfl, upd_same⟩
  · rintro i H' hi ⟨g, ks, hl, hA⟩
    refine ⟨rfl, (by show 4 ≤ sizeLine; decide), fun p hp => ?_⟩
    have gp : Gr [] f H2 (upd H' p (.lst [.str "num", .str "num", .str "num", .str "truth"])) := g.trans (Gr.new g.fl hp)
    have hp1 : (upd H' p (.lst [.str "num", .str "num", .str "num", .str "truth"])) p = some (.lst [.str "num", .str "num", .str "num", .str "truth"]) := upd_same
    have npD : D ≠ p := ne_of_none hA hp
    have hA1 : (upd H' p (.lst [.str "num", .str "num", .str "num", .str "truth"])) D = some (.lst (kVs ks)) := by rw [upd_ne npD]; exact hA
    have npf := fl_ne g.fl hp
    have nDf := fl_ne dr2.fl hD
    generalize upd H' p (.lst [.str "num", .str "num", .str "num", .str "truth"]) = H3 at gp hp1 hA1
    refine ⟨_, rfl, f, 4, rfl, gp.fl, by decide, by decide, fun j H4 j0 j1 dr4 => ?_⟩
    have hp4 := (dr4.off p npf).trans hp1
    have hA4 := (dr4.off D nDf).trans hA1
    have g4 := gp.trans dr4.g
    have kl : (kVs ks).length = ks.length := List.length_map _
    have fin : ∀ b : Bool, ∃ acc, H4 D = some (.lst acc) ∧ acc.length < sizeLine ∧ (Gr [] f H2 (upd H4 D (.lst (acc ++ [V.str (kS b)]))) ∧ ∃ ks : List Bool, ks.length = i + 1 ∧ (upd H4 D (.lst (acc ++ [V.str (kS b)]))) D = some (.lst (kVs ks))) := fun b =>
      ⟨_, hA4, by rw [kl]; exact smallL (by omega), g4.put hD nDf, ks ++ [b], by rw [List.length_append, hl]; rfl, by rw [upd_same]; unfold kVs; rw [List.map_append]; rfl⟩
    rcases (show j = 0 ∨ j = 1 ∨ j = 2 ∨ j = 3 by omega) with z | z | z | z <;> subst z
    · exact ⟨p, _, 0, .str "num", rfl, rfl, SqL.of hp4, rfl, fin false⟩
    · exact ⟨p, _, 1, .str "num", rfl, rfl, SqL.of hp4, rfl, fin false⟩
    · exact ⟨p, _, 2, .str "num", rfl, rfl, SqL.of hp4, rfl, fin false⟩
    · exact ⟨p, _, 3, .str "truth", rfl, rfl, SqL.of hp4, rfl, fin true⟩
  · rintro H' ⟨g, ks, hl, hA⟩
    exact ⟨D, _, rfl, .inl ⟨SqL.of hA, fun t ht => q t ks _ ((g2.trans g).trans (Gr.new g.fl ht)) (by omega) upd_same⟩⟩
abbrev s_l_little : Stmt := topS 69
theorem sc_l_little : FnScope ["_law_flow_here"] ["_law_flow_here"] (defScope s_l_little) := ⟨rfl, rfl, rfl, by decide +kernel, rfl, by decide +kernel, by decide +kernel⟩
def spLittle : Sp := fun vs H Q _ => ∃ f : Addr, vs = [.ref f] ∧ Flow H f ∧ ∀ (i : Int) (H' : Hp), Gr [] f H H' → -1000 ≤ i → i ≤ 1000 → Q (.int i) H'
theorem ok_l_little (C_l_draw : Cal P w K mg base 1 "_law_draw" ["_law_flow_here", "_law_wide"] (spDraw)) (D : DefAt K mg "_law_little" s_l_little ["_law_flow_here"]) : Cal P w K mg base 2 "_law_little" ["_law_flow_here"] (spLittle) := by
  refine cal_of D sc_l_little (fun vs H Q E h => ?_) (fun f cdv A outer s H vs Q E hr h => ?_)
  · obtain ⟨a, rfl, _⟩ := h
    rfl
  obtain ⟨f, rfl, fl, q⟩ := h
  have hr' : Room 1 _ := hr
  refine ⟨_, (pss_one (ps_ret (pe_ix ix_list (pe_lst (pa_cons pe_int (pa_cons pe_int (pa_cons (pe_op op_sub pe_int pe_int) (pa_cons pe_int (pa_cons (pe_op op_sub pe_int pe_int) (pa_cons pe_int (pa_cons pe_int (pa_cons pe_int pa_nil))))))))) (pe_cal C_l_draw hr' (by rfl) (pa_cons (pv 0) (pa_cons pe_int pa_nil))) (fun _ _ => rfl)))), ?_⟩
  refine ⟨_, _, rfl, rfl, _, _, rfl, rfl, (by show 8 ≤ sizeLine; decide), fun p hp => ?_⟩
  have gp : Gr [] f H (upd H p (.lst [.int 0, .int 1, .int (0 - 1), .int 2, .int (0 - 2), .int 0, .int 1, .int 3])) := Gr.new fl hp
  have hp1 : (upd H p (.lst [.int 0, .int 1, .int (0 - 1), .int 2, .int (0 - 2), .int 0, .int 1, .int 3])) p = some (.lst [.int 0, .int 1, .int (0 - 1), .int 2, .int (0 - 2), .int 0, .int 1, .int 3]) := upd_same
  have npf := fl_ne fl hp
  generalize upd H p (.lst [.int 0, .int 1, .int (0 - 1), .int 2, .int (0 - 2), .int 0, .int 1, .int 3]) = H3 at gp hp1
  refine ⟨_, rfl, f, 8, rfl, gp.fl, by decide, by decide, fun j H4 j0 j1 dr4 => ?_⟩
  have hp4 := (dr4.off p npf).trans hp1
  have g4 := gp.trans dr4.g
  rcases (show j = 0 ∨ j = 1 ∨ j = 2 ∨ j = 3 ∨ j = 4 ∨ j = 5 ∨ j = 6 ∨ j = 7 by omega) with z | z | z | z | z | z | z | z <;> subst z
  all_goals exact ⟨p, _, _, _, rfl, rfl, SqL.of hp4, rfl, q _ _ g4 (by decide) (by decide)⟩
abbrev s_l_leaf : Stmt := topS 70
theorem sc_l_leaf : FnScope ["_law_flow_here", "_law_kinds_here", "_law_kind", "_law_some", "_law_k", "_law_one"] ["_law_flow_here", "_law_kinds_here", "_law_kind"] (defScope s_l_leaf) := ⟨rfl, rfl, rfl, by decide +kernel, rfl, by decide +kernel, by decide +kernel⟩
def spLeaf2 (K : PySem.W.Frag) : Sp := fun vs H Q _ => ∃ (f ka : Addr) (ks : List Bool) (k : Bool), vs = [.ref f, .ref ka, .str (kS k)] ∧ Flow H f ∧ SqT K H ka (kVs ks) ∧ ks.length ≤ 100 ∧
  ∀ (v : V) (p : Pg) (H' : Hp), Gr [] f H H' → At K H' v p → Wn ks p → own ks p = k → psz p = 1 → Q v H'
theorem kS_inj {a b : Bool} (h : V.str (kS a) = V.str (kS b)) : a = b := by
  cases a <;> cases b <;> first | rfl | exact absurd h (by decide +kernel)
theorem ok_l_leaf2 (B : Bt mg) (C_l_draw : Cal P w K mg base 1 "_law_draw" ["_law_flow_here", "_law_wide"] (spDraw)) (C_l_little : Cal P w K mg base 2 "_law_little" ["_law_flow_here"] (spLittle)) (D : DefAt K mg "_law_leaf" s_l_leaf ["_law_flow_here", "_law_kinds_here", "_law_kind"]) : Cal P w K mg base 3 "_law_leaf" ["_law_flow_here", "_law_kinds_here", "_law_kind"] (spLeaf2 K) := by
  refine cal_of D sc_l_leaf (fun vs H Q E h => ?_) (fun f cdv A outer s H vs Q E hr h => ?_)
  · obtain ⟨f, ka, ks, k, rfl, _⟩ := h
    rfl
  obtain ⟨f, ka, ks, k, rfl, fl, hk, hk3, q⟩ := h
  have C_l_draw := C_l_draw.mono (k := 2) (by decide)
  have hr' : Room 2 _ := hr
  refine ⟨_, (pss_cons (ps_setLc (i := 3) (own := [("_law_k", 4), ("_law_one", 5)]) (g := gTup K 2 (gCons (gName 4) (gCons (gName 5) gNil))) rfl sc_l_leaf.nd rfl rfl (sw_true rfl rfl rfl (by decide +kernel)) (pi_enumT (by rfl) B.enumerate (pa_cons (pv 1) pa_nil)) (blkOk_by (own := [("_law_k", 4), ("_law_one", 5)]) (N := ["_law_flow_here", "_law_kinds_here", "_law_kind", "_law_some", "_law_k", "_law_one"]) (sc := defScope s_l_leaf) (by decide +kernel)) (fun _ _ _ _ _ => (pg_tupK (K := K) rfl rfl (pgs_cons (pg_name (i := 4) sc_l_leaf.nd rfl (.inl rfl)) (pgs_cons (pg_name (i := 5) sc_l_leaf.nd rfl (.inl rfl)) pgs_nil)))) (fun _ _ _ _ _ => (pts_one (pt_cmpR op_eq (pv 5) (pv 2) (nomark _)))) (fun _ _ _ _ _ => (pe_tup (pa_cons pe_str (pa_cons (pv 4) pa_nil)))))
      (C8.pss_cut (ps_if (PW.pt (pw_and (pt_cmpR op_gt (pe_callB call_len_seq (by rfl) B.len PySem.boot_len (pa_cons (pv 3) pa_nil)) pe_int (nomark _)) (pw_and1 (pt_cmpR op_gt (pe_cal C_l_draw hr' (by rfl) (pa_cons (pv 0) (pa_cons pe_int pa_nil))) pe_int (nomark _)))))
        (pss_one (ps_ret (pe_ix ix_list (pv 3) (pe_cal C_l_draw hr' (by rfl) (pa_cons (pv 0) (pa_cons (pe_callB call_len_seq (by rfl) B.len PySem.boot_len (pa_cons (pv 3) pa_nil)) pa_nil))) (fun _ _ => rfl))))
        pss_nil)
      (pss_cons (ps_if (pt_cmpR op_eq (pv 2) pe_str (nomark _))
        (pss_one (ps_ret (pe_tup (pa_cons pe_str (pa_cons (pe_cal C_l_little hr' (by rfl) (pa_cons (pv 0) pa_nil)) pa_nil)))))
        pss_nil)
      (pss_one (ps_ret (pe_ix ix_list (pe_lst (pa_cons (pe_tup (pa_cons pe_str pa_nil)) (pa_cons (pe_tup (pa_cons pe_str pa_nil)) pa_nil))) (pe_cal C_l_draw hr' (by rfl) (pa_cons (pv 0) (pa_cons pe_int pa_nil))) (fun _ _ => rfl))))))), ?_⟩
  refine ⟨_, rfl, ka, _, rfl, hk, fun D hD => lc_it (walk_enumT (K := K) (a := ka) (xs := kVs ks)) (fun i H' => Same H H' ∧ ∃ acc, H' D = some (.lst acc) ∧ acc.length ≤ i ∧ ∀ v ∈ acc, ∃ j, ks[j]? = some k ∧ At K H' v (.inp j)) ?_ ?_ ?_ ?_⟩
  · exact ⟨same_new hD, [], upd_same, Nat.le_refl _, fun v hv => nomatch hv⟩
  · rintro i H' _ ⟨sm, _⟩
    exact Tp.same sm _ _ hk
  · rintro i x H' H2 hi ⟨sm, acc, hA, hl, hP⟩ ⟨T, p, y, rfl, hT, rfl, hp, hy⟩
    have hp' := Option.some.inj hp
    subst hp'
    have sm2 := same_new (o := .tup [.int (i : Nat), y]) hT
    have eT : (upd H' T (.tup [.int (i : Nat), y])) T = some (.tup [.int (i : Nat), y]) := upd_same
    generalize upd H' T (.tup [.int (i : Nat), y]) = H2 at sm2 eT
    have hi' : i < ks.length := by
      unfold kVs at hi
      rw [List.length_map] at hi
      exact hi
    have ek : (kVs ks)[i]? = some (.str (kS ks[i])) := by
      unfold kVs
      rw [List.getElem?_map, List.getElem?_eq_getElem hi']
      rfl
    have hy : (kVs ks)[i]? = some y := hy
    rw [ek] at hy
    cases hy
    have hA2 := sm2 _ _ hA
    refine ⟨T, _, rfl, .inl (.inl eT), rfl, _, _, rfl, _, _, rfl, rfl, rfl, _, rfl, _, rfl, rfl, _, rfl, ite2 (fun c => ?_) (fun c => ?_)⟩
    · have c2 : ks[i] = k := kS_inj (of_decide_eq_true c)
      refine ⟨_, rfl, (by show 2 ≤ sizeLine; decide), fun p hp => ⟨acc, ?_, smallL (by omega), ?_⟩⟩
      · rw [upd_ne (ne_of_none hA2 hp)]
        exact hA2
      · have sp : Same H2 (upd H2 p (.tup [.str "in", .int (i : Nat)])) := same_new hp
        have hD' := sp _ _ hA2
        have ep : (upd H2 p (.tup [.str "in", .int (i : Nat)])) p = some (.tup [.str "in", .int (i : Nat)]) := upd_same
        generalize upd H2 p (.tup [.str "in", .int (i : Nat)]) = H3 at sp hD' ep
        have tp : Tp K H3 (upd H3 D (.lst (acc ++ [.ref p]))) := Tp.lst hD'
        refine ⟨fun b o z => ?_, acc ++ [.ref p], upd_same, by rw [List.length_append, List.length_singleton]; omega, fun v hv => ?_⟩
        · rw [upd_ne (ne_of_none z hD)]
          exact sp _ _ (sm2 _ _ (sm _ _ z))
        · rcases List.mem_append.mp hv with z | z
          · obtain ⟨j, e1, e2⟩ := hP v z
            exact ⟨j, e1, e2.keep (((Tp.same sm2).trans (Tp.same sp)).trans tp)⟩
          · rw [List.mem_singleton.mp z]
            exact ⟨i, by rw [List.getElem?_eq_getElem hi', c2], .tup (tp _ _ (.inl (.inl ep))) (.cons (.str _) (.cons (.int _) .nil))⟩
    · refine ⟨fun b o z => sm2 _ _ (sm _ _ z), acc, hA2, by omega, fun v hv => ?_⟩
      obtain ⟨j, e1, e2⟩ := hP v hv
      exact ⟨j, e1, e2.keep (Tp.same sm2)⟩
  rintro H1 ⟨sm, acc, hA, hl, hP⟩
  have kl : (kVs ks).length = ks.length := List.length_map _
  have g1 : Gr [] f H H1 := gr_same' fl sm
  have nDf := fl_ne fl hD
  refine ⟨fun σ' H2 => σ' = [some (.ref f), some (.ref ka), some (.str (kS k)), some (.ref D), none, none] ∧ Gr [] f H H2, ?_, ?_⟩
  · have no : ∀ H2, Gr [] f H H2 → ((fun σ' H2 => σ' = [some (.ref f), some (.ref ka), some (.str (kS k)), some (.ref D), none, none] ∧ Gr [] f H H2) : L2.St → Hp → Prop) [some (.ref f), some (.ref ka), some (.str (kS k)), some (.ref D), none, none] H2 := fun H2 g => ⟨rfl, g⟩
    refine ⟨_, rfl, D, acc, rfl, .inl (SqL.of hA), _, _, rfl, rfl, _, rfl, ite2 (fun c => ?_) (fun c => iteF (no _ g1))⟩
    have c' : ((acc.length : Nat) : Int) > 0 := of_decide_eq_true c
    refine ⟨_, rfl, f, 4, rfl, g1.fl, by decide, by decide, fun d H2 d0 d1 r2 => ⟨_, _, rfl, rfl, _, rfl, ite2 (fun c2 => ?_) (fun c2 => no _ (g1.trans r2.g))⟩⟩
    have g2 := g1.trans r2.g
    have hA2 := (r2.off D nDf).trans hA
    refine ⟨_, rfl, _, rfl, _, rfl, D, acc, rfl, .inl (SqL.of hA2), f, _, rfl, g2.fl, c', by omega, fun j H4 j0 j1 r4 => ?_⟩
    have hA4 := (r4.off D nDf).trans hA2
    have hj : j.toNat < acc.length := by omega
    obtain ⟨i, e1, e2⟩ := hP acc[j.toNat] (List.getElem_mem hj)
    refine ⟨D, acc, j, acc[j.toNat], rfl, rfl, SqL.of hA4, at_of (j := j.toNat) (by omega) (List.getElem?_eq_getElem hj), q _ (.inp i) _ (g2.trans r4.g) ((e2.keep (r2.tp g1.fl)).keep (r4.tp g2.fl)) ?_ ?_ rfl⟩
    · exact ⟨(List.getElem?_eq_some_iff.mp e1).1, True.intro⟩
    · show ks.getD i false = k
      rw [List.getD_eq_getElem?_getD, e1]
      rfl
  rintro _ H2 ⟨rfl, g2⟩
  refine ⟨_, rfl, rfl, _, rfl, ite2 (fun c => ?_) (fun c => ?_)⟩
  · have ek : k = false := kS_inj (a := k) (b := false) (of_decide_eq_true c)
    subst ek
    refine ⟨_, rfl, f, rfl, g2.fl, fun num H3 g3 n0 n1 => ⟨(by show 2 ≤ sizeLine; decide), fun p hp => ?_⟩⟩
    have g := g2.trans g3
    exact q _ (.num num) _ (g.trans (Gr.new g.fl hp)) (.tup (.inl (.inl upd_same)) (.cons (.str _) (.cons (.int _) .nil))) ⟨True.intro, n0, n1⟩ rfl rfl
  · have ek : k = true := by
      cases k
      · exact absurd (decide_eq_true rfl) c
      · rfl
    subst ek
    refine ⟨(by show 1 ≤ sizeLine; decide), fun p hp => ⟨(by show 1 ≤ sizeLine; decide), fun p2 hp2 => ⟨(by show 2 ≤ sizeLine; decide), fun l hl => ?_⟩⟩⟩
    have s1 := same_new (o := .tup [V.str "yes"]) hp
    have e1 : (upd H2 p (.tup [V.str "yes"])) p = some (.tup [V.str "yes"]) := upd_same
    generalize upd H2 p (.tup [V.str "yes"]) = H3 at s1 e1 hp2 hl
    have s2 := same_new (o := .tup [V.str "no"]) hp2
    have e2 : (upd H3 p2 (.tup [V.str "no"])) p2 = some (.tup [V.str "no"]) := upd_same
    generalize upd H3 p2 (.tup [V.str "no"]) = H4 at s2 e2 hl
    have s3 := same_new (o := .lst [V.ref p, V.ref p2]) hl
    have e3 : (upd H4 l (.lst [V.ref p, V.ref p2])) l = some (.lst [V.ref p, V.ref p2]) := upd_same
    have g4 := g2.trans (gr_same' g2.fl (s1.trans s2))
    have nlf := fl_ne g4.fl hl
    generalize upd H4 l (.lst [V.ref p, V.ref p2]) = H5 at s3 e3
    have g5 := g4.trans (gr_same' g4.fl s3)
    refine ⟨_, rfl, f, 2, rfl, g5.fl, by decide, by decide, fun b H6 b0 b1 r6 => ?_⟩
    have h6 := (r6.off l nlf).trans e3
    have tp6 : Tp K H5 H6 := r6.tp g5.fl
    rcases (show b = 0 ∨ b = 1 by omega) with z | z <;> subst z
    · exact ⟨l, _, 0, .ref p, rfl, rfl, SqL.of h6, rfl, q _ (.tr true) _ (g5.trans r6.g) (.tup (tp6 _ _ (.inl (.inl (s3 _ _ (s2 _ _ e1))))) (.cons (.str _) .nil)) ⟨True.intro, True.intro⟩ rfl rfl⟩
    · exact ⟨l, _, 1, .ref p2, rfl, rfl, SqL.of h6, rfl, q _ (.tr false) _ (g5.trans r6.g) (.tup (tp6 _ _ (.inl (.inl (s3 _ _ e2)))) (.cons (.str _) .nil)) ⟨True.intro, True.intro⟩ rfl rfl⟩
end
end Lm

set_option Elab.async false
set_option linter.all false
set_option maxRecDepth 100000
set_option maxHeartbeats 2000000
set_option pp.maxSteps 600
set_option pp.deepTerms.threshold 6
namespace Lm
open PySem PySem.Spec PyProof.Rows L2 LmR
section
variable {P : Program} {w : World} {K : PySem.W.Frag} {mg : Str → Option Value} {base : Heap}
abbrev s_l_plan : Stmt := topS 71
theorem sc_l_plan : FnScope ["_law_flow_here", "_law_kinds_here", "_law_kind", "_law_room", "_law_form", "_law_half", "_law_parts", "_law_word", "_law_one", "_law_inner_here", "_law_third", "_law_test", "_law_rest"] ["_law_flow_here", "_law_kinds_here", "_law_kind", "_law_room"] (defScope s_l_plan) := ⟨rfl, rfl, rfl, by decide +kernel, rfl, by decide +kernel, by decide +kernel⟩
def spPlan (K : PySem.W.Frag) (n : Nat) : Sp := fun vs H Q _ => ∃ (f ka : Addr) (ks : List Bool) (k : Bool) (room : Int), vs = [.ref f, .ref ka, .str (kS k), .int room] ∧ Flow H f ∧ SqT K H ka (kVs ks) ∧ ks.length ≤ 100 ∧ 1 ≤ room ∧ room ≤ n ∧ room ≤ 1000 ∧
  ∀ (v : V) (p : Pg) (H' : Hp), Gr [] f H H' → At K H' v p → Wn ks p → own ks p = k → (psz p : Int) ≤ room → Q v H'
theorem ok_l_plan1 {n : Nat} (B : Bt mg) (C_l_draw : Cal P w K mg base 1 "_law_draw" ["_law_flow_here", "_law_wide"] (spDraw)) (C_l_little : Cal P w K mg base 2 "_law_little" ["_law_flow_here"] (spLittle)) (C_l_leaf : Cal P w K mg base 3 "_law_leaf" ["_law_flow_here", "_law_kinds_here", "_law_kind"] (spLeaf2 K)) (C_l_plan : Cal P w K mg base (n + 3) "_law_plan" ["_law_flow_here", "_law_kinds_here", "_law_kind", "_law_room"] (spPlan K n)) (D : DefAt K mg "_law_plan" s_l_plan ["_law_flow_here", "_law_kinds_here", "_law_kind", "_law_room"]) : Cal P w K mg base (n + 3 + 1) "_law_plan" ["_law_flow_here", "_law_kinds_here", "_law_kind", "_law_room"] (spPlan K (n + 1)) := by
  refine cal_of D sc_l_plan (fun vs H Q E h => ?_) (fun f cdv A outer s H vs Q E hr h => ?_)
  · obtain ⟨f, ka, ks, k, room, rfl, _⟩ := h
    rfl
  obtain ⟨f, ka, ks, k, room, rfl, fl, hk, hk3, r1, r2, r3, q⟩ := h
  have C_l_draw := C_l_draw.mono (k := n + 3) (by omega)
  have C_l_little := C_l_little.mono (k := n + 3) (by omega)
  have C_l_leaf := C_l_leaf.mono (k := n + 3) (by omega)
  have hr' : Room (n + 3) _ := hr
  refine ⟨_, (pss_cons (ps_set (i := 4) sc_l_plan.nd rfl (.inl rfl) (pe_cal C_l_draw hr' (by rfl) (pa_cons (pv 0) (pa_cons pe_int pa_nil))))
      (pss_cons (ps_if (PW.pt (pw_or (pt_cmpR op_lt (pv 3) pe_int (nomark _)) (pw_or1 (pt_cmpR op_eq (pv 4) pe_int (nomark _)))))
        (pss_one (ps_ret (pe_cal C_l_leaf hr' (by rfl) (pa_cons (pv 0) (pa_cons (pv 1) (pa_cons (pv 2) pa_nil))))))
        pss_nil)
      (pss_cons (ps_if (PW.pt (pw_or (pt_cmpR op_lt (pv 3) pe_int (nomark _)) (pw_or1 (pt_cmpR op_eq (pv 4) pe_int (nomark _)))))
        (pss_cons (ps_set (i := 9) sc_l_plan.nd rfl (.inl rfl) (pe_cal C_l_plan hr' (by rfl) (pa_cons (pv 0) (pa_cons (pv 1) (pa_cons (pv 2) (pa_cons (pe_op op_sub (pv 3) pe_int) pa_nil))))))
      (pss_one (ps_ret (pe_ifExp (pt_cmpR op_eq (pv 2) pe_str (nomark _)) (pe_tup (pa_cons pe_str (pa_cons (pe_cal C_l_little hr' (by rfl) (pa_cons (pv 0) pa_nil)) (pa_cons (pv 9) pa_nil)))) (pe_tup (pa_cons pe_str (pa_cons (pv 9) pa_nil)))))))
        pss_nil)
      (pss_cons (ps_set (i := 5) sc_l_plan.nd rfl (.inl rfl) (pe_op op_add pe_int (pe_cal C_l_draw hr' (by rfl) (pa_cons (pv 0) (pa_cons (pe_op op_sub (pv 3) pe_int) pa_nil)))))
      (C8.pss_cut (ps_if (PW.pt (pw_and (pt_cmpR op_eq (pv 4) pe_int (nomark _)) (pw_and1 (pt_cmpR op_gt (pv 3) pe_int (nomark _)))))
        (pss_cons (ps_set (i := 10) sc_l_plan.nd rfl (.inl rfl) (pe_op op_add pe_int (pe_cal C_l_draw hr' (by rfl) (pa_cons (pv 0) (pa_cons (pe_op op_sub (pv 3) pe_int) pa_nil)))))
      (pss_cons (ps_par (i := 11) (j := 12) rfl sc_l_plan.nd rfl rfl (by decide) rfl rfl (pa_cons (pe_cal C_l_plan hr' (by rfl) (pa_cons (pv 0) (pa_cons (pv 1) (pa_cons pe_str (pa_cons (pv 10) pa_nil))))) (pa_cons (pe_op op_add pe_int (pe_cal C_l_draw hr' (by rfl) (pa_cons (pv 0) (pa_cons (pe_op op_sub (pe_op op_sub (pv 3) pe_int) (pv 10)) pa_nil)))) pa_nil)) rfl)
      (pss_cons (ps_set (i := 8) sc_l_plan.nd rfl (.inl rfl) (pe_cal C_l_plan hr' (by rfl) (pa_cons (pv 0) (pa_cons (pv 1) (pa_cons (pv 2) (pa_cons (pv 12) pa_nil))))))
      (pss_one (ps_ret (pe_tup (pa_cons pe_str (pa_cons (pv 11) (pa_cons (pv 8) (pa_cons (pe_cal C_l_plan hr' (by rfl) (pa_cons (pv 0) (pa_cons (pv 1) (pa_cons (pv 2) (pa_cons (pe_op op_sub (pe_op op_sub (pe_op op_sub (pv 3) pe_int) (pv 10)) (pv 12)) pa_nil))))) pa_nil))))))))))
        pss_nil)
      (C8.pss_cut (ps_set (i := 6) sc_l_plan.nd rfl (.inl rfl) (pe_ifExp (PW.pt (pw_or (pt_cmpR op_eq (pv 2) pe_str (nomark _)) (pw_or1 (pt_cmpR op_gt (pv 4) pe_int (nomark _))))) pe_str pe_str))
      (C8.pss_cut (ps_set (i := 7) sc_l_plan.nd rfl (.inl rfl) (pe_ix ix_list (pe_ix ix_list (pe_lst (pa_cons (pe_lst (pa_cons pe_str (pa_cons pe_str pa_nil))) (pa_cons (pe_lst (pa_cons pe_str (pa_cons pe_str pa_nil))) pa_nil))) (pe_callTy call_int1 (by rfl) B.int PyProof.Rows.boot_int (pa_cons (pe_cmpR op_eq (pv 2) pe_str (nomark _)) pa_nil)) (fun _ _ => rfl)) (pe_cal C_l_draw hr' (by rfl) (pa_cons (pv 0) (pa_cons pe_int pa_nil))) (fun _ _ => rfl)))
      (C8.pss_cut (ps_if (PW.pt (pw_and (pt_cmpR op_eq (pv 2) pe_str (nomark _)) (pw_and1 (pt_cmpR op_eq (pv 6) pe_str (nomark _)))))
        (pss_one (ps_set (i := 7) sc_l_plan.nd rfl (.inl rfl) pe_str))
        pss_nil)
      (pss_cons (ps_set (i := 8) sc_l_plan.nd rfl (.inl rfl) (pe_cal C_l_plan hr' (by rfl) (pa_cons (pv 0) (pa_cons (pv 1) (pa_cons (pv 6) (pa_cons (pv 5) pa_nil))))))
      (pss_one (ps_ret (pe_tup (pa_cons (pv 7) (pa_cons (pv 8) (pa_cons (pe_cal C_l_plan hr' (by rfl) (pa_cons (pv 0) (pa_cons (pv 1) (pa_cons (pv 6) (pa_cons (pe_op op_sub (pe_op op_sub (pv 3) pe_int) (pv 5)) pa_nil))))) pa_nil))))))))))))))), ?_⟩
  have pl : ∀ {k' : Bool} {room' : Int} {H1 : Hp} {Q' : VK}, Gr [] f H H1 → 1 ≤ room' → room' < room → (∀ (v : V) (p : Pg) (H2 : Hp), Gr [] f H H2 → Tp K H1 H2 → At K H2 v p → Wn ks p → own ks p = k' → (psz p : Int) ≤ room' → Q' v H2) → spPlan K n [.ref f, .ref ka, .str (kS k'), .int room'] H1 Q' (fun _ _ _ => False) := fun {k'} {room'} {H1} {Q'} g a b q' =>
    ⟨f, ka, ks, k', room', rfl, g.fl, g.tp fl _ _ hk, hk3, a, by omega, by omega, fun v p H2 g2 h1 h2 h3 h4 => q' v p H2 (g.trans g2) (g2.tp g.fl) h1 h2 h3 h4⟩
  refine ⟨_, rfl, f, 7, rfl, fl, by decide, by decide, fun d H1 d0 d1 dr1 => ?_⟩
  have g1 := dr1.g
  have lf : spLeaf2 K [.ref f, .ref ka, .str (kS k)] H1 Q (fun _ _ _ => False) := ⟨f, ka, ks, k, rfl, g1.fl, g1.tp fl _ _ hk, hk3, fun v p H' g a wn ow sz => q v p H' (g1.trans g) a wn ow (by omega)⟩
  refine ⟨_, rfl, _, _, rfl, rfl, _, rfl, ite2 (fun c => iteT ⟨_, rfl, _, rfl, _, rfl, lf⟩) (fun c => ⟨_, rfl, rfl, _, rfl, ite2 (fun _ => ⟨_, rfl, _, rfl, _, rfl, lf⟩) (fun _ => ?_)⟩)⟩
  have two : 2 ≤ room := by
    by_cases z : room < 2
    · exact absurd (decide_eq_true z) c
    · omega
  clear lf
  have inner : (tSeq
            (tAsg
              (tCall (spPlan K n) [] (fun x x_1 x_2 => False)
                (tCons (tVar 0)
                  (tCons (tVar 1)
                    (tCons (tVar 2) (tCons (tOp (rI0 fun i j => V.int (i - j)) (tVar 3) (tC (V.int 1))) tNil)))))
              (gName 9))
            (tRet (tIf (tTest (tOp rEq (tVar 2) (tC (.str "num")))) (tTup (tCons (tC (.str "plus")) (tCons (tCall spLittle [] (fun x x_1 x_2 => False) (tCons (tVar 0) tNil)) (tCons (tVar 9) tNil)))) (tTup (tCons (tC (.str "not")) (tCons (tVar 9) tNil))))))
        { nx := fun _ H' => Q V.non H', rt := Q } [some (.ref f), some (.ref ka), some (.str (kS k)), some (.int room), some (.int d), none, none, none, none, none, none, none, none] H1 := by
    refine ⟨_, rfl, _, rfl, _, rfl, _, rfl, _, _, rfl, rfl, pl g1 (by omega) (by omega) fun v p H2 g2 tp2 a wn ow sz => ?_⟩
    refine ⟨_, rfl, rfl, _, rfl, ite2 (fun c => ?_) (fun c => ?_)⟩
    · have ek : k = false := kS_inj (a := k) (b := false) (of_decide_eq_true c)
      subst ek
      refine ⟨_, rfl, f, rfl, g2.fl, fun i H3 g3 i0 i1 => ⟨_, rfl, (by show 3 ≤ sizeLine; decide), fun t ht => ?_⟩⟩
      have g := g2.trans g3
      have s4 := same_new (o := .tup [V.str "plus", V.int i, v]) ht
      exact q _ (.plus i p) _ (g.trans (Gr.new g.fl ht)) (.tup (.inl (.inl upd_same)) (.cons (.str _) (.cons (.int _) (.cons ((a.keep (g3.tp g2.fl)).keep (Tp.same s4)) .nil)))) ⟨⟨wn.1, ow⟩, ⟨i0, i1⟩, wn.2⟩ rfl (by show ((psz p + 1 : Nat) : Int) ≤ room; omega)
    · have ek : k = true := by
        cases k
        · exact absurd (decide_eq_true rfl) c
        · rfl
      subst ek
      refine ⟨_, rfl, (by show 2 ≤ sizeLine; decide), fun t ht => ?_⟩
      have s4 := same_new (o := .tup [V.str "not", v]) ht
      exact q _ (.neg p) _ (g2.trans (Gr.new g2.fl ht)) (.tup (.inl (.inl upd_same)) (.cons (.str _) (.cons (a.keep (Tp.same s4)) .nil))) ⟨⟨wn.1, ow⟩, wn.2⟩ rfl (by show ((psz p + 1 : Nat) : Int) ≤ room; omega)
  refine ⟨_, rfl, _, _, rfl, rfl, _, rfl, ite2 (fun c => iteT inner) (fun c2 => ⟨_, rfl, rfl, _, rfl, ite2 (fun _ => inner) (fun _ => ?_)⟩)⟩
  have three : 3 ≤ room := by
    by_cases z : room < 3
    · exact absurd (decide_eq_true z) c2
    · omega
  clear inner
  refine ⟨_, rfl, _, rfl, _, _, rfl, rfl, f, _, rfl, g1.fl, by omega, by omega, fun hf H2 hf0 hf1 dr2 => ⟨_, _, rfl, rfl, ?_⟩⟩
  have g2 := g1.trans dr2.g
  refine ⟨fun σ' H3 => σ' = [some (.ref f), some (.ref ka), some (.str (kS k)), some (.int room), some (.int d), some (.int (1 + hf)), none, none, none, none, none, none, none] ∧ H2 = H3, ?_, ?_⟩
  · refine ⟨_, rfl, rfl, _, rfl, ite2 (fun _ => ⟨_, rfl, _, _, rfl, rfl, _, rfl, ite2 (fun c3 => ?_) (fun _ => ⟨rfl, rfl⟩)⟩) (fun _ => ⟨rfl, rfl⟩)⟩
    have four : 3 < room := of_decide_eq_true c3
    refine ⟨_, rfl, _, rfl, _, _, rfl, rfl, f, _, rfl, g2.fl, by omega, by omega, fun th H3 th0 th1 dr3 => ⟨_, _, rfl, rfl, ?_⟩⟩
    have g3 := g2.trans dr3.g
    refine ⟨_, rfl, _, rfl, _, rfl, pl (k' := true) (room' := 1 + th) g3 (by omega) (by omega) fun v1 p1 H4 g4 _ a1 wn1 ow1 sz1 => ?_⟩
    refine ⟨_, rfl, _, rfl, _, _, rfl, rfl, _, rfl, _, _, rfl, rfl, f, room - 2 - (1 + th), rfl, g4.fl, by omega, by omega, fun rs H5 rs0 rs1 dr5 => ⟨_, _, rfl, rfl, _, _, rfl, ?_⟩⟩
    have g5 := g4.trans dr5.g
    refine ⟨_, rfl, _, rfl, _, rfl, _, rfl, pl (k' := k) (room' := 1 + rs) g5 (by omega) (by omega) fun v2 p2 H6 g6 tp6 a2 wn2 ow2 sz2 => ?_⟩
    refine ⟨_, rfl, _, rfl, _, rfl, _, rfl, _, rfl, _, rfl, _, _, rfl, rfl, _, rfl, _, _, rfl, rfl, _, rfl, _, _, rfl, rfl, pl (k' := k) (room' := room - 1 - (1 + th) - (1 + rs)) g6 (by omega) (by omega) fun v3 p3 H7 g7 tp7 a3 wn3 ow3 sz3 => ⟨(by show 4 ≤ sizeLine; decide), fun t ht => ?_⟩⟩
    have tp5 : Tp K H4 H5 := dr5.tp g4.fl
    have s8 := same_new (o := .tup [V.str "if", v1, v2, v3]) ht
    refine q _ (.ite p1 p2 p3) _ (g7.trans (Gr.new g7.fl ht)) (.tup (.inl (.inl upd_same)) (.cons (.str _) (.cons ((((a1.keep tp5).keep tp6).keep tp7).keep (Tp.same s8)) (.cons ((a2.keep tp7).keep (Tp.same s8)) (.cons (a3.keep (Tp.same s8)) .nil))))) ⟨⟨wn1.1, wn2.1, wn3.1, ow1, by rw [ow2, ow3]⟩, wn1.2, wn2.2, wn3.2⟩ ow2 ?_
    show ((psz p1 + psz p2 + psz p3 + 1 : Nat) : Int) ≤ room
    omega
  rintro _ _ ⟨rfl, rfl⟩
  refine ⟨fun σ' H3 => (∃ kp : Bool, σ' = [some (.ref f), some (.ref ka), some (.str (kS k)), some (.int room), some (.int d), some (.int (1 + hf)), some (.str (kS kp)), none, none, none, none, none, none] ∧ (k = false → kp = false)) ∧ H2 = H3, ?_, ?_⟩
  · refine ⟨_, rfl, rfl, _, rfl, ite2 (fun c => iteT ⟨⟨false, rfl, fun _ => rfl⟩, rfl⟩) (fun c => ⟨_, rfl, _, _, rfl, rfl, _, rfl, ite2 (fun _ => ⟨⟨false, rfl, fun _ => rfl⟩, rfl⟩) (fun _ => ⟨⟨true, rfl, fun z => ?_⟩, rfl⟩)⟩)⟩
    subst z
    exact absurd (decide_eq_true rfl) c
  rintro _ _ ⟨⟨kp, rfl, hkp⟩, rfl⟩
  refine ⟨fun σ' H3 => (∃ w0 : Bw, σ' = [some (.ref f), some (.ref ka), some (.str (kS k)), some (.int room), some (.int d), some (.int (1 + hf)), some (.str (kS kp)), some (.str w0.str), none, none, none, none, none] ∧ w0.own = k ∧ w0.arg = k) ∧ Gr [] f H H3, ?_, ?_⟩
  · refine ⟨(by show 2 ≤ sizeLine; decide), fun l1 hl1 => ⟨(by show 2 ≤ sizeLine; decide), fun l2 hl2 => ⟨(by show 2 ≤ sizeLine; decide), fun l3 hl3 => ?_⟩⟩⟩
    have s1 := same_new (o := .lst [V.str "least", V.str "most"]) hl1
    have e1 : (upd H2 l1 (.lst [V.str "least", V.str "most"])) l1 = some (.lst [V.str "least", V.str "most"]) := upd_same
    generalize upd H2 l1 (.lst [V.str "least", V.str "most"]) = H3 at s1 e1 hl2 hl3
    have s2 := same_new (o := .lst [V.str "both", V.str "either"]) hl2
    have e2 : (upd H3 l2 (.lst [V.str "both", V.str "either"])) l2 = some (.lst [V.str "both", V.str "either"]) := upd_same
    generalize upd H3 l2 (.lst [V.str "both", V.str "either"]) = H4 at s2 e2 hl3
    have s3 := same_new (o := .lst [V.ref l1, V.ref l2]) hl3
    have e3 : (upd H4 l3 (.lst [V.ref l1, V.ref l2])) l3 = some (.lst [V.ref l1, V.ref l2]) := upd_same
    generalize upd H4 l3 (.lst [V.ref l1, V.ref l2]) = H5 at s3 e3
    have g5 := g2.trans (gr_same' g2.fl (s1.trans (s2.trans s3)))
    have n1 := fl_ne g2.fl hl1
    have n2 : l2 ≠ f := fl_ne (gr_same' g2.fl s1).fl hl2
    refine ⟨_, rfl, rfl, .inr ⟨_, rfl, ?_⟩⟩
    cases k with
    | false =>
      refine ⟨l3, _, 0, .ref l1, rfl, rfl, SqL.of e3, rfl, _, rfl, f, 2, rfl, g5.fl, by decide, by decide, fun j H6 j0 j1 r6 => ?_⟩
      have e6 := (r6.off l1 n1).trans (s3 _ _ (s2 _ _ e1))
      rcases (show j = 0 ∨ j = 1 by omega) with z | z <;> subst z
      · exact ⟨l1, _, 0, _, rfl, rfl, SqL.of e6, rfl, ⟨.least, rfl, rfl, rfl⟩, g5.trans r6.g⟩
      · exact ⟨l1, _, 1, _, rfl, rfl, SqL.of e6, rfl, ⟨.most, rfl, rfl, rfl⟩, g5.trans r6.g⟩
    | true =>
      refine ⟨l3, _, 1, .ref l2, rfl, rfl, SqL.of e3, rfl, _, rfl, f, 2, rfl, g5.fl, by decide, by decide, fun j H6 j0 j1 r6 => ?_⟩
      have e6 := (r6.off l2 n2).trans (s3 _ _ e2)
      rcases (show j = 0 ∨ j = 1 by omega) with z | z <;> subst z
      · exact ⟨l2, _, 0, _, rfl, rfl, SqL.of e6, rfl, ⟨.both, rfl, rfl, rfl⟩, g5.trans r6.g⟩
      · exact ⟨l2, _, 1, _, rfl, rfl, SqL.of e6, rfl, ⟨.either, rfl, rfl, rfl⟩, g5.trans r6.g⟩
  rintro _ H3 ⟨⟨w0, rfl, o0, a0⟩, g3⟩
  refine ⟨fun σ' H4 => (∃ w1 : Bw, σ' = [some (.ref f), some (.ref ka), some (.str (kS k)), some (.int room), some (.int d), some (.int (1 + hf)), some (.str (kS kp)), some (.str w1.str), none, none, none, none, none] ∧ w1.own = k ∧ w1.arg = kp) ∧ H3 = H4, ?_, ?_⟩
  · refine ⟨_, rfl, rfl, _, rfl, ite2 (fun c => ⟨_, rfl, rfl, _, rfl, ite2 (fun c3 => ?_) (fun c3 => ?_)⟩) (fun c => ?_)⟩
    · have ek : k = true := kS_inj (a := k) (b := true) (of_decide_eq_true c)
      have ep : kp = false := kS_inj (a := kp) (b := false) (of_decide_eq_true c3)
      subst ek ep
      exact ⟨⟨.atmost, rfl, rfl, rfl⟩, rfl⟩
    · have ek : k = true := kS_inj (a := k) (b := true) (of_decide_eq_true c)
      have ep : kp = true := by
        cases kp
        · exact absurd (decide_eq_true rfl) c3
        · rfl
      subst ek ep
      exact ⟨⟨w0, rfl, o0, a0⟩, rfl⟩
    · have ek : k = false := by
        cases k
        · rfl
        · exact absurd (decide_eq_true rfl) c
      have ep := hkp ek
      subst ek ep
      exact ⟨⟨w0, rfl, o0, a0⟩, rfl⟩
  rintro _ _ ⟨⟨w1, rfl, o1, b1⟩, rfl⟩
  refine ⟨_, rfl, _, rfl, _, rfl, _, rfl, pl (k' := kp) (room' := 1 + hf) g3 (by omega) (by omega) fun v1 p1 H4 g4 tp4 a1 wn1 ow1 sz1 => ?_⟩
  refine ⟨_, rfl, _, rfl, _, rfl, _, rfl, _, rfl, _, rfl, _, _, rfl, rfl, _, rfl, _, _, rfl, rfl, pl (k' := kp) (room' := room - 1 - (1 + hf)) g4 (by omega) (by omega) fun v2 p2 H5 g5 tp5 a2 wn2 ow2 sz2 => ⟨(by show 3 ≤ sizeLine; decide), fun t ht => ?_⟩⟩
  have s6 := same_new (o := .tup [V.str w1.str, v1, v2]) ht
  refine q _ (.bin w1 p1 p2) _ (g5.trans (Gr.new g5.fl ht)) (.tup (.inl (.inl upd_same)) (.cons (.str _) (.cons ((a1.keep tp5).keep (Tp.same s6)) (.cons (a2.keep (Tp.same s6)) .nil)))) ⟨⟨wn1.1, wn2.1, by rw [ow1, b1], by rw [ow2, b1]⟩, wn1.2, wn2.2⟩ o1 ?_
  show ((psz p1 + psz p2 + 1 : Nat) : Int) ≤ room
  omega
theorem ok_l_plan (B : Bt mg) (C_l_draw : Cal P w K mg base 1 "_law_draw" ["_law_flow_here", "_law_wide"] (spDraw)) (C_l_little : Cal P w K mg base 2 "_law_little" ["_law_flow_here"] (spLittle)) (C_l_leaf : Cal P w K mg base 3 "_law_leaf" ["_law_flow_here", "_law_kinds_here", "_law_kind"] (spLeaf2 K)) (D : DefAt K mg "_law_plan" s_l_plan ["_law_flow_here", "_law_kinds_here", "_law_kind", "_law_room"]) : ∀ n : Nat, Cal P w K mg base (n + 3) "_law_plan" ["_law_flow_here", "_law_kinds_here", "_law_kind", "_law_room"] (spPlan K n)
  | 0 => cal_no D fun vs H Q E h => by
    obtain ⟨f, ka, ks, k, room, _, _, _, _, h1, h2, _⟩ := h
    omega
  | n + 1 => ok_l_plan1 B C_l_draw C_l_little C_l_leaf (ok_l_plan B C_l_draw C_l_little C_l_leaf D n) D
end
end Lm

set_option Elab.async false
set_option linter.all false
set_option maxRecDepth 100000
set_option maxHeartbeats 2000000
set_option pp.maxSteps 600
set_option pp.deepTerms.threshold 6
namespace Lm
open PySem PySem.Spec PyProof.Rows L2 LmR
def innD : List (Key × V) := [(Sum.inr "in", .int 0), (Sum.inr "num", .int 0), (Sum.inr "yes", .int 0), (Sum.inr "no", .int 0), (Sum.inr "plus", .int 1), (Sum.inr "not", .int 1), (Sum.inr "if", .int 3)]
theorem inn_size (p : Pg) : (valV innD (Sum.inr (word p))).getD (.int 2) = .int ((parts p).length : Nat) := by
  cases p with
  | inp k => rfl
  | num c => rfl
  | tr b => cases b <;> rfl
  | plus c a => rfl
  | bin w a b => cases w <;> rfl
  | neg a => rfl
  | ite p a b => rfl
section
variable {P : Program} {w : World} {K : PySem.W.Frag} {mg : Str → Option Value} {base : Heap}
abbrev s_l_inner : Stmt := topS 72
theorem sc_l_inner : FnScope ["_law_knot", "_law_size"] ["_law_knot"] (defScope s_l_inner) := ⟨rfl, rfl, rfl, by decide +kernel, rfl, by decide +kernel, by decide +kernel⟩
def spInner (K : PySem.W.Frag) : Sp := fun vs H Q _ => ∃ (v : V) (p : Pg), vs = [v] ∧ At K H v p ∧ ∀ (l : Addr) (us : List V) (H' : Hp), Same H H' → H l = none → H' l = some (.lst us) → Ats K H' us (parts p) → Q (.ref l) H'
theorem ok_l_inner (B : Bt mg) (D : DefAt K mg "_law_inner" s_l_inner ["_law_knot"]) : Cal P w K mg base 1 "_law_inner" ["_law_knot"] (spInner K) := by
  refine cal_of D sc_l_inner (fun vs H Q E h => ?_) (fun f cdv A outer s H vs Q E hr h => ?_)
  · obtain ⟨v, p, rfl, _⟩ := h
    rfl
  obtain ⟨v, p, rfl, hv, q⟩ := h
  refine ⟨_, (pss_cons (ps_set (i := 1) sc_l_inner.nd rfl (.inl rfl) (pe_dget2 (hu_of hr) (pe_disp (pps_cons pe_str pe_int (pps_cons pe_str pe_int (pps_cons pe_str pe_int (pps_cons pe_str pe_int (pps_cons pe_str pe_int (pps_cons pe_str pe_int (pps_cons pe_str pe_int pps_nil))))))) (by rfl) (by rfl) (fun z => by cases z) (by decide)) (pe_ix ix_tup (pv 0) pe_int (fun _ _ => rfl)) pe_int (by constructor <;> rfl)))
      (pss_one (ps_ret (pe_callTy call_list_of (by rfl) B.list PyProof.Rows.boot_list (pa_cons (pe_slice sl_tup (pv 0) (po_some (pe_op op_sub (pe_callB call_len_seq (by rfl) B.len PySem.boot_len (pa_cons (pv 0) pa_nil)) (pv 1))) po_none) pa_nil))))), ?_⟩
  obtain ⟨a, vs, rfl, ha, hvs⟩ := hv.open
  refine fun wd hwd => ⟨upd_same, innD, rfl, (by show 7 ≤ 15; decide), _, rfl, ?_⟩
  have s1 : Same H (upd (upd H wd (.dK [])) wd (.dK (mergeK [] innD))) := fun b o z => by
    rw [upd_ne (ne_of_none z hwd), upd_ne (ne_of_none z hwd)]
    exact z
  have e1 : (upd (upd H wd (.dK [])) wd (.dK (mergeK [] innD))) wd = some (.dK innD) := upd_same
  generalize upd (upd H wd (.dK [])) wd (.dK (mergeK [] innD)) = H1 at s1 e1
  have ha1 := Tp.same s1 _ _ ha
  refine ⟨.inl ⟨_, .inl e1⟩, _, rfl, a, _, 0, _, rfl, rfl, ha1, at_word p vs, _, DGet.k (k := Sum.inr (word p)) e1, ?_⟩
  rw [inn_size]
  have hl : (front p ++ vs).length = 1 + nn p + (parts p).length := by rw [List.length_append, front_len, hvs.len]
  have e2 : (((front p ++ vs).length : Nat) : Int) - ((parts p).length : Nat) = ((1 + nn p : Nat) : Int) := by rw [hl]; omega
  refine ⟨_, rfl, _, rfl, a, _, rfl, .inr ha1, _, rfl, _, _, rfl, rfl, _, rfl, a, _, rfl, ha1, ?_, fun t ht => ?_⟩
  · rintro ⟨z, _⟩
    rw [e2, show HT.sIx (front p ++ vs).length 0 (some ((1 + nn p : Nat) : Int)) = min (1 + nn p) (front p ++ vs).length from HT.sIx_nat _ 0 _, List.length_append, front_len] at z
    omega
  · rw [e2, cut_from _ _ _ (front_len p)]
    have s2 := same_new (o := .tup vs) ht
    have e3 : (upd H1 t (.tup vs)) t = some (.tup vs) := upd_same
    generalize upd H1 t (.tup vs) = H2 at s2 e3
    refine ⟨t, _, rfl, .inr (.inl (.inl e3)), fun l hl2 => ?_⟩
    have s3 := same_new (o := .lst vs) hl2
    have s03 := s1.trans (s2.trans s3)
    refine q l vs _ s03 ?_ upd_same (hvs.keep (Tp.same s03))
    exact (s1.trans s2).free hl2
end
theorem ite_t {c : Prop} [Decidable c] {a b : Prop} (h : c) (q : a) : if c then a else b := by rw [if_pos h]; exact q
theorem ite_f {c : Prop} [Decidable c] {a b : Prop} (h : ¬ c) (q : b) : if c then a else b := by rw [if_neg h]; exact q
theorem it_t {W T : Str} {a b : Prop} (h : decide (V.str W = V.str T) = true) (q : a) : if decide (V.str W = V.str T) = true then a else b := ite_t h q
theorem it_f {W T : Str} {a b : Prop} (h : decide (V.str W = V.str T) = false) (q : b) : if decide (V.str W = V.str T) = true then a else b := ite_f (by rw [h]; decide) q
section
variable {P : Program} {w : World} {K : PySem.W.Frag} {mg : Str → Option Value} {base : Heap}
abbrev s_l_worth : Stmt := topS 73
theorem sc_l_worth : FnScope ["_law_plan_here", "_law_inputs", "_law_word", "_law_some", "_law_one"] ["_law_plan_here", "_law_inputs"] (defScope s_l_worth) := ⟨rfl, rfl, rfl, by decide +kernel, rfl, by decide +kernel, by decide +kernel⟩
def spWorth (K : PySem.W.Frag) (n : Nat) : Sp := fun vs H Q _ => ∃ (v : V) (p : Pg) (ti : Addr) (us : List V) (ks : List Bool), vs = [v, .ref ti] ∧ At K H v p ∧ SqT K H ti us ∧ Kvs ks us ∧ Wk ks p ∧ dep p ≤ n ∧ ∀ (H' : Hp), Same H H' → Q (pval us p) H'
def wnS : List Str := ["in", "num", "yes", "no", "plus", "least", "most", "atmost", "not", "both", "either", "if"]
def wnm (i : Fin 12) : Str := wnS.getD i.1 ""
def wcd : Pg → Fin 12
  | .inp _ => 0
  | .num _ => 1
  | .tr b => if b then 2 else 3
  | .plus _ _ => 4
  | .bin .least _ _ => 5
  | .bin .most _ _ => 6
  | .bin .atmost _ _ => 7
  | .neg _ => 8
  | .bin .both _ _ => 9
  | .bin .either _ _ => 10
  | .ite _ _ _ => 11
theorem word_wnm (p : Pg) : word p = wnm (wcd p) := by
  cases p with
  | tr b => cases b <;> rfl
  | bin w a b => cases w <;> rfl
  | _ => rfl
theorem wnm_inj : ∀ i j : Fin 12, wnm i = wnm j → i = j := by decide +kernel
theorem word_wcd {p : Pg} (i : Fin 12) (h : V.str (word p) = V.str (wnm i)) : wcd p = i := wnm_inj _ _ ((word_wnm p).symm.trans (V.str.inj h))
theorem word_tr {p : Pg} {b : Bool} (h : V.str (word p) = V.str (trS b)) : p = .tr b := by
  have e : wcd p = (if b then 2 else 3) := by
    cases b
    · exact word_wcd 3 h
    · exact word_wcd 2 h
  cases p with
  | tr c => cases b <;> cases c <;> first | rfl | exact absurd e (by decide)
  | bin w _ _ => cases w <;> cases b <;> simp [wcd] at e
  | _ => cases b <;> simp [wcd] at e
def isBin : Pg → Bool
  | .plus _ _ => true
  | .bin _ _ _ => true
  | .neg _ => true
  | _ => false
theorem wk_part (ks : List Bool) (p q : Pg) (hw : Wk ks p) (h : q ∈ parts p) : Wk ks q := by
  cases p with
  | inp k => simp [parts] at h
  | num k => simp [parts] at h
  | tr k => simp [parts] at h
  | plus c a => simp only [parts, List.mem_singleton] at h; subst h; exact hw.1
  | bin w a b =>
    simp only [parts, List.mem_cons, List.not_mem_nil, or_false] at h
    rcases h with rfl | rfl
    · exact hw.1
    · exact hw.2.1
  | neg a => simp only [parts, List.mem_singleton] at h; subst h; exact hw.1
  | ite r a b =>
    simp only [parts, List.mem_cons, List.not_mem_nil, or_false] at h
    rcases h with rfl | rfl | rfl
    · exact hw.1
    · exact hw.2.1
    · exact hw.2.2.1
theorem sort_two {ns : List Int} {x y : Int} (h : ns.Perm [x, y]) (g : ns.Pairwise (· ≤ ·)) : ns = [if y < x then y else x, if y > x then y else x] := by
  have hl := h.length_eq
  match ns, hl with
  | [a, b], _ =>
    have l : a ≤ b := by simpa using g
    have mx : x = a ∨ x = b := by simpa using h.mem_iff.mpr (List.mem_cons_self ..)
    have xy : (a = x ∧ b = y) ∨ (a = y ∧ b = x) := by
      rcases mx with e | e
      · subst e
        exact .inl ⟨rfl, by simpa using (List.perm_cons x).mp h⟩
      · subst e
        exact .inr ⟨by simpa using (List.perm_cons x).mp ((List.Perm.swap a x []).trans h), rfl⟩
    have e1 : a = if y < x then y else x := by split <;> omega
    have e2 : b = if y > x then y else x := by split <;> omega
    rw [← e1, ← e2]
theorem ok_l_worth1 {n : Nat} (B : Bt mg) (C_l_inner : Cal P w K mg base 1 "_law_inner" ["_law_knot"] (spInner K)) (C_l_worth : Cal P w K mg base (n + 1) "_law_worth" ["_law_plan_here", "_law_inputs"] (spWorth K n)) (D : DefAt K mg "_law_worth" s_l_worth ["_law_plan_here", "_law_inputs"]) : Cal P w K mg base (n + 1 + 1) "_law_worth" ["_law_plan_here", "_law_inputs"] (spWorth K (n + 1)) := by
  refine cal_of D sc_l_worth (fun vs H Q E h => ?_) (fun f cdv A outer s H vs Q E hr h => ?_)
  · obtain ⟨v, p, ti, us, ks, rfl, _⟩ := h
    rfl
  obtain ⟨v, p, ti, us, ks, rfl, hv, hti, hkv, hw, hdep, q⟩ := h
  have C_l_inner := C_l_inner.mono (k := n + 1) (by omega)
  have hr' : Room (n + 1) _ := hr
  refine ⟨_, (pss_cons (ps_set (i := 2) sc_l_worth.nd rfl (.inl rfl) (pe_ix ix_tup (pv 0) pe_int (fun _ _ => rfl)))
      (pss_cons (ps_if (pt_cmpR op_eq (pv 2) pe_str (nomark _))
        (pss_one (ps_ret (pe_ix ix_tup (pv 1) (pe_ix ix_tup (pv 0) pe_int (fun _ _ => rfl)) (fun _ _ => rfl))))
        pss_nil)
      (pss_cons (ps_if (pt_cmpR op_eq (pv 2) pe_str (nomark _))
        (pss_one (ps_ret (pe_ix ix_tup (pv 0) pe_int (fun _ _ => rfl))))
        pss_nil)
      (pss_cons (ps_if (PW.pt (pw_or (pt_cmpR op_eq (pv 2) pe_str (nomark _)) (pw_or1 (pt_cmpR op_eq (pv 2) pe_str (nomark _)))))
        (pss_one (ps_ret (pe_cmpR op_eq (pv 2) pe_str (nomark _))))
        pss_nil)
      (C8.pss_cut (ps_if (pt_cmpR op_eq (pv 2) pe_str (nomark _))
        (pss_one (ps_ret (pe_cal C_l_worth hr' (by rfl) (pa_cons (pe_ix ix_tup (pv 0) (pe_op op_add pe_int (pe_callTy call_int1 (by rfl) B.int PyProof.Rows.boot_int (pa_cons (pe_not (pe_cal C_l_worth hr' (by rfl) (pa_cons (pe_ix ix_tup (pv 0) pe_int (fun _ _ => rfl)) (pa_cons (pv 1) pa_nil)))) pa_nil))) (fun _ _ => rfl)) (pa_cons (pv 1) pa_nil)))))
        pss_nil)
      (C8.pss_cut (ps_setLc (i := 3) (own := [("_law_one", 4)]) (g := gName 4) rfl sc_l_worth.nd rfl rfl (sw_true rfl rfl rfl (by decide +kernel)) (pi_list (pe_cal C_l_inner hr' (by rfl) (pa_cons (pv 0) pa_nil))) (blkOk_by (own := [("_law_one", 4)]) (N := ["_law_plan_here", "_law_inputs", "_law_word", "_law_some", "_law_one"]) (sc := defScope s_l_worth) (by decide +kernel)) (fun _ _ _ _ _ => (pg_name (i := 4) sc_l_worth.nd rfl (.inl rfl))) (fun _ _ _ _ _ => pts_nil) (fun _ _ _ _ _ => (pe_cal C_l_worth hr' (by rfl) (pa_cons (pv 4) (pa_cons (pv 1) pa_nil)))))
      (pss_cons (ps_if (pt_cmpR op_eq (pv 2) pe_str (nomark _))
        (pss_one (ps_ret (pe_op op_add (pe_ix ix_tup (pv 0) pe_int (fun _ _ => rfl)) (pe_ix ix_list (pv 3) pe_int (fun _ _ => rfl)))))
        pss_nil)
      (pss_cons (ps_if (PW.pt (pw_or (pt_cmpR op_eq (pv 2) pe_str (nomark _)) (pw_or1 (pt_cmpR op_eq (pv 2) pe_str (nomark _)))))
        (pss_one (ps_ret (pe_ix ix_list (pe_callB cr_sorted (by rfl) B.sorted (by decide +kernel) (pa_cons (pv 3) pa_nil)) (pe_callTy call_int1 (by rfl) B.int PyProof.Rows.boot_int (pa_cons (pe_cmpR op_eq (pv 2) pe_str (nomark _)) pa_nil)) (fun _ _ => rfl))))
        pss_nil)
      (pss_cons (ps_if (pt_cmpR op_eq (pv 2) pe_str (nomark _))
        (pss_one (ps_ret (pe_cmpR op_le (pe_ix ix_list (pv 3) pe_int (fun _ _ => rfl)) (pe_ix ix_list (pv 3) pe_int (fun _ _ => rfl)) (nomark _))))
        pss_nil)
      (pss_cons (ps_if (pt_cmpR op_eq (pv 2) pe_str (nomark _))
        (pss_one (ps_ret (pe_not (pe_ix ix_list (pv 3) pe_int (fun _ _ => rfl)))))
        pss_nil)
      (pss_one (ps_ret (pe_ifExp (pt_cmpR op_eq (pv 2) pe_str (nomark _)) (pe_and (pe_ix ix_list (pv 3) pe_int (fun _ _ => rfl)) (pe_one (pe_ix ix_list (pv 3) pe_int (fun _ _ => rfl)))) (pe_or (pe_ix ix_list (pv 3) pe_int (fun _ _ => rfl)) (pe_one (pe_ix ix_list (pv 3) pe_int (fun _ _ => rfl))))))))))))))))), ?_⟩
  obtain ⟨a, vs, rfl, ha, hvs⟩ := hv.open
  refine ⟨_, rfl, a, _, 0, _, rfl, rfl, ha, at_word p vs, ?_⟩
  refine ⟨_, rfl, rfl, _, rfl, ite2 (fun z => ?_) (fun z => ?_)⟩
  · have z' : V.str (word p) = V.str "in" := of_decide_eq_true z
    obtain ⟨k, rfl⟩ := word_in z'
    exact ⟨_, rfl, _, rfl, a, _, 1, .int k, rfl, rfl, ha, at_of (j := 1) rfl rfl, ti, us, _, _, rfl, rfl, hti, at_of (j := k) rfl (pval_at hkv hw), q _ (Same.refl _)⟩
  have n1 : ∀ k, p ≠ .inp k := fun k e => z (decide_eq_true (by rw [e]; rfl))
  refine ⟨_, rfl, rfl, _, rfl, ite2 (fun z => ?_) (fun z => ?_)⟩
  · have z' : V.str (word p) = V.str "num" := of_decide_eq_true z
    obtain ⟨c, rfl⟩ := word_num z'
    exact ⟨_, rfl, a, _, 1, .int c, rfl, rfl, ha, at_of (j := 1) rfl rfl, q _ (Same.refl _)⟩
  have n2 : ∀ k, p ≠ .num k := fun k e => z (decide_eq_true (by rw [e]; rfl))
  clear z
  have q0 := q _ (Same.refl _)
  -- yes, no
  refine ⟨_, rfl, rfl, _, rfl, ite2 (fun z => iteT ?_) (fun z => ⟨_, rfl, rfl, _, rfl, ite2 (fun z2 => ?_) (fun z2 => ?_)⟩)⟩
  · have z' : V.str (word p) = V.str "yes" := of_decide_eq_true z
    obtain rfl : p = .tr true := word_tr z'
    exact ⟨_, rfl, rfl, q0⟩
  · have z' : V.str (word p) = V.str "no" := of_decide_eq_true z2
    obtain rfl : p = .tr false := word_tr z'
    exact ⟨_, rfl, rfl, q0⟩
  have n3 : ∀ b, p ≠ .tr b := fun b e => by
    subst e
    cases b
    · exact z2 (decide_eq_true rfl)
    · exact z (decide_eq_true rfl)
  clear z z2 q0
  refine ⟨fun σ' H' => σ' = [some (.ref a), some (.ref ti), some (.str (word p)), none, none] ∧ H = H' ∧ isBin p = true, ?_, ?_⟩
  · refine ⟨_, rfl, rfl, _, rfl, ite2 (fun z => ?_) (fun z => ⟨rfl, rfl, ?_⟩)⟩
    · have z' : V.str (word p) = V.str "if" := of_decide_eq_true z
      obtain ⟨r, b, c, rfl⟩ := word_if z'
      obtain ⟨v1, v2, v3, rfl, a1, a2, a3⟩ := hvs.three
      have e1 := pval_bl hkv hw.1 hw.2.2.2.1
      have d1 := dep_part (.ite r b c) r (by simp [parts])
      have d2 := dep_part (.ite r b c) b (by simp [parts])
      have d3 := dep_part (.ite r b c) c (by simp [parts])
      refine ⟨_, rfl, _, rfl, a, _, 1, v1, rfl, rfl, ha, at_of (j := 1) rfl rfl, _, rfl, v1, r, ti, us, ks, rfl, a1, hti, hkv, hw.1, by omega, fun H1 s1 => ?_⟩
      have q1 : ∀ H', Same H H' → Q (if bv (pval us r) = true then pval us b else pval us c) H' := q
      have ha1 := Tp.same (K := K) s1 _ _ ha
      rw [e1]
      refine ⟨_, rfl, .inr ⟨_, rfl, _, _, rfl, rfl, ?_⟩⟩
      cases eb : bv (pval us r) with
      | true =>
        rw [eb] at q1
        exact ⟨a, _, 2, v2, rfl, rfl, ha1, at_of (j := 2) rfl rfl, _, rfl, v2, b, ti, us, ks, rfl, a2.keep (Tp.same s1), Tp.same s1 _ _ hti, hkv, hw.2.1, by omega, fun H2 s2 => q1 H2 (s1.trans s2)⟩
      | false =>
        rw [eb] at q1
        exact ⟨a, _, 3, v3, rfl, rfl, ha1, at_of (j := 3) rfl rfl, _, rfl, v3, c, ti, us, ks, rfl, a3.keep (Tp.same s1), Tp.same s1 _ _ hti, hkv, hw.2.2.1, by omega, fun H2 s2 => q1 H2 (s1.trans s2)⟩
    · cases p with
      | tr b => exact absurd rfl (n3 _)
      | inp _ => exact absurd rfl (n1 _)
      | num _ => exact absurd rfl (n2 _)
      | ite r b c => exact absurd (decide_eq_true rfl) z
      | _ => rfl
  rintro _ _ ⟨rfl, rfl, hp⟩
  refine ⟨fun σ' H' => ∃ (L : Addr) (y : Option V), σ' = [some (.ref a), some (.ref ti), some (.str (word p)), some (.ref L), y] ∧ Same H H' ∧ SqL K H' L ((parts p).map (pval us)), ?_, ?_⟩
  · refine ⟨_, rfl, .ref a, p, rfl, hv, fun t ps H2 s2 t0 ht hps => ?_⟩
    refine ⟨t, rfl, ⟨_, SqL.of ht⟩, fun D hD => lc_list (K := K) (a := t) (xs := ps) (fun i H' => Same H2 H' ∧ H' D = some (.lst (((parts p).take i).map (pval us)))) ?_ ?_ ?_ ?_⟩
    · exact ⟨same_new hD, upd_same⟩
    · rintro i H' _ ⟨sm, _⟩
      exact SqL.of (sm _ _ ht)
    · rintro i x H' hx ⟨sm, hD'⟩
      have s0 := s2.trans sm
      obtain ⟨r, hr1, har⟩ := (hps.keep (Tp.same sm)).get i x hx
      have hmem := List.mem_of_getElem? hr1
      have d1 := dep_part p r hmem
      refine ⟨rfl, _, rfl, _, rfl, x, r, ti, us, ks, rfl, har, Tp.same s0 _ _ hti, hkv, wk_part ks p r hw hmem, by omega, fun H4 s4 => ?_⟩
      have hD4 := s4 _ _ hD'
      refine ⟨_, hD4, ?_, fun b o z => ?_, ?_⟩
      · rw [List.length_map, List.length_take]
        have : (parts p).length ≤ 3 := by cases p <;> simp [parts]
        exact smallL (by omega)
      · rw [upd_ne (ne_of_none z hD)]
        exact s4 _ _ (sm b o z)
      · rw [upd_same, List.take_add_one, hr1, List.map_append]
        rfl
    · rintro H' ⟨sm, hD'⟩
      rw [hps.len, List.take_length] at hD'
      exact ⟨D, _, rfl, s2.trans sm, SqL.of hD'⟩
  rintro _ H2 ⟨L, y, rfl, s2, hL⟩
  have ha2 := Tp.same (K := K) s2 _ _ ha
  have q2 := q _ s2
  cases p with
  | inp k => cases hp
  | num k => cases hp
  | tr b => cases hp
  | ite r b c => cases hp
  | plus c b =>
    have e1 := pval_int hkv hw.1 hw.2
    refine ⟨_, rfl, rfl, _, rfl, it_t (W := "plus") (by decide +kernel) ?_⟩
    refine ⟨_, rfl, a, _, 1, .int c, rfl, rfl, ha2, at_of (j := 1) rfl rfl, _, rfl, L, _, 0, _, rfl, rfl, hL, rfl, _, _, rfl, e1, ?_⟩
    show Q (.int (c + iv (pval us b))) H2
    rw [Int.add_comm]
    exact q2
  | neg b =>
    have e1 := pval_bl hkv hw.1 hw.2
    refine ⟨_, rfl, rfl, _, rfl, it_f (W := "not") (by decide +kernel) ?_⟩
    refine ⟨_, rfl, rfl, _, rfl, it_f (W := "not") (by decide +kernel) ⟨_, rfl, rfl, _, rfl, it_f (W := "not") (by decide +kernel) ?_⟩⟩
    refine ⟨_, rfl, rfl, _, rfl, it_f (W := "not") (by decide +kernel) ?_⟩
    refine ⟨_, rfl, rfl, _, rfl, it_t (W := "not") (by decide +kernel) ?_⟩
    exact ⟨_, rfl, L, _, 0, _, rfl, rfl, hL, rfl, _, e1, q2⟩
  | bin bw b c =>
    refine ⟨_, rfl, rfl, _, rfl, it_f (W := bw.str) (by cases bw <;> decide +kernel) ?_⟩
    cases bw with
    | least =>
      have e1 := pval_int hkv hw.1 hw.2.2.1
      have e2 := pval_int hkv hw.2.1 hw.2.2.2
      refine ⟨_, rfl, rfl, _, rfl, it_t (W := "least") (by decide +kernel) (iteT ?_)⟩
      have hL' : SqL K H2 L ([iv (pval us b), iv (pval us c)].map V.int) := by
        have z : (parts (.bin .least b c)).map (pval us) = [iv (pval us b), iv (pval us c)].map V.int := by
          show [pval us b, pval us c] = [V.int (iv (pval us b)), V.int (iv (pval us c))]
          rw [← e1, ← e2]
        rw [← z]; exact hL
      refine ⟨_, rfl, L, _, rfl, hL', by show 2 < 64; decide, fun ns' pp hp1 hp2 hpn => ?_⟩
      rw [sort_two hp1 hp2]
      refine ⟨_, rfl, rfl, .inr ⟨_, rfl, pp, _, 0, _, rfl, rfl, SqL.of upd_same, rfl, ?_⟩⟩
      exact q _ (s2.trans (same_new hpn))
    | most =>
      have e1 := pval_int hkv hw.1 hw.2.2.1
      have e2 := pval_int hkv hw.2.1 hw.2.2.2
      refine ⟨_, rfl, rfl, _, rfl, it_f (W := "most") (by decide +kernel) ⟨_, rfl, rfl, _, rfl, it_t (W := "most") (by decide +kernel) ?_⟩⟩
      have hL' : SqL K H2 L ([iv (pval us b), iv (pval us c)].map V.int) := by
        have z : (parts (.bin .most b c)).map (pval us) = [iv (pval us b), iv (pval us c)].map V.int := by
          show [pval us b, pval us c] = [V.int (iv (pval us b)), V.int (iv (pval us c))]
          rw [← e1, ← e2]
        rw [← z]; exact hL
      refine ⟨_, rfl, L, _, rfl, hL', by show 2 < 64; decide, fun ns' pp hp1 hp2 hpn => ?_⟩
      rw [sort_two hp1 hp2]
      refine ⟨_, rfl, rfl, .inr ⟨_, rfl, pp, _, 1, _, rfl, rfl, SqL.of upd_same, rfl, ?_⟩⟩
      exact q _ (s2.trans (same_new hpn))
    | atmost =>
      have e1 := pval_int hkv hw.1 hw.2.2.1
      have e2 := pval_int hkv hw.2.1 hw.2.2.2
      refine ⟨_, rfl, rfl, _, rfl, it_f (W := "atmost") (by decide +kernel) ⟨_, rfl, rfl, _, rfl, it_f (W := "atmost") (by decide +kernel) ?_⟩⟩
      refine ⟨_, rfl, rfl, _, rfl, it_t (W := "atmost") (by decide +kernel) ?_⟩
      exact ⟨_, rfl, L, _, 0, _, rfl, rfl, hL, rfl, _, rfl, L, _, 1, _, rfl, rfl, hL, rfl, _, _, e1, e2, q2⟩
    | both =>
      have e1 := pval_bl hkv hw.1 hw.2.2.1
      have e2 := pval_bl hkv hw.2.1 hw.2.2.2
      refine ⟨_, rfl, rfl, _, rfl, it_f (W := "both") (by decide +kernel) ⟨_, rfl, rfl, _, rfl, it_f (W := "both") (by decide +kernel) ?_⟩⟩
      refine ⟨_, rfl, rfl, _, rfl, it_f (W := "both") (by decide +kernel) ?_⟩
      refine ⟨_, rfl, rfl, _, rfl, it_f (W := "both") (by decide +kernel) ?_⟩
      have q3 : Q (.bl (bv (pval us b) && bv (pval us c))) H2 := q2
      refine ⟨_, rfl, rfl, _, rfl, it_t (W := "both") (by decide +kernel) ?_⟩
      refine ⟨_, rfl, L, _, 0, _, rfl, rfl, hL, rfl, _, e1, ite2 (fun z => ?_) (fun z => ?_)⟩
      · rw [z, Bool.true_and, ← e2] at q3
        exact ⟨_, rfl, L, _, 1, _, rfl, rfl, hL, rfl, q3⟩
      · rw [Bool.eq_false_iff.mpr z] at q3
        exact q3
    | either =>
      have e1 := pval_bl hkv hw.1 hw.2.2.1
      have e2 := pval_bl hkv hw.2.1 hw.2.2.2
      refine ⟨_, rfl, rfl, _, rfl, it_f (W := "either") (by decide +kernel) ⟨_, rfl, rfl, _, rfl, it_f (W := "either") (by decide +kernel) ?_⟩⟩
      refine ⟨_, rfl, rfl, _, rfl, it_f (W := "either") (by decide +kernel) ?_⟩
      refine ⟨_, rfl, rfl, _, rfl, it_f (W := "either") (by decide +kernel) ?_⟩
      have q3 : Q (.bl (bv (pval us b) || bv (pval us c))) H2 := q2
      refine ⟨_, rfl, rfl, _, rfl, it_f (W := "either") (by decide +kernel) ?_⟩
      refine ⟨_, rfl, L, _, 0, _, rfl, rfl, hL, rfl, _, e1, ite2 (fun z => ?_) (fun z => ?_)⟩
      · rw [z] at q3
        exact q3
      · rw [Bool.eq_false_iff.mpr z, Bool.false_or, ← e2] at q3
        exact ⟨_, rfl, L, _, 1, _, rfl, rfl, hL, rfl, q3⟩
theorem ok_l_worth (B : Bt mg) (C_l_inner : Cal P w K mg base 1 "_law_inner" ["_law_knot"] (spInner K)) (D : DefAt K mg "_law_worth" s_l_worth ["_law_plan_here", "_law_inputs"]) : ∀ n : Nat, Cal P w K mg base (n + 1) "_law_worth" ["_law_plan_here", "_law_inputs"] (spWorth K n)
  | 0 => cal_no D fun vs H Q E h => by
    obtain ⟨v, p, _, _, _, _, _, _, _, _, h1, _⟩ := h
    have := dep_pos p
    omega
  | n + 1 => ok_l_worth1 B C_l_inner (ok_l_worth B C_l_inner D n) D
end
end Lm

set_option Elab.async false
set_option linter.all false
set_option maxRecDepth 100000
set_option maxHeartbeats 2000000
namespace Lm
open PySem PySem.Spec PyProof.Rows L2 LmR
/-! ### defs with a parameter that is written by its name, or left out -/
def DefKw (K : PySem.W.Frag) (mg : Str → Option Value) (x : Str) (st : Stmt) (ps : List Str) (n : Nat) (ks : List Str) (dvs : List V) : Prop :=
  ∃ f fd, Fun K x x st f fd ∧ mg x = some (.ref f) ∧ KBn K fd ps n ks (fun us ws => us ++ ws) (fun us ws => us ++ ws) ∧ ∃ ds, Vals dvs ds ∧ Binds K fd ps ds
def CalKw (P : Program) (w : World) (K : PySem.W.Frag) (mg : Str → Option Value) (base : Heap) (k : Nat) (x : Str) (ps : List Str) (n : Nat) (ks : List Str) (dvs : List V) (sp : Sp) : Prop :=
  ∃ f fd, FnOk P w K mg base CX0 k f fd ps sp ∧ mg x = some (.ref f) ∧ PySem.W.keepIn K (.ref f) = true ∧ KBn K fd ps n ks (fun us ws => us ++ ws) (fun us ws => us ++ ws) ∧ (∃ ds, Vals dvs ds ∧ Binds K fd ps ds) ∧ ∃ st, Fun K x x st f fd
section
variable {P : Program} {w : World} {K : PySem.W.Frag} {mg : Str → Option Value} {base : Heap}
theorem CalKw.mono {j k : Nat} {x : Str} {ps : List Str} {n : Nat} {ks : List Str} {dvs : List V} {sp : Sp} (c : CalKw P w K mg base j x ps n ks dvs sp) (h : j ≤ k) : CalKw P w K mg base k x ps n ks dvs sp := by
  obtain ⟨f, fd, F, g⟩ := c
  exact ⟨f, fd, F.mono h, g⟩
theorem calkw_of {x : Str} {st : Stmt} {N ps : List Str} {k n : Nat} {ks : List Str} {dvs : List V} {sp : Sp} (D : DefKw K mg x st ps n ks dvs) (S : FnScope N ps (defScope st)) (len : ∀ vs H Q E, sp vs H Q E → vs.length = ps.length)
    (hbody : ∀ (f : Addr) (cdv : Value) (A : Around) (outer : List Env) (s : Shared) (H : Hp) (vs : List V) (Q : VK) (E : XK), Room k (A.deeper (envOfC x (defScope st) s.heap.objs.size f cdv)) → sp vs H Q E →
      ∃ t, PSs (cxOf CX0 P w K mg base N x (defScope st) f cdv A outer s H E).nox (defBody st) t ∧ t { nx := fun _ H' => Q .non H', rt := Q } (start N vs) H) : CalKw P w K mg base (k + 1) x ps n ks dvs sp := by
  obtain ⟨f, fd, F, g, b⟩ := D
  exact ⟨f, fd, F.ok S len (hbody f), g, F.kp, b.1, b.2, _, F⟩
end
/-- f(e, .., k = v) -/
theorem pe_calK {X : Cx} {k n : Nat} {x : Str} {ps ks : List Str} {dvs : List V} {sp : Sp} {e : Expr} {es : List Expr} {kws : List Keyword} {t tk : TA} {p pos : Pos} (C : CalKw X.prog X.w X.K X.mg X.base k x ps n ks dvs sp) (hr : Room k X.A) (hg : Gl X x) (ha : PA X (e :: es) t) (hkw : PK X kws tk)
    (hall : (backToKw pos (keywordEach kws X.env)).all (·.1.isSome) = true := by rfl) (hks : (backToKw pos (keywordEach kws X.env)).filterMap (·.1) = ks := by rfl) (hdb : (x == ("__debug__" : Str)) = false := by decide) (he : starEach (e :: es) X.env = (false, eval e X.env) :: starEach es X.env := by rfl)
    (hpl : ((backTo pos (starEach (e :: es) X.env)).any (·.1) || (backToKw pos (keywordEach kws X.env)).any (·.1.isNone)) = false := by rfl) :
    PE X (.Call (.Name x p) (e :: es) kws pos) (tCallN n ks.length sp (fun us ws => us ++ ws) (fun _ _ _ => False) t tk) := by
  obtain ⟨f, fd, F, g, kp, b, _⟩ := C
  exact pe_callN F hr hg g kp b pass0 ha hkw hall hks hdb he hpl
/-- f(e, ..), what is written by its name left out -/
theorem pe_calD {X : Cx} {k n : Nat} {x : Str} {ps ks : List Str} {dvs : List V} {sp : Sp} {e : Expr} {es : List Expr} {t : TA} {p pos : Pos} (C : CalKw X.prog X.w X.K X.mg X.base k x ps n ks dvs sp) (hr : Room k X.A) (hg : Gl X x) (ha : PA X (e :: es) t)
    (hdb : (x == ("__debug__" : Str)) = false := by decide) (he : starEach (e :: es) X.env = (false, eval e X.env) :: starEach es X.env := by rfl) (hpl : (backTo pos (starEach es X.env)).any (·.1) = false := by rfl) :
    PE X (.Call (.Name x p) (e :: es) [] pos) (tCall sp dvs (fun _ _ _ => False) t) := by
  obtain ⟨f, fd, F, g, kp, _, ⟨ds, hd, b⟩, _⟩ := C
  exact pe_call F hr hg g kp b hd pass0 ha hdb he hpl
/-- how a def of one parameter and one that may be left out binds -/
theorem defkw_mk {K : PySem.W.Frag} {h : Heap} {mg : Str → Option Value} {x y z : Str} {st : Stmt} {f D : Addr} {oc : Value} {od an : Option Addr} {osl : Array (Option Value)} {doc pm cdv ct u : Value} {v : V} (X : K.In h) (G : h.Ns mainGlobals mg)
    (a : PySem.W.nsIn K mainGlobals x = some (some (.ref f))) (l : K.lookup f = some ⟨oc, od, .func (PySem.W.fnOf x x (defArgs st) (defBody st) (defScope st) .none (.ref D) doc pm an cdv ct), osl⟩) (c : PySem.W.codeIn K cdv x = true) (k : PySem.W.keepIn K (.ref f) = true)
    (d : PySem.W.nsIn K D z = some (some u)) (r : RelV v u)
    (hb : ∀ (doc pm : Value) (an : Option Addr) (cdv ct u w : Value), bindArgs (PySem.W.fnOf x x (defArgs st) (defBody st) (defScope st) .none (.ref D) doc pm an cdv ct) ⟨[u], [(z, w)]⟩ = pure [(y, u), (z, w)])
    (hd : ∀ (doc pm : Value) (an : Option Addr) (cdv ct u w : Value), KwChain D [(z, w)] (bindArgs (PySem.W.fnOf x x (defArgs st) (defBody st) (defScope st) .none (.ref D) doc pm an cdv ct) ⟨[u], []⟩) [(y, u), (z, w)]) : DefKw K mg x st [y, z] 1 [z] [v] := by
  refine ⟨f, _, fun_mk l c k, PySem.W.mg_of X G a, ⟨fun s us ws _ l1 l2 => ?_, fun r1 r2 => r1.append r2⟩, [u], .cons r .nil, fun s us X' hl => ?_⟩
  · match us, ws, l1, l2 with
    | [u'], [w'], _, _ => exact .of_eq (hb _ _ _ _ _ u' w')
  · have l1 : us.length = 1 := by simpa using hl
    match us, l1 with
    | [u'], _ => exact BindsTo.of_looks fun M => KwChain.looks X' (fun q hq => by rw [List.mem_singleton.mp hq]; exact d) (hd _ _ _ _ _ u' u)
end Lm

set_option Elab.async false
set_option linter.all false
set_option maxRecDepth 100000
set_option maxHeartbeats 2000000
namespace Lm
open PySem PySem.Spec PyProof.Rows L2 LmR
/-! ### defs with a parameter that is always written by its name -/
def DefK0 (K : PySem.W.Frag) (mg : Str → Option Value) (x : Str) (st : Stmt) (ps : List Str) (n : Nat) (ks : List Str) : Prop :=
  ∃ f fd, Fun K x x st f fd ∧ mg x = some (.ref f) ∧ KBn K fd ps n ks (fun us ws => us ++ ws) (fun us ws => us ++ ws)
def CalK0 (P : Program) (w : World) (K : PySem.W.Frag) (mg : Str → Option Value) (base : Heap) (k : Nat) (x : Str) (ps : List Str) (n : Nat) (ks : List Str) (sp : Sp) : Prop :=
  ∃ f fd, FnOk P w K mg base CX0 k f fd ps sp ∧ mg x = some (.ref f) ∧ PySem.W.keepIn K (.ref f) = true ∧ KBn K fd ps n ks (fun us ws => us ++ ws) (fun us ws => us ++ ws) ∧ ∃ st, Fun K x x st f fd
section
variable {P : Program} {w : World} {K : PySem.W.Frag} {mg : Str → Option Value} {base : Heap}
theorem CalK0.mono {j k : Nat} {x : Str} {ps : List Str} {n : Nat} {ks : List Str} {sp : Sp} (c : CalK0 P w K mg base j x ps n ks sp) (h : j ≤ k) : CalK0 P w K mg base k x ps n ks sp := by
  obtain ⟨f, fd, F, g⟩ := c
  exact ⟨f, fd, F.mono h, g⟩
theorem calk0_of {x : Str} {st : Stmt} {N ps : List Str} {k n : Nat} {ks : List Str} {sp : Sp} (D : DefK0 K mg x st ps n ks) (S : FnScope N ps (defScope st)) (len : ∀ vs H Q E, sp vs H Q E → vs.length = ps.length)
    (hbody : ∀ (f : Addr) (cdv : Value) (A : Around) (outer : List Env) (s : Shared) (H : Hp) (vs : List V) (Q : VK) (E : XK), Room k (A.deeper (envOfC x (defScope st) s.heap.objs.size f cdv)) → sp vs H Q E →
      ∃ t, PSs (cxOf CX0 P w K mg base N x (defScope st) f cdv A outer s H E).nox (defBody st) t ∧ t { nx := fun _ H' => Q .non H', rt := Q } (start N vs) H) : CalK0 P w K mg base (k + 1) x ps n ks sp := by
  obtain ⟨f, fd, F, g, b⟩ := D
  exact ⟨f, fd, F.ok S len (hbody f), g, F.kp, b, _, F⟩
end
/-- f(e, .., k = v) -/
theorem pe_calK0 {X : Cx} {k n : Nat} {x : Str} {ps ks : List Str} {sp : Sp} {e : Expr} {es : List Expr} {kws : List Keyword} {t tk : TA} {p pos : Pos} (C : CalK0 X.prog X.w X.K X.mg X.base k x ps n ks sp) (hr : Room k X.A) (hg : Gl X x) (ha : PA X (e :: es) t) (hkw : PK X kws tk)
    (hall : (backToKw pos (keywordEach kws X.env)).all (·.1.isSome) = true := by rfl) (hks : (backToKw pos (keywordEach kws X.env)).filterMap (·.1) = ks := by rfl) (hdb : (x == ("__debug__" : Str)) = false := by decide) (he : starEach (e :: es) X.env = (false, eval e X.env) :: starEach es X.env := by rfl)
    (hpl : ((backTo pos (starEach (e :: es) X.env)).any (·.1) || (backToKw pos (keywordEach kws X.env)).any (·.1.isNone)) = false := by rfl) :
    PE X (.Call (.Name x p) (e :: es) kws pos) (tCallN n ks.length sp (fun us ws => us ++ ws) (fun _ _ _ => False) t tk) := by
  obtain ⟨f, fd, F, g, kp, b, _⟩ := C
  exact pe_callN F hr hg g kp b pass0 ha hkw hall hks hdb he hpl
/-- how a def of two parameters and one by its name binds -/
theorem defk0_mk3 {K : PySem.W.Frag} {h : Heap} {mg : Str → Option Value} {x y y' z : Str} {st : Stmt} {f : Addr} {oc kV : Value} {od an : Option Addr} {osl : Array (Option Value)} {doc pm cdv ct : Value} (X : K.In h) (G : h.Ns mainGlobals mg)
    (a : PySem.W.nsIn K mainGlobals x = some (some (.ref f))) (l : K.lookup f = some ⟨oc, od, .func (PySem.W.fnOf x x (defArgs st) (defBody st) (defScope st) .none kV doc pm an cdv ct), osl⟩) (c : PySem.W.codeIn K cdv x = true) (k : PySem.W.keepIn K (.ref f) = true)
    (hb : ∀ (doc pm : Value) (an : Option Addr) (cdv ct u u' w : Value), bindArgs (PySem.W.fnOf x x (defArgs st) (defBody st) (defScope st) .none kV doc pm an cdv ct) ⟨[u, u'], [(z, w)]⟩ = pure [(y, u), (y', u'), (z, w)]) : DefK0 K mg x st [y, y', z] 2 [z] := by
  refine ⟨f, _, fun_mk l c k, PySem.W.mg_of X G a, ⟨fun s us ws _ l1 l2 => ?_, fun r1 r2 => r1.append r2⟩⟩
  match us, ws, l1, l2 with
  | [u, u'], [w'], _, _ => exact .of_eq (hb _ _ _ _ _ u u' w')
end Lm

set_option Elab.async false
set_option linter.all false
set_option maxRecDepth 100000
set_option maxHeartbeats 2000000
set_option pp.maxSteps 600
set_option pp.deepTerms.threshold 6
namespace Lm
open PySem PySem.Spec PyProof.Rows L2 LmR
theorem cutV_allW {xs : List V} {lo hi : Option Int} (h : HT.sIx xs.length 0 lo = 0 ∧ HT.sIx xs.length xs.length hi = xs.length) : cutV xs lo hi = xs := by
  unfold cutV
  rw [h.1, h.2, List.drop_zero, Nat.sub_zero, List.take_length]
theorem slA_anyW {K : PySem.W.Frag} {a : Addr} {xs : List V} {lo hi : Option Int} {H : Hp} {Q : VK} (ha : SqT K H a xs) (q : ∀ p H', Same H H' → SqT K H' p (cutV xs lo hi) → Q (.ref p) H') : rSlA K (.ref a) lo hi H Q :=
  ⟨a, xs, rfl, ha, fun h => q a H (Same.refl _) (by rw [cutV_allW h]; exact ha), fun _ p hp => q p _ (same_new hp) (.inl (.inl upd_same))⟩
theorem catA_anyW {K : PySem.W.Frag} {a b : Addr} {xs ys : List V} {H : Hp} {Q : VK} (ha : SqT K H a xs) (hb : SqT K H b ys) (hz : xs.length + ys.length ≤ sizeLine) (q : ∀ p H', Same H H' → SqT K H' p (xs ++ ys) → Q (.ref p) H') : rCatA K (.ref a) (.ref b) H Q :=
  ⟨a, b, xs, ys, rfl, rfl, ha, hb, hz, fun e => q b H (fun _ _ z => z) (by rw [e]; exact hb), fun _ e => q a H (fun _ _ z => z) (by rw [e, List.append_nil]; exact ha), fun _ _ p hp => q p _ (same_new hp) (.inl (.inl upd_same))⟩
section
variable {P : Program} {w : World} {K : PySem.W.Frag} {mg : Str → Option Value} {base : Heap}
abbrev s_plain_inputs : Stmt := topS 60
theorem sc_plain_inputs : FnScope ["many", "k"] ["many"] (defScope s_plain_inputs) := ⟨rfl, rfl, rfl, by decide +kernel, rfl, by decide +kernel, by decide +kernel⟩
def inps (m : Nat) : List Pg := (List.range m).map Pg.inp
def spPlain (K : PySem.W.Frag) : Sp := fun vs H Q _ => ∃ m : Nat, vs = [.int m] ∧ m ≤ 100 ∧ ∀ (t : Addr) (us : List V) (H' : Hp), Same H H' → H' t = some (.tup us) → Ats K H' us (inps m) → Q (.ref t) H'
theorem ok_plain_inputs (B : Bt mg) (D : DefAt K mg "plain_inputs" s_plain_inputs ["many"]) : Cal P w K mg base 1 "plain_inputs" ["many"] (spPlain K) := by
  refine cal_of D sc_plain_inputs (fun vs H Q E h => ?_) (fun f' cdv A outer s H vs Q E hr h => ?_)
  · obtain ⟨m, rfl, _⟩ := h
    rfl
  obtain ⟨m, rfl, hm, q⟩ := h
  refine ⟨_, (pss_one (ps_ret (pe_callTy call_tuple_of (by rfl) B.tuple PyProof.Rows.boot_tuple (pa_cons (pe_lc (own := [("k", 1)]) (g := gName 1) rfl sc_plain_inputs.nd (pi_range1 (by rfl) B.range (pa_cons (pv 0) pa_nil)) (blkOk_by (own := [("k", 1)]) (N := ["many", "k"]) (sc := defScope s_plain_inputs) (by decide +kernel)) (fun _ _ _ _ _ => (pg_name (i := 1) sc_plain_inputs.nd rfl (.inl rfl))) (fun _ _ _ _ _ => pts_nil) (fun _ _ _ _ _ => (pe_tup (pa_cons pe_str (pa_cons (pv 1) pa_nil))))) pa_nil)))), ?_⟩
  refine ⟨_, rfl, (m : Int), rfl, by omega, by omega, fun D hD => lc_range (lo := 0) (n := (m : Int).toNat) (fun j H' => Same H H' ∧ ∃ ws, H' D = some (.lst ws) ∧ Ats K H' ws (inps j)) ?_ ?_ ?_⟩
  · exact ⟨same_new hD, [], upd_same, .nil⟩
  · rintro j H' hj ⟨sm, ws, eD, hws⟩
    have wl : ws.length = j := by rw [hws.len]; unfold inps; rw [List.length_map, List.length_range]
    refine ⟨rfl, _, rfl, (by show 2 ≤ sizeLine; decide), fun p hp => ⟨ws, ?_, smallL (by omega), ?_⟩⟩
    · rw [upd_ne (ne_of_none eD hp)]; exact eD
    · have sp := same_new (o := .tup [V.str "in", V.int (0 + (j : Int))]) hp
      have eD' := sp _ _ eD
      have ep : (upd H' p (.tup [V.str "in", V.int (0 + (j : Int))])) p = some (.tup [V.str "in", V.int (j : Int)]) := by rw [upd_same, Int.zero_add]
      generalize upd H' p (.tup [V.str "in", V.int (0 + (j : Int))]) = H3 at sp eD' ep
      have tl : Tp K H3 (upd H3 D (.lst (ws ++ [V.ref p]))) := Tp.lst eD'
      refine ⟨fun b o z => ?_, ws ++ [.ref p], upd_same, ?_⟩
      · rw [upd_ne (ne_of_none z hD)]
        exact sp _ _ (sm _ _ z)
      · unfold inps
        rw [List.range_succ, List.map_append]
        exact ((hws.keep (Tp.same sp)).keep tl).app (Ats.cons (p := .inp j) (.tup (tl _ _ (.inl (.inl ep))) (.cons (.str _) (.cons (.int _) .nil))) Ats.nil)
  · rintro H1 ⟨s1, ws, eD, hws⟩
    have em : (m : Int).toNat = m := by omega
    rw [em] at hws
    exact ⟨D, _, rfl, .inl ⟨SqL.of eD, fun t ht => q t ws _ (s1.trans (same_new ht)) upd_same (hws.keep (Tp.new ht))⟩⟩
abbrev s_met_by : Stmt := topS 57
theorem sc_met_by : FnScope ["wish", "program", "many"] ["wish", "program", "many"] (defScope s_met_by) := ⟨rfl, rfl, rfl, by decide +kernel, rfl, by decide +kernel, by decide +kernel⟩
def spMet (K : PySem.W.Frag) : Sp := fun vs H Q _ => ∃ (v v2 : V) (p p2 : Pg) (m : Nat), vs = [v, v2, .int m] ∧ At K H v p ∧ At K H v2 p2 ∧ Low (m + 1) p ∧ psz p ≤ 10000 ∧ m ≤ 100 ∧ ∀ (u : V) (H' : Hp), Same H H' → At K H' u (psub (inps m ++ [p2]) p) → Q u H'
theorem ok_met_by (B : Bt mg) (C_put : Cal P w K mg base 4 "put" ["program", "some"] (spPut K)) (C_plain_inputs : Cal P w K mg base 1 "plain_inputs" ["many"] (spPlain K)) (D : DefK0 K mg "met_by" s_met_by ["wish", "program", "many"] 2 ["many"]) : CalK0 P w K mg base 5 "met_by" ["wish", "program", "many"] 2 ["many"] (spMet K) := by
  refine calk0_of D sc_met_by (fun vs H Q E h => ?_) (fun f' cdv A outer s H vs Q E hr h => ?_)
  · obtain ⟨v, v2, p, p2, m, rfl, _⟩ := h
    rfl
  obtain ⟨v, v2, p, p2, m, rfl, hv, hv2, hlow, hz, hm, q⟩ := h
  have C_plain_inputs := C_plain_inputs.mono (k := 4) (by decide)
  have hr' : Room 4 _ := hr
  refine ⟨_, (pss_one (ps_ret (pe_cal C_put hr' (by rfl) (pa_cons (pv 0) (pa_cons (pe_tup (StX.pa_star (pe_cal C_plain_inputs hr' (by rfl) (pa_cons (pv 2) pa_nil)) (pa_cons (pv 1) pa_nil))) pa_nil))))), ?_⟩
  refine ⟨_, rfl, _, rfl, m, rfl, hm, fun t us H1 s1 ht hus => ?_⟩
  have ul : us.length = m := by rw [hus.len]; unfold inps; rw [List.length_map, List.length_range]
  have il : (inps m).length = m := by unfold inps; rw [List.length_map, List.length_range]
  refine ⟨t, us, rfl, .inl (.inl (.inl ht)), _, rfl, by rw [List.length_append, ul]; exact small (by show m + 1 ≤ _; omega), fun pp hpp => ?_⟩
  have s2 := same_new (o := .tup (us ++ [v2])) hpp
  have e2 : (upd H1 pp (.tup (us ++ [v2]))) pp = some (.tup (us ++ [v2])) := upd_same
  generalize upd H1 pp (.tup (us ++ [v2])) = H2 at s2 e2
  have s02 := s1.trans s2
  exact ⟨v, p, pp, us ++ [v2], inps m ++ [p2], rfl, hv.keep (Tp.same s02), .inl (.inl e2), (hus.keep (Tp.same s2)).app (Ats.cons (hv2.keep (Tp.same s02)) Ats.nil), by rw [List.length_append, il]; exact hlow, hz, fun u H' s' hu => q u H' (s02.trans s') hu⟩
end
end Lm

set_option Elab.async false
set_option linter.all false
set_option maxRecDepth 100000
set_option maxHeartbeats 2000000
/-! slices and sums of tuples -/
namespace Lm
open PySem PySem.Spec PyProof.Rows L2 LmR
theorem cutS_all {xs : List V} {lo hi : Option Int} (h : HT.sIx xs.length 0 lo = 0 ∧ HT.sIx xs.length xs.length hi = xs.length) : cutV xs lo hi = xs := by
  unfold cutV
  rw [h.1, h.2, List.drop_zero, Nat.sub_zero, List.take_length]
theorem slS {K : PySem.W.Frag} {a : Addr} {xs : List V} {lo hi : Option Int} {H : Hp} {Q : VK} (ha : SqT K H a xs) (q : ∀ p H', Same H H' → SqT K H' p (cutV xs lo hi) → Q (.ref p) H') : rSlA K (.ref a) lo hi H Q :=
  ⟨a, xs, rfl, ha, fun h => q a H (Same.refl _) (by rw [cutS_all h]; exact ha), fun _ p hp => q p _ (same_new hp) (.inl (.inl upd_same))⟩
theorem catS {K : PySem.W.Frag} {a b : Addr} {xs ys : List V} {H : Hp} {Q : VK} (ha : SqT K H a xs) (hb : SqT K H b ys) (hz : xs.length + ys.length ≤ sizeLine) (q : ∀ p H', Same H H' → SqT K H' p (xs ++ ys) → Q (.ref p) H') : rCatA K (.ref a) (.ref b) H Q :=
  ⟨a, b, xs, ys, rfl, rfl, ha, hb, hz, fun e => q b H (fun _ _ z => z) (by rw [e]; exact hb), fun _ e => q a H (fun _ _ z => z) (by rw [e, List.append_nil]; exact ha), fun _ _ p hp => q p _ (same_new hp) (.inl (.inl upd_same))⟩
theorem cutS_take {xs : List V} {j : Nat} (h : j ≤ xs.length) : cutV xs none (some (j : Int)) = xs.take j := by
  unfold cutV
  rw [HT.sIx_none, show HT.sIx xs.length xs.length (some (j : Int)) = min j xs.length from HT.sIx_nat _ _ j, List.drop_zero, Nat.sub_zero, Nat.min_eq_left h]
theorem cutS_drop {xs : List V} {j : Nat} (h : j ≤ xs.length) : cutV xs (some (j : Int)) none = xs.drop j := by
  unfold cutV
  rw [HT.sIx_none, show HT.sIx xs.length 0 (some (j : Int)) = min j xs.length from HT.sIx_nat _ _ j, Nat.min_eq_left h]
  exact List.take_of_length_le (by rw [List.length_drop]; exact Nat.le_refl _)
theorem dpS_len {K : PySem.W.Frag} {H : Hp} : ∀ {vs : List V} {ds : List PyData}, DpAll K H vs ds → vs.length = ds.length
  | [], [], _ => rfl
  | _ :: _, _ :: _, .cons _ t => by rw [List.length_cons, List.length_cons, dpS_len t]
theorem dpS_app {K : PySem.W.Frag} {H : Hp} : ∀ {xs ys : List V} {ds es : List PyData}, DpAll K H xs ds → DpAll K H ys es → DpAll K H (xs ++ ys) (ds ++ es)
  | [], _, _, _, .nil, b => b
  | _ :: _, _, _, _, .cons a r, b => .cons a (dpS_app r b)
theorem dpS_take {K : PySem.W.Frag} {H : Hp} : ∀ {xs : List V} {ds : List PyData} (k : Nat), DpAll K H xs ds → DpAll K H (xs.take k) (ds.take k)
  | _, _, 0, _ => .nil
  | [], _, _ + 1, .nil => .nil
  | _ :: _, _, k + 1, .cons a r => .cons a (dpS_take k r)
theorem dpS_drop {K : PySem.W.Frag} {H : Hp} : ∀ {xs : List V} {ds : List PyData} (k : Nat), DpAll K H xs ds → DpAll K H (xs.drop k) (ds.drop k)
  | _, _, 0, h => h
  | [], _, _ + 1, .nil => .nil
  | _ :: _, _, k + 1, .cons _ r => dpS_drop k r
end Lm

set_option Elab.async false
set_option linter.all false
set_option maxRecDepth 100000
set_option maxHeartbeats 4000000
namespace LmR
open PySem PySem.Spec PyProof.Rows L2 RZ
theorem sep_of {z TI TO i1 i2 a b : Addr} (D : ZipApart z TI TO i1 i2 a b) : ZipSep2 z TI TO i1 i2 [i1, a] [i2, b] := by
  refine ⟨D.TIz, D.TOz, D.TITO, D.TIi1, by simp, ?_, ?_, D.TIi2, by simp, ?_, ?_, ?_, ?_⟩
  · simp only [List.mem_cons, List.not_mem_nil, or_false, not_or]
    exact ⟨D.i1z.symm, D.l1z.symm⟩
  · simp only [List.mem_cons, List.not_mem_nil, or_false, not_or]
    exact ⟨D.TOi1, D.l1TO.symm⟩
  · simp only [List.mem_cons, List.not_mem_nil, or_false, not_or]
    exact ⟨D.i2z.symm, D.l2z.symm⟩
  · simp only [List.mem_cons, List.not_mem_nil, or_false, not_or]
    exact ⟨D.TOi2, D.l2TO.symm⟩
  · simp only [List.mem_cons, List.not_mem_nil, or_false, not_or]
    exact ⟨D.i12, D.l2i1.symm⟩
  · simp only [List.mem_cons, List.not_mem_nil, or_false, not_or]
    exact ⟨D.i12.symm, D.l1i2.symm⟩
/-- the list at a and the tuple at b, of one length, as they stand at each turn -/
def ItzM (K : PySem.W.Frag) (a b : Addr) : It :=
  ⟨fun i H => ∃ (xs ys : List V) (x y : V), (SqL K H a xs ∧ SqT K H b ys) ∧ xs[i]? = some x ∧ ys[i]? = some y,
    fun i H v H' => ∃ T x y, v = .ref T ∧ H T = none ∧ (H' = upd H T (.tup [x, y]) ∧ (∀ xs, SqL K H a xs → xs[i]? = some x)) ∧ ∀ ys, SqT K H b ys → ys[i]? = some y,
    fun i H => ∃ xs ys : List V, (SqL K H a xs ∧ SqT K H b ys) ∧ xs.length = i ∧ ys.length = i⟩
/-- how a zip of a list and a tuple stands ahead of a turn -/
def StM (a b z TI TO i1 i2 : Addr) (i : Nat) (h : Heap) : Prop := (IsZip h z TI TO .none ∧ IsPair h TI (.ref i1) (.ref i2)) ∧ (∃ x y, IsPair h TO x y) ∧ h.IsListIter i1 a i ∧ h.IsTupleIter i2 b i
theorem turn_zipM {P : Program} {w : World} {K : PySem.W.Frag} {elts : List Expr} {kk : Nat} {tpos : Pos} {a b z TI TO i1 i2 : Addr} (D : ZipApart z TI TO i1 i2 a b) :
    Turn P w K (.Tuple elts kk tpos) (ItzM K a b) [z, TI, TO, i1, i2] z (StM a b z TI TO i1 i2) where
  mem := List.mem_cons_self ..
  obj := fun i h st c hm => by
    obtain ⟨⟨hz, hTI⟩, ⟨x, y, hTO⟩, ⟨o1, e1, _, d1⟩, ⟨o2, e2, _, d2⟩⟩ := st
    have five : c = z ∨ c = TI ∨ c = TO ∨ c = i1 ∨ c = i2 := by simpa using hm
    rcases five with rfl | rfl | rfl | rfl | rfl
    · exact ⟨_, hz, fun _ q => nomatch q⟩
    · exact ⟨_, hTI, fun _ q => nomatch q⟩
    · exact ⟨_, hTO, fun _ q => nomatch q⟩
    · exact ⟨o1, e1, fun _ q => by rw [d1] at q; cases q⟩
    · exact ⟨o2, e2, fun _ q => by rw [d2] at q; cases q⟩
  keep := fun i h h' st k => by
    obtain ⟨⟨hz, hTI⟩, ⟨x, y, hTO⟩, h1, h2⟩ := st
    exact ⟨⟨k z (by simp) _ hz, k TI (by simp) _ hTI⟩, ⟨x, y, k TO (by simp) _ hTO⟩, h1.at fun o q => k i1 (by simp) o q, h2.at fun o q => k i2 (by simp) o q⟩
  item := by
    intro X hP hw hK hc i pins s σ H E I hf st hg
    subst hP hw hK
    obtain ⟨⟨hz, hTI⟩, ⟨x0, y0, hTO⟩, h1, h2⟩ := st
    obtain ⟨xs, ys, x, y, ⟨hqx, hqy⟩, hx, hy⟩ := hg
    obtain ⟨its, rv, p, _⟩ := I.list hqx
    obtain ⟨its2, rv2, p2, _⟩ := I.tuple hqy
    obtain ⟨u, hu, ru⟩ := rv.get hx
    obtain ⟨u2, hu2, ru2⟩ := rv2.get hy
    have zlt : z < s.heap.objs.size := Heap.lt_size hz
    have hh : X.A.in1.handled = none := I.ok.hd hc
    have si : i < its.toArray.size := by
      have e : its[i]? = some u := hu
      have := (List.getElem?_eq_some_iff.mp e).1
      simpa using this
    have si2 : i < its2.toArray.size := by
      have e : its2[i]? = some u2 := hu2
      have := (List.getElem?_eq_some_iff.mp e).1
      simpa using this
    refine wpAny_pyNext_zipD2_item (sep_of D) (Draws.list hh i1 a D.l1i1 its.toArray) (Draws.tuple hh i2 b D.l2i2 its2.toArray) hz hTI hTO ⟨h1, p.isList⟩ ⟨h2, p2⟩ si si2 fun v1 v2 h' tk y1 y2 z' TO' t1 t2 hT hsz hk => ?_
    have w1 : v1 = u := by
      have e : its[i]? = some u := hu
      have e2 : its[i]? = some v1 := by simpa using y1
      rw [e] at e2
      injection e2 with e2
      exact e2.symm
    have w2 : v2 = u2 := by
      have e : its2[i]? = some u2 := hu2
      have e2 : its2[i]? = some v2 := by simpa using y2
      rw [e] at e2
      injection e2 with e2
      exact e2.symm
    subst w1 w2
    refine ⟨_, rfl, wpAny_letOwnedTupleGo_zip (s := { s with heap := h', toks := tk }) z' fun h'' z'' sb => ?_⟩
    have hT2 : h''.get? s.heap.objs.size = some { cls := .type "tuple", data := .seq #[v1, v2] } := (sb.2 _ (Nat.ne_of_gt zlt)).trans hT
    have new : ObjOk X.prog X.w (upd H s.heap.objs.size (.tup [x, y])) h'' s.heap.objs.size (.tup [x, y]) :=
      ⟨(by show 2 ≤ sizeLine; decide), [v1, v2], .cons ru (.cons ru2 .nil), ⟨_, hT2, rfl, _, rfl⟩⟩
    have cells : ∀ {c : Addr} {o : Obj}, c ∉ [z, TI, TO, i1, i2] → s.heap.get? c = some o → h''.get? c = some o := fun {c o} hb q =>
      (sb.2 c (fun q' => hb (by simp [q']))).trans (hk c o (fun q' => hb (by simp [q'])) (fun q' => hb (by simp [q'])) (fun q' => hb (by simp [q'])) (fun q' => hb (by simp [q'])) q)
    have I1 : Inv X pins σ (upd H s.heap.objs.size (.tup [x, y])) { s with heap := h'', toks := tk } :=
      I.turnedNew (t' := tk) (ch := [z, TI, TO, i1, i2]) (fun c o hb q => cells hb q) hf (Nat.le_refl _) new
    refine ⟨.ref s.heap.objs.size, _, I1, rfl, ⟨_, x, y, rfl, I.hok.fresh (Nat.le_refl _), ⟨rfl, fun l hl => ?_⟩, fun l hl => ?_⟩, ⟨⟨z'', ?_⟩, ⟨v1, v2, ?_⟩, ?_, ?_⟩, fun c hcm => ?_⟩
    · rw [I.list_inj hl hqx]
      exact hx
    · rw [I.tuple_inj hl hqy]
      exact hy
    · exact (sb.2 _ D.TIz).trans (hk _ _ D.TIz D.TITO D.TIi1 D.TIi2 hTI)
    · exact (sb.2 _ D.TOz).trans TO'
    · exact t1.1.at fun o q => (sb.2 _ D.i1z).trans q
    · exact t2.1.at fun o q => (sb.2 _ D.i2z).trans q
    · have clt : c < s.heap.objs.size := by
        have five : c = z ∨ c = TI ∨ c = TO ∨ c = i1 ∨ c = i2 := by simpa using hcm
        rcases five with q | q | q | q | q <;> rw [q]
        · exact zlt
        · exact Heap.lt_size hTI
        · exact Heap.lt_size hTO
        · obtain ⟨_, e1, _⟩ := h1
          exact Heap.lt_size e1
        · obtain ⟨_, e2, _⟩ := h2
          exact Heap.lt_size e2
      rw [upd_ne (Nat.ne_of_lt clt)]
      exact (hf c hcm).1
  done := by
    intro X hP hw hK hc i pins s σ H E I hf st hg
    subst hP hw hK
    obtain ⟨⟨hz, hTI⟩, ⟨x0, y0, hTO⟩, h1, h2⟩ := st
    obtain ⟨xs, ys, ⟨hqx, hqy⟩, el, el2⟩ := hg
    obtain ⟨its, rv, p, _⟩ := I.list hqx
    obtain ⟨its2, rv2, p2, _⟩ := I.tuple hqy
    have l1 := rv.length
    have l2 := rv2.length
    have hh : X.A.in1.handled = none := I.ok.hd hc
    refine wpAny_pyNext_zipD2_end (sep_of D) (Draws.list hh i1 a D.l1i1 its.toArray) (Draws.tuple hh i2 b D.l2i2 its2.toArray) hz hTI hTO ⟨h1, p.isList⟩ ⟨h2, p2⟩ (by simp; omega) (by simp; omega) (.inl (by simp; omega)) fun h' tk hk => ?_
    exact ⟨rfl, I.turnedL (t' := tk) (ch := [z, TI, TO, i1, i2]) (fun c o hb q =>
      hk c o (fun q' => hb (by simp [q'])) (fun q' => hb (by simp [q'])) (fun q' => hb (by simp [q'])) (fun q' => hb (by simp [q'])) q) hf⟩
  self := fun A i s Q E st h => wpAny_pyIter_zip st.1.1 h
def iZipM (K : PySem.W.Frag) (ta : TA) : TI := fun σ H R => ta σ H fun vs H1 => ∃ a b xs ys, vs = [.ref a, .ref b] ∧ (SqL K H1 a xs ∧ SqT K H1 b ys) ∧ R (ItzM K a b) H1
theorem pi_zipM {X : Cx} {e e2 : Expr} {ta : TA} {p pos tpos : Pos} {elts : List Expr} {kk : Nat} (hg : Gl X "zip") (hm : X.mg "zip" = none) (ha : PA X [e, e2] ta)
    (hst : starEach [e, e2] X.env = (false, eval e X.env) :: starEach [e2] X.env := by rfl) (hno : (backTo pos (starEach [e2] X.env)).any (·.1) = false := by rfl) :
    PI X (.Tuple elts kk tpos) (.Call (.Name "zip" p) [e, e2] [] pos) (iZipM X.K ta) := by
  refine ⟨fun pins s σ H R I h => ?_⟩
  refine Call_ (ld_blt I hg hm PyProof.Rows.boot_zip ?_)
  refine PyProof.Rows.callWith_type1 ?_ hst hno
  refine thn (ha.run pos pins s σ H _ I h) fun us s1 ⟨vs, H1, I1, r1, q1⟩ => ?_
  obtain ⟨a, b, xs, ys, rfl, ⟨hqx, hqy⟩, q⟩ := q1
  cases r1 with
  | cons r rr =>
    cases rr with
    | cons r' rr =>
      cases rr
      cases r
      cases r'
      have fresh5 : ∀ c, c ∈ [s1.heap.objs.size + 4, s1.heap.objs.size + 2, s1.heap.objs.size + 3, s1.heap.objs.size, s1.heap.objs.size + 1] → FpOk X pins H1 c := fun c hcm => by
        have five : c = s1.heap.objs.size + 4 ∨ c = s1.heap.objs.size + 2 ∨ c = s1.heap.objs.size + 3 ∨ c = s1.heap.objs.size ∨ c = s1.heap.objs.size + 1 := by simpa using hcm
        have hle : s1.heap.objs.size ≤ c := by
          rcases five with e | e | e | e | e <;> rw [e]
          · exact Nat.le_add_right _ _
          · exact Nat.le_add_right _ _
          · exact Nat.le_add_right _ _
          · exact Nat.le_refl _
          · exact Nat.le_add_right _ _
        exact I1.fpOk hle (I1.hok.fresh hle)
      obtain ⟨its, rv, p1, _⟩ := I1.list hqx
      obtain ⟨its2, rv2, p2, _⟩ := I1.tuple hqy
      obtain ⟨o2, ho2, _⟩ := id p2
      refine zip_begins2 (begins_list a its.toArray) (begins_tuple b its2.toArray) p1.isList p2 fun h' hz hTI hTO h1 h2 hsz hk => wpAny_pyIter_zip hz ?_
      have I2 : Inv X pins σ H1 { s1 with heap := h' } := I1.kept (t' := s1.toks) hk
      exact ⟨s1.heap.objs.size + 4, [s1.heap.objs.size + 4, s1.heap.objs.size + 2, s1.heap.objs.size + 3, s1.heap.objs.size, s1.heap.objs.size + 1], _, _, H1, rfl, I2,
        turn_zipM (PySem.W.ktu_apart s1.heap.objs.size a b p1.lt (Heap.lt_size ho2)), ⟨⟨hz, hTI⟩, ⟨_, _, hTO⟩, ⟨_, h1, rfl, rfl⟩, ⟨_, h2, rfl, rfl⟩⟩, fresh5, q⟩
theorem strs_of : ∀ {ns : List Str} {us : List Value}, Vals (ns.map V.str) us → PyProof.Rows.StrsAre us ns
  | [], _, .nil => .nil
  | n :: ns, _, .cons r t => by
    obtain ⟨k, rfl⟩ := r
    exact .cons n k (strs_of t)
def rCntS (K : PySem.W.Frag) : V → List V → Hp → VK → Prop := fun x xs H Q => ∃ (p : Addr) (ns : List Str) (k : Str), x = .ref p ∧ xs = [.str k] ∧ SqL K H p (ns.map V.str) ∧ Q (.int (PySem.Spec.countIn (.str k) (ns.map PyData.str))) H
theorem mt_countS {X : Cx} : MtR X "list.count" (rCntS X.K) := by
  intro pins s σ H x xs v us Q I rx rxs h
  obtain ⟨p, ns, k, rfl, rfl, hs, q⟩ := h
  cases rx
  obtain ⟨u, rfl, ru⟩ := rxs.one
  obtain ⟨t, rfl⟩ := ru
  obtain ⟨its, rv, pl, _⟩ := I.list hs
  exact PyProof.Rows.count_list_strs pl.isList (strs_of rv) ⟨.int (PySem.Spec.countIn (.str k) (ns.map PyData.str)), H, I.tok _, ⟨s.toks, rfl⟩, q⟩
theorem op_notIn_seqK {X : Cx} {K : PySem.W.Frag} (h : X.K = K) : OpR X (compareOp .NotIn) (rIn K true) := h ▸ op_notIn_seq
theorem op_in_seqK {X : Cx} {K : PySem.W.Frag} (h : X.K = K) : OpR X (compareOp .In) (rIn K false) := h ▸ op_in_seq
/-- a loop over zip of a list and a tuple of one length -/
theorem for_zipM {K : PySem.W.Frag} {a b : Addr} {xs ys : List V} {g : TG} {tb : TS} {D : Ends} {σ : L2.St} {H : Hp} (hl : xs.length = ys.length) (Pv : Nat → L2.St → Hp → Prop) (h0 : Pv 0 σ H) (hq : ∀ i σ H, Pv i σ H → SqL K H a xs ∧ SqT K H b ys)
    (hs : ∀ (i : Nat) (x y : V) (T : Addr) (σ : L2.St) (H : Hp), xs[i]? = some x → ys[i]? = some y → Pv i σ H → H T = none → g (.ref T) σ (upd H T (.tup [x, y])) fun σ2 H2 => tb { D with nx := Pv (i + 1), ct := Pv (i + 1), bk := D.nx } σ2 H2) (hd : ∀ σ H, Pv xs.length σ H → D.nx σ H) :
    ∃ W : Nat → Nat → L2.St → Hp → Prop, (∃ m, W 0 m σ H) ∧ ∀ i m σ H, W i m σ H →
      ((ItzM K a b).stop i H ∧ D.nx σ H) ∨ ((ItzM K a b).go i H ∧ ∃ N : L2.St → Hp → Prop, (∀ σ' H', N σ' H' → ∃ m', m' < m ∧ W (i + 1) m' σ' H') ∧ ∀ v H', (ItzM K a b).yld i H v H' → g v σ H' fun σ2 H2 => tb { D with nx := N, ct := N, bk := D.nx } σ2 H2) := by
  refine ⟨fun i m σ H => (m = xs.length - i ∧ i ≤ xs.length) ∧ Pv i σ H, ⟨xs.length, ⟨rfl, Nat.zero_le _⟩, h0⟩, ?_⟩
  rintro i m σ H ⟨⟨rfl, hi⟩, p⟩
  obtain ⟨qx, qy⟩ := hq i σ H p
  rcases Nat.lt_or_eq_of_le hi with hlt | e
  · have hlt2 : i < ys.length := by omega
    refine .inr ⟨⟨xs, ys, _, _, ⟨qx, qy⟩, List.getElem?_eq_getElem hlt, List.getElem?_eq_getElem hlt2⟩, Pv (i + 1), fun σ' H' p' => ⟨xs.length - (i + 1), by omega, ⟨rfl, hlt⟩, p'⟩, fun v H' y => ?_⟩
    obtain ⟨T, x', y', rfl, hT, ⟨rfl, f1⟩, f2⟩ := y
    exact hs i x' y' T σ H (f1 xs qx) (f2 ys qy) p hT
  · subst e
    exact .inl ⟨⟨xs, ys, ⟨qx, qy⟩, rfl, hl.symm⟩, hd σ H p⟩
end LmR

set_option Elab.async false
set_option linter.all false
set_option maxRecDepth 100000
set_option maxHeartbeats 2000000
/-! a call of a local that holds a def: the promise goes with what it holds -/
namespace Lm
open PySem PySem.Spec PyProof.Rows L2 LmR
def tCallH (P : Program) (w : World) (K : PySem.W.Frag) (mg : Str → Option Value) (base : Heap) (k i : Nat) (t : TA) : TE := fun σ H Q => ∃ f sp, σ[i]? = some (some (.ref f)) ∧ Held P w K mg base k f sp ∧ t σ H fun vs H1 => sp vs H1 Q (fun _ _ _ => False)
theorem pe_callH {X : Cx} {k i : Nat} {x : Str} {p pos : Pos} {e : Expr} {es : List Expr} {t : TA} (hr : Room k X.A) (hN : X.N[i]? = some x) (hv : Vis X.env.scope x) (ha : PA X (e :: es) t)
    (hdb : (x == ("__debug__" : Str)) = false := by decide) (hcd : (x == ("__classdict__" : Str)) = false := by decide)
    (he : starEach (e :: es) X.env = (false, eval e X.env) :: starEach es X.env := by rfl) (hpl : (backTo pos (starEach es X.env)).any (·.1) = false := by rfl) : PE X (.Call (.Name x p) (e :: es) [] pos) (tCallH X.prog X.w X.K X.mg X.base k i t) := by
  refine ⟨fun pins s σ H Q I h => ?_⟩
  obtain ⟨f, sp, hs, hH, ht⟩ := h
  obtain ⟨fd, ps, F, hk, hb⟩ := hH.ex
  refine (pe_callL (i := i) (f := f) (sp := sp) (dvs := []) (E := fun _ _ _ => False) F hr hN hv hk hb .nil (fun _ _ _ _ _ _ _ z => z.elim) ha hdb hcd he hpl).run pins s σ H Q I ⟨hs, ?_⟩
  have e0 : (fun (vs : List V) (H1 : Hp) => sp (vs ++ []) H1 Q (fun _ _ _ => False)) = fun vs H1 => sp vs H1 Q (fun _ _ _ => False) := by
    funext vs H1
    rw [List.append_nil]
  show t σ H (fun vs H1 => sp (vs ++ []) H1 Q (fun _ _ _ => False))
  rw [e0]
  exact ht
theorem held_of {P : Program} {w : World} {K : PySem.W.Frag} {mg : Str → Option Value} {base : Heap} {k : Nat} {x : Str} {ps : List Str} {sp : Sp} {f : Addr} (C : Cal P w K mg base k x ps sp) (h : mg x = some (.ref f)) : Held P w K mg base k f sp := by
  obtain ⟨f', fd, F, g, kp, b, _⟩ := C
  rw [h] at g
  cases g
  exact ⟨fd, ps, F, kp, b⟩
/-! ### tuples laid, as data -/
section
variable {K : PySem.W.Frag} {H : Hp} {Q : VK}
theorem fd_tup {H : Hp} {p : Addr} {vs : List V} {ds : List PyData} (f : flat.flats ds = true) (h : DpAll K H vs ds) (hp : H p = none) : Fd K (upd H p (.tup vs)) (.ref p) (.tuple ds) := ⟨f, .tup (.inl (.inl upd_same)) (dps_keep (Tp.new hp) _ _ f h)⟩
/-- the heap behind a tuple laid -/
@[elab_as_elim] theorem al1 {motive : Hp → Prop} {x : V} {d : PyData} {p : Addr} (hx : Fd K H x d) (hp : H p = none) (q : ∀ H', Same H H' → Fd K H' (.ref p) (.tuple [d]) → motive H') : motive (upd H p (.tup [x])) := q _ (same_new hp) (fd_tup (by simp [flat.flats, hx.1]) (.cons hx.2 .nil) hp)
@[elab_as_elim] theorem al2 {motive : Hp → Prop} {x y : V} {d e : PyData} {p : Addr} (hx : Fd K H x d) (hy : Fd K H y e) (hp : H p = none) (q : ∀ H', Same H H' → Fd K H' (.ref p) (.tuple [d, e]) → motive H') : motive (upd H p (.tup [x, y])) := q _ (same_new hp) (fd_tup (by simp [flat.flats, hx.1, hy.1]) (.cons hx.2 (.cons hy.2 .nil)) hp)
@[elab_as_elim] theorem al3 {motive : Hp → Prop} {x y z : V} {d e f : PyData} {p : Addr} (hx : Fd K H x d) (hy : Fd K H y e) (hz : Fd K H z f) (hp : H p = none) (q : ∀ H', Same H H' → Fd K H' (.ref p) (.tuple [d, e, f]) → motive H') : motive (upd H p (.tup [x, y, z])) := q _ (same_new hp) (fd_tup (by simp [flat.flats, hx.1, hy.1, hz.1]) (.cons hx.2 (.cons hy.2 (.cons hz.2 .nil))) hp)
@[elab_as_elim] theorem al4 {motive : Hp → Prop} {x y z u : V} {d e f g : PyData} {p : Addr} (hx : Fd K H x d) (hy : Fd K H y e) (hz : Fd K H z f) (hu : Fd K H u g) (hp : H p = none) (q : ∀ H', Same H H' → Fd K H' (.ref p) (.tuple [d, e, f, g]) → motive H') : motive (upd H p (.tup [x, y, z, u])) := q _ (same_new hp) (fd_tup (by simp [flat.flats, hx.1, hy.1, hz.1, hu.1]) (.cons hx.2 (.cons hy.2 (.cons hz.2 (.cons hu.2 .nil)))) hp)
@[elab_as_elim] theorem alT {motive : Hp → Prop} {vs : List V} {p : Addr} (hp : H p = none) (q : ∀ H', Same H H' → SqT K H' p vs → motive H') : motive (upd H p (.tup vs)) := q _ (same_new hp) (.inl (.inl upd_same))
theorem len1 {x : V} : [x].length ≤ sizeLine := by show 1 ≤ sizeLine; decide
theorem len2 {x y : V} : [x, y].length ≤ sizeLine := by show 2 ≤ sizeLine; decide
theorem len3 {x y z : V} : [x, y, z].length ≤ sizeLine := by show 3 ≤ sizeLine; decide
theorem len4 {x y z u : V} : [x, y, z, u].length ≤ sizeLine := by show 4 ≤ sizeLine; decide
theorem fd_str (x : Str) : Fd K H (.str x) (.str x) := ⟨rfl, .str x⟩
theorem fd_i (x : Int) : Fd K H (.int x) (.int x) := ⟨rfl, .int x⟩
theorem fd_b (x : Bool) : Fd K H (.bl x) (.bool x) := ⟨rfl, .bl x⟩
theorem fd_non' : Fd K H .non .none := ⟨rfl, .non⟩
theorem Fd.same {H' : Hp} {v : V} {d : PyData} (h : Fd K H v d) (s : Same H H') : Fd K H' v d := h.keep (Tp.same s)
/-- a tuple of two, opened -/
theorem fd_two {v : V} {d e : PyData} (h : Fd K H v (.tuple [d, e])) : ∃ a x y, v = .ref a ∧ SqT K H a [x, y] ∧ Fd K H x d ∧ Fd K H y e := by
  obtain ⟨f, h⟩ := h
  have f' : (flat d && (flat e && true)) = true := f
  rw [Bool.and_eq_true, Bool.and_eq_true] at f'
  cases h with
  | tup q r =>
    cases r with
    | cons a r => cases r with
      | cons b r => cases r; exact ⟨_, _, _, rfl, q, ⟨f'.1, a⟩, ⟨f'.2.1, b⟩⟩
theorem fd_three {v : V} {d e g : PyData} (h : Fd K H v (.tuple [d, e, g])) : ∃ a x y z, v = .ref a ∧ SqT K H a [x, y, z] ∧ Fd K H x d ∧ Fd K H y e ∧ Fd K H z g := by
  obtain ⟨f, h⟩ := h
  have f' : (flat d && (flat e && (flat g && true))) = true := f
  rw [Bool.and_eq_true, Bool.and_eq_true, Bool.and_eq_true] at f'
  cases h with
  | tup q r =>
    cases r with
    | cons a r => cases r with
      | cons b r => cases r with
        | cons c r => cases r; exact ⟨_, _, _, _, rfl, q, ⟨f'.1, a⟩, ⟨f'.2.1, b⟩, ⟨f'.2.2.1, c⟩⟩
theorem fd_int_of {v : V} {i : Int} (h : Fd K H v (.int i)) : v = .int i := by obtain ⟨_, h⟩ := h; cases h; rfl
theorem fd_str_of {v : V} {i : Str} (h : Fd K H v (.str i)) : v = .str i := by obtain ⟨_, h⟩ := h; cases h; rfl
theorem fd_bl_of {v : V} {i : Bool} (h : Fd K H v (.bool i)) : v = .bl i := by obtain ⟨_, h⟩ := h; cases h; rfl
theorem fd_non_of {v : V} (h : Fd K H v .none) : v = .non := by obtain ⟨_, h⟩ := h; cases h; rfl
end
end Lm

set_option Elab.async false
set_option linter.all false
set_option maxRecDepth 100000
set_option maxHeartbeats 4000000
set_option pp.maxSteps 2000
set_option pp.deepTerms.threshold 12
namespace Lm
open PySem PySem.Spec PyProof.Rows L2 LmR RZ
theorem kvs_snocF {ks : List Bool} {us : List V} {k : Bool} {v : V} (h : Kvs ks us) (hv : Kv k v) : Kvs (ks ++ [k]) (us ++ [v]) := by
  refine ⟨by rw [List.length_append, List.length_append, h.1]; rfl, fun j c u h1 h2 => ?_⟩
  by_cases z : j < ks.length
  · rw [List.getElem?_append_left z] at h1
    rw [List.getElem?_append_left (by rw [h.1]; exact z)] at h2
    exact h.2 j c u h1 h2
  · have zl := (List.getElem?_eq_some_iff.mp h1).1
    rw [List.length_append] at zl
    have : j = ks.length := by have : j < ks.length + 1 := zl; omega
    subst this
    rw [List.getElem?_append_right (Nat.le_refl _), Nat.sub_self] at h1
    rw [← h.1, List.getElem?_append_right (Nat.le_refl _), Nat.sub_self] at h2
    cases h1
    cases h2
    exact hv
theorem dnG {p q : Prop} {b : Bool} (h : b = true) (x : q) : if (!b) = true then p else q := by rw [h]; exact iteF x
theorem wt {W T : Str} {a b : Prop} (h : W = T) (q : a) : if decide (V.str W = V.str T) = true then a else b := by rw [h, decide_eq_true rfl]; exact iteT q
theorem wf {W T : Str} {a b : Prop} (h : ¬ W = T) (q : b) : if decide (V.str W = V.str T) = true then a else b := by rw [decide_eq_false fun z => h (V.str.inj z)]; exact iteF q
@[elab_as_elim] theorem alLf {H : Hp} {motive : Hp → Prop} {xs : List V} {p : Addr} (hp : H p = none) (q : ∀ H', Same H H' → H' p = some (.lst xs) → motive H') : motive (upd H p (.lst xs)) := q _ (same_new hp) upd_same
end Lm

set_option Elab.async false
set_option linter.all false
set_option maxRecDepth 100000
set_option maxHeartbeats 2000000
/-! programs worked all over a region: questions, ends, walks, their trees -/
namespace Lm
open PySem PySem.Spec PyProof.Rows L2 LmR
structure Rg where
  R : List Edge
  D : Mat
  T : Nat → Option Bool
inductive Qn where
  | row (i j c : Int)
  | truth (k : Nat)
inductive En where
  | num (i c : Int)
  | tr (b : Bool)
inductive Tk where
  | pg (p : Pg)
  | add (c : Int)
  | meet (w : Bw)
  | pick (p q : Pg)
inductive Fr where
  | qn (q : Qn)
  | en (x : En)
inductive Ans where
  | ask (q : Qn)
  | go (t : List Tk) (e : List En)
/-- x of i -/
def nAt (us : List V) (i : Int) : Int := if i = -1 then 0 else iv (us.getD i.toNat .non)
def xsF (us : List V) (a : Nat) : Int := if a = us.length then 0 else iv (us.getD a .non)
/-- a num's place, or -1 -/
def NumAt (ks : List Bool) (i : Int) : Prop := i = -1 ∨ ∃ k : Nat, i = k ∧ ks[k]? = some false
theorem NumAt.lo {ks : List Bool} {i : Int} (h : NumAt ks i) : -1 ≤ i := by rcases h with h | ⟨k, h, _⟩ <;> omega
theorem NumAt.hi {ks : List Bool} {i : Int} (h : NumAt ks i) : i < ks.length := by
  rcases h with h | ⟨k, h, e⟩
  · omega
  · have := (List.getElem?_eq_some_iff.mp e).1
    omega
theorem NumAt.pl {ks : List Bool} {i : Int} (h : NumAt ks i) : Lm.pl ks.length i ≤ ks.length := pl_le h.lo h.hi
theorem nAt_xs {us : List V} {i : Int} (h1 : -1 ≤ i) (h2 : i < us.length) : xsF us (pl us.length i) = nAt us i := by
  unfold xsF nAt pl
  by_cases e : i = -1
  · rw [if_pos e, if_pos e, if_pos rfl]
  · rw [if_neg e, if_neg e, if_neg (by omega)]
def ansIn (m : Nat) (r : Rg) : Qn → Option Bool
  | .row i j c => knownF r.D (pl m i) (pl m j) c
  | .truth k => r.T k
def ansAt (us : List V) : Qn → Bool
  | .row i j c => decide (nAt us i ≤ nAt us j + c)
  | .truth k => bv (us.getD k .non)
def QOk (ks : List Bool) : Qn → Prop
  | .row i j _ => NumAt ks i ∧ NumAt ks j
  | .truth k => ks[k]? = some true
def nar (m : Nat) (r : Rg) : Qn → Bool → Rg
  | .row i j c, true => ⟨r.R ++ [(pl m i, pl m j, c)], stepF r.D (pl m i) (pl m j) c, r.T⟩
  | .row i j c, false => ⟨r.R ++ [(pl m j, pl m i, -c - 1)], stepF r.D (pl m j) (pl m i) (-c - 1), r.T⟩
  | .truth k, b => ⟨r.R, r.D, fun x => if x = k then some b else r.T x⟩
/-- the region holds of us -/
structure InR (us : List V) (r : Rg) : Prop where
  k : KeepsF (xsF us) r.R
  t : ∀ k b, r.T k = some b → bv (us.getD k .non) = b
abbrev RgOk (m : Nat) (r : Rg) : Prop := Clo r.R m r.D
theorem known_sym {D : Mat} {i j : Nat} {c : Int} (h : knownF D i j c = none) : knownF D j i (-c - 1) = none := by
  unfold knownF at h ⊢
  by_cases h1 : leB (D i j) c = true
  · rw [if_pos h1] at h; cases h
  rw [if_neg h1] at h
  by_cases h2 : ltB (D j i) c = true
  · rw [if_pos h2] at h; cases h
  have n1 : ¬ leB (D j i) (-c - 1) = true := fun z => h2 (by
    cases e : D j i with
    | none => rw [e] at z; cases z
    | some t =>
      rw [e] at z
      have := of_decide_eq_true (show decide (t ≤ -c - 1) = true from z)
      exact decide_eq_true (show t + c < 0 by omega))
  have n2 : ¬ ltB (D i j) (-c - 1) = true := fun z => h1 (by
    cases e : D i j with
    | none => rw [e] at z; cases z
    | some t =>
      rw [e] at z
      have := of_decide_eq_true (show decide (t + (-c - 1) < 0) = true from z)
      exact decide_eq_true (show t ≤ c by omega))
  rw [if_neg n1, if_neg n2]
theorem tight_none {D : Mat} {i j : Nat} {c : Int} (h : knownF D i j c = none) : tightF D i j c = some (stepF D i j c) := by
  unfold tightF
  rw [h]
section
variable {ks : List Bool} {m : Nat} {r : Rg} {q : Qn} {us : List V} {b : Bool}
theorem nar_ok (ok : RgOk ks.length r) (qo : QOk ks q) (n : ansIn ks.length r q = none) (b : Bool) : RgOk ks.length (nar ks.length r q b) := by
  cases q with
  | row i j c =>
    cases b with
    | true => exact ok.tight qo.1.pl qo.2.pl (tight_none n)
    | false => exact ok.tight qo.2.pl qo.1.pl (tight_none (known_sym n))
  | truth k => exact ok
theorem nar_in (hl : us.length = ks.length) (qo : QOk ks q) (i : InR us r) : InR us (nar ks.length r q (ansAt us q)) := by
  cases q with
  | row x y c =>
    have e1 := nAt_xs (us := us) qo.1.lo (by rw [hl]; exact qo.1.hi)
    have e2 := nAt_xs (us := us) qo.2.lo (by rw [hl]; exact qo.2.hi)
    rw [hl] at e1 e2
    show InR us (nar ks.length r (.row x y c) (decide (nAt us x ≤ nAt us y + c)))
    by_cases z : nAt us x ≤ nAt us y + c
    · rw [decide_eq_true z]
      refine ⟨fun e he => ?_, i.t⟩
      rcases List.mem_append.mp he with w | w
      · exact i.k e w
      · rw [List.mem_singleton.mp w]
        show xsF us (pl ks.length x) ≤ xsF us (pl ks.length y) + c
        rw [e1, e2]
        exact z
    · rw [decide_eq_false z]
      refine ⟨fun e he => ?_, i.t⟩
      rcases List.mem_append.mp he with w | w
      · exact i.k e w
      · rw [List.mem_singleton.mp w]
        show xsF us (pl ks.length y) ≤ xsF us (pl ks.length x) + (-c - 1)
        rw [e1, e2]
        omega
  | truth k =>
    refine ⟨i.k, fun x b e => ?_⟩
    have e' : (if x = k then some (bv (us.getD k .non)) else r.T x) = some b := e
    split at e'
    · rename_i w
      rw [w]
      exact Option.some.inj e'
    · exact i.t x b e'
/-- in a narrowed region the question has its answer -/
theorem nar_at (hl : us.length = ks.length) (qo : QOk ks q) (n : ansIn ks.length r q = none) (i : InR us (nar ks.length r q b)) : ansAt us q = b ∧ InR us r := by
  cases q with
  | row x y c =>
    have e1 := nAt_xs (us := us) qo.1.lo (by rw [hl]; exact qo.1.hi)
    have e2 := nAt_xs (us := us) qo.2.lo (by rw [hl]; exact qo.2.hi)
    rw [hl] at e1 e2
    cases b with
    | true =>
      refine ⟨decide_eq_true ?_, fun e he => i.k e (List.mem_append_left _ he), i.t⟩
      have z : xsF us (pl ks.length x) ≤ xsF us (pl ks.length y) + c := i.k _ (List.mem_append_right _ (List.mem_singleton.mpr rfl))
      rw [e1, e2] at z
      exact z
    | false =>
      refine ⟨decide_eq_false ?_, fun e he => i.k e (List.mem_append_left _ he), i.t⟩
      have z : xsF us (pl ks.length y) ≤ xsF us (pl ks.length x) + (-c - 1) := i.k _ (List.mem_append_right _ (List.mem_singleton.mpr rfl))
      rw [e1, e2] at z
      omega
  | truth k =>
    have e0 : (nar ks.length r (.truth k) b).T k = some b := if_pos rfl
    have e1 := i.t k b e0
    refine ⟨e1, i.k, fun x c e => ?_⟩
    by_cases w : x = k
    · rw [w, show r.T k = none from n] at e
      cases e
    · exact i.t x c (by show (if x = k then some b else r.T x) = some c; rw [if_neg w]; exact e)
theorem ans_sound (hl : us.length = ks.length) (ok : RgOk ks.length r) (qo : QOk ks q) (i : InR us r) (n : ansIn ks.length r q = some b) : ansAt us q = b := by
  cases q with
  | row x y c =>
    have e1 := nAt_xs (us := us) qo.1.lo (by rw [hl]; exact qo.1.hi)
    have e2 := nAt_xs (us := us) qo.2.lo (by rw [hl]; exact qo.2.hi)
    rw [hl] at e1 e2
    cases b with
    | true =>
      obtain ⟨d, ed, l⟩ := known_tt n
      have z := (ok.w _ _ _ ed).keeps i.k
      rw [e1, e2] at z
      exact decide_eq_true (show nAt us x ≤ nAt us y + c by omega)
    | false =>
      obtain ⟨d, ed, l⟩ := known_ff n
      have z := (ok.w _ _ _ ed).keeps i.k
      rw [e1, e2] at z
      exact decide_eq_false (show ¬ nAt us x ≤ nAt us y + c by omega)
  | truth k => exact i.t k b n
theorem nar_ans (ok : RgOk ks.length r) (qo : QOk ks q) (n : ansIn ks.length r q = none) (b : Bool) : ansIn ks.length (nar ks.length r q b) q = some b := by
  cases q with
  | row x y c =>
    have hx := qo.1.pl
    have hy := qo.2.pl
    have ok' := nar_ok ok qo n b
    cases b with
    | true =>
      have l : leO (stepF r.D (pl ks.length x) (pl ks.length y) c (pl ks.length x) (pl ks.length y)) (0 + c + 0) := step_via (ok.z _ hx) (ok.z _ hy)
      obtain ⟨d, ed, ld⟩ := l
      show knownF (stepF r.D (pl ks.length x) (pl ks.length y) c) (pl ks.length x) (pl ks.length y) c = some true
      unfold knownF
      rw [ed, if_pos (show leB (some d) c = true from decide_eq_true (by omega))]
    | false =>
      have l : leO (stepF r.D (pl ks.length y) (pl ks.length x) (-c - 1) (pl ks.length y) (pl ks.length x)) (0 + (-c - 1) + 0) := step_via (ok.z _ hy) (ok.z _ hx)
      obtain ⟨d, ed, ld⟩ := l
      have ok2 : Clo (r.R ++ [(pl ks.length y, pl ks.length x, -c - 1)]) ks.length (stepF r.D (pl ks.length y) (pl ks.length x) (-c - 1)) := ok'
      show knownF (stepF r.D (pl ks.length y) (pl ks.length x) (-c - 1)) (pl ks.length x) (pl ks.length y) c = some false
      unfold knownF
      have nl : ¬ leB (stepF r.D (pl ks.length y) (pl ks.length x) (-c - 1) (pl ks.length x) (pl ks.length y)) c = true := fun z => by
        obtain ⟨t, et, lt⟩ := leB_tt z
        have w := (ok2.w _ _ _ et).app (ok2.w _ _ _ ed)
        have := ok2.noneg w hx
        omega
      rw [if_neg nl, ed, if_pos (show ltB (some d) c = true from decide_eq_true (by omega))]
  | truth k => exact if_pos rfl
end
/-! ### steps -/
def isCmp : Bw → Bool
  | .least => true
  | .most => true
  | .atmost => true
  | .both => false
  | .either => false
theorem isCmp_arg (w : Bw) : w.arg = !isCmp w := by cases w <;> rfl
def metE : Bw → Bool → En → En → En
  | .least, b, x, y => if b = true then x else y
  | .most, b, x, y => if b = true then y else x
  | _, b, _, _ => .tr b
def stepW (ks : List Bool) (r : Rg) : Tk → List Tk → List En → Ans
  | .pg (.inp k), t, e => if ks.getD k false = true then (match r.T k with
      | none => .ask (.truth k)
      | some b => .go t (.tr b :: e)) else .go t (.num k 0 :: e)
  | .pg (.num c), t, e => .go t (.num (-1) c :: e)
  | .pg (.tr b), t, e => .go t (.tr b :: e)
  | .pg (.plus c a), t, e => .go (.pg a :: .add c :: t) e
  | .pg (.bin .both a b), t, e => .go (.pg a :: .pick b (.tr false) :: t) e
  | .pg (.bin .either a b), t, e => .go (.pg a :: .pick (.tr true) b :: t) e
  | .pg (.bin w a b), t, e => .go (.pg a :: .pg b :: .meet w :: t) e
  | .pg (.neg a), t, e => .go (.pg a :: .pick (.tr false) (.tr true) :: t) e
  | .pg (.ite p a b), t, e => .go (.pg p :: .pick a b :: t) e
  | .add c, t, .num i d :: e => .go t (.num i (d + c) :: e)
  | .meet w, t, .num j d :: .num i c :: e => match ansIn ks.length r (.row i j (d - c)) with
      | none => .ask (.row i j (d - c))
      | some b => .go t (metE w b (.num i c) (.num j d) :: e)
  | .pick p q, t, .tr b :: e => .go (.pg (if b = true then p else q) :: t) e
  | _, _, _ => .ask (.truth 0)
/-- how long it works, how often it asks -/
def tsz : Pg → Nat
  | .inp _ => 1
  | .num _ => 1
  | .tr _ => 1
  | .plus _ a => tsz a + 2
  | .bin _ a b => tsz a + tsz b + 4
  | .neg a => tsz a + 4
  | .ite p a b => tsz p + tsz a + tsz b + 2
def cqp : Pg → Nat
  | .inp _ => 1
  | .num _ => 0
  | .tr _ => 0
  | .plus _ a => cqp a
  | .bin w a b => cqp a + cqp b + (if isCmp w = true then 1 else 0)
  | .neg a => cqp a
  | .ite p a b => cqp p + cqp a + cqp b
theorem cqp_le : ∀ p : Pg, cqp p ≤ psz p
  | .inp _ => Nat.le_refl _
  | .num _ => Nat.zero_le _
  | .tr _ => Nat.zero_le _
  | .plus c a => by have := cqp_le a; simp only [cqp, psz]; omega
  | .bin w a b => by have := cqp_le a; have := cqp_le b; simp only [cqp, psz]; split <;> omega
  | .neg a => by have := cqp_le a; simp only [cqp, psz]; omega
  | .ite p a b => by have := cqp_le a; have := cqp_le b; have := cqp_le p; simp only [cqp, psz]; omega
theorem tsz_pos (p : Pg) : 1 ≤ tsz p := by cases p <;> simp [tsz]
def ksz : Tk → Nat
  | .pg p => tsz p
  | .add _ => 1
  | .meet _ => 1
  | .pick p q => tsz p + tsz q + 1
def kcq : Tk → Nat
  | .pg p => cqp p
  | .add _ => 0
  | .meet _ => 1
  | .pick p q => cqp p + cqp q
def wsz : List Tk → Nat
  | [] => 0
  | k :: t => ksz k + wsz t
def wcq : List Tk → Nat
  | [] => 0
  | k :: t => kcq k + wcq t
theorem ksz_pos (k : Tk) : 1 ≤ ksz k := by cases k <;> simp [ksz]; exact tsz_pos _
def EnOk (ks : List Bool) : En → Bool → Prop
  | .num i _, false => NumAt ks i
  | .tr _, true => True
  | _, _ => False
def EnsOk (ks : List Bool) : List En → List Bool → Prop
  | [], [] => True
  | x :: e, k :: st => EnOk ks x k ∧ EnsOk ks e st
  | _, _ => False
/-- the walk, on a stack of such kinds, ends with one thing of the kind κ -/
def Ty (ks : List Bool) (κ : Bool) : List Tk → List Bool → Prop
  | [], [k] => k = κ
  | .pg p :: t, st => Wk ks p ∧ Ty ks κ t (own ks p :: st)
  | .add _ :: t, false :: st => Ty ks κ t (false :: st)
  | .meet w :: t, false :: false :: st => isCmp w = true ∧ Ty ks κ t (w.own :: st)
  | .pick p q :: t, true :: st => Wk ks p ∧ Wk ks q ∧ own ks q = own ks p ∧ Ty ks κ t (own ks p :: st)
  | _, _ => False
def StOk (ks : List Bool) (κ : Bool) (t : List Tk) (e : List En) : Prop := ∃ st, EnsOk ks e st ∧ Ty ks κ t st
theorem enOk_num {ks : List Bool} {x : En} (h : EnOk ks x false) : ∃ i c, x = .num i c ∧ NumAt ks i := by
  cases x with
  | num i c => exact ⟨i, c, rfl, h⟩
  | tr b => exact h.elim
theorem enOk_tr {ks : List Bool} {x : En} (h : EnOk ks x true) : ∃ b, x = .tr b := by
  cases x with
  | num i c => exact h.elim
  | tr b => exact ⟨b, rfl⟩
theorem ensOk_cons {ks : List Bool} {e : List En} {k : Bool} {st : List Bool} (h : EnsOk ks e (k :: st)) : ∃ x e', e = x :: e' ∧ EnOk ks x k ∧ EnsOk ks e' st := by
  cases e with
  | nil => exact h.elim
  | cons x e' => exact ⟨x, e', rfl, h⟩
/-! ### what is told -/
def sval (us : List V) : En → V
  | .num i c => .int (nAt us i + c)
  | .tr b => .bl b
def evalT (us : List V) : List Tk → List V → V
  | [], v :: _ => v
  | .pg p :: t, st => evalT us t (pval us p :: st)
  | .add c :: t, v :: st => evalT us t (.int (iv v + c) :: st)
  | .meet w :: t, y :: x :: st => evalT us t (bval w x y :: st)
  | .pick p q :: t, v :: st => evalT us t ((if bv v = true then pval us p else pval us q) :: st)
  | _, _ => .non
/-- one step: what is asked is open; what is worked is less, and tells the same -/
def StepOk (ks : List Bool) (κ : Bool) (r : Rg) (k : Tk) (t : List Tk) (e : List En) : Ans → Prop
  | .ask q => QOk ks q ∧ ansIn ks.length r q = none ∧ (∀ b, ∃ t' e', stepW ks (nar ks.length r q b) k t e = .go t' e') ∧ wcq t + 1 ≤ wcq (k :: t) ∧ (∀ r' t' e', stepW ks r' k t e = .go t' e' → wcq t' = wcq t)
  | .go t' e' => StOk ks κ t' e' ∧ wsz t' < wsz (k :: t) ∧ wcq t' ≤ wcq (k :: t) ∧ ∀ us, Kvs ks us → InR us r → evalT us t' (e'.map (sval us)) = evalT us (k :: t) (e.map (sval us))
theorem step_ok {ks : List Bool} {κ : Bool} {r : Rg} {k : Tk} {t : List Tk} {e : List En} (ok : RgOk ks.length r) (h : StOk ks κ (k :: t) e) : StepOk ks κ r k t e (stepW ks r k t e) := by
  obtain ⟨st, he, ht⟩ := h
  cases k with
  | pg p =>
    obtain ⟨hw, ht⟩ := ht
    cases p with
    | inp k =>
      have hk : k < ks.length := hw
      have ek : ks[k]? = some (ks.getD k false) := by rw [List.getD_eq_getElem?_getD, List.getElem?_eq_getElem hk]; rfl
      have ht : Ty ks κ t (ks.getD k false :: st) := ht
      have es : ∀ r', stepW ks r' (.pg (.inp k)) t e = (if ks.getD k false = true then (match r'.T k with
        | none => .ask (.truth k)
        | some b => .go t (.tr b :: e)) else .go t (.num k 0 :: e)) := fun r' => rfl
      rw [es r]
      cases hb : ks.getD k false with
      | false =>
        rw [if_neg Bool.false_ne_true]
        rw [hb] at ht ek
        refine ⟨⟨false :: st, ⟨.inr ⟨k, rfl, ek⟩, he⟩, ht⟩, by simp [wsz, ksz, tsz], by simp [wcq], fun us hu hi => ?_⟩
        have e1 := kv_int (hu.2 k false _ ek (pval_at hu hk))
        have e2 : sval us (.num k 0) = us.getD k .non := by
          show V.int (nAt us k + 0) = _
          have e1' : us.getD k .non = .int (iv (us.getD k .non)) := e1
          unfold nAt
          rw [if_neg (by omega), Int.add_zero, Int.toNat_natCast]
          exact e1'.symm
        show evalT us t (sval us (.num k 0) :: e.map (sval us)) = evalT us t (us.getD k .non :: e.map (sval us))
        rw [e2]
      | true =>
        rw [if_pos rfl]
        rw [hb] at ht ek
        cases hT : r.T k with
        | none =>
          refine ⟨ek, hT, fun b => ⟨t, .tr b :: e, ?_⟩, by simp [wcq, kcq, cqp]; omega, fun r' t' e' z => ?_⟩
          · rw [es, hb, if_pos rfl, show (nar ks.length r (.truth k) b).T k = some b from if_pos rfl]
          · rw [es, hb, if_pos rfl] at z
            cases w : r'.T k with
            | none => rw [w] at z; cases z
            | some b => rw [w] at z; cases z; rfl
        | some b =>
          refine ⟨⟨true :: st, ⟨True.intro, he⟩, ht⟩, by simp [wsz, ksz, tsz], by simp [wcq], fun us hu hi => ?_⟩
          have e1 := kv_bl (hu.2 k true _ ek (pval_at hu hk))
          have e3 := hi.t k b hT
          have e1' : us.getD k .non = .bl (bv (us.getD k .non)) := e1
          show evalT us t (.bl b :: e.map (sval us)) = evalT us t (us.getD k .non :: e.map (sval us))
          rw [e1', e3]
    | num c =>
      refine ⟨⟨false :: st, ⟨.inl rfl, he⟩, ht⟩, by simp [wsz, ksz, tsz], by simp [wcq], fun us hu hi => ?_⟩
      show evalT us t (V.int (nAt us (-1) + c) :: e.map (sval us)) = evalT us t (.int c :: e.map (sval us))
      rw [show nAt us (-1) = 0 from if_pos rfl, Int.zero_add]
    | tr b => exact ⟨⟨true :: st, ⟨True.intro, he⟩, ht⟩, by simp [wsz, ksz, tsz], by simp [wcq], fun us hu hi => rfl⟩
    | plus c a =>
      refine ⟨⟨st, he, hw.1, ?_⟩, by simp [wsz, ksz, tsz]; omega, by simp [wcq, kcq, cqp], fun us hu hi => rfl⟩
      rw [hw.2]
      exact ht
    | bin w a b =>
      obtain ⟨w1, w2, o1, o2⟩ := hw
      have cmp : isCmp w = true → StepOk ks κ r (.pg (.bin w a b)) t e (.go (.pg a :: .pg b :: .meet w :: t) e) := fun hc => by
        refine ⟨⟨st, he, w1, w2, ?_⟩, by simp [wsz, ksz, tsz]; omega, by simp [wcq, kcq, cqp, hc]; omega, fun us hu hi => rfl⟩
        rw [o1, o2, isCmp_arg, hc]
        exact ⟨hc, ht⟩
      cases w with
      | least => exact cmp rfl
      | most => exact cmp rfl
      | atmost => exact cmp rfl
      | both =>
        refine ⟨⟨st, he, w1, ?_⟩, by simp [wsz, ksz, tsz]; omega, by simp [wcq, kcq, cqp, isCmp]; omega, fun us hu hi => ?_⟩
        · rw [o1]
          refine ⟨w2, True.intro, o2.symm, ?_⟩
          rw [o2]
          exact ht
        · have e1 := pval_bl hu w2 o2
          show evalT us t ((if bv (pval us a) = true then pval us b else .bl false) :: e.map (sval us)) = evalT us t (.bl (bv (pval us a) && bv (pval us b)) :: e.map (sval us))
          cases bv (pval us a) with
          | true => rw [if_pos rfl, Bool.true_and, ← e1]
          | false => rw [if_neg Bool.false_ne_true, Bool.false_and]
      | either =>
        refine ⟨⟨st, he, w1, ?_⟩, by simp [wsz, ksz, tsz]; omega, by simp [wcq, kcq, cqp, isCmp]; omega, fun us hu hi => ?_⟩
        · rw [o1]
          exact ⟨True.intro, w2, o2, ht⟩
        · have e1 := pval_bl hu w2 o2
          show evalT us t ((if bv (pval us a) = true then .bl true else pval us b) :: e.map (sval us)) = evalT us t (.bl (bv (pval us a) || bv (pval us b)) :: e.map (sval us))
          cases bv (pval us a) with
          | true => rw [if_pos rfl, Bool.true_or]
          | false => rw [if_neg Bool.false_ne_true, Bool.false_or, ← e1]
    | neg a =>
      refine ⟨⟨st, he, hw.1, ?_⟩, by simp [wsz, ksz, tsz]; omega, by simp [wcq, kcq, cqp], fun us hu hi => ?_⟩
      · rw [hw.2]
        exact ⟨True.intro, True.intro, rfl, ht⟩
      · show evalT us t ((if bv (pval us a) = true then .bl false else .bl true) :: e.map (sval us)) = evalT us t (.bl (!bv (pval us a)) :: e.map (sval us))
        cases bv (pval us a) <;> rfl
    | ite p a b =>
      obtain ⟨w1, w2, w3, o1, o2⟩ := hw
      refine ⟨⟨st, he, w1, ?_⟩, by simp [wsz, ksz, tsz]; omega, by simp [wcq, kcq, cqp]; omega, fun us hu hi => rfl⟩
      rw [o1]
      exact ⟨w2, w3, o2, ht⟩
  | add c =>
    cases st with
    | nil => exact ht.elim
    | cons κ1 st =>
      cases κ1 with
      | true => exact ht.elim
      | false =>
        obtain ⟨x, e', rfl, hx, he'⟩ := ensOk_cons he
        obtain ⟨i, d, rfl, hi'⟩ := enOk_num hx
        refine ⟨⟨false :: st, ⟨hi', he'⟩, ht⟩, by simp [wsz, ksz], by simp [wcq], fun us hu hi => ?_⟩
        show evalT us t (.int (nAt us i + (d + c)) :: e'.map (sval us)) = evalT us t (.int (nAt us i + d + c) :: e'.map (sval us))
        rw [Int.add_assoc]
  | meet w =>
    cases st with
    | nil => exact ht.elim
    | cons κ1 st =>
      cases st with
      | nil => cases κ1 <;> exact ht.elim
      | cons κ2 st =>
        cases κ1 with
        | true => exact ht.elim
        | false =>
          cases κ2 with
          | true => exact ht.elim
          | false =>
            obtain ⟨hc, ht⟩ := ht
            obtain ⟨x, e1, rfl, hx, he1⟩ := ensOk_cons he
            obtain ⟨y, e2, rfl, hy, he2⟩ := ensOk_cons he1
            obtain ⟨j, d, rfl, hj⟩ := enOk_num hx
            obtain ⟨i, c, rfl, hi'⟩ := enOk_num hy
            have qo : QOk ks (.row i j (d - c)) := ⟨hi', hj⟩
            have es : ∀ r', stepW ks r' (.meet w) t (.num j d :: .num i c :: e2) = (match ansIn ks.length r' (.row i j (d - c)) with
              | none => .ask (.row i j (d - c))
              | some b => .go t (metE w b (.num i c) (.num j d) :: e2)) := fun r' => rfl
            rw [es r]
            cases hn : ansIn ks.length r (.row i j (d - c)) with
            | none =>
              refine ⟨qo, hn, fun b => ⟨t, metE w b (.num i c) (.num j d) :: e2, ?_⟩, by simp [wcq, kcq]; omega, fun r' t' e' z => ?_⟩
              · rw [es, nar_ans ok qo hn b]
              · rw [es] at z
                cases w' : ansIn ks.length r' (.row i j (d - c)) with
                | none => rw [w'] at z; cases z
                | some b => rw [w'] at z; cases z; rfl
            | some b =>
              refine ⟨⟨w.own :: st, ⟨?_, he2⟩, ht⟩, by simp [wsz, ksz], by simp [wcq], fun us hu hi => ?_⟩
              · cases w with
                | least => show EnOk ks (if b = true then _ else _) false; split <;> assumption
                | most => show EnOk ks (if b = true then _ else _) false; split <;> assumption
                | atmost => exact True.intro
                | both => cases hc
                | either => cases hc
              · have sd := ans_sound hu.1 ok qo hi hn
                have sd' : decide (nAt us i ≤ nAt us j + (d - c)) = b := sd
                have key : sval us (metE w b (.num i c) (.num j d)) = bval w (.int (nAt us i + c)) (.int (nAt us j + d)) := by
                  subst sd'
                  by_cases z : nAt us i ≤ nAt us j + (d - c)
                  · rw [decide_eq_true z]
                    cases w with
                    | least =>
                      show V.int (nAt us i + c) = .int (if nAt us j + d < nAt us i + c then nAt us j + d else nAt us i + c)
                      rw [if_neg (by omega)]
                    | most =>
                      show V.int (nAt us j + d) = .int (if nAt us j + d > nAt us i + c then nAt us j + d else nAt us i + c)
                      split
                      · rfl
                      · congr 1; omega
                    | atmost =>
                      show V.bl true = .bl (decide (nAt us i + c ≤ nAt us j + d))
                      rw [decide_eq_true (by omega)]
                    | both => cases hc
                    | either => cases hc
                  · rw [decide_eq_false z]
                    cases w with
                    | least =>
                      show V.int (nAt us j + d) = .int (if nAt us j + d < nAt us i + c then nAt us j + d else nAt us i + c)
                      rw [if_pos (by omega)]
                    | most =>
                      show V.int (nAt us i + c) = .int (if nAt us j + d > nAt us i + c then nAt us j + d else nAt us i + c)
                      rw [if_neg (by omega)]
                    | atmost =>
                      show V.bl false = .bl (decide (nAt us i + c ≤ nAt us j + d))
                      rw [decide_eq_false (by omega)]
                    | both => cases hc
                    | either => cases hc
                show evalT us t (sval us (metE w b (.num i c) (.num j d)) :: e2.map (sval us)) = evalT us t (bval w (.int (nAt us i + c)) (.int (nAt us j + d)) :: e2.map (sval us))
                rw [key]
  | pick p q =>
    cases st with
    | nil => exact ht.elim
    | cons κ1 st =>
      cases κ1 with
      | false => exact ht.elim
      | true =>
        obtain ⟨w1, w2, o, ht⟩ := ht
        obtain ⟨x, e', rfl, hx, he'⟩ := ensOk_cons he
        obtain ⟨b, rfl⟩ := enOk_tr hx
        cases b with
        | true =>
          show StepOk ks κ r (.pick p q) t (.tr true :: e') (.go (.pg p :: t) e')
          exact ⟨⟨st, he', w1, ht⟩, by simp only [wsz, ksz]; omega, by simp only [wcq, kcq]; omega, fun us hu hi => rfl⟩
        | false =>
          show StepOk ks κ r (.pick p q) t (.tr false :: e') (.go (.pg q :: t) e')
          exact ⟨⟨st, he', w2, by rw [o]; exact ht⟩, by simp only [wsz, ksz]; omega, by simp only [wcq, kcq]; omega, fun us hu hi => rfl⟩
/-! ### the walk to the next question -/
def walkW (ks : List Bool) (r : Rg) : Nat → List Tk → List En → Fr × List Tk × List En
  | _, [], e => (.en (e.headD (.tr false)), [], e)
  | 0, k :: t, e => (.en (.tr false), k :: t, e)
  | n + 1, k :: t, e => match stepW ks r k t e with
    | .ask q => (.qn q, k :: t, e)
    | .go t' e' => walkW ks r n t' e'
/-- where the walk stands -/
def WalkOk (ks : List Bool) (κ : Bool) (r : Rg) (t : List Tk) (e : List En) : Fr × List Tk × List En → Prop
  | (.en x, t', e') => t' = [] ∧ e' = [x] ∧ EnOk ks x κ ∧ ∀ us, Kvs ks us → InR us r → sval us x = evalT us t (e.map (sval us))
  | (.qn q, t', e') => QOk ks q ∧ ansIn ks.length r q = none ∧ StOk ks κ t' e' ∧ wsz t' ≤ wsz t ∧ wcq t' ≤ wcq t ∧ (∀ us, Kvs ks us → InR us r → evalT us t' (e'.map (sval us)) = evalT us t (e.map (sval us))) ∧
      ∃ k u, t' = k :: u ∧ wcq u + 1 ≤ wcq t' ∧ (∀ b, ∃ t2 e2, stepW ks (nar ks.length r q b) k u e' = .go t2 e2) ∧ ∀ r' t2 e2, stepW ks r' k u e' = .go t2 e2 → wcq t2 = wcq u
theorem walk_ok {ks : List Bool} {κ : Bool} {r : Rg} (ok : RgOk ks.length r) : ∀ (n : Nat) (t : List Tk) (e : List En), wsz t ≤ n → StOk ks κ t e → WalkOk ks κ r t e (walkW ks r n t e)
  | n, [], e, _, h => by
    obtain ⟨st, he, ht⟩ := h
    cases st with
    | nil => exact ht.elim
    | cons k st =>
      cases st with
      | cons _ _ => exact ht.elim
      | nil =>
        obtain ⟨x, e', rfl, hx, he'⟩ := ensOk_cons he
        cases e' with
        | cons _ _ => exact he'.elim
        | nil =>
          have ek : k = κ := ht
          have ew : walkW ks r n [] [x] = (.en x, [], [x]) := by cases n <;> rfl
          rw [ew]
          exact ⟨rfl, rfl, ek ▸ hx, fun us _ _ => rfl⟩
  | 0, k :: t, e, hn, _ => by
    have := ksz_pos k
    simp only [wsz] at hn
    omega
  | n + 1, k :: t, e, hn, h => by
    have so := step_ok ok h
    show WalkOk ks κ r (k :: t) e (match stepW ks r k t e with
      | .ask q => (.qn q, k :: t, e)
      | .go t' e' => walkW ks r n t' e')
    cases hs : stepW ks r k t e with
    | ask q =>
      rw [hs] at so
      obtain ⟨q1, q2, q3, q4, q5⟩ := so
      exact ⟨q1, q2, h, Nat.le_refl _, Nat.le_refl _, fun _ _ _ => rfl, k, t, rfl, q4, q3, q5⟩
    | go t' e' =>
      rw [hs] at so
      obtain ⟨q1, q2, q3, q4⟩ := so
      have ih := walk_ok ok n t' e' (by omega) q1
      simp only
      generalize walkW ks r n t' e' = z at ih ⊢
      obtain ⟨f, t2, e2⟩ := z
      cases f with
      | en x =>
        obtain ⟨i1, i2, i3, i4⟩ := ih
        exact ⟨i1, i2, i3, fun us hu hi => (i4 us hu hi).trans (q4 us hu hi)⟩
      | qn q =>
        obtain ⟨i1, i2, i3, i4, i5, i6, i7⟩ := ih
        exact ⟨i1, i2, i3, by omega, by omega, fun us hu hi => (i6 us hu hi).trans (q4 us hu hi), i7⟩
/-- more room changes nothing -/
theorem walk_more {ks : List Bool} {κ : Bool} {r : Rg} (ok : RgOk ks.length r) : ∀ (n m : Nat) (t : List Tk) (e : List En), wsz t ≤ n → wsz t ≤ m → StOk ks κ t e → walkW ks r n t e = walkW ks r m t e
  | n, m, [], e, _, _, _ => by cases n <;> cases m <;> rfl
  | 0, _, k :: t, e, hn, _, _ => by have := ksz_pos k; simp only [wsz] at hn; omega
  | _, 0, k :: t, e, _, hm, _ => by have := ksz_pos k; simp only [wsz] at hm; omega
  | n + 1, m + 1, k :: t, e, hn, hm, h => by
    have so := step_ok ok h
    show (match stepW ks r k t e with | .ask q => (Fr.qn q, k :: t, e) | .go t' e' => walkW ks r n t' e') = (match stepW ks r k t e with | .ask q => (Fr.qn q, k :: t, e) | .go t' e' => walkW ks r m t' e')
    cases hs : stepW ks r k t e with
    | ask q => rfl
    | go t' e' =>
      rw [hs] at so
      obtain ⟨q1, q2, _, _⟩ := so
      exact walk_more ok n m t' e' (by omega) (by omega) q1
/-! ### the tree of all cases -/
inductive DT where
  | en (r : Rg) (x : En)
  | qn (r : Rg) (q : Qn) (y n : DT)
def DT.list : DT → List (Fr × Rg)
  | .en r x => [(.en x, r)]
  | .qn r q y n => (.qn q, r) :: (y.list ++ n.list)
def DT.dep : DT → Nat
  | .en _ _ => 1
  | .qn _ _ y n => max y.dep n.dep + 1
def DT.val (us : List V) : DT → V
  | .en _ x => sval us x
  | .qn _ q y n => if ansAt us q = true then y.val us else n.val us
def DT.Fits (ks : List Bool) (κ : Bool) : DT → Prop
  | .en _ x => EnOk ks x κ
  | .qn _ q y n => QOk ks q ∧ y.Fits ks κ ∧ n.Fits ks κ
theorem DT.list_pos (d : DT) : 1 ≤ d.list.length := by cases d <;> simp [DT.list]
def DT.top : DT → Rg
  | .en r _ => r
  | .qn r _ _ _ => r
inductive Ct (ks : List Bool) : Rg → List Tk → List En → DT → Prop where
  | en {r : Rg} {t : List Tk} {e : List En} {x : En} {t' : List Tk} {e' : List En} (h : walkW ks r (wsz t) t e = (.en x, t', e')) : Ct ks r t e (.en r x)
  | qn {r : Rg} {t : List Tk} {e : List En} {q : Qn} {t' : List Tk} {e' : List En} {y n : DT} (h : walkW ks r (wsz t) t e = (.qn q, t', e')) (hy : Ct ks (nar ks.length r q true) t' e' y) (hn : Ct ks (nar ks.length r q false) t' e' n) : Ct ks r t e (.qn r q y n)
theorem ct_ex {ks : List Bool} {κ : Bool} : ∀ (n : Nat) (r : Rg) (t : List Tk) (e : List En), RgOk ks.length r → StOk ks κ t e → wsz (walkW ks r (wsz t) t e).2.1 ≤ n →
    ∃ d, Ct ks r t e d ∧ d.Fits ks κ ∧ d.dep ≤ wcq t + 1 ∧ d.list.length < 2 ^ (wcq t + 1) := by
  intro n
  induction n with
  | zero =>
    intro r t e ok st hn
    have w := walk_ok ok (wsz t) t e (Nat.le_refl _) st
    cases hz : walkW ks r (wsz t) t e with
    | mk f z =>
      obtain ⟨t', e'⟩ := z
      rw [hz] at w hn
      cases f with
      | en x => exact ⟨.en r x, .en hz, w.2.2.1, by simp [DT.dep], by
          show 1 < 2 ^ (wcq t + 1)
          exact Nat.one_lt_two_pow (by omega)⟩
      | qn q =>
        obtain ⟨_, _, _, _, _, _, k, u, rfl, _⟩ := w
        have := ksz_pos k
        simp only [wsz] at hn
        omega
  | succ n ih =>
    intro r t e ok st hn
    have w := walk_ok ok (wsz t) t e (Nat.le_refl _) st
    cases hz : walkW ks r (wsz t) t e with
    | mk f z =>
      obtain ⟨t', e'⟩ := z
      rw [hz] at w hn
      cases f with
      | en x => exact ⟨.en r x, .en hz, w.2.2.1, by simp [DT.dep], by
          show 1 < 2 ^ (wcq t + 1)
          exact Nat.one_lt_two_pow (by omega)⟩
      | qn q =>
        obtain ⟨qo, qn, st', l1, l2, _, k, u, rfl, c1, go, c2⟩ := w
        have hn' : wsz (k :: u) ≤ n + 1 := hn
        have child : ∀ b, ∃ d, Ct ks (nar ks.length r q b) (k :: u) e' d ∧ d.Fits ks κ ∧ d.dep ≤ wcq t ∧ d.list.length < 2 ^ wcq t := fun b => by
          have okb := nar_ok ok qo qn b
          obtain ⟨t2, e2, hs⟩ := go b
          have so := step_ok okb st'
          rw [hs] at so
          obtain ⟨s1, s2, s3, s4⟩ := so
          have cw := c2 _ _ _ hs
          -- the child goes at least one step
          have e1 : walkW ks (nar ks.length r q b) (wsz (k :: u)) (k :: u) e' = walkW ks (nar ks.length r q b) (wsz t2) t2 e2 := by
            obtain ⟨n1, en1⟩ : ∃ n1, wsz (k :: u) = n1 + 1 := ⟨wsz (k :: u) - 1, by omega⟩
            rw [en1]
            show (match stepW ks (nar ks.length r q b) k u e' with | .ask q => (Fr.qn q, k :: u, e') | .go t' e' => walkW ks (nar ks.length r q b) n1 t' e') = _
            rw [hs]
            exact walk_more okb n1 (wsz t2) t2 e2 (by omega) (Nat.le_refl _) s1
          have w2 := walk_ok okb (wsz t2) t2 e2 (Nat.le_refl _) s1
          have r2 : wsz (walkW ks (nar ks.length r q b) (wsz t2) t2 e2).2.1 ≤ wsz t2 := by
            generalize walkW ks (nar ks.length r q b) (wsz t2) t2 e2 = z at w2
            obtain ⟨f, t3, e3⟩ := z
            cases f with
            | en x => rw [w2.1]; exact Nat.zero_le _
            | qn q => exact w2.2.2.2.1
          obtain ⟨d, d1, d2, d3, d4⟩ := ih (nar ks.length r q b) t2 e2 okb s1 (by omega)
          have cl : wcq t2 + 1 ≤ wcq t := by omega
          refine ⟨d, ?_, d2, by omega, Nat.lt_of_lt_of_le d4 (Nat.pow_le_pow_right (by decide) cl)⟩
          cases d1 with
          | en h => exact .en (e1.trans h)
          | qn h hy hn => exact .qn (e1.trans h) hy hn
        obtain ⟨y, y1, y2, y3, y4⟩ := child true
        obtain ⟨z, z1, z2, z3, z4⟩ := child false
        refine ⟨.qn r q y z, .qn hz y1 z1, ⟨qo, y2, z2⟩, by show max y.dep z.dep + 1 ≤ _; omega, ?_⟩
        show (_ :: (y.list ++ z.list)).length < 2 ^ (wcq t + 1)
        rw [List.length_cons, List.length_append, Nat.pow_succ]
        omega
theorem ct_has {ks : List Bool} {κ : Bool} {r : Rg} {t : List Tk} {e : List En} (ok : RgOk ks.length r) (st : StOk ks κ t e) : ∃ d, Ct ks r t e d ∧ d.Fits ks κ ∧ d.dep ≤ wcq t + 1 ∧ d.list.length < 2 ^ (wcq t + 1) := ct_ex _ r t e ok st (Nat.le_refl _)
theorem ct_top {ks : List Bool} {r : Rg} {t : List Tk} {e : List En} {d : DT} (h : Ct ks r t e d) : d.top = r := by cases h <;> rfl
/-- the tree tells what is told -/
theorem ct_val {ks : List Bool} {κ : Bool} {us : List V} (hu : Kvs ks us) {r : Rg} {t : List Tk} {e : List En} {d : DT} (h : Ct ks r t e d) : RgOk ks.length r → StOk ks κ t e → InR us r → d.val us = evalT us t (e.map (sval us)) := by
  induction h with
  | @en r t e x t' e' h =>
    intro ok st hi
    have w := walk_ok ok (wsz t) t e (Nat.le_refl _) st
    rw [h] at w
    exact w.2.2.2 us hu hi
  | @qn r t e q t' e' y n h _ _ ihy ihn =>
    intro ok st hi
    have w := walk_ok ok (wsz t) t e (Nat.le_refl _) st
    rw [h] at w
    obtain ⟨qo, qn, st', _, _, ev, _⟩ := w
    have hi' := nar_in (q := q) hu.1 qo hi
    show (if ansAt us q = true then y.val us else n.val us) = _
    cases ha : ansAt us q with
    | true =>
      rw [if_pos rfl]
      rw [ha] at hi'
      rw [ihy (nar_ok ok qo qn true) st' hi']
      exact ev us hu hi
    | false =>
      rw [if_neg Bool.false_ne_true]
      rw [ha] at hi'
      rw [ihn (nar_ok ok qo qn false) st' hi']
      exact ev us hu hi
/-- what is in the region of a knot is in the whole's; at an end it is told so -/
theorem ct_node {ks : List Bool} {κ : Bool} {us : List V} (hu : Kvs ks us) {r : Rg} {t : List Tk} {e : List En} {d : DT} (h : Ct ks r t e d) : RgOk ks.length r → StOk ks κ t e → ∀ f r', (f, r') ∈ d.list → RgOk ks.length r' ∧ (InR us r' → InR us r ∧ ∀ x, f = .en x → d.val us = sval us x) := by
  induction h with
  | @en r t e x t' e' h =>
    intro ok st f r' hm
    have e := List.mem_singleton.mp hm
    cases e
    exact ⟨ok, fun hi => ⟨hi, fun x e => by cases e; rfl⟩⟩
  | @qn r t e q t' e' y n h hy hn ihy ihn =>
    intro ok st f r' hm
    have w := walk_ok ok (wsz t) t e (Nat.le_refl _) st
    rw [h] at w
    obtain ⟨qo, qn, st', _, _, ev, _⟩ := w
    rcases List.mem_cons.mp hm with z | hm
    · cases z
      exact ⟨ok, fun hi => ⟨hi, fun x e => by cases e⟩⟩
    rcases List.mem_append.mp hm with hm | hm
    · obtain ⟨o, k⟩ := ihy (nar_ok ok qo qn true) st' f r' hm
      refine ⟨o, fun hi => ?_⟩
      obtain ⟨i1, i2⟩ := k hi
      obtain ⟨a, i3⟩ := nar_at hu.1 qo qn i1
      refine ⟨i3, fun x e => ?_⟩
      show (if ansAt us q = true then y.val us else n.val us) = _
      rw [a, if_pos rfl]
      exact i2 x e
    · obtain ⟨o, k⟩ := ihn (nar_ok ok qo qn false) st' f r' hm
      refine ⟨o, fun hi => ?_⟩
      obtain ⟨i1, i2⟩ := k hi
      obtain ⟨a, i3⟩ := nar_at hu.1 qo qn i1
      refine ⟨i3, fun x e => ?_⟩
      show (if ansAt us q = true then y.val us else n.val us) = _
      rw [a, if_neg Bool.false_ne_true]
      exact i2 x e
/-- the open region -/
def openRg : Rg := ⟨[], openF, fun _ => none⟩
theorem openRg_ok (m : Nat) : RgOk m openRg := clo_open m
theorem openRg_in (us : List V) : InR us openRg := ⟨fun e he => absurd he (by show e ∉ ([] : List Edge); simp), fun k b e => by cases e⟩
theorem pg_stOk {ks : List Bool} {p : Pg} (hw : Wk ks p) : StOk ks (own ks p) [.pg p] [] := ⟨[], True.intro, hw, rfl⟩
end Lm

set_option Elab.async false
set_option linter.all false
set_option maxRecDepth 100000
set_option maxHeartbeats 4000000
/-! how often a walk asks: its compares, and the truths not yet known -/
namespace Lm
open PySem PySem.Spec PyProof.Rows L2 LmR
def ccp : Pg → Nat
  | .inp _ => 0
  | .num _ => 0
  | .tr _ => 0
  | .plus _ a => ccp a
  | .bin w a b => ccp a + ccp b + (if isCmp w = true then 1 else 0)
  | .neg a => ccp a
  | .ite p a b => ccp p + ccp a + ccp b
def kcc : Tk → Nat
  | .pg p => ccp p
  | .add _ => 0
  | .meet _ => 1
  | .pick p q => ccp p + ccp q
def wcc : List Tk → Nat
  | [] => 0
  | k :: t => kcc k + wcc t
/-- compares are fewer than knots by half -/
theorem ccp_le : ∀ p : Pg, 2 * ccp p + 1 ≤ psz p
  | .inp _ => Nat.le_refl _
  | .num _ => Nat.le_refl _
  | .tr _ => Nat.le_refl _
  | .plus c a => by have := ccp_le a; simp only [ccp, psz]; omega
  | .bin w a b => by have := ccp_le a; have := ccp_le b; simp only [ccp, psz]; split <;> omega
  | .neg a => by have := ccp_le a; simp only [ccp, psz]; omega
  | .ite p a b => by have := ccp_le a; have := ccp_le b; have := ccp_le p; simp only [ccp, psz]; omega
theorem step_cc {ks : List Bool} {r : Rg} {k : Tk} {t : List Tk} {e : List En} {t' : List Tk} {e' : List En} (h : stepW ks r k t e = .go t' e') : wcc t' ≤ wcc (k :: t) := by
  unfold stepW at h
  split at h
  all_goals (try split at h)
  all_goals (try split at h)
  all_goals first
    | (cases h; done)
    | (cases h; simp only [wcc, kcc, ccp, isCmp]; omega)
    | (cases h; simp only [wcc, kcc, ccp, isCmp]; split <;> omega)
    | (cases h; rename_i w _ _ n1 n2; cases w <;> first | exact (n1 rfl).elim | exact (n2 rfl).elim | (simp only [wcc, kcc, ccp, isCmp, if_pos]; omega))
/-- what asks is a compare or a truth; answered, it is done -/
theorem ask_shape {ks : List Bool} {r r0 : Rg} {k : Tk} {t : List Tk} {e : List En} {q : Qn} (h : stepW ks r k t e = .ask q) (hgo : ∃ t2 e2, stepW ks r0 k t e = .go t2 e2) :
    (∀ r' t2 e2, stepW ks r' k t e = .go t2 e2 → t2 = t) ∧ ((∃ w, k = .meet w) ∧ (∃ i j c, q = .row i j c) ∨ ∃ n, k = .pg (.inp n) ∧ q = .truth n) := by
  obtain ⟨t0, e0, hgo⟩ := hgo
  cases k with
  | pg p =>
    cases p with
    | inp n =>
      have es : ∀ r', stepW ks r' (.pg (.inp n)) t e = (if ks.getD n false = true then (match r'.T n with
        | none => .ask (.truth n)
        | some b => .go t (.tr b :: e)) else .go t (.num n 0 :: e)) := fun r' => rfl
      rw [es] at h
      by_cases hb : ks.getD n false = true
      · rw [if_pos hb] at h
        refine ⟨fun r' t2 e2 z => ?_, .inr ⟨n, rfl, ?_⟩⟩
        · rw [es, if_pos hb] at z
          cases hT : r'.T n with
          | none => rw [hT] at z; cases z
          | some b => rw [hT] at z; cases z; rfl
        · cases hT : r.T n with
          | none => rw [hT] at h; cases h; rfl
          | some b => rw [hT] at h; cases h
      · rw [if_neg hb] at h
        cases h
    | num c => cases h
    | tr c => cases h
    | plus c a => cases h
    | neg a => cases h
    | ite p a b => cases h
    | bin w a b => cases w <;> cases h
  | add c =>
    cases e with
    | nil => cases hgo
    | cons x e => cases x with
      | num i d => cases h
      | tr b => cases hgo
  | pick p p' =>
    cases e with
    | nil => cases hgo
    | cons x e => cases x with
      | num i d => cases hgo
      | tr b => cases h
  | meet w =>
    cases e with
    | nil => cases hgo
    | cons x e => cases x with
      | tr b => cases hgo
      | num j d => cases e with
        | nil => cases hgo
        | cons y e => cases y with
          | tr b => cases hgo
          | num i c =>
            have es : ∀ r', stepW ks r' (.meet w) t (.num j d :: .num i c :: e) = (match ansIn ks.length r' (.row i j (d - c)) with
              | none => .ask (.row i j (d - c))
              | some b => .go t (metE w b (.num i c) (.num j d) :: e)) := fun r' => rfl
            rw [es] at h
            refine ⟨fun r' t2 e2 z => ?_, .inl ⟨⟨w, rfl⟩, ?_⟩⟩
            · rw [es] at z
              cases hA : ansIn ks.length r' (.row i j (d - c)) with
              | none => rw [hA] at z; cases z
              | some b => rw [hA] at z; cases z; rfl
            · cases hA : ansIn ks.length r (.row i j (d - c)) with
              | none => rw [hA] at h; cases h; exact ⟨_, _, _, rfl⟩
              | some b => rw [hA] at h; cases h
theorem walk_cc {ks : List Bool} {r : Rg} : ∀ (n : Nat) (t : List Tk) (e : List En), wcc (walkW ks r n t e).2.1 ≤ wcc t
  | n, [], e => by cases n <;> exact Nat.le_refl _
  | 0, k :: t, e => Nat.le_refl _
  | n + 1, k :: t, e => by
    show wcc (match stepW ks r k t e with
      | .ask q => (Fr.qn q, k :: t, e)
      | .go t' e' => walkW ks r n t' e').2.1 ≤ _
    cases hs : stepW ks r k t e with
    | ask q => exact Nat.le_refl _
    | go t' e' => exact Nat.le_trans (walk_cc n t' e') (step_cc hs)
/-- the state that asks -/
theorem walk_ask {ks : List Bool} {r : Rg} {q : Qn} {t' : List Tk} {e' : List En} : ∀ (n : Nat) (t : List Tk) (e : List En), walkW ks r n t e = (.qn q, t', e') → ∃ k u, t' = k :: u ∧ stepW ks r k u e' = .ask q
  | n, [], e, h => by cases n <;> cases h
  | 0, k :: t, e, h => by cases h
  | n + 1, k :: t, e, h => by
    have h : (match stepW ks r k t e with
      | .ask q => (Fr.qn q, k :: t, e)
      | .go t' e' => walkW ks r n t' e') = (.qn q, t', e') := h
    cases hs : stepW ks r k t e with
    | ask q' =>
      rw [hs] at h
      cases h
      exact ⟨k, t, rfl, hs⟩
    | go t2 e2 =>
      rw [hs] at h
      exact walk_ask n t2 e2 h
/-- truths not yet known -/
def uT (ks : List Bool) (r : Rg) : Nat := (List.range ks.length).countP fun k => ks.getD k false && (r.T k).isNone
theorem countP_less {p p' : Nat → Bool} {n : Nat} : ∀ l : List Nat, n ∈ l → p n = true → p' n = false → (∀ x, p' x = true → p x = true) → l.countP p' + 1 ≤ l.countP p := by
  intro l
  induction l with
  | nil => intro h; cases h
  | cons x l ih =>
    intro h hp hp' hs
    have mono : l.countP p' ≤ l.countP p := List.countP_mono_left fun y _ => hs y
    rw [List.countP_cons, List.countP_cons]
    by_cases e : x = n
    · subst e
      rw [hp, hp']
      simp
      exact mono
    · have hm : n ∈ l := (List.mem_cons.mp h).resolve_left (Ne.symm e)
      have := ih hm hp hp' hs
      by_cases px' : p' x = true
      · rw [px', hs x px']; omega
      · rw [if_neg px']
        split <;> omega
theorem uT_less {ks : List Bool} {r : Rg} {n : Nat} {b : Bool} (hk : ks[n]? = some true) (hn : r.T n = none) : uT ks (nar ks.length r (.truth n) b) + 1 ≤ uT ks r := by
  have hl : n < ks.length := (List.getElem?_eq_some_iff.mp hk).1
  have eg : ks.getD n false = true := by rw [List.getD_eq_getElem?_getD, hk]; rfl
  refine countP_less (n := n) _ (List.mem_range.mpr hl) ?_ ?_ fun x hx => ?_
  · rw [eg, hn]; rfl
  · show (ks.getD n false && (if n = n then some b else r.T n).isNone) = false
    rw [if_pos rfl, eg]; rfl
  · have hx : (ks.getD x false && (if x = n then some b else r.T x).isNone) = true := hx
    by_cases e : x = n
    · rw [if_pos e, Bool.and_eq_true] at hx
      cases hx.2
    · rw [if_neg e] at hx
      exact hx
/-- a tree's size by compares and truths -/
theorem ct_cnt {ks : List Bool} {κ : Bool} : ∀ (d : DT) (r : Rg) (t : List Tk) (e : List En), Ct ks r t e d → RgOk ks.length r → StOk ks κ t e → d.dep ≤ wcc t + uT ks r + 1 ∧ d.list.length < 2 ^ (wcc t + uT ks r + 1)
  | .en r0 x, r, t, e, h, ok, st => ⟨by simp [DT.dep], Nat.one_lt_two_pow (by omega)⟩
  | .qn r q y n, r1, t, e, h, ok, st => by
    have er : r = r1 := ct_top h
    subst er
    cases h with
    | @qn _ _ _ _ t' e' _ _ h hy hn =>
      have w := walk_ok ok (wsz t) t e (Nat.le_refl _) st
      rw [h] at w
      obtain ⟨qo, qn, st', _, _, _, k, u, rfl, _, go, _⟩ := w
      have mono := walk_cc (ks := ks) (r := r) (wsz t) t e
      rw [h] at mono
      have mono : wcc (k :: u) ≤ wcc t := mono
      obtain ⟨k', u', ek, ask⟩ := walk_ask _ _ _ h
      cases ek
      obtain ⟨sh1, sh2⟩ := ask_shape ask (go true)
      have child : ∀ (b : Bool) (c : DT), Ct ks (nar ks.length r q b) (k :: u) e' c → (∀ r2 t2 e2, Ct ks r2 t2 e2 c → RgOk ks.length r2 → StOk ks κ t2 e2 → c.dep ≤ wcc t2 + uT ks r2 + 1 ∧ c.list.length < 2 ^ (wcc t2 + uT ks r2 + 1)) →
          c.dep ≤ wcc t + uT ks r ∧ c.list.length < 2 ^ (wcc t + uT ks r) := fun b c hc ih => by
        have okb := nar_ok ok qo qn b
        obtain ⟨t2, e2, hs⟩ := go b
        have so := step_ok okb st'
        rw [hs] at so
        obtain ⟨s1, s2, _, _⟩ := so
        have e1 : walkW ks (nar ks.length r q b) (wsz (k :: u)) (k :: u) e' = walkW ks (nar ks.length r q b) (wsz t2) t2 e2 := by
          obtain ⟨n1, en1⟩ : ∃ n1, wsz (k :: u) = n1 + 1 := ⟨wsz (k :: u) - 1, by omega⟩
          rw [en1]
          show (match stepW ks (nar ks.length r q b) k u e' with | .ask q => (Fr.qn q, k :: u, e') | .go t' e' => walkW ks (nar ks.length r q b) n1 t' e') = _
          rw [hs]
          exact walk_more okb n1 (wsz t2) t2 e2 (by omega) (Nat.le_refl _) s1
        have c2 : Ct ks (nar ks.length r q b) t2 e2 c := by
          cases hc with
          | en h => exact .en (e1.symm.trans h)
          | qn h hy hn => exact .qn (e1.symm.trans h) hy hn
        obtain ⟨i1, i2⟩ := ih _ _ _ c2 okb s1
        have et := sh1 _ _ _ hs
        subst et
        have less : wcc t2 + uT ks (nar ks.length r q b) + 1 ≤ wcc t + uT ks r := by
          rcases sh2 with ⟨⟨w, rfl⟩, i, j, c, rfl⟩ | ⟨m, rfl, rfl⟩
          · have e1 : uT ks (nar ks.length r (.row i j c) b) = uT ks r := by cases b <;> rfl
            have e2 : wcc (.meet w :: t2) = 1 + wcc t2 := rfl
            omega
          · have e1 := uT_less (b := b) (show ks[m]? = some true from qo) (show r.T m = none from qn)
            have e2 : wcc (.pg (.inp m) :: t2) = 0 + wcc t2 := rfl
            omega
        exact ⟨by omega, Nat.lt_of_lt_of_le i2 (Nat.pow_le_pow_right (by decide) less)⟩
      obtain ⟨a1, a2⟩ := child true y hy (ct_cnt y)
      obtain ⟨b1, b2⟩ := child false n hn (ct_cnt n)
      refine ⟨by show max y.dep n.dep + 1 ≤ _; omega, ?_⟩
      show (_ :: (y.list ++ n.list)).length < 2 ^ (wcc t + uT ks r + 1)
      rw [List.length_cons, List.length_append, Nat.pow_succ]
      omega
theorem uT_le (ks : List Bool) (r : Rg) : uT ks r ≤ ks.length := by
  unfold uT
  exact Nat.le_trans List.countP_le_length (by rw [List.length_range]; exact Nat.le_refl _)
/-- its cases are few enough to be listed -/
def Few (ks : List Bool) (p : Pg) : Prop := psz p ≤ 22 ∨ ccp p + ks.length ≤ 22
theorem few_has {ks : List Bool} {p : Pg} (hw : Wk ks p) (h : Few ks p) : ∃ d, Ct ks openRg [.pg p] [] d ∧ d.Fits ks (own ks p) ∧ d.dep ≤ 23 ∧ d.list.length < 8388609 := by
  obtain ⟨d, hd, hf, hdep, hlen⟩ := ct_has (r := openRg) (openRg_ok ks.length) (pg_stOk hw)
  refine ⟨d, hd, hf, ?_⟩
  rcases h with h | h
  · have hcq : wcq [.pg p] ≤ 22 := by
      have := cqp_le p
      show cqp p + 0 ≤ 22
      omega
    exact ⟨by omega, Nat.lt_of_lt_of_le hlen (Nat.le_trans (Nat.pow_le_pow_right (by decide) (Nat.succ_le_succ hcq)) (by decide))⟩
  · obtain ⟨c1, c2⟩ := ct_cnt (κ := own ks p) d openRg [.pg p] [] hd (openRg_ok _) (pg_stOk hw)
    have hu := uT_le ks openRg
    have hcc : wcc [.pg p] + uT ks openRg ≤ 22 := by
      show ccp p + 0 + uT ks openRg ≤ 22
      omega
    exact ⟨by omega, Nat.lt_of_lt_of_le c2 (Nat.le_trans (Nat.pow_le_pow_right (by decide) (Nat.succ_le_succ hcc)) (by decide))⟩
/-- one tree alone -/
theorem ct_one {ks : List Bool} {r : Rg} {t : List Tk} {e : List En} {d : DT} (h : Ct ks r t e d) : ∀ d', Ct ks r t e d' → d' = d := by
  induction h with
  | @en r t e x t' e' h =>
    intro d' h'
    cases h' with
    | en h2 =>
      rw [h] at h2
      cases h2
      rfl
    | qn h2 _ _ =>
      rw [h] at h2
      cases h2
  | @qn r t e q t' e' y n h hy hn ihy ihn =>
    intro d' h'
    cases h' with
    | en h2 =>
      rw [h] at h2
      cases h2
    | qn h2 hy' hn' =>
      rw [h] at h2
      cases h2
      rw [ihy _ hy', ihn _ hn']
end Lm

set_option Elab.async false
set_option linter.all false
set_option maxRecDepth 100000
set_option maxHeartbeats 4000000
/-! a count of a tree's knots by ways out, and by what is fixed -/
namespace Lm
open PySem PySem.Spec PyProof.Rows L2 LmR
/-- its cases are few enough to be listed -/
def FewT (ks : List Bool) (p : Pg) : Prop := ∃ d, Ct ks openRg [.pg p] [] d ∧ d.Fits ks (own ks p) ∧ d.list.length < 8388609
theorem few_t {ks : List Bool} {p : Pg} (hw : Wk ks p) (h : Few ks p) : FewT ks p := by
  obtain ⟨d, a, b, _, c⟩ := few_has hw h
  exact ⟨d, a, b, c⟩
/-- narrower -/
structure Nrw (r' r : Rg) : Prop where
  d : ∀ a b x, r.D a b = some x → leO (r'.D a b) x
  t : ∀ k b, r.T k = some b → r'.T k = some b
theorem Nrw.rfl' (r : Rg) : Nrw r r := ⟨fun _ _ x h => ⟨x, h, Int.le_refl _⟩, fun _ _ h => h⟩
theorem Nrw.trans {a b c : Rg} (x : Nrw a b) (y : Nrw b c) : Nrw a c := ⟨fun i j v h => by
  obtain ⟨w, e, l⟩ := y.d i j v h
  exact (x.d i j w e).le l, fun k v h => x.t k v (y.t k v h)⟩
theorem nrw_nar {m : Nat} {r : Rg} {q : Qn} (n : ansIn m r q = none) (b : Bool) : Nrw (nar m r q b) r := by
  cases q with
  | row i j c => cases b <;> exact ⟨fun _ _ _ h => step_le h, fun _ _ h => h⟩
  | truth k =>
    refine ⟨fun _ _ x h => ⟨x, h, Int.le_refl _⟩, fun x v h => ?_⟩
    show (if x = k then some b else r.T x) = some v
    by_cases e : x = k
    · rw [e, show r.T k = none from n] at h; cases h
    · rw [if_neg e]; exact h
def Cnt (ks : List Bool) (κ : Bool) (r : Rg) (t : List Tk) (e : List En) (N : Nat) : Prop := RgOk ks.length r → StOk ks κ t e → ∀ d, Ct ks r t e d → d.list.length + 1 ≤ 2 * N
section
variable {ks : List Bool} {κ : Bool} {r : Rg}
theorem Cnt.le {t : List Tk} {e : List En} {N M : Nat} (h : Cnt ks κ r t e N) (l : N ≤ M) : Cnt ks κ r t e M := fun a b d c => by have := h a b d c; omega
/-- a step that asks nothing -/
theorem cnt_go {k : Tk} {t t' : List Tk} {e e' : List En} {N : Nat} (hs : stepW ks r k t e = .go t' e') (h : Cnt ks κ r t' e' N) : Cnt ks κ r (k :: t) e N := fun ok st d hd => by
  have so := step_ok ok st
  rw [hs] at so
  obtain ⟨s1, s2, _, _⟩ := so
  have e1 : walkW ks r (wsz (k :: t)) (k :: t) e = walkW ks r (wsz t') t' e' := by
    obtain ⟨n1, en1⟩ : ∃ n1, wsz (k :: t) = n1 + 1 := ⟨wsz (k :: t) - 1, by omega⟩
    rw [en1]
    show (match stepW ks r k t e with | .ask q => (Fr.qn q, k :: t, e) | .go t' e' => walkW ks r n1 t' e') = _
    rw [hs]
    exact walk_more ok n1 (wsz t') t' e' (by omega) (Nat.le_refl _) s1
  refine h ok s1 d ?_
  cases hd with
  | en h => exact .en (e1.symm.trans h)
  | qn h hy hn => exact .qn (e1.symm.trans h) hy hn
/-- a step that asks -/
theorem cnt_ask {k : Tk} {t : List Tk} {e : List En} {q : Qn} {N M : Nat} (hs : stepW ks r k t e = .ask q) (hy : ansIn ks.length r q = none → Cnt ks κ (nar ks.length r q true) (k :: t) e N) (hn : ansIn ks.length r q = none → Cnt ks κ (nar ks.length r q false) (k :: t) e M) : Cnt ks κ r (k :: t) e (N + M) := fun ok st d hd => by
  have so := step_ok ok st
  rw [hs] at so
  obtain ⟨qo, qn, _⟩ := so
  have e1 : walkW ks r (wsz (k :: t)) (k :: t) e = (.qn q, k :: t, e) := by
    have := ksz_pos k
    obtain ⟨n1, en1⟩ : ∃ n1, wsz (k :: t) = n1 + 1 := ⟨wsz (k :: t) - 1, by simp only [wsz]; omega⟩
    rw [en1]
    show (match stepW ks r k t e with | .ask q => (Fr.qn q, k :: t, e) | .go t' e' => walkW ks r n1 t' e') = _
    rw [hs]
  cases hd with
  | en h => rw [e1] at h; cases h
  | @qn _ _ _ _ _ _ y n h h1 h2 =>
    rw [e1] at h
    cases h
    have a := hy qn (nar_ok ok qo qn true) st _ h1
    have b := hn qn (nar_ok ok qo qn false) st _ h2
    show (_ :: (y.list ++ n.list)).length + 1 ≤ _
    rw [List.length_cons, List.length_append]
    omega
/-- a compare of two ends -/
theorem cnt_meet {w : Bw} {t : List Tk} {e : List En} {i c j d : Int} {N : Bool → Nat} (qo : QOk ks (.row i j (d - c))) (ok : RgOk ks.length r) (h : ∀ b r', Nrw r' r → RgOk ks.length r' → ansIn ks.length r' (.row i j (d - c)) = some b → Cnt ks κ r' t (metE w b (.num i c) (.num j d) :: e) (N b)) : Cnt ks κ r (.meet w :: t) (.num j d :: .num i c :: e) (N true + N false) := by
  have es : ∀ r', stepW ks r' (.meet w) t (.num j d :: .num i c :: e) = (match ansIn ks.length r' (.row i j (d - c)) with
    | none => .ask (.row i j (d - c))
    | some b => .go t (metE w b (.num i c) (.num j d) :: e)) := fun r' => rfl
  cases hA : ansIn ks.length r (.row i j (d - c)) with
  | some b =>
    refine (cnt_go (by rw [es, hA]) (h b r (Nrw.rfl' r) ok hA)).le ?_
    cases b <;> omega
  | none =>
    have side : ∀ b, Cnt ks κ (nar ks.length r (.row i j (d - c)) b) (.meet w :: t) (.num j d :: .num i c :: e) (N b) := fun b => by
      have ha := nar_ans ok qo hA b
      exact cnt_go (by rw [es, ha]) (h b _ (nrw_nar hA b) (nar_ok ok qo hA b) ha)
    exact cnt_ask (q := .row i j (d - c)) (by rw [es, hA]) (fun _ => side true) (fun _ => side false)
/-- a truth that is handed in -/
theorem cnt_in {k : Nat} {t : List Tk} {e : List En} {N : Bool → Nat} (hk : ks[k]? = some true) (ok : RgOk ks.length r) (h : ∀ b r', Nrw r' r → RgOk ks.length r' → r'.T k = some b → Cnt ks κ r' t (.tr b :: e) (N b)) : Cnt ks κ r (.pg (.inp k) :: t) e (N true + N false) := by
  have eb : ks.getD k false = true := by rw [List.getD_eq_getElem?_getD, hk]; rfl
  have es : ∀ r', stepW ks r' (.pg (.inp k)) t e = (match r'.T k with
    | none => .ask (.truth k)
    | some b => .go t (.tr b :: e)) := fun r' => by
      show (if ks.getD k false = true then (match r'.T k with
        | none => Ans.ask (.truth k)
        | some b => .go t (.tr b :: e)) else .go t (.num k 0 :: e)) = _
      rw [eb, if_pos rfl]
  cases hA : r.T k with
  | some b =>
    refine (cnt_go (by rw [es, hA]) (h b r (Nrw.rfl' r) ok hA)).le ?_
    cases b <;> omega
  | none =>
    have qo : QOk ks (.truth k) := hk
    have side : ∀ b, Cnt ks κ (nar ks.length r (.truth k) b) (.pg (.inp k) :: t) e (N b) := fun b => by
      have ha : (nar ks.length r (.truth k) b).T k = some b := if_pos rfl
      exact cnt_go (by rw [es, ha]) (h b _ (nrw_nar (q := .truth k) hA b) (nar_ok ok qo hA b) ha)
    exact cnt_ask (q := .truth k) (by rw [es, hA]) (fun _ => side true) (fun _ => side false)
/-! ### what is fixed -/
/-- input k is known -/
def Fx (ks : List Bool) (r : Rg) (k : Nat) : Prop := (ks[k]? = some true → ∃ b, r.T k = some b) ∧ (ks[k]? = some false → ∃ c, leO (r.D k ks.length) c ∧ leO (r.D ks.length k) (-c))
theorem Fx.nrw {r' : Rg} {k : Nat} (h : Fx ks r k) (n : Nrw r' r) : Fx ks r' k := by
  refine ⟨fun e => ?_, fun e => ?_⟩
  · obtain ⟨b, hb⟩ := h.1 e
    exact ⟨b, n.t _ _ hb⟩
  · obtain ⟨c, ⟨x, e1, l1⟩, ⟨y, e2, l2⟩⟩ := h.2 e
    exact ⟨c, (n.d _ _ _ e1).le l1, (n.d _ _ _ e2).le l2⟩
theorem fx_ends (ok : RgOk ks.length r) (hf : ∀ k, k < ks.length → Fx ks r k) {i : Int} (h : NumAt ks i) : ∃ c, leO (r.D (pl ks.length i) ks.length) c ∧ leO (r.D ks.length (pl ks.length i)) (-c) := by
  rcases h with h | ⟨k, h, e⟩
  · subst h
    rw [show pl ks.length (-1) = ks.length from if_pos rfl, ok.z _ (Nat.le_refl _)]
    exact ⟨0, ⟨0, rfl, by decide⟩, ⟨0, rfl, by decide⟩⟩
  · subst h
    have ep : pl ks.length (k : Int) = k := by unfold pl; rw [if_neg (by omega), Int.toNat_natCast]
    rw [ep]
    exact (hf k (List.getElem?_eq_some_iff.mp e).1).2 e
/-- where all inputs are known no question is open -/
theorem fx_known (ok : RgOk ks.length r) (hf : ∀ k, k < ks.length → Fx ks r k) {q : Qn} (qo : QOk ks q) : ansIn ks.length r q ≠ none := by
  cases q with
  | truth k =>
    have hk : k < ks.length := (List.getElem?_eq_some_iff.mp (show ks[k]? = some true from qo)).1
    obtain ⟨b, hb⟩ := (hf k hk).1 qo
    show r.T k ≠ none
    rw [hb]
    exact fun z => by cases z
  | row i j c =>
    obtain ⟨ci, ⟨x1, a1, l1⟩, ⟨x2, a2, l2⟩⟩ := fx_ends ok hf qo.1
    obtain ⟨cj, ⟨y1, b1, m1⟩, ⟨y2, b2, m2⟩⟩ := fx_ends ok hf qo.2
    obtain ⟨d, ed, ld⟩ := ok.t _ _ _ _ _ qo.1.pl qo.2.pl (Nat.le_refl _) a1 b2
    obtain ⟨d', ed', ld'⟩ := ok.t _ _ _ _ _ qo.2.pl qo.1.pl (Nat.le_refl _) b1 a2
    show knownF r.D (pl ks.length i) (pl ks.length j) c ≠ none
    unfold knownF
    by_cases z : ci - cj ≤ c
    · rw [ed, if_pos (show leB (some d) c = true from decide_eq_true (by omega))]
      exact fun z => by cases z
    · split
      · exact fun z => by cases z
      · rw [ed', if_pos (show ltB (some d') c = true from decide_eq_true (by omega))]
        exact fun z => by cases z
theorem cnt_fx {t : List Tk} {e : List En} (hf : ∀ k, k < ks.length → Fx ks r k) : Cnt ks κ r t e 1 := fun ok st d hd => by
  have w := walk_ok ok (wsz t) t e (Nat.le_refl _) st
  cases hd with
  | en h => show 1 + 1 ≤ 2 * 1; decide
  | qn h _ _ =>
    rw [h] at w
    exact absurd w.2.1 (fx_known ok hf w.1)
theorem cnt_end {x : En} : Cnt ks κ r [] [x] 1 := fun ok st d hd => by
  have ew : walkW ks r (wsz []) [] [x] = (.en x, [], [x]) := rfl
  cases hd with
  | en h => show 1 + 1 ≤ 2 * 1; decide
  | qn h _ _ => rw [ew] at h; cases h
/-! ### ways out of a truth program: f that are False, and one that is True, where P holds then -/
def Out (ks : List Bool) (p : Pg) (f : Nat) (F P : Rg → Prop) : Prop := ∀ (κ : Bool) (r : Rg) (t : List Tk) (e : List En) (N0 N1 : Nat), RgOk ks.length r → F r → (∀ r', Nrw r' r → RgOk ks.length r' → Cnt ks κ r' t (.tr false :: e) N0) → (∀ r', Nrw r' r → RgOk ks.length r' → P r' → Cnt ks κ r' t (.tr true :: e) N1) → Cnt ks κ r (.pg p :: t) e (f * N0 + N1)
theorem num_at {k : Nat} (h : ks[k]? = some false) : NumAt ks (k : Int) := .inr ⟨k, rfl, h⟩
theorem in_go {k : Nat} {t : List Tk} {e : List En} (h : ks[k]? = some false) : stepW ks r (.pg (.inp k)) t e = .go t (.num k 0 :: e) := by
  have eb : ks.getD k false = false := by rw [List.getD_eq_getElem?_getD, h]; rfl
  show (if ks.getD k false = true then (match r.T k with
    | none => Ans.ask (.truth k)
    | some b => .go t (.tr b :: e)) else .go t (.num k 0 :: e)) = _
  rw [eb, if_neg Bool.false_ne_true]
theorem pl_nat {m k : Nat} : pl m (k : Int) = k := by unfold pl; rw [if_neg (by omega), Int.toNat_natCast]
theorem pl_neg {m : Nat} : pl m (-1) = m := if_pos rfl
theorem out_up {k : Nat} {c : Int} (h : ks[k]? = some false) : Out ks (.bin .atmost (.inp k) (.num c)) 1 (fun _ => True) (fun r => leO (r.D k ks.length) c) := fun κ r t e N0 N1 ok _ h0 h1 => by
  refine cnt_go (t' := .pg (.inp k) :: .pg (.num c) :: .meet .atmost :: t) (e' := e) rfl ?_
  refine cnt_go (t' := .pg (.num c) :: .meet .atmost :: t) (e' := .num k 0 :: e) (in_go h) ?_
  refine cnt_go (t' := .meet .atmost :: t) (e' := .num (-1) c :: .num k 0 :: e) rfl ?_
  refine (cnt_meet (N := fun b => if b = true then N1 else N0) ⟨num_at h, .inl rfl⟩ ok fun b r' n ok' ha => ?_).le (by simp; omega)
  cases b with
  | false => exact h0 r' n ok'
  | true =>
    refine h1 r' n ok' ?_
    have ha : knownF r'.D (pl ks.length (k : Int)) (pl ks.length (-1)) (c - 0) = some true := ha
    obtain ⟨d, ed, l⟩ := known_tt ha
    rw [pl_nat, pl_neg] at ed
    exact ⟨d, ed, by omega⟩
theorem out_down {k : Nat} {c : Int} (h : ks[k]? = some false) : Out ks (.bin .atmost (.num c) (.inp k)) 1 (fun _ => True) (fun r => leO (r.D ks.length k) (-c)) := fun κ r t e N0 N1 ok _ h0 h1 => by
  refine cnt_go (t' := .pg (.num c) :: .pg (.inp k) :: .meet .atmost :: t) (e' := e) rfl ?_
  refine cnt_go (t' := .pg (.inp k) :: .meet .atmost :: t) (e' := .num (-1) c :: e) rfl ?_
  refine cnt_go (t' := .meet .atmost :: t) (e' := .num k 0 :: .num (-1) c :: e) (in_go h) ?_
  refine (cnt_meet (N := fun b => if b = true then N1 else N0) ⟨.inl rfl, num_at h⟩ ok fun b r' n ok' ha => ?_).le (by simp; omega)
  cases b with
  | false => exact h0 r' n ok'
  | true =>
    refine h1 r' n ok' ?_
    have ha : knownF r'.D (pl ks.length (-1)) (pl ks.length (k : Int)) (0 - c) = some true := ha
    obtain ⟨d, ed, l⟩ := known_tt ha
    rw [pl_nat, pl_neg] at ed
    exact ⟨d, ed, by omega⟩
theorem out_both {a b : Pg} {f g : Nat} {F P P' : Rg → Prop} (hF : ∀ r r', Nrw r' r → F r → F r') (hP : ∀ r r', Nrw r' r → P r → P r') (ha : Out ks a f F P) (hb : Out ks b g (fun r => F r ∧ P r) P') : Out ks (.bin .both a b) (f + g) F (fun r => P r ∧ P' r) := fun κ r t e N0 N1 ok hf h0 h1 => by
  refine cnt_go (t' := .pg a :: .pick b (.tr false) :: t) (e' := e) rfl ?_
  refine (ha κ r _ e N0 (g * N0 + N1) ok hf (fun r' n ok' => ?_) (fun r' n ok' p => ?_)).le (by rw [Nat.add_mul]; omega)
  · exact cnt_go (t' := .pg (.tr false) :: t) (e' := e) rfl (cnt_go (t' := t) (e' := .tr false :: e) rfl (h0 r' n ok'))
  · refine cnt_go (t' := .pg b :: t) (e' := e) rfl ?_
    exact hb κ r' t e N0 N1 ok' ⟨hF _ _ n hf, p⟩ (fun r2 n2 ok2 => h0 r2 (n2.trans n) ok2) (fun r2 n2 ok2 p2 => h1 r2 (n2.trans n) ok2 ⟨hP _ _ n2 p, p2⟩)
end
end Lm

set_option Elab.async false
set_option linter.all false
set_option maxRecDepth 100000
set_option maxHeartbeats 2000000
set_option pp.maxSteps 2000
set_option pp.deepTerms.threshold 12
namespace Lm
open PySem PySem.Spec PyProof.Rows L2 LmR RZ
/-! ### data of regions, questions, ends -/
abbrev ksV (ks : List Bool) : List V := ks.map fun b => V.str (kS b)
def obPD : Option Bool → PyData
  | none => .none
  | some b => .bool b
def factPD (ks : List Bool) (T : Nat → Option Bool) (k : Nat) : PyData := if ks.getD k false = true then obPD (T k) else .tuple [.int k, .int 0]
def factsPD (ks : List Bool) (T : Nat → Option Bool) : List PyData := (List.range ks.length).map (factPD ks T)
def rgPD (ks : List Bool) (r : Rg) : PyData := .tuple [cloPD r.D ks.length, .tuple (factsPD ks r.T)]
def qnPD : Qn → List PyData
  | .row i j c => [.str "row", .int i, .int j, .int c]
  | .truth k => [.str "truth", .int k]
def qnV : Qn → List V
  | .row i j c => [.str "row", .int i, .int j, .int c]
  | .truth k => [.str "truth", .int k]
def enPD : En → PyData
  | .num i c => .tuple [.int i, .int c]
  | .tr b => .bool b
def frPD : Fr → List PyData
  | .qn q => qnPD q
  | .en x => [.str "end", enPD x]
theorem obPD_flat (o : Option Bool) : flat (obPD o) = true := by cases o <;> rfl
theorem factPD_flat (ks : List Bool) (T : Nat → Option Bool) (k : Nat) : flat (factPD ks T k) = true := by
  unfold factPD
  split
  · exact obPD_flat _
  · rfl
theorem factsPD_flat (ks : List Bool) (T : Nat → Option Bool) : flat.flats (factsPD ks T) = true := flats_map _ (fun k => factPD_flat ks T k) _
theorem rgPD_flat (ks : List Bool) (r : Rg) : flat (rgPD ks r) = true := by
  show (flat (cloPD r.D ks.length) && (flat.flats (factsPD ks r.T) && true)) = true
  rw [cloPD_flat, factsPD_flat]
  rfl
theorem qnPD_flat (q : Qn) : flat.flats (qnPD q) = true := by cases q <;> rfl
theorem enPD_flat (x : En) : flat (enPD x) = true := by cases x <;> rfl
theorem frPD_flat (f : Fr) : flat.flats (frPD f) = true := by
  cases f with
  | qn q => exact qnPD_flat q
  | en x =>
    show (true && (flat (enPD x) && true)) = true
    rw [enPD_flat]
    rfl
section
variable {P : Program} {w : World} {K : PySem.W.Frag} {mg : Str → Option Value} {base : Heap}
theorem qn_dps {H : Hp} (q : Qn) : DpAll K H (qnV q) (qnPD q) := by
  cases q with
  | row i j c => exact .cons (.str _) (.cons (.int _) (.cons (.int _) (.cons (.int _) .nil)))
  | truth k => exact .cons (.str _) (.cons (.int _) .nil)
theorem dps_qn {H : Hp} {q : Qn} {vs : List V} (h : DpAll K H vs (qnPD q)) : vs = qnV q := by
  cases q with
  | row i j c =>
    cases h with
    | cons a h => cases h with
      | cons b h => cases h with
        | cons c h => cases h with
          | cons d h => cases a; cases b; cases c; cases d; cases h; rfl
  | truth k =>
    cases h with
    | cons a h => cases h with
      | cons b h => cases a; cases b; cases h; rfl
theorem kS_inj' {a b : Bool} (h : V.str (kS a) = V.str (kS b)) : a = b := by
  cases a <;> cases b <;> first | rfl | exact absurd h (by decide +kernel)
/-- a region that stands at v -/
theorem rg_open {K : PySem.W.Frag} {H : Hp} {v : V} {ks : List Bool} {r : Rg} (h : Fd K H v (rgPD ks r)) : ∃ a cv ft fs, v = .ref a ∧ SqT K H a [cv, .ref ft] ∧ Fd K H cv (cloPD r.D ks.length) ∧ SqT K H ft fs ∧ DpAll K H fs (factsPD ks r.T) := by
  obtain ⟨_, h⟩ := h
  cases h with
  | tup q x =>
    cases x with
    | cons c x => cases x with
      | cons f x =>
        cases x
        cases f with
        | tup q2 f => exact ⟨_, _, _, _, rfl, q, ⟨cloPD_flat _ _, c⟩, q2, f⟩
theorem rg_mk {K : PySem.W.Frag} {H : Hp} {a ft : Addr} {cv : V} {fs : List V} {ks : List Bool} {r : Rg} (q : SqT K H a [cv, .ref ft]) (c : Fd K H cv (cloPD r.D ks.length)) (q2 : SqT K H ft fs) (f : DpAll K H fs (factsPD ks r.T)) : Fd K H (.ref a) (rgPD ks r) :=
  ⟨rgPD_flat _ _, .tup q (.cons c.2 (.cons (.tup q2 f) .nil))⟩
theorem qn_open {K : PySem.W.Frag} {H : Hp} {v : V} {q : Qn} (h : Fd K H v (.tuple (qnPD q))) : ∃ b, v = .ref b ∧ SqT K H b (qnV q) := by
  obtain ⟨_, h⟩ := h
  cases h with
  | tup s x =>
    rw [dps_qn x] at s
    exact ⟨_, rfl, s⟩
theorem facts_len (ks : List Bool) (T : Nat → Option Bool) : (factsPD ks T).length = ks.length := by unfold factsPD; rw [List.length_map, List.length_range]
theorem facts_at (ks : List Bool) (T : Nat → Option Bool) {k : Nat} (hk : k < ks.length) : (factsPD ks T)[k]? = some (factPD ks T k) := by
  unfold factsPD
  rw [List.getElem?_map, List.getElem?_range hk]
  rfl
theorem fact_truth {K : PySem.W.Frag} {H : Hp} {fs : List V} {ks : List Bool} {T : Nat → Option Bool} {k : Nat} (h : DpAll K H fs (factsPD ks T)) (e : ks[k]? = some true) : fs[k]? = some (oB (T k)) ∧ k < ks.length := by
  have hk : k < ks.length := (List.getElem?_eq_some_iff.mp e).1
  obtain ⟨hl, hg⟩ := dpall_getM (factPD ks T) h
  obtain ⟨v, ev, dv⟩ := hg k k (List.getElem?_range hk)
  have eg : ks.getD k false = true := by rw [List.getD_eq_getElem?_getD, e]; rfl
  unfold factPD at dv
  rw [if_pos eg] at dv
  refine ⟨?_, hk⟩
  rw [ev]
  cases hT : T k with
  | none => rw [hT] at dv; cases dv; rfl
  | some b => rw [hT] at dv; cases dv; rfl
abbrev s_open_region : Stmt := topS 27
theorem sc_open_region : FnScope ["kinds", "facts", "k", "kind"] ["kinds"] (defScope s_open_region) := ⟨rfl, rfl, rfl, by decide +kernel, rfl, by decide +kernel, by decide +kernel⟩
def spOpenR (K : PySem.W.Frag) : Sp := fun vs H Q _ => ∃ (ka : Addr) (ks : List Bool), vs = [.ref ka] ∧ SqT K H ka (ksV ks) ∧ ks.length ≤ 100 ∧ ∀ (v : V) (H' : Hp), Same H H' → Fd K H' v (rgPD ks openRg) → Q v H'
theorem ok_open_region (B : Bt mg) (C_open_bounds : Cal P w K mg base 1 "open_bounds" ["many"] (spOpen K)) (D : DefAt K mg "open_region" s_open_region ["kinds"]) : Cal P w K mg base 2 "open_region" ["kinds"] (spOpenR K) := by
  refine cal_of D sc_open_region (fun vs H Q E h => ?_) (fun f cdv A outer s H vs Q E hr h => ?_)
  · obtain ⟨ka, ks, rfl, _⟩ := h
    rfl
  obtain ⟨ka, ks, rfl, hk, hkl, q⟩ := h
  have hr' : Room 1 _ := hr
  refine ⟨_, (pss_cons (ps_setLc (i := 1) (own := [("k", 2), ("kind", 3)]) (g := gTup K 2 (gCons (gName 2) (gCons (gName 3) gNil))) rfl sc_open_region.nd rfl rfl (sw_true rfl rfl rfl (by decide +kernel)) (pi_enumT (by rfl) B.enumerate (pa_cons (pv 0) pa_nil)) (blkOk_by (own := [("k", 2), ("kind", 3)]) (N := ["kinds", "facts", "k", "kind"]) (sc := defScope s_open_region) (by decide +kernel)) (fun _ _ _ _ _ => (pg_tupK (K := K) rfl rfl (pgs_cons (pg_name (i := 2) sc_open_region.nd rfl (.inl rfl)) (pgs_cons (pg_name (i := 3) sc_open_region.nd rfl (.inl rfl)) pgs_nil)))) (fun _ _ _ _ _ => pts_nil) (fun _ _ _ _ _ => (pe_ifExp (pt_cmpR op_eq (pv 3) pe_str (nomark _)) (pe_tup (pa_cons (pv 2) (pa_cons pe_int pa_nil))) pe_non)))
      (pss_one (ps_ret (pe_tup (pa_cons (pe_cal C_open_bounds hr' (by rfl) (pa_cons (pe_callB call_len_seq (by rfl) B.len PySem.boot_len (pa_cons (pv 0) pa_nil)) pa_nil)) (pa_cons (pe_callTy call_tuple_of (by rfl) B.tuple PyProof.Rows.boot_tuple (pa_cons (pv 1) pa_nil)) pa_nil)))))), ?_⟩
  have kl : (ksV ks).length = ks.length := List.length_map _
  refine ⟨_, rfl, ka, _, rfl, hk, fun D hD => lc_it (walk_enumT (K := K) (a := ka) (xs := ksV ks)) (fun i H' => Same H H' ∧ ∃ acc, H' D = some (.lst acc) ∧ DpAll K H' acc ((List.range i).map (factPD ks fun _ => none))) ?_ ?_ ?_ ?_⟩
  · exact ⟨same_new hD, [], upd_same, .nil⟩
  · rintro i H' _ ⟨sm, _⟩
    exact Tp.same sm _ _ hk
  · rintro i x H' H2 hi ⟨sm, acc, hA, hP⟩ ⟨T, p, y, rfl, hT, rfl, hp, hy⟩
    have hp' := Option.some.inj hp
    subst hp'
    have sm2 := same_new (o := .tup [.int (i : Nat), y]) hT
    have eT : (upd H' T (.tup [.int (i : Nat), y])) T = some (.tup [.int (i : Nat), y]) := upd_same
    generalize upd H' T (.tup [.int (i : Nat), y]) = H2 at sm2 eT
    have hi' : i < ks.length := by rw [← kl]; exact hi
    have ek : (ksV ks)[i]? = some (.str (kS ks[i])) := by
      rw [List.getElem?_map, List.getElem?_eq_getElem hi']
      rfl
    have hy : (ksV ks)[i]? = some y := hy
    rw [ek] at hy
    cases hy
    have hA2 := sm2 _ _ hA
    have al : acc.length = i := by rw [dpS_len hP, List.length_map, List.length_range]
    have eg : ks.getD i false = ks[i] := by rw [List.getD_eq_getElem?_getD, List.getElem?_eq_getElem hi']; rfl
    have fin : ∀ (u : V) (H3 : Hp), Same H2 H3 → Dp K H3 u (factPD ks (fun _ => none) i) → ∃ acc', H3 D = some (.lst acc') ∧ acc'.length < sizeLine ∧ (Same H (upd H3 D (.lst (acc' ++ [u]))) ∧ ∃ acc, (upd H3 D (.lst (acc' ++ [u]))) D = some (.lst acc) ∧ DpAll K (upd H3 D (.lst (acc' ++ [u]))) acc ((List.range (i + 1)).map (factPD ks fun _ => none))) := fun u H3 s3 hu => by
      have hA3 := s3 _ _ hA2
      have tl : Tp K H3 (upd H3 D (.lst (acc ++ [u]))) := Tp.lst hA3
      refine ⟨acc, hA3, smallL (by omega), fun b o z => ?_, acc ++ [u], upd_same, ?_⟩
      · rw [upd_ne (ne_of_none z hD)]
        exact s3 _ _ (sm2 _ _ (sm _ _ z))
      · rw [List.range_succ, List.map_append]
        exact dpall_app' (dps_keep ((Tp.same (sm2.trans s3)).trans tl) _ _ (flats_map _ (fun k => factPD_flat ks _ k) _) hP) (.cons (dp_keep tl _ _ (factPD_flat _ _ _) hu) .nil)
    refine ⟨T, _, rfl, .inl (.inl eT), rfl, _, _, rfl, _, _, rfl, rfl, rfl, _, rfl, rfl, _, rfl, ite2 (fun c => ?_) (fun c => ?_)⟩
    · have c2 : ks[i] = false := kS_inj' (b := false) (of_decide_eq_true c)
      refine ⟨_, rfl, (by show 2 ≤ sizeLine; decide), fun p hp => fin _ _ (same_new hp) ?_⟩
      unfold factPD
      rw [eg, c2, if_neg Bool.false_ne_true]
      exact .tup (.inl (.inl upd_same)) (.cons (.int _) (.cons (.int _) .nil))
    · have c2 : ks[i] = true := by
        cases e : ks[i] with
        | true => rfl
        | false => rw [e] at c; exact absurd (decide_eq_true rfl) c
      refine fin _ _ (Same.refl _) ?_
      unfold factPD
      rw [eg, c2, if_pos rfl]
      exact .non
  rintro H1 ⟨s1, acc, hA, hP⟩
  rw [kl] at hP
  refine ⟨_, rfl, ka, _, rfl, .inr (Tp.same s1 _ _ hk), ks.length, by rw [kl]; rfl, by omega, fun v0 H2 s2 h0 => ?_⟩
  refine ⟨_, rfl, D, acc, rfl, .inl ⟨SqL.of (s2 _ _ hA), fun t ht => ⟨(by show 2 ≤ sizeLine; decide), fun p hp => ?_⟩⟩⟩
  have s3 := same_new (o := .tup acc) ht
  have e3 : (upd H2 t (.tup acc)) t = some (.tup acc) := upd_same
  generalize upd H2 t (.tup acc) = H3 at s3 e3 hp
  have s4 := same_new (o := .tup [v0, .ref t]) hp
  have e4 : (upd H3 p (.tup [v0, .ref t])) p = some (.tup [v0, .ref t]) := upd_same
  generalize upd H3 p (.tup [v0, .ref t]) = H4 at s4 e4
  refine q _ _ (s1.trans (s2.trans (s3.trans s4))) ⟨rgPD_flat _ _, .tup (.inl (.inl e4)) (.cons (h0.keep (Tp.same (s3.trans s4))).2 (.cons (.tup (.inl (.inl (s4 _ _ e3))) (dps_keep (Tp.same (s2.trans (s3.trans s4))) _ _ (factsPD_flat _ _) hP)) .nil))⟩
abbrev s_answer_in : Stmt := topS 28
theorem sc_answer_in : FnScope ["region", "question", "closed", "facts"] ["region", "question"] (defScope s_answer_in) := ⟨rfl, rfl, rfl, by decide +kernel, rfl, by decide +kernel, by decide +kernel⟩
def spAnsIn (K : PySem.W.Frag) : Sp := fun vs H Q _ => ∃ (v qv : V) (ks : List Bool) (r : Rg) (q : Qn), vs = [v, qv] ∧ Fd K H v (rgPD ks r) ∧ Fd K H qv (.tuple (qnPD q)) ∧ QOk ks q ∧ ks.length ≤ 100 ∧ Q (oB (ansIn ks.length r q)) H
theorem ok_answer_in (B : Bt mg) (C_known : Cal P w K mg base 1 "known" ["closed", "i", "j", "c"] (spKnown K)) (D : DefAt K mg "answer_in" s_answer_in ["region", "question"]) : Cal P w K mg base 2 "answer_in" ["region", "question"] (spAnsIn K) := by
  refine cal_of D sc_answer_in (fun vs H Q E h => ?_) (fun f cdv A outer s H vs Q E hr h => ?_)
  · obtain ⟨v, qv, ks, r, q, rfl, _⟩ := h
    rfl
  obtain ⟨v, qv, ks, r, qn, rfl, hv, hq, qo, hkl, q⟩ := h
  have hr' : Room 1 _ := hr
  refine ⟨_, (pss_cons (ps_asg (pv 0) (pg_tup rfl (pgs_cons (pg_name (i := 2) sc_answer_in.nd rfl (.inl rfl)) (pgs_cons (pg_name (i := 3) sc_answer_in.nd rfl (.inl rfl)) pgs_nil))))
      (pss_cons (ps_if (pt_cmpR op_eq (pe_ix ix_tup (pv 1) pe_int (fun _ _ => rfl)) pe_str (nomark _))
        (pss_one (ps_ret (pe_ix ix_tup (pv 3) (pe_ix ix_tup (pv 1) pe_int (fun _ _ => rfl)) (fun _ _ => rfl))))
        pss_nil)
      (pss_one (ps_ret (pe_cal C_known hr' (by rfl) (pa_cons (pv 2) (pa_cons (pe_ix ix_tup (pv 1) pe_int (fun _ _ => rfl)) (pa_cons (pe_ix ix_tup (pv 1) pe_int (fun _ _ => rfl)) (pa_cons (pe_ix ix_tup (pv 1) pe_int (fun _ _ => rfl)) pa_nil))))))))), ?_⟩
  obtain ⟨a, cv, ft, fs, rfl, ha, hc, hf, hfs⟩ := rg_open hv
  obtain ⟨b, rfl, hb⟩ := qn_open hq
  refine ⟨_, rfl, a, _, rfl, ha, rfl, _, _, rfl, _, _, rfl, rfl, ?_⟩
  cases qn with
  | truth k =>
    refine ⟨_, rfl, b, _, 0, _, rfl, rfl, hb, at_of (j := 0) rfl rfl, rfl, _, rfl, ite2 (fun _ => ?_) (fun c => absurd (decide_eq_true rfl) c)⟩
    obtain ⟨e1, e2⟩ := fact_truth hfs qo
    exact ⟨_, rfl, _, rfl, b, _, 1, _, rfl, rfl, hb, at_of (j := 1) rfl rfl, ft, fs, k, _, rfl, rfl, hf, at_of (j := k) rfl e1, q⟩
  | row i j c =>
    refine ⟨_, rfl, b, _, 0, _, rfl, rfl, hb, at_of (j := 0) rfl rfl, rfl, _, rfl, ite2 (fun c => absurd (V.str.inj (of_decide_eq_true c)) (by decide +kernel)) (fun _ => ?_)⟩
    refine ⟨_, rfl, _, rfl, b, _, 1, _, rfl, rfl, hb, at_of (j := 1) rfl rfl, _, rfl, b, _, 2, _, rfl, rfl, hb, at_of (j := 2) rfl rfl, _, rfl, b, _, 3, _, rfl, rfl, hb, at_of (j := 3) rfl rfl, ?_⟩
    exact ⟨cv, r.D, ks.length, i, j, c, rfl, hc, qo.1.lo, qo.1.hi, qo.2.lo, qo.2.hi, q⟩
abbrev s_narrowed : Stmt := topS 29
theorem sc_narrowed : FnScope ["region", "question", "answer", "closed", "facts", "i", "j", "c", "k"] ["region", "question", "answer"] (defScope s_narrowed) := ⟨rfl, rfl, rfl, by decide +kernel, rfl, by decide +kernel, by decide +kernel⟩
def spNar (K : PySem.W.Frag) : Sp := fun vs H Q _ => ∃ (v qv : V) (ks : List Bool) (r : Rg) (q : Qn) (b : Bool), vs = [v, qv, .bl b] ∧ Fd K H v (rgPD ks r) ∧ Fd K H qv (.tuple (qnPD q)) ∧ QOk ks q ∧ ansIn ks.length r q = none ∧ ks.length ≤ 100 ∧ ∀ (u : V) (H' : Hp), Same H H' → Fd K H' u (rgPD ks (nar ks.length r q b)) → Q u H'
theorem ok_narrowed (B : Bt mg) (C_tightened : Cal P w K mg base 3 "tightened" ["closed", "i", "j", "c"] (spTight K)) (D : DefAt K mg "narrowed" s_narrowed ["region", "question", "answer"]) : Cal P w K mg base 4 "narrowed" ["region", "question", "answer"] (spNar K) := by
  refine cal_of D sc_narrowed (fun vs H Q E h => ?_) (fun f cdv A outer s H vs Q E hr h => ?_)
  · obtain ⟨v, qv, ks, r, q, b, rfl, _⟩ := h
    rfl
  obtain ⟨v, qv, ks, r, qn, b, rfl, hv, hq, qo, hn, hkl, q⟩ := h
  have hr' : Room 3 _ := hr
  refine ⟨_, (pss_cons (ps_asg (pv 0) (pg_tup rfl (pgs_cons (pg_name (i := 3) sc_narrowed.nd rfl (.inl rfl)) (pgs_cons (pg_name (i := 4) sc_narrowed.nd rfl (.inl rfl)) pgs_nil))))
      (pss_cons (ps_if (pt_cmpR op_eq (pe_ix ix_tup (pv 1) pe_int (fun _ _ => rfl)) pe_str (nomark _))
        (pss_cons (ps_set (i := 8) sc_narrowed.nd rfl (.inl rfl) (pe_ix ix_tup (pv 1) pe_int (fun _ _ => rfl)))
      (pss_one (ps_ret (pe_tup (pa_cons (pv 3) (pa_cons (pe_tup (StX.pa_star (pe_slice sl_tupA (pv 4) po_none (po_some (pv 8))) (pa_cons (pv 2) (StX.pa_star (pe_slice sl_tupA (pv 4) (po_some (pe_op op_add (pv 8) pe_int)) po_none) pa_nil)))) pa_nil))))))
        pss_nil)
      (pss_cons (ps_asg (pe_slice sl_tupA (pv 1) (po_some pe_int) po_none) (pg_tup rfl (pgs_cons (pg_name (i := 5) sc_narrowed.nd rfl (.inl rfl)) (pgs_cons (pg_name (i := 6) sc_narrowed.nd rfl (.inl rfl)) (pgs_cons (pg_name (i := 7) sc_narrowed.nd rfl (.inl rfl)) pgs_nil)))))
      (pss_cons (ps_if (pt_val (pv 2))
        (pss_one (ps_ret (pe_tup (pa_cons (pe_cal C_tightened hr' (by rfl) (pa_cons (pv 3) (pa_cons (pv 5) (pa_cons (pv 6) (pa_cons (pv 7) pa_nil))))) (pa_cons (pv 4) pa_nil)))))
        pss_nil)
      (pss_one (ps_ret (pe_tup (pa_cons (pe_cal C_tightened hr' (by rfl) (pa_cons (pv 3) (pa_cons (pv 6) (pa_cons (pv 5) (pa_cons (pe_op op_sub (pe_un un_neg (pv 7)) pe_int) pa_nil))))) (pa_cons (pv 4) pa_nil))))))))), ?_⟩
  obtain ⟨a, cv, ft, fs, rfl, ha, hc, hf, hfs⟩ := rg_open hv
  obtain ⟨qa, rfl, hb⟩ := qn_open hq
  have fl : fs.length = ks.length := by rw [dpS_len hfs, facts_len]
  refine ⟨_, rfl, a, _, rfl, ha, rfl, _, _, rfl, _, _, rfl, rfl, ?_⟩
  cases qn with
  | truth k =>
    refine ⟨_, rfl, qa, _, 0, _, rfl, rfl, hb, at_of (j := 0) rfl rfl, rfl, _, rfl, ite2 (fun _ => ?_) (fun c => absurd (decide_eq_true rfl) c)⟩
    have hk : k < ks.length := (List.getElem?_eq_some_iff.mp qo).1
    refine ⟨_, rfl, qa, _, 1, _, rfl, rfl, hb, at_of (j := 1) rfl rfl, _, rfl, _, rfl, _, rfl, (k : Int), rfl, slS hf fun t1 H1 s1 h1 => ?_⟩
    rw [cutS_take (by omega)] at h1
    refine ⟨t1, _, rfl, .inl h1, _, rfl, _, rfl, _, rfl, _, _, rfl, rfl, ((k + 1 : Nat) : Int), rfl, ?_⟩
    delta tNoPart
    refine slS (Tp.same s1 _ _ hf) fun t2 H2 s2 h2 => ?_
    rw [cutS_drop (by omega)] at h2
    refine ⟨t2, _, rfl, .inl h2, by rw [List.length_append, List.length_cons, List.length_append, List.length_take, List.length_drop]; exact small (by simp; omega), fun p hp => ⟨(by show 2 ≤ sizeLine; decide), fun p2 hp2 => ?_⟩⟩
    have s3 := same_new (o := .tup (fs.take k ++ V.bl b :: (fs.drop (k + 1) ++ []))) hp
    have e3 : (upd H2 p (.tup (fs.take k ++ V.bl b :: (fs.drop (k + 1) ++ [])))) p = some (.tup (fs.take k ++ V.bl b :: (fs.drop (k + 1) ++ []))) := upd_same
    generalize upd H2 p (.tup (fs.take k ++ V.bl b :: (fs.drop (k + 1) ++ []))) = H3 at s3 e3 hp2
    have s4 := same_new (o := .tup [cv, .ref p]) hp2
    have e4 : (upd H3 p2 (.tup [cv, .ref p])) p2 = some (.tup [cv, .ref p]) := upd_same
    generalize upd H3 p2 (.tup [cv, .ref p]) = H4 at s4 e4
    have s14 := s1.trans (s2.trans (s3.trans s4))
    refine q _ _ s14 (rg_mk (.inl (.inl e4)) (hc.keep (Tp.same s14)) (.inl (.inl (s4 _ _ e3))) ?_)
    have hfs4 := dps_keep (Tp.same s14) _ _ (factsPD_flat _ _) hfs
    have key : factsPD ks (nar ks.length r (.truth k) b).T = (factsPD ks r.T).take k ++ PyData.bool b :: ((factsPD ks r.T).drop (k + 1) ++ []) := by
      rw [List.append_nil]
      apply List.ext_getElem?
      intro x
      have eg : ks.getD k false = true := by rw [List.getD_eq_getElem?_getD, qo]; rfl
      have tl : ((factsPD ks r.T).take k).length = k := by rw [List.length_take, facts_len]; omega
      by_cases hx : x < ks.length
      · rw [facts_at ks _ hx]
        rcases Nat.lt_trichotomy x k with z | z | z
        · rw [List.getElem?_append_left (by rw [tl]; exact z), List.getElem?_take_of_lt z, facts_at ks _ hx]
          unfold factPD
          rw [show (nar ks.length r (.truth k) b).T x = r.T x from if_neg (by omega)]
        · subst z
          rw [List.getElem?_append_right (by rw [tl]; exact Nat.le_refl _), tl, Nat.sub_self]
          unfold factPD
          rw [if_pos eg, show (nar ks.length r (.truth x) b).T x = some b from if_pos rfl]
          rfl
        · obtain ⟨y, rfl⟩ : ∃ y, x = k + 1 + y := ⟨x - k - 1, by omega⟩
          rw [List.getElem?_append_right (by rw [tl]; omega), tl, show k + 1 + y - k = y + 1 by omega, List.getElem?_cons_succ, List.getElem?_drop, facts_at ks _ hx]
          unfold factPD
          rw [show (nar ks.length r (.truth k) b).T (k + 1 + y) = r.T (k + 1 + y) from if_neg (by omega)]
      · rw [List.getElem?_eq_none (by rw [facts_len]; omega), List.getElem?_eq_none]
        rw [List.length_append, List.length_cons, List.length_drop, tl, facts_len]
        omega
    rw [key]
    exact dpS_app (dpS_take k hfs4) (.cons (.bl b) (dpS_app (dpS_drop (k + 1) hfs4) .nil))
  | row i j c =>
    refine ⟨_, rfl, qa, _, 0, _, rfl, rfl, hb, at_of (j := 0) rfl rfl, rfl, _, rfl, ite2 (fun z => absurd (V.str.inj (of_decide_eq_true z)) (by decide +kernel)) (fun _ => ?_)⟩
    refine ⟨_, rfl, 1, rfl, ?_⟩
    delta tNoPart
    refine slS hb fun t1 H1 s1 h1 => ?_
    have h1 : SqT K H1 t1 [.int i, .int j, .int c] := h1
    refine ⟨t1, _, rfl, h1, rfl, _, _, rfl, _, _, rfl, _, _, rfl, rfl, ?_⟩
    have hcl := hc.keep (Tp.same (K := K) s1)
    have fin : ∀ (u : V) (H2 : Hp), Same H1 H2 → Fd K H2 u (cloPD (nar ks.length r (.row i j c) b).D ks.length) → (nar ks.length r (.row i j c) b).T = r.T → ∀ p, H2 p = none → Q (.ref p) (upd H2 p (.tup [u, .ref ft])) := fun u H2 s2 hu eT p hp => by
      have s3 := same_new (o := .tup [u, .ref ft]) hp
      have s13 := s1.trans (s2.trans s3)
      refine q _ _ s13 (rg_mk (.inl (.inl upd_same)) (hu.keep (Tp.same s3)) (Tp.same s13 _ _ hf) ?_)
      rw [eT]
      exact dps_keep (Tp.same s13) _ _ (factsPD_flat _ _) hfs
    cases b with
    | true =>
      refine ⟨_, rfl, _, rfl, iteT ?_⟩
      refine ⟨_, rfl, _, rfl, _, rfl, _, rfl, cv, r.D, ks.length, i, j, c, rfl, hkl, hcl, qo.1.lo, qo.1.hi, qo.2.lo, qo.2.hi, fun u H2 s2 hu => ⟨_, rfl, (by show 2 ≤ sizeLine; decide), fin u H2 s2 ?_ rfl⟩⟩
      rw [tight_none (show knownF r.D (pl ks.length i) (pl ks.length j) c = none from hn)] at hu
      exact hu
    | false =>
      refine ⟨_, rfl, _, rfl, iteF ?_⟩
      refine ⟨_, rfl, _, rfl, _, rfl, _, rfl, _, rfl, _, _, rfl, rfl, cv, r.D, ks.length, j, i, -c - 1, rfl, hkl, hcl, qo.2.lo, qo.2.hi, qo.1.lo, qo.1.hi, fun u H2 s2 hu => ⟨_, rfl, (by show 2 ≤ sizeLine; decide), fin u H2 s2 ?_ rfl⟩⟩
      rw [tight_none (known_sym (show knownF r.D (pl ks.length i) (pl ks.length j) c = none from hn))] at hu
      exact hu
end
end Lm

set_option Elab.async false
set_option linter.all false
set_option maxRecDepth 100000
set_option maxHeartbeats 2000000
set_option pp.maxSteps 2000
set_option pp.deepTerms.threshold 12
namespace Lm
open PySem PySem.Spec PyProof.Rows L2 LmR RZ
/-! ### tasks as data -/
def tkPD : Tk → PyData
  | .pg p => enc p
  | .add c => .tuple [.str "add", .int c]
  | .meet w => .tuple [.str "meet", .str w.str]
  | .pick p q => .tuple [.str "pick", enc p, enc q]
def tdPD : List Tk → PyData
  | [] => .none
  | k :: t => .tuple [tkPD k, tdPD t]
def rdPD : List En → PyData
  | [] => .none
  | x :: e => .tuple [enPD x, rdPD e]
def wordK : Tk → Str
  | .pg p => word p
  | .add _ => "add"
  | .meet _ => "meet"
  | .pick _ _ => "pick"
theorem tkPD_flat : ∀ k : Tk, flat (tkPD k) = true
  | .pg p => flat_enc p
  | .add _ => rfl
  | .meet _ => rfl
  | .pick p q => by simp [tkPD, flat, flat.flats, flat_enc p, flat_enc q]
theorem tdPD_flat : ∀ t : List Tk, flat (tdPD t) = true
  | [] => rfl
  | k :: t => by simp [tdPD, flat, flat.flats, tkPD_flat k, tdPD_flat t]
theorem rdPD_flat : ∀ e : List En, flat (rdPD e) = true
  | [] => rfl
  | x :: e => by simp [rdPD, flat, flat.flats, enPD_flat x, rdPD_flat e]
/-- what a step tells -/
def AnsP (K : PySem.W.Frag) (H : Hp) (u : V) : Ans → Prop
  | .ask q => ∃ a x y z, u = .ref a ∧ SqT K H a [x, y, z] ∧ Fd K H x (.tuple (qnPD q))
  | .go t e => ∃ a y z, u = .ref a ∧ SqT K H a [.non, y, z] ∧ Fd K H y (tdPD t) ∧ Fd K H z (rdPD e)
def spStep (K : PySem.W.Frag) (Pk : Tk → Prop) : Sp := fun vs H Q _ => ∃ (v kv tv ev : V) (ks : List Bool) (κ : Bool) (r : Rg) (k : Tk) (t : List Tk) (e : List En), vs = [v, kv, tv, ev] ∧ Pk k ∧ Fd K H v (rgPD ks r) ∧ Fd K H kv (tkPD k) ∧ Fd K H tv (tdPD t) ∧ Fd K H ev (rdPD e) ∧ StOk ks κ (k :: t) e ∧ ks.length ≤ 100 ∧
  ∀ (u : V) (H' : Hp), Same H H' → AnsP K H' u (stepW ks r k t e) → Q u H'
theorem spStep_len {K : PySem.W.Frag} {Pk : Tk → Prop} {vs : List V} {H : Hp} {Q : VK} {E : XK} (h : spStep K Pk vs H Q E) : vs.length = 4 := by
  obtain ⟨v, kv, tv, ev, ks, κ, r, k, t, e, rfl, _⟩ := h
  rfl
section
variable {P : Program} {w : World} {K : PySem.W.Frag} {mg : Str → Option Value} {base : Heap}
theorem at_tr {H : Hp} (b : Bool) {p : Addr} (h : SqT K H p [.str (trS b)]) : Fd K H (.ref p) (enc (.tr b)) := ⟨flat_enc _, .tup h (.cons (.str _) .nil)⟩
theorem goQ {H : Hp} {tv ev : V} {t : List Tk} {e : List En} {Q : VK} {r : Ans} (er : r = .go t e) (ht : Fd K H tv (tdPD t)) (he : Fd K H ev (rdPD e)) (q : ∀ (u : V) (H' : Hp), Same H H' → AnsP K H' u r → Q u H') {p : Addr} (hp : H p = none) : Q (.ref p) (upd H p (.tup [.non, tv, ev])) := by
  subst er
  exact q _ _ (same_new hp) ⟨p, _, _, rfl, .inl (.inl upd_same), ht.same (same_new hp), he.same (same_new hp)⟩
theorem askQ {H : Hp} {x y z : V} {qn : Qn} {Q : VK} {r : Ans} (er : r = .ask qn) (hx : Fd K H x (.tuple (qnPD qn))) (q : ∀ (u : V) (H' : Hp), Same H H' → AnsP K H' u r → Q u H') {p : Addr} (hp : H p = none) : Q (.ref p) (upd H p (.tup [x, y, z])) := by
  subst er
  exact q _ _ (same_new hp) ⟨p, _, _, _, rfl, .inl (.inl upd_same), hx.same (same_new hp)⟩
theorem qs {H H1 : Hp} {Q : VK} {r : Ans} (q : ∀ (u : V) (H' : Hp), Same H H' → AnsP K H' u r → Q u H') (s : Same H H1) : ∀ (u : V) (H' : Hp), Same H1 H' → AnsP K H' u r → Q u H' := fun u H' s' h => q u H' (s.trans s') h
theorem st_add {ks : List Bool} {κ : Bool} {n : Int} {t : List Tk} {e : List En} (h : StOk ks κ (.add n :: t) e) : ∃ i d e', e = .num i d :: e' := by
  obtain ⟨st, he, ht⟩ := h
  cases st with
  | nil => exact ht.elim
  | cons a st =>
    cases a with
    | true => exact ht.elim
    | false =>
      obtain ⟨x, e', rfl, hx, _⟩ := ensOk_cons he
      obtain ⟨i, d, rfl, _⟩ := enOk_num hx
      exact ⟨i, d, e', rfl⟩
theorem st_pick {ks : List Bool} {κ : Bool} {p q : Pg} {t : List Tk} {e : List En} (h : StOk ks κ (.pick p q :: t) e) : ∃ b e', e = .tr b :: e' := by
  obtain ⟨st, he, ht⟩ := h
  cases st with
  | nil => exact ht.elim
  | cons a st =>
    cases a with
    | false => exact ht.elim
    | true =>
      obtain ⟨x, e', rfl, hx, _⟩ := ensOk_cons he
      obtain ⟨b, rfl⟩ := enOk_tr hx
      exact ⟨b, e', rfl⟩
theorem st_meet {ks : List Bool} {κ : Bool} {w : Bw} {t : List Tk} {e : List En} (h : StOk ks κ (.meet w :: t) e) : ∃ j d i c e', e = .num j d :: .num i c :: e' ∧ NumAt ks i ∧ NumAt ks j ∧ isCmp w = true := by
  obtain ⟨st, he, ht⟩ := h
  cases st with
  | nil => exact ht.elim
  | cons a st =>
    cases st with
    | nil => cases a <;> exact ht.elim
    | cons b st =>
      cases a with
      | true => exact ht.elim
      | false =>
        cases b with
        | true => exact ht.elim
        | false =>
          obtain ⟨x, e1, rfl, hx, he1⟩ := ensOk_cons he
          obtain ⟨y, e2, rfl, hy, _⟩ := ensOk_cons he1
          obtain ⟨j, d, rfl, hj⟩ := enOk_num hx
          obtain ⟨i, c, rfl, hi⟩ := enOk_num hy
          exact ⟨j, d, i, c, e2, rfl, hi, hj, ht.1⟩
theorem fd_at {H : Hp} {v : V} {p : Pg} (h : At K H v p) : Fd K H v (tkPD (.pg p)) := ⟨flat_enc p, h⟩
theorem strne {a b : Str} {A : Prop} (h : ¬ a = b) (c : decide (V.str a = V.str b) = true) : A := absurd (V.str.inj (of_decide_eq_true c)) h
abbrev s_step_num : Stmt := topS 35
theorem sc_step_num : FnScope ["region", "task", "rest", "ready"] ["region", "task", "rest", "ready"] (defScope s_step_num) := ⟨rfl, rfl, rfl, by decide +kernel, rfl, by decide +kernel, by decide +kernel⟩
theorem ok_step_num (D : DefAt K mg "step_num" s_step_num ["region", "task", "rest", "ready"]) : Cal P w K mg base 1 "step_num" ["region", "task", "rest", "ready"] (spStep K fun k => ∃ c, k = .pg (.num c)) := by
  refine cal_of D sc_step_num (fun vs H Q E h => spStep_len h) (fun f cdv A outer s H vs Q E hr h => ?_)
  obtain ⟨v, kv, tv, ev, ks, κ, r, _, t, e, rfl, ⟨c, rfl⟩, hv, hk, ht, he, st, hkl, q⟩ := h
  refine ⟨_, (pss_one (ps_ret (pe_tup (pa_cons pe_non (pa_cons (pv 2) (pa_cons (pe_tup (pa_cons (pe_tup (pa_cons (pe_un un_neg pe_int) (pa_cons (pe_ix ix_tup (pv 1) pe_int (fun _ _ => rfl)) pa_nil))) (pa_cons (pv 3) pa_nil))) pa_nil)))))), ?_⟩
  obtain ⟨a, vs, rfl, ha, hvs⟩ := (show At K H kv (.num c) from hk.2).open
  exact ⟨_, rfl, 1, rfl, _, rfl, a, _, 1, _, rfl, rfl, ha, at_of (j := 1) rfl rfl, len2, fun p hp => al2 (fd_i (-1)) (fd_i c) hp fun H1 s1 h1 => ⟨_, rfl, len2, fun p2 hp2 => al2 h1 (he.same s1) hp2 fun H2 s2 h2 => ⟨len3, fun p3 hp3 => goQ (t := t) (e := .num (-1) c :: e) rfl (ht.same (s1.trans s2)) h2 (qs q (s1.trans s2)) hp3⟩⟩⟩
abbrev s_step_yes : Stmt := topS 36
theorem sc_step_yes : FnScope ["region", "task", "rest", "ready"] ["region", "task", "rest", "ready"] (defScope s_step_yes) := ⟨rfl, rfl, rfl, by decide +kernel, rfl, by decide +kernel, by decide +kernel⟩
theorem ok_step_yes (D : DefAt K mg "step_yes" s_step_yes ["region", "task", "rest", "ready"]) : Cal P w K mg base 1 "step_yes" ["region", "task", "rest", "ready"] (spStep K fun k => k = .pg (.tr true)) := by
  refine cal_of D sc_step_yes (fun vs H Q E h => spStep_len h) (fun f cdv A outer s H vs Q E hr h => ?_)
  obtain ⟨v, kv, tv, ev, ks, κ, r, _, t, e, rfl, rfl, hv, hk, ht, he, st, hkl, q⟩ := h
  refine ⟨_, (pss_one (ps_ret (pe_tup (pa_cons pe_non (pa_cons (pv 2) (pa_cons (pe_tup (pa_cons pe_bl (pa_cons (pv 3) pa_nil))) pa_nil)))))), ?_⟩
  exact ⟨_, rfl, _, rfl, len2, fun p hp => al2 (fd_b true) he hp fun H1 s1 h1 => ⟨len3, fun p2 hp2 => goQ (t := t) (e := .tr true :: e) rfl (ht.same s1) h1 (qs q s1) hp2⟩⟩
abbrev s_step_no : Stmt := topS 37
theorem sc_step_no : FnScope ["region", "task", "rest", "ready"] ["region", "task", "rest", "ready"] (defScope s_step_no) := ⟨rfl, rfl, rfl, by decide +kernel, rfl, by decide +kernel, by decide +kernel⟩
theorem ok_step_no (D : DefAt K mg "step_no" s_step_no ["region", "task", "rest", "ready"]) : Cal P w K mg base 1 "step_no" ["region", "task", "rest", "ready"] (spStep K fun k => k = .pg (.tr false)) := by
  refine cal_of D sc_step_no (fun vs H Q E h => spStep_len h) (fun f cdv A outer s H vs Q E hr h => ?_)
  obtain ⟨v, kv, tv, ev, ks, κ, r, _, t, e, rfl, rfl, hv, hk, ht, he, st, hkl, q⟩ := h
  refine ⟨_, (pss_one (ps_ret (pe_tup (pa_cons pe_non (pa_cons (pv 2) (pa_cons (pe_tup (pa_cons pe_bl (pa_cons (pv 3) pa_nil))) pa_nil)))))), ?_⟩
  exact ⟨_, rfl, _, rfl, len2, fun p hp => al2 (fd_b false) he hp fun H1 s1 h1 => ⟨len3, fun p2 hp2 => goQ (t := t) (e := .tr false :: e) rfl (ht.same s1) h1 (qs q s1) hp2⟩⟩
abbrev s_step_plus : Stmt := topS 38
theorem sc_step_plus : FnScope ["region", "task", "rest", "ready"] ["region", "task", "rest", "ready"] (defScope s_step_plus) := ⟨rfl, rfl, rfl, by decide +kernel, rfl, by decide +kernel, by decide +kernel⟩
theorem ok_step_plus (D : DefAt K mg "step_plus" s_step_plus ["region", "task", "rest", "ready"]) : Cal P w K mg base 1 "step_plus" ["region", "task", "rest", "ready"] (spStep K fun k => ∃ c a, k = .pg (.plus c a)) := by
  refine cal_of D sc_step_plus (fun vs H Q E h => spStep_len h) (fun f cdv A outer s H vs Q E hr h => ?_)
  obtain ⟨v, kv, tv, ev, ks, κ, r, _, t, e, rfl, ⟨c, b, rfl⟩, hv, hk, ht, he, st, hkl, q⟩ := h
  refine ⟨_, (pss_one (ps_ret (pe_tup (pa_cons pe_non (pa_cons (pe_tup (pa_cons (pe_ix ix_tup (pv 1) pe_int (fun _ _ => rfl)) (pa_cons (pe_tup (pa_cons (pe_tup (pa_cons pe_str (pa_cons (pe_ix ix_tup (pv 1) pe_int (fun _ _ => rfl)) pa_nil))) (pa_cons (pv 2) pa_nil))) pa_nil))) (pa_cons (pv 3) pa_nil)))))), ?_⟩
  obtain ⟨a, vs, rfl, ha, hvs⟩ := (show At K H kv (.plus c b) from hk.2).open
  obtain ⟨bv, rfl, hb⟩ := hvs.one
  exact ⟨_, rfl, a, _, 2, _, rfl, rfl, ha, at_of (j := 2) rfl rfl, _, rfl, a, _, 1, _, rfl, rfl, ha, at_of (j := 1) rfl rfl, len2, fun p1 n1 => al2 (fd_str "add") (fd_i c) n1 fun H1 s1 h1 => ⟨_, rfl, len2, fun p2 n2 => al2 h1 (ht.same s1) n2 fun H2 s2 h2 => ⟨len2, fun p3 n3 => al2 ((fd_at hb).same (s1.trans s2)) h2 n3 fun H3 s3 h3 => ⟨_, rfl, len3, fun p4 n4 =>
    goQ (t := .pg b :: .add c :: t) (e := e) rfl h3 (he.same (s1.trans (s2.trans s3))) (qs q (s1.trans (s2.trans s3))) n4⟩⟩⟩⟩
abbrev s_step_in : Stmt := topS 34
theorem sc_step_in : FnScope ["region", "task", "rest", "ready", "fact"] ["region", "task", "rest", "ready"] (defScope s_step_in) := ⟨rfl, rfl, rfl, by decide +kernel, rfl, by decide +kernel, by decide +kernel⟩
theorem ok_step_in (D : DefAt K mg "step_in" s_step_in ["region", "task", "rest", "ready"]) : Cal P w K mg base 1 "step_in" ["region", "task", "rest", "ready"] (spStep K fun k => ∃ n, k = .pg (.inp n)) := by
  refine cal_of D sc_step_in (fun vs H Q E h => spStep_len h) (fun f cdv A outer s H vs Q E hr h => ?_)
  obtain ⟨v, kv, tv, ev, ks, κ, r, _, t, e, rfl, ⟨n, rfl⟩, hv, hk, ht, he, st, hkl, q⟩ := h
  refine ⟨_, (pss_cons (ps_set (i := 4) sc_step_in.nd rfl (.inl rfl) (pe_ix ix_tup (pe_ix ix_tup (pv 0) pe_int (fun _ _ => rfl)) (pe_ix ix_tup (pv 1) pe_int (fun _ _ => rfl)) (fun _ _ => rfl)))
      (pss_cons (ps_if (pt_cmpR op_isN (pv 4) pe_non (nomark _))
        (pss_one (ps_ret (pe_tup (pa_cons (pe_tup (pa_cons pe_str (pa_cons (pe_ix ix_tup (pv 1) pe_int (fun _ _ => rfl)) pa_nil))) (pa_cons (pv 2) (pa_cons (pv 3) pa_nil))))))
        pss_nil)
      (pss_one (ps_ret (pe_tup (pa_cons pe_non (pa_cons (pv 2) (pa_cons (pe_tup (pa_cons (pv 4) (pa_cons (pv 3) pa_nil))) pa_nil)))))))), ?_⟩
  obtain ⟨a, vs, rfl, ha, hvs⟩ := (show At K H kv (.inp n) from hk.2).open
  obtain ⟨ra, cv, ft, fs, rfl, hra, hc, hf, hfs⟩ := rg_open hv
  have hn : n < ks.length := by
    obtain ⟨sst, _, hw, _⟩ := st
    exact hw
  obtain ⟨_, hg⟩ := dpall_getM (factPD ks r.T) hfs
  obtain ⟨fv, efv, dfv⟩ := hg n n (List.getElem?_range hn)
  have es : stepW ks r (.pg (.inp n)) t e = (if ks.getD n false = true then (match r.T n with
        | none => .ask (.truth n)
        | some b => .go t (.tr b :: e)) else .go t (.num n 0 :: e)) := rfl
  refine ⟨_, rfl, ra, _, 1, _, rfl, rfl, hra, at_of (j := 1) rfl rfl, _, rfl, a, _, 1, _, rfl, rfl, ha, at_of (j := 1) rfl rfl, ft, fs, n, fv, rfl, rfl, hf, at_of (j := n) rfl efv, ?_⟩
  unfold factPD at dfv
  cases hb : ks.getD n false with
  | true =>
    rw [hb, if_pos rfl] at dfv es
    cases hT : r.T n with
    | none =>
      rw [hT] at dfv es
      cases dfv
      refine ⟨_, rfl, rfl, _, rfl, iteT ⟨_, rfl, a, _, 1, _, rfl, rfl, ha, at_of (j := 1) rfl rfl, len2, fun p hp => al2 (fd_str "truth") (fd_i n) hp fun H1 s1 h1 => ⟨_, rfl, _, rfl, len3, fun p2 hp2 => askQ es h1 (qs q s1) hp2⟩⟩⟩
    | some b =>
      rw [hT] at dfv es
      cases dfv
      exact ⟨_, rfl, rfl, _, rfl, iteF ⟨_, rfl, _, rfl, _, rfl, len2, fun p hp => al2 (fd_b b) he hp fun H1 s1 h1 => ⟨len3, fun p2 hp2 => goQ es (ht.same s1) h1 (qs q s1) hp2⟩⟩⟩
  | false =>
    rw [hb, if_neg Bool.false_ne_true] at dfv es
    have ffv : Fd K H fv (enPD (.num n 0)) := ⟨rfl, dfv⟩
    have nn : fv ≠ .non := fun z => by rw [z] at dfv; cases dfv
    refine ⟨_, rfl, rfl, _, rfl, ?_⟩
    rw [decide_eq_false nn]
    exact iteF ⟨_, rfl, _, rfl, _, rfl, len2, fun p hp => al2 ffv he hp fun H1 s1 h1 => ⟨len3, fun p2 hp2 => goQ es (ht.same s1) h1 (qs q s1) hp2⟩⟩
abbrev s_step_add : Stmt := topS 39
theorem sc_step_add : FnScope ["region", "task", "rest", "ready", "i", "c", "below"] ["region", "task", "rest", "ready"] (defScope s_step_add) := ⟨rfl, rfl, rfl, by decide +kernel, rfl, by decide +kernel, by decide +kernel⟩
theorem ok_step_add (D : DefAt K mg "step_add" s_step_add ["region", "task", "rest", "ready"]) : Cal P w K mg base 1 "step_add" ["region", "task", "rest", "ready"] (spStep K fun k => ∃ n, k = .add n) := by
  refine cal_of D sc_step_add (fun vs H Q E h => spStep_len h) (fun f cdv A outer s H vs Q E hr h => ?_)
  obtain ⟨v, kv, tv, ev, ks, κ, r, _, t, e, rfl, ⟨n, rfl⟩, hv, hk, ht, he, st, hkl, q⟩ := h
  refine ⟨_, (pss_cons (ps_asg (pv 3) (pg_tup rfl (pgs_cons (pg_tup rfl (pgs_cons (pg_name (i := 4) sc_step_add.nd rfl (.inl rfl)) (pgs_cons (pg_name (i := 5) sc_step_add.nd rfl (.inl rfl)) pgs_nil))) (pgs_cons (pg_name (i := 6) sc_step_add.nd rfl (.inl rfl)) pgs_nil))))
      (pss_one (ps_ret (pe_tup (pa_cons pe_non (pa_cons (pv 2) (pa_cons (pe_tup (pa_cons (pe_tup (pa_cons (pv 4) (pa_cons (pe_op op_add (pv 5) (pe_ix ix_tup (pv 1) pe_int (fun _ _ => rfl))) pa_nil))) (pa_cons (pv 6) pa_nil))) pa_nil))))))), ?_⟩
  obtain ⟨i, d, e', rfl⟩ := st_add st
  obtain ⟨a, x1, x2, rfl, ha, h1, h2⟩ := fd_two (show Fd K H kv (.tuple [.str "add", .int n]) from hk)
  obtain rfl := fd_int_of h2
  obtain ⟨ea, y1, y2, rfl, hea, h3, h4⟩ := fd_two (show Fd K H ev (.tuple [enPD (.num i d), rdPD e']) from he)
  obtain ⟨xa, z1, z2, rfl, hxa, h5, h6⟩ := fd_two (show Fd K H y1 (.tuple [.int i, .int d]) from h3)
  obtain rfl := fd_int_of h5
  obtain rfl := fd_int_of h6
  refine ⟨_, rfl, ea, _, rfl, hea, rfl, _, _, rfl, xa, _, rfl, hxa, rfl, _, _, rfl, _, _, rfl, rfl, _, _, rfl, rfl, ?_⟩
  exact ⟨_, rfl, _, rfl, _, rfl, _, rfl, a, _, 1, _, rfl, rfl, ha, at_of (j := 1) rfl rfl, _, _, rfl, rfl, len2, fun p hp => al2 (fd_i i) (fd_i (d + n)) hp fun H1 s1 h1 => ⟨_, rfl, len2, fun p2 hp2 => al2 h1 (h4.same s1) hp2 fun H2 s2 h2 => ⟨len3, fun p3 hp3 => goQ (t := t) (e := .num i (d + n) :: e') rfl (ht.same (s1.trans s2)) h2 (qs q (s1.trans s2)) hp3⟩⟩⟩
abbrev s_step_two : Stmt := topS 40
theorem sc_step_two : FnScope ["region", "task", "rest", "ready"] ["region", "task", "rest", "ready"] (defScope s_step_two) := ⟨rfl, rfl, rfl, by decide +kernel, rfl, by decide +kernel, by decide +kernel⟩
theorem ok_step_two (D : DefAt K mg "step_two" s_step_two ["region", "task", "rest", "ready"]) : Cal P w K mg base 1 "step_two" ["region", "task", "rest", "ready"] (spStep K fun k => ∃ w a b, k = .pg (.bin w a b) ∧ isCmp w = true) := by
  refine cal_of D sc_step_two (fun vs H Q E h => spStep_len h) (fun f cdv A outer s H vs Q E hr h => ?_)
  obtain ⟨v, kv, tv, ev, ks, κ, r, _, t, e, rfl, ⟨w, b, c, rfl, hw⟩, hv, hk, ht, he, st, hkl, q⟩ := h
  refine ⟨_, (pss_one (ps_ret (pe_tup (pa_cons pe_non (pa_cons (pe_tup (pa_cons (pe_ix ix_tup (pv 1) pe_int (fun _ _ => rfl)) (pa_cons (pe_tup (pa_cons (pe_ix ix_tup (pv 1) pe_int (fun _ _ => rfl)) (pa_cons (pe_tup (pa_cons (pe_tup (pa_cons pe_str (pa_cons (pe_ix ix_tup (pv 1) pe_int (fun _ _ => rfl)) pa_nil))) (pa_cons (pv 2) pa_nil))) pa_nil))) pa_nil))) (pa_cons (pv 3) pa_nil)))))), ?_⟩
  obtain ⟨a, vs, rfl, ha, hvs⟩ := (show At K H kv (.bin w b c) from hk.2).open
  obtain ⟨bv, cv, rfl, hb, hc⟩ := hvs.two
  have es : stepW ks r (.pg (.bin w b c)) t e = .go (.pg b :: .pg c :: .meet w :: t) e := by
    cases w with
    | both => cases hw
    | either => cases hw
    | _ => rfl
  exact ⟨_, rfl, a, _, 1, _, rfl, rfl, ha, at_of (j := 1) rfl rfl, _, rfl, a, _, 2, _, rfl, rfl, ha, at_of (j := 2) rfl rfl, _, rfl, a, _, 0, _, rfl, rfl, ha, at_of (j := 0) rfl rfl, len2, fun p1 n1 => al2 (fd_str "meet") (fd_str w.str) n1 fun H1 s1 h1 => ⟨_, rfl, len2, fun p2 n2 => al2 h1 (ht.same s1) n2 fun H2 s2 h2 => ⟨len2, fun p3 n3 => al2 ((fd_at hc).same (s1.trans s2)) h2 n3 fun H3 s3 h3 =>
    ⟨len2, fun p4 n4 => al2 ((fd_at hb).same (s1.trans (s2.trans s3))) h3 n4 fun H4 s4 h4 => ⟨_, rfl, len3, fun p5 n5 => goQ es h4 (he.same (s1.trans (s2.trans (s3.trans s4)))) (qs q (s1.trans (s2.trans (s3.trans s4)))) n5⟩⟩⟩⟩⟩
abbrev s_met : Stmt := topS 42
theorem sc_met : FnScope ["word", "answer", "first", "second"] ["word", "answer", "first", "second"] (defScope s_met) := ⟨rfl, rfl, rfl, by decide +kernel, rfl, by decide +kernel, by decide +kernel⟩
def metV : Bw → Bool → V → V → V
  | .least, b, x, y => if b = true then x else y
  | .most, b, x, y => if b = true then y else x
  | _, b, _, _ => .bl b
def spMetE : Sp := fun vs H Q _ => ∃ (w : Bw) (b : Bool) (x y : V), vs = [.str w.str, .bl b, x, y] ∧ isCmp w = true ∧ Q (metV w b x y) H
theorem ok_met (D : DefAt K mg "met" s_met ["word", "answer", "first", "second"]) : Cal P w K mg base 1 "met" ["word", "answer", "first", "second"] (spMetE) := by
  refine cal_of D sc_met (fun vs H Q E h => ?_) (fun f cdv A outer s H vs Q E hr h => ?_)
  · obtain ⟨w, b, x, y, rfl, _⟩ := h
    rfl
  obtain ⟨w, b, x, y, rfl, hw, q⟩ := h
  refine ⟨_, (pss_cons (ps_if (pt_cmpR op_eq (pv 0) pe_str (nomark _))
        (pss_one (ps_ret (pv 1)))
        pss_nil)
      (pss_cons (ps_if (pt_cmpR op_eq (pv 0) pe_str (nomark _))
        (pss_one (ps_ret (pe_ifExp (pt_val (pv 1)) (pv 2) (pv 3))))
        pss_nil)
      (pss_one (ps_ret (pe_ifExp (pt_val (pv 1)) (pv 3) (pv 2)))))), ?_⟩
  cases w with
  | both => cases hw
  | either => cases hw
  | atmost => exact ⟨_, rfl, rfl, _, rfl, ite2 (fun _ => ⟨_, rfl, q⟩) (fun c => absurd (decide_eq_true rfl) c)⟩
  | least =>
    refine ⟨_, rfl, rfl, _, rfl, ite2 (fun c => strne (by decide +kernel) c) (fun _ => ⟨_, rfl, rfl, _, rfl, ite2 (fun _ => ?_) (fun c => absurd (decide_eq_true rfl) c)⟩)⟩
    cases b with
    | true => exact ⟨_, rfl, _, rfl, iteT ⟨_, rfl, q⟩⟩
    | false => exact ⟨_, rfl, _, rfl, iteF ⟨_, rfl, q⟩⟩
  | most =>
    refine ⟨_, rfl, rfl, _, rfl, ite2 (fun c => strne (by decide +kernel) c) (fun _ => ⟨_, rfl, rfl, _, rfl, ite2 (fun c => strne (by decide +kernel) c) (fun _ => ?_)⟩)⟩
    cases b with
    | true => exact ⟨_, rfl, _, rfl, iteT ⟨_, rfl, q⟩⟩
    | false => exact ⟨_, rfl, _, rfl, iteF ⟨_, rfl, q⟩⟩
abbrev s_step_meet : Stmt := topS 41
theorem sc_step_meet : FnScope ["region", "task", "rest", "ready", "second", "first", "below", "question", "answer"] ["region", "task", "rest", "ready"] (defScope s_step_meet) := ⟨rfl, rfl, rfl, by decide +kernel, rfl, by decide +kernel, by decide +kernel⟩
theorem ok_step_meet (C_answer_in : Cal P w K mg base 2 "answer_in" ["region", "question"] (spAnsIn K)) (C_met : Cal P w K mg base 1 "met" ["word", "answer", "first", "second"] (spMetE)) (D : DefAt K mg "step_meet" s_step_meet ["region", "task", "rest", "ready"]) : Cal P w K mg base 3 "step_meet" ["region", "task", "rest", "ready"] (spStep K fun k => ∃ w, k = .meet w) := by
  refine cal_of D sc_step_meet (fun vs H Q E h => spStep_len h) (fun f cdv A outer s H vs Q E hr h => ?_)
  obtain ⟨v, kv, tv, ev, ks, κ, r, _, t, e, rfl, ⟨w, rfl⟩, hv, hk, ht, he, st, hkl, q⟩ := h
  have C_met := C_met.mono (k := 2) (by decide)
  have hr' : Room 2 _ := hr
  refine ⟨_, (pss_cons (ps_asg (pv 3) (pg_tup rfl (pgs_cons (pg_name (i := 4) sc_step_meet.nd rfl (.inl rfl)) (pgs_cons (pg_tup rfl (pgs_cons (pg_name (i := 5) sc_step_meet.nd rfl (.inl rfl)) (pgs_cons (pg_name (i := 6) sc_step_meet.nd rfl (.inl rfl)) pgs_nil))) pgs_nil))))
      (pss_cons (ps_set (i := 7) sc_step_meet.nd rfl (.inl rfl) (pe_tup (pa_cons pe_str (pa_cons (pe_ix ix_tup (pv 5) pe_int (fun _ _ => rfl)) (pa_cons (pe_ix ix_tup (pv 4) pe_int (fun _ _ => rfl)) (pa_cons (pe_op op_sub (pe_ix ix_tup (pv 4) pe_int (fun _ _ => rfl)) (pe_ix ix_tup (pv 5) pe_int (fun _ _ => rfl))) pa_nil))))))
      (pss_cons (ps_set (i := 8) sc_step_meet.nd rfl (.inl rfl) (pe_cal C_answer_in hr' (by rfl) (pa_cons (pv 0) (pa_cons (pv 7) pa_nil))))
      (pss_cons (ps_if (pt_cmpR op_isN (pv 8) pe_non (nomark _))
        (pss_one (ps_ret (pe_tup (pa_cons (pv 7) (pa_cons (pv 2) (pa_cons (pv 3) pa_nil))))))
        pss_nil)
      (pss_one (ps_ret (pe_tup (pa_cons pe_non (pa_cons (pv 2) (pa_cons (pe_tup (pa_cons (pe_cal C_met hr' (by rfl) (pa_cons (pe_ix ix_tup (pv 1) pe_int (fun _ _ => rfl)) (pa_cons (pv 8) (pa_cons (pv 5) (pa_cons (pv 4) pa_nil))))) (pa_cons (pv 6) pa_nil))) pa_nil)))))))))), ?_⟩
  obtain ⟨j, d, i, c, e', rfl, hi, hj, hw⟩ := st_meet st
  obtain ⟨a, x1, x2, rfl, ha, h1, h2⟩ := fd_two (show Fd K H kv (.tuple [.str "meet", .str w.str]) from hk)
  obtain rfl := fd_str_of h2
  obtain ⟨ea, y1, y2, rfl, hea, h3, h4⟩ := fd_two (show Fd K H ev (.tuple [enPD (.num j d), rdPD (.num i c :: e')]) from he)
  obtain ⟨ea2, y3, y4, rfl, hea2, h7, h8⟩ := fd_two (show Fd K H y2 (.tuple [enPD (.num i c), rdPD e']) from h4)
  obtain ⟨xa, z1, z2, rfl, hxa, h5, h6⟩ := fd_two (show Fd K H y1 (.tuple [.int j, .int d]) from h3)
  obtain rfl := fd_int_of h5
  obtain rfl := fd_int_of h6
  obtain ⟨xb, z3, z4, rfl, hxb, h9, h10⟩ := fd_two (show Fd K H y3 (.tuple [.int i, .int c]) from h7)
  obtain rfl := fd_int_of h9
  obtain rfl := fd_int_of h10
  have es : stepW ks r (.meet w) t (.num j d :: .num i c :: e') = (match ansIn ks.length r (.row i j (d - c)) with
    | none => .ask (.row i j (d - c))
    | some b => .go t (metE w b (.num i c) (.num j d) :: e')) := rfl
  refine ⟨_, rfl, ea, _, rfl, hea, rfl, _, _, rfl, _, _, rfl, ea2, _, rfl, hea2, rfl, _, _, rfl, _, _, rfl, rfl, rfl, ?_⟩
  refine ⟨_, rfl, xb, _, 0, _, rfl, rfl, hxb, at_of (j := 0) rfl rfl, _, rfl, xa, _, 0, _, rfl, rfl, hxa, at_of (j := 0) rfl rfl, _, rfl, xa, _, 1, _, rfl, rfl, hxa, at_of (j := 1) rfl rfl, _, rfl, xb, _, 1, _, rfl, rfl, hxb, at_of (j := 1) rfl rfl, _, _, rfl, rfl, len4, fun p hp => al4 (K := K) (fd_str "row") (fd_i i) (fd_i j) (fd_i (d - c)) hp fun H1 s1 hq => ?_⟩
  refine ⟨_, rfl, _, rfl, _, _, ks, r, .row i j (d - c), rfl, hv.same s1, hq, ⟨hi, hj⟩, hkl, ?_⟩
  have key : ∀ b, Fd K H1 (metV w b (.ref xb) (.ref xa)) (enPD (metE w b (.num i c) (.num j d))) := fun b => by
    have g1 := h7.same s1
    have g2 := h3.same s1
    cases w with
    | both => cases hw
    | either => cases hw
    | atmost => exact fd_b _
    | least => cases b <;> assumption
    | most => cases b <;> assumption
  cases hn : ansIn ks.length r (.row i j (d - c)) with
  | none =>
    rw [hn] at es
    refine ⟨_, rfl, rfl, _, rfl, iteT ⟨_, rfl, _, rfl, _, rfl, len3, fun p2 hp2 => askQ es hq (qs q s1) hp2⟩⟩
  | some b =>
    rw [hn] at es
    refine ⟨_, rfl, rfl, _, rfl, iteF ⟨_, rfl, _, rfl, a, _, 1, _, rfl, rfl, Tp.same s1 _ _ ha, at_of (j := 1) rfl rfl, _, rfl, _, rfl, _, rfl, w, b, _, _, rfl, hw, _, rfl, len2, fun p2 hp2 => al2 (key b) (h8.same s1) hp2 fun H2 s2 h2 => ⟨len3, fun p3 hp3 => goQ es (ht.same (s1.trans s2)) h2 (qs q (s1.trans s2)) hp3⟩⟩⟩
abbrev s_step_pick : Stmt := topS 47
theorem sc_step_pick : FnScope ["region", "task", "rest", "ready", "truth", "below"] ["region", "task", "rest", "ready"] (defScope s_step_pick) := ⟨rfl, rfl, rfl, by decide +kernel, rfl, by decide +kernel, by decide +kernel⟩
theorem ok_step_pick (D : DefAt K mg "step_pick" s_step_pick ["region", "task", "rest", "ready"]) : Cal P w K mg base 1 "step_pick" ["region", "task", "rest", "ready"] (spStep K fun k => ∃ p q, k = .pick p q) := by
  refine cal_of D sc_step_pick (fun vs H Q E h => spStep_len h) (fun f cdv A outer s H vs Q E hr h => ?_)
  obtain ⟨v, kv, tv, ev, ks, κ, r, _, t, e, rfl, ⟨x, y, rfl⟩, hv, hk, ht, he, st, hkl, q⟩ := h
  refine ⟨_, (pss_cons (ps_asg (pv 3) (pg_tup rfl (pgs_cons (pg_name (i := 4) sc_step_pick.nd rfl (.inl rfl)) (pgs_cons (pg_name (i := 5) sc_step_pick.nd rfl (.inl rfl)) pgs_nil))))
      (pss_one (ps_ret (pe_tup (pa_cons pe_non (pa_cons (pe_tup (pa_cons (pe_ifExp (pt_val (pv 4)) (pe_ix ix_tup (pv 1) pe_int (fun _ _ => rfl)) (pe_ix ix_tup (pv 1) pe_int (fun _ _ => rfl))) (pa_cons (pv 2) pa_nil))) (pa_cons (pv 5) pa_nil))))))), ?_⟩
  obtain ⟨b, e', rfl⟩ := st_pick st
  obtain ⟨a, x1, xv, yv, rfl, ha, h1, h2, h3⟩ := fd_three (show Fd K H kv (.tuple [.str "pick", enc x, enc y]) from hk)
  obtain ⟨ea, y1, y2, rfl, hea, h4, h5⟩ := fd_two (show Fd K H ev (.tuple [.bool b, rdPD e']) from he)
  obtain rfl := fd_bl_of h4
  refine ⟨_, rfl, ea, _, rfl, hea, rfl, _, _, rfl, _, _, rfl, rfl, ?_⟩
  cases b with
  | true => exact ⟨_, rfl, _, rfl, iteT ⟨_, rfl, a, _, 1, _, rfl, rfl, ha, at_of (j := 1) rfl rfl, _, rfl, len2, fun p1 n1 => al2 h2 ht n1 fun H1 s1 g1 => ⟨_, rfl, len3, fun p2 n2 => goQ (t := .pg x :: t) (e := e') rfl g1 (h5.same s1) (qs q s1) n2⟩⟩⟩
  | false => exact ⟨_, rfl, _, rfl, iteF ⟨_, rfl, a, _, 2, _, rfl, rfl, ha, at_of (j := 2) rfl rfl, _, rfl, len2, fun p1 n1 => al2 h3 ht n1 fun H1 s1 g1 => ⟨_, rfl, len3, fun p2 n2 => goQ (t := .pg y :: t) (e := e') rfl g1 (h5.same s1) (qs q s1) n2⟩⟩⟩
abbrev s_step_not : Stmt := topS 43
theorem sc_step_not : FnScope ["region", "task", "rest", "ready"] ["region", "task", "rest", "ready"] (defScope s_step_not) := ⟨rfl, rfl, rfl, by decide +kernel, rfl, by decide +kernel, by decide +kernel⟩
theorem ok_step_not {aY aN : Addr} (hYES : mg "YES" = some (.ref aY)) (hNO : mg "NO" = some (.ref aN)) (hY : ∀ H, Fd K H (.ref aY) (enc (.tr true))) (hN : ∀ H, Fd K H (.ref aN) (enc (.tr false))) (D : DefAt K mg "step_not" s_step_not ["region", "task", "rest", "ready"]) : Cal P w K mg base 1 "step_not" ["region", "task", "rest", "ready"] (spStep K fun k => ∃ a, k = .pg (.neg a)) := by
  refine cal_of D sc_step_not (fun vs H Q E h => spStep_len h) (fun f cdv A outer s H vs Q E hr h => ?_)
  obtain ⟨v, kv, tv, ev, ks, κ, r, _, t, e, rfl, ⟨b, rfl⟩, hv, hk, ht, he, st, hkl, q⟩ := h
  refine ⟨_, (pss_one (ps_ret (pe_tup (pa_cons pe_non (pa_cons (pe_tup (pa_cons (pe_ix ix_tup (pv 1) pe_int (fun _ _ => rfl)) (pa_cons (pe_tup (pa_cons (pe_tup (pa_cons pe_str (pa_cons (pe_glob (v := .ref _) (by rfl) hNO rfl) (pa_cons (pe_glob (v := .ref _) (by rfl) hYES rfl) pa_nil)))) (pa_cons (pv 2) pa_nil))) pa_nil))) (pa_cons (pv 3) pa_nil)))))), ?_⟩
  obtain ⟨a, vs, rfl, ha, hvs⟩ := (show At K H kv (.neg b) from hk.2).open
  obtain ⟨bv, rfl, hb⟩ := hvs.one
  exact ⟨_, rfl, a, _, 1, _, rfl, rfl, ha, at_of (j := 1) rfl rfl, len3, fun p1 n1 => al3 (fd_str "pick") (hN H) (hY H) n1 fun H1 s1 h1 => ⟨_, rfl, len2, fun p2 n2 => al2 h1 (ht.same s1) n2 fun H2 s2 h2 => ⟨len2, fun p3 n3 => al2 ((fd_at hb).same (s1.trans s2)) h2 n3 fun H3 s3 h3 => ⟨_, rfl, len3, fun p4 n4 =>
    goQ (t := .pg b :: .pick (.tr false) (.tr true) :: t) (e := e) rfl h3 (he.same (s1.trans (s2.trans s3))) (qs q (s1.trans (s2.trans s3))) n4⟩⟩⟩⟩
abbrev s_step_both : Stmt := topS 44
theorem sc_step_both : FnScope ["region", "task", "rest", "ready"] ["region", "task", "rest", "ready"] (defScope s_step_both) := ⟨rfl, rfl, rfl, by decide +kernel, rfl, by decide +kernel, by decide +kernel⟩
theorem ok_step_both {aY aN : Addr} (hYES : mg "YES" = some (.ref aY)) (hNO : mg "NO" = some (.ref aN)) (hY : ∀ H, Fd K H (.ref aY) (enc (.tr true))) (hN : ∀ H, Fd K H (.ref aN) (enc (.tr false))) (D : DefAt K mg "step_both" s_step_both ["region", "task", "rest", "ready"]) : Cal P w K mg base 1 "step_both" ["region", "task", "rest", "ready"] (spStep K fun k => ∃ a b, k = .pg (.bin .both a b)) := by
  refine cal_of D sc_step_both (fun vs H Q E h => spStep_len h) (fun f cdv A outer s H vs Q E hr h => ?_)
  obtain ⟨v, kv, tv, ev, ks, κ, r, _, t, e, rfl, ⟨b, c, rfl⟩, hv, hk, ht, he, st, hkl, q⟩ := h
  refine ⟨_, (pss_one (ps_ret (pe_tup (pa_cons pe_non (pa_cons (pe_tup (pa_cons (pe_ix ix_tup (pv 1) pe_int (fun _ _ => rfl)) (pa_cons (pe_tup (pa_cons (pe_tup (pa_cons pe_str (pa_cons (pe_ix ix_tup (pv 1) pe_int (fun _ _ => rfl)) (pa_cons (pe_glob (v := .ref _) (by rfl) hNO rfl) pa_nil)))) (pa_cons (pv 2) pa_nil))) pa_nil))) (pa_cons (pv 3) pa_nil)))))), ?_⟩
  obtain ⟨a, vs, rfl, ha, hvs⟩ := (show At K H kv (.bin .both b c) from hk.2).open
  obtain ⟨bv, cv, rfl, hb, hc⟩ := hvs.two
  exact ⟨_, rfl, a, _, 1, _, rfl, rfl, ha, at_of (j := 1) rfl rfl, _, rfl, a, _, 2, _, rfl, rfl, ha, at_of (j := 2) rfl rfl, len3, fun p1 n1 => al3 (fd_str "pick") (fd_at hc) (hN H) n1 fun H1 s1 h1 => ⟨_, rfl, len2, fun p2 n2 => al2 h1 (ht.same s1) n2 fun H2 s2 h2 => ⟨len2, fun p3 n3 => al2 ((fd_at hb).same (s1.trans s2)) h2 n3 fun H3 s3 h3 => ⟨_, rfl, len3, fun p4 n4 =>
    goQ (t := .pg b :: .pick c (.tr false) :: t) (e := e) rfl h3 (he.same (s1.trans (s2.trans s3))) (qs q (s1.trans (s2.trans s3))) n4⟩⟩⟩⟩
abbrev s_step_either : Stmt := topS 45
theorem sc_step_either : FnScope ["region", "task", "rest", "ready"] ["region", "task", "rest", "ready"] (defScope s_step_either) := ⟨rfl, rfl, rfl, by decide +kernel, rfl, by decide +kernel, by decide +kernel⟩
theorem ok_step_either {aY aN : Addr} (hYES : mg "YES" = some (.ref aY)) (hNO : mg "NO" = some (.ref aN)) (hY : ∀ H, Fd K H (.ref aY) (enc (.tr true))) (hN : ∀ H, Fd K H (.ref aN) (enc (.tr false))) (D : DefAt K mg "step_either" s_step_either ["region", "task", "rest", "ready"]) : Cal P w K mg base 1 "step_either" ["region", "task", "rest", "ready"] (spStep K fun k => ∃ a b, k = .pg (.bin .either a b)) := by
  refine cal_of D sc_step_either (fun vs H Q E h => spStep_len h) (fun f cdv A outer s H vs Q E hr h => ?_)
  obtain ⟨v, kv, tv, ev, ks, κ, r, _, t, e, rfl, ⟨b, c, rfl⟩, hv, hk, ht, he, st, hkl, q⟩ := h
  refine ⟨_, (pss_one (ps_ret (pe_tup (pa_cons pe_non (pa_cons (pe_tup (pa_cons (pe_ix ix_tup (pv 1) pe_int (fun _ _ => rfl)) (pa_cons (pe_tup (pa_cons (pe_tup (pa_cons pe_str (pa_cons (pe_glob (v := .ref _) (by rfl) hYES rfl) (pa_cons (pe_ix ix_tup (pv 1) pe_int (fun _ _ => rfl)) pa_nil)))) (pa_cons (pv 2) pa_nil))) pa_nil))) (pa_cons (pv 3) pa_nil)))))), ?_⟩
  obtain ⟨a, vs, rfl, ha, hvs⟩ := (show At K H kv (.bin .either b c) from hk.2).open
  obtain ⟨bv, cv, rfl, hb, hc⟩ := hvs.two
  exact ⟨_, rfl, a, _, 1, _, rfl, rfl, ha, at_of (j := 1) rfl rfl, _, rfl, a, _, 2, _, rfl, rfl, ha, at_of (j := 2) rfl rfl, len3, fun p1 n1 => al3 (fd_str "pick") (hY H) (fd_at hc) n1 fun H1 s1 h1 => ⟨_, rfl, len2, fun p2 n2 => al2 h1 (ht.same s1) n2 fun H2 s2 h2 => ⟨len2, fun p3 n3 => al2 ((fd_at hb).same (s1.trans s2)) h2 n3 fun H3 s3 h3 => ⟨_, rfl, len3, fun p4 n4 =>
    goQ (t := .pg b :: .pick (.tr true) c :: t) (e := e) rfl h3 (he.same (s1.trans (s2.trans s3))) (qs q (s1.trans (s2.trans s3))) n4⟩⟩⟩⟩
abbrev s_step_if : Stmt := topS 46
theorem sc_step_if : FnScope ["region", "task", "rest", "ready"] ["region", "task", "rest", "ready"] (defScope s_step_if) := ⟨rfl, rfl, rfl, by decide +kernel, rfl, by decide +kernel, by decide +kernel⟩
theorem ok_step_if (D : DefAt K mg "step_if" s_step_if ["region", "task", "rest", "ready"]) : Cal P w K mg base 1 "step_if" ["region", "task", "rest", "ready"] (spStep K fun k => ∃ p a b, k = .pg (.ite p a b)) := by
  refine cal_of D sc_step_if (fun vs H Q E h => spStep_len h) (fun f cdv A outer s H vs Q E hr h => ?_)
  obtain ⟨v, kv, tv, ev, ks, κ, r, _, t, e, rfl, ⟨b, c, d, rfl⟩, hv, hk, ht, he, st, hkl, q⟩ := h
  refine ⟨_, (pss_one (ps_ret (pe_tup (pa_cons pe_non (pa_cons (pe_tup (pa_cons (pe_ix ix_tup (pv 1) pe_int (fun _ _ => rfl)) (pa_cons (pe_tup (pa_cons (pe_tup (pa_cons pe_str (pa_cons (pe_ix ix_tup (pv 1) pe_int (fun _ _ => rfl)) (pa_cons (pe_ix ix_tup (pv 1) pe_int (fun _ _ => rfl)) pa_nil)))) (pa_cons (pv 2) pa_nil))) pa_nil))) (pa_cons (pv 3) pa_nil)))))), ?_⟩
  obtain ⟨a, vs, rfl, ha, hvs⟩ := (show At K H kv (.ite b c d) from hk.2).open
  obtain ⟨bv, cv, dv, rfl, hb, hc, hd⟩ := hvs.three
  exact ⟨_, rfl, a, _, 1, _, rfl, rfl, ha, at_of (j := 1) rfl rfl, _, rfl, a, _, 2, _, rfl, rfl, ha, at_of (j := 2) rfl rfl, _, rfl, a, _, 3, _, rfl, rfl, ha, at_of (j := 3) rfl rfl, len3, fun p1 n1 => al3 (fd_str "pick") (fd_at hc) (fd_at hd) n1 fun H1 s1 h1 => ⟨_, rfl, len2, fun p2 n2 => al2 h1 (ht.same s1) n2 fun H2 s2 h2 => ⟨len2, fun p3 n3 => al2 ((fd_at hb).same (s1.trans s2)) h2 n3 fun H3 s3 h3 => ⟨_, rfl, len3, fun p4 n4 =>
    goQ (t := .pg b :: .pick c d :: t) (e := e) rfl h3 (he.same (s1.trans (s2.trans s3))) (qs q (s1.trans (s2.trans s3))) n4⟩⟩⟩⟩
end
end Lm

set_option Elab.async false
set_option linter.all false
set_option maxRecDepth 100000
set_option maxHeartbeats 2000000
namespace LmG
open PySem
/-! ### what sleeps stays asleep: code that wakes no sleeping generator leaves it as it is -/
def badF (F : Frame) : Frame := .ret (fun _ => .unsupported "") none false [] F.where_.1 F.where_.2 []
/-- it looks as the sleeping one does, and can't be woken -/
def badG : GenState → GenState
  | .suspended _ _ c p fs _ => .suspended (fun _ => .unsupported "") [] c p (fs.map badF) false
  | x => x
def slp : GenState → Bool
  | .suspended .. => true
  | _ => false
theorem badG_seen (x : GenState) : (badG x).seen = x.seen := by
  cases x with
  | suspended k l c p fs cl =>
    show (GenStatus.suspended, some ((c, p) :: (fs.map badF).map Frame.where_)) = (GenStatus.suspended, some ((c, p) :: fs.map Frame.where_))
    rw [List.map_map]
    rfl
  | _ => rfl
def isRet : Frame → Prop
  | .ret .. => True
  | .gen .. => False
def ng (fs : List Frame) : Prop := ∀ F ∈ fs, isRet F
theorem ng_split : ∀ {fs : List Frame}, ng fs → splitAtGen fs = none
  | [], _ => rfl
  | .ret .. :: fs, h => by
    show (splitAtGen fs).map _ = none
    rw [ng_split fun F hF => h F (List.mem_cons_of_mem _ hF)]
    rfl
  | .gen .. :: fs, h => (h _ (List.mem_cons_self ..)).elim
theorem ng_map (fs : List Frame) : ng (fs.map badF) := fun F hF => by
  obtain ⟨G, _, rfl⟩ := List.mem_map.mp hF
  exact True.intro
theorem ng_app {a b : List Frame} (x : ng a) (y : ng b) : ng (a ++ b) := fun F hF => (List.mem_append.mp hF).elim (x F) (y F)
def ngG : GenState → Prop
  | .suspended _ _ _ _ fs _ => ng fs
  | _ => True
def ngE : End → Prop
  | .ret _ => True
  | .susp _ _ _ _ _ _ fs => ng fs
theorem ngE_gen {e : End} (h : ngE e) : ngG e.genState := by
  cases e with
  | ret r => exact True.intro
  | susp v g l k c p fs => exact h
def ngS (s : Shared) : Prop := ∀ (i : Nat) (x : GenState), s.gens[i]? = some x → ngG x
theorem ngS_set {s : Shared} (h : ngS s) (g : Nat) {x : GenState} (hx : ngG x) : ngS (s.setGen g x) := fun i y hy => by
  have hy' : (s.gens.setIfInBounds g x)[i]? = some y := hy
  rw [Array.getElem?_setIfInBounds] at hy'
  split at hy'
  · split at hy'
    · cases hy'; exact hx
    · cases hy'
  · exact h i y hy'
theorem ngS_push {s : Shared} (h : ngS s) (c : Code) : ngS { s with gens := s.gens.push (.fresh c) } := fun i y hy => by
  have hy' : (s.gens.push (.fresh c))[i]? = some y := hy
  rw [Array.getElem?_push] at hy'
  split at hy'
  · cases hy'; exact True.intro
  · exact h i y hy'
theorem no_runs {M : Model} {Γ : Ctx} {p : Pos} {z : String} {fs : List Frame} {s s' : Shared} {e : End} (h : Runs M Γ p (.unsupported z) fs s e s') : False := by
  generalize et : (Sem.unsupported z : Sem PySem.Fin) = t at h
  induction h <;> cases et
  all_goals simp_all
section
variable (G0 : Array GenState)
/-- number i sleeps in G0 -/
def guards (i : Nat) : Bool := match G0[i]? with
  | some y => slp y
  | none => false
def prot (s : Shared) : Prop := G0.size ≤ s.gens.size ∧ ∀ (i : Nat) (y : GenState), G0[i]? = some y → slp y = true → s.gens[i]? = some (badG y)
def patchA (G : Array GenState) : Array GenState := G.mapIdx fun i x => match G0[i]? with
  | some y => if slp y then y else x
  | none => x
def patch (s : Shared) : Shared := { s with gens := patchA G0 s.gens }
theorem patch_size (G : Array GenState) : (patchA G0 G).size = G.size := by unfold patchA; rw [Array.size_mapIdx]
theorem patch_get (G : Array GenState) (i : Nat) : (patchA G0 G)[i]? = (G[i]?).map fun x => match G0[i]? with
  | some y => if slp y then y else x
  | none => x := by unfold patchA; rw [Array.getElem?_mapIdx]
theorem patch_push {G : Array GenState} (h : G0.size ≤ G.size) (x : GenState) : patchA G0 (G.push x) = (patchA G0 G).push x := by
  apply Array.ext_getElem?
  intro i
  rw [patch_get, Array.getElem?_push, Array.getElem?_push, patch_size, patch_get]
  by_cases e : i = G.size
  · subst e
    have : G0[G.size]? = none := Array.getElem?_eq_none h
    rw [if_pos rfl, if_pos rfl, this]
    rfl
  · rw [if_neg e, if_neg e]
theorem patch_set {G : Array GenState} {g : Nat} (h : guards G0 g = false) (x : GenState) : patchA G0 (G.setIfInBounds g x) = (patchA G0 G).setIfInBounds g x := by
  apply Array.ext_getElem?
  intro i
  rw [patch_get, Array.getElem?_setIfInBounds, Array.getElem?_setIfInBounds, patch_size, patch_get]
  by_cases e : g = i
  · subst e
    rw [if_pos rfl, if_pos rfl]
    by_cases l : g < G.size
    · rw [if_pos l]
      unfold guards at h
      cases hy : G0[g]? with
      | some y =>
        rw [hy] at h
        have h' : slp y = false := h
        simp [h']
      | none => rfl
    · rw [if_neg l]
      rfl
  · rw [if_neg e, if_neg e]
theorem prot_free {s : Shared} {g : Nat} {st : GenState} (h : prot G0 s) (e : s.gens[g]? = some st) (n : ∀ y, slp y = true → st ≠ badG y) : guards G0 g = false := by
  unfold guards
  split
  · rename_i y hy
    cases hs : slp y with
    | false => rfl
    | true =>
      have := h.2 g y hy hs
      rw [e] at this
      exact absurd (Option.some.inj this) (n y hs)
  · rfl
theorem prot_set {s : Shared} (h : prot G0 s) {g : Nat} (f : guards G0 g = false) (x : GenState) : prot G0 (s.setGen g x) := by
  refine ⟨by show G0.size ≤ (s.gens.setIfInBounds g x).size; rw [Array.size_setIfInBounds]; exact h.1, fun i y hy hs => ?_⟩
  show (s.gens.setIfInBounds g x)[i]? = _
  have ne : g ≠ i := fun z => by
    subst z
    unfold guards at f
    rw [hy] at f
    have f' : slp y = false := f
    rw [hs] at f'
    cases f'
  rw [Array.getElem?_setIfInBounds_ne ne]
  exact h.2 i y hy hs
theorem prot_push {s : Shared} (h : prot G0 s) (c : Code) : prot G0 { s with gens := s.gens.push (.fresh c) } := by
  refine ⟨by show G0.size ≤ (s.gens.push _).size; rw [Array.size_push]; have := h.1; omega, fun i y hy hs => ?_⟩
  show (s.gens.push _)[i]? = _
  have e := h.2 i y hy hs
  have := (Array.getElem?_eq_some_iff.mp e).1
  rw [Array.getElem?_push, if_neg (by omega)]
  exact e
theorem patch_setGen {s : Shared} {g : Nat} (f : guards G0 g = false) (x : GenState) : patch G0 (s.setGen g x) = (patch G0 s).setGen g x := by
  unfold patch Shared.setGen
  rw [patch_set G0 f]
theorem patch_newGen {s : Shared} (h : prot G0 s) (c : Code) : patch G0 { s with gens := s.gens.push (.fresh c) } = { patch G0 s with gens := (patch G0 s).gens.push (.fresh c) } := by
  unfold patch
  rw [patch_push G0 h.1]
theorem patch_at {s : Shared} {g : Nat} {st : GenState} (f : guards G0 g = false) (e : s.gens[g]? = some st) : (patch G0 s).gens[g]? = some st := by
  show (patchA G0 s.gens)[g]? = _
  rw [patch_get, e]
  unfold guards at f
  cases hy : G0[g]? with
  | some y =>
    rw [hy] at f
    have f' : slp y = false := f
    simp [f']
  | none => rfl
theorem patch_seen {s : Shared} {g : Nat} {st : GenState} (h : prot G0 s) (e : s.gens[g]? = some st) : ∃ st', (patch G0 s).gens[g]? = some st' ∧ st'.seen = st.seen := by
  cases f : guards G0 g with
  | false => exact ⟨st, patch_at G0 f e, rfl⟩
  | true =>
    unfold guards at f
    split at f
    · rename_i y hy
      have z := h.2 g y hy f
      rw [e] at z
      refine ⟨y, ?_, by rw [Option.some.inj z, badG_seen]⟩
      show (patchA G0 s.gens)[g]? = _
      rw [patch_get, e, hy]
      simp [f]
    · cases f
theorem not_fresh {c : Code} (y : GenState) (h : slp y = true) : GenState.fresh c ≠ badG y := by
  cases y with
  | suspended k l cc pp ff cl => intro z; cases z
  | _ => cases h
theorem not_running (y : GenState) (h : slp y = true) : GenState.running ≠ badG y := by
  cases y with
  | suspended k l cc pp ff cl => intro z; cases z
  | _ => cases h
theorem not_finished (y : GenState) (h : slp y = true) : GenState.finished ≠ badG y := by
  cases y with
  | suspended k l cc pp ff cl => intro z; cases z
  | _ => cases h
theorem runs_frame {M : Model} {Γ : Ctx} {p : Pos} {t : Sem PySem.Fin} {fs : List Frame} {s s' : Shared} {e : End} (h : Runs M Γ p t fs s e s') : ng fs → ngS s → prot G0 s →
    Runs M Γ p t fs (patch G0 s) e (patch G0 s') ∧ ngE e ∧ ngS s' ∧ prot G0 s' := by
  induction h with
  | done => exact fun a b c => ⟨.done, True.intro, b, c⟩
  | raise => exact fun a b c => ⟨.raise, True.intro, b, c⟩
  | again q _ ih => exact fun a b c => let ⟨x, r⟩ := ih a b c; ⟨.again q x, r⟩
  | rule _ ih => exact fun a b c => let ⟨x, r⟩ := ih a b c; ⟨.rule x, r⟩
  | «at» _ ih => exact fun a b c => let ⟨x, r⟩ := ih a b c; ⟨.at x, r⟩
  | load q _ ih => exact fun a b c => let ⟨x, r⟩ := ih a b c; ⟨.load q x, r⟩
  | update q _ ih => exact fun a b c => let ⟨x, r⟩ := ih a b c; ⟨.update q x, r⟩
  | loadIfAlive _ ih => exact fun a b c => let ⟨x, r⟩ := ih a b c; ⟨.loadIfAlive x, r⟩
  | point _ ih => exact fun a b c => let ⟨x, r⟩ := ih a b c; ⟨.point x, r⟩
  | alloc _ ih => exact fun a b c => let ⟨x, r⟩ := ih a b c; ⟨.alloc x, r⟩
  | fresh _ ih => exact fun a b c => let ⟨x, r⟩ := ih a b c; ⟨.fresh x, r⟩
  | ask _ ih => exact fun a b c => let ⟨x, r⟩ := ih a b c; ⟨.ask x, r⟩
  | choose q _ ih => exact fun a b c => let ⟨x, r⟩ := ih a b c; ⟨.choose q x, r⟩
  | os _ ih => exact fun a b c => let ⟨x, r⟩ := ih a b c; ⟨.os x, r⟩
  | handled _ ih => exact fun a b c => let ⟨x, r⟩ := ih a b c; ⟨.handled x, r⟩
  | genState q _ ih =>
    intro a b c
    obtain ⟨x, r⟩ := ih a b c
    obtain ⟨st', e1, e2⟩ := patch_seen G0 c q
    exact ⟨.genState e1 (by rw [e2]; exact x), r⟩
  | stack _ ih => exact fun a b c => let ⟨x, r⟩ := ih a b c; ⟨.stack x, r⟩
  | thread _ ih => exact fun a b c => let ⟨x, r⟩ := ih a b c; ⟨.thread x, r⟩
  | @newGen Γ p k s e s' c _ ih =>
    intro a b d
    obtain ⟨x, r⟩ := ih a (ngS_push b c) (prot_push G0 d c)
    rw [patch_newGen G0 d] at x
    refine ⟨.newGen ?_, r⟩
    have z : (patch G0 s).gens.size = s.gens.size := patch_size G0 _
    rw [z]
    exact x
  | call _ _ ih1 ih2 =>
    intro a b c
    obtain ⟨x, _, b1, c1⟩ := ih1 a b c
    obtain ⟨y, r⟩ := ih2 a b1 c1
    exact ⟨.call x y, r⟩
  | callSusp _ ih =>
    intro a b c
    obtain ⟨x, n, r⟩ := ih a b c
    exact ⟨.callSusp x, ng_app n (fun F hF => by rw [List.mem_singleton.mp hF]; exact True.intro), r⟩
  | yield => exact fun a b c => ⟨.yield, a, b, c⟩
  | resumeFresh q _ qe _ ih1 ih2 =>
    intro a b c
    have f := prot_free G0 c q (fun y hy => not_fresh y hy)
    obtain ⟨x, n, b1, c1⟩ := ih1 a (ngS_set b _ True.intro) (prot_set G0 c f _)
    obtain ⟨y, r⟩ := ih2 a (ngS_set b1 _ (ngE_gen n)) (prot_set G0 c1 f _)
    rw [patch_setGen G0 f] at x y
    exact ⟨.resumeFresh (patch_at G0 f q) x qe y, r⟩
  | resumeSuspended q h1 qe _ ih1 ih2 =>
    intro a b c
    have nf := b _ _ q
    have f : guards G0 _ = false := prot_free G0 c q fun y hy z => by
      cases y with
      | suspended k l cc pp ff cl =>
        cases z
        exact no_runs h1
      | _ => cases hy
    obtain ⟨x, n, b1, c1⟩ := ih1 nf (ngS_set b _ True.intro) (prot_set G0 c f _)
    obtain ⟨y, r⟩ := ih2 a (ngS_set b1 _ (ngE_gen n)) (prot_set G0 c1 f _)
    rw [patch_setGen G0 f] at x y
    exact ⟨.resumeSuspended (patch_at G0 f q) x qe y, r⟩
  | resumeJustStarted q hv _ ih =>
    intro a b c
    obtain ⟨x, r⟩ := ih a b c
    exact ⟨.resumeJustStarted (patch_at G0 (prot_free G0 c q fun y hy => not_fresh y hy) q) hv x, r⟩
  | resumeThrowFresh q _ ih =>
    intro a b c
    have f := prot_free G0 c q (fun y hy => not_fresh y hy)
    obtain ⟨x, r⟩ := ih a (ngS_set b _ True.intro) (prot_set G0 c f _)
    rw [patch_setGen G0 f] at x
    exact ⟨.resumeThrowFresh (patch_at G0 f q) x, r⟩
  | resumeRunning q _ ih =>
    intro a b c
    obtain ⟨x, r⟩ := ih a b c
    exact ⟨.resumeRunning (patch_at G0 (prot_free G0 c q fun y hy => not_running y hy) q) x, r⟩
  | resumeFinished q _ ih =>
    intro a b c
    obtain ⟨x, r⟩ := ih a b c
    exact ⟨.resumeFinished (patch_at G0 (prot_free G0 c q fun y hy => not_finished y hy) q) x, r⟩
  | segRet _ _ ih1 ih2 =>
    intro a b c
    obtain ⟨x, _, b1, c1⟩ := ih1 (fun F hF => nomatch hF) b c
    obtain ⟨y, r⟩ := ih2 (fun F hF => a F (List.mem_cons_of_mem _ hF)) b1 c1
    exact ⟨.segRet x y, r⟩
  | segGen _ _ _ _ => exact fun a => (a _ (List.mem_cons_self ..)).elim
  | segSuspOut hs _ ih =>
    intro a b c
    obtain ⟨x, n, r⟩ := ih (fun F hF => nomatch hF) b c
    exact ⟨.segSuspOut hs x, ng_app n a, r⟩
  | segSuspGen hs _ _ _ _ _ =>
    intro a
    rw [ng_split a] at hs
    cases hs
end
end LmG
namespace LmG
open PySem
section
variable (G0 : Array GenState)
theorem wakes_frame {M : Model} {Γ : Ctx} {p : Pos} {g : Nat} {r : Resume} {s s' : Shared} {res : GenResult} (h : Wakes M Γ p g r s res s') (b : ngS s) (c : prot G0 s) :
    Wakes M Γ p g r (patch G0 s) res (patch G0 s') ∧ ngS s' ∧ prot G0 s' := by
  unfold Wakes at h
  split at h
  · exact h.elim
  · rename_i cc q
    have f := prot_free G0 c q (fun y hy => not_fresh y hy)
    have q' := patch_at G0 f q
    unfold Wakes
    rw [q']
    split at h
    · obtain ⟨e₁, s₁, hr, hq, rfl, rfl⟩ := h
      obtain ⟨x, n, b1, c1⟩ := runs_frame G0 hr (fun F hF => nomatch hF) (ngS_set b _ True.intro) (prot_set G0 c f _)
      rw [patch_setGen G0 f] at x
      refine ⟨⟨e₁, _, x, hq, rfl, patch_setGen G0 f _⟩, ngS_set b1 _ (ngE_gen n), prot_set G0 c1 f _⟩
    · obtain ⟨rfl, rfl⟩ := h
      exact ⟨⟨rfl, rfl⟩, b, c⟩
    · obtain ⟨rfl, rfl⟩ := h
      exact ⟨⟨rfl, patch_setGen G0 f _⟩, ngS_set b _ True.intro, prot_set G0 c f _⟩
  · rename_i k₀ l₀ c₀ p₀ fs cl q
    obtain ⟨e₁, s₁, hr, hq, rfl, rfl⟩ := h
    have nf := b _ _ q
    have f : guards G0 g = false := prot_free G0 c q fun y hy z => by
      cases y with
      | suspended k l cc pp ff cl =>
        cases z
        exact no_runs hr
      | _ => cases hy
    have q' := patch_at G0 f q
    unfold Wakes
    rw [q']
    obtain ⟨x, n, b1, c1⟩ := runs_frame G0 hr nf (ngS_set b _ True.intro) (prot_set G0 c f _)
    rw [patch_setGen G0 f] at x
    exact ⟨⟨e₁, _, x, hq, rfl, patch_setGen G0 f _⟩, ngS_set b1 _ (ngE_gen n), prot_set G0 c1 f _⟩
  · rename_i q
    obtain ⟨rfl, rfl⟩ := h
    have q' := patch_at G0 (prot_free G0 c q fun y hy => not_running y hy) q
    unfold Wakes
    rw [q']
    exact ⟨⟨rfl, rfl⟩, b, c⟩
  · rename_i q
    obtain ⟨rfl, rfl⟩ := h
    have q' := patch_at G0 (prot_free G0 c q fun y hy => not_finished y hy) q
    unfold Wakes
    rw [q']
    exact ⟨⟨rfl, rfl⟩, b, c⟩
/-- behind a run: what sleeps in G0 is as it was; the state with these unwakeable keeps what is told -/
def Kept {α : Type} (Q : α → Shared → Prop) (a : α) (s' : Shared) : Prop := ∃ b, s' = patch G0 b ∧ prot G0 b ∧ ngS b ∧ Q a b
theorem wp_frame {α : Type} (M : Model) (Γ : Ctx) (t : Sem α) : ∀ (Q : α → Pos → Shared → Prop) (E : Value → Pos → Shared → Prop) (p : Pos) (s : Shared), ngS s → prot G0 s → PySem.Sem.wp M Γ t Q E p s →
    PySem.Sem.wp M Γ t (fun a p' s' => ∃ b, s' = patch G0 b ∧ prot G0 b ∧ ngS b ∧ Q a p' b) (fun e p' s' => ∃ b, s' = patch G0 b ∧ prot G0 b ∧ ngS b ∧ E e p' b) p (patch G0 s) := by
  induction t with
  | pure a => intro Q E p s n c h; exact ⟨s, rfl, c, n, h⟩
  | raise e => intro Q E p s n c h; exact ⟨s, rfl, c, n, h⟩
  | unsupported _ => intro Q E p s _ _ h; exact h
  | finish _ => intro Q E p s _ _ h; exact h
  | rule _ k ih => intro Q E p s n c h; exact ih () Q E p s n c h
  | «at» p' k ih => intro Q E p s n c h; exact ih () Q E p' s n c h
  | load a _ k ih => intro Q E p s n c h; obtain ⟨o, ho, h⟩ := h; exact ⟨o, ho, ih o Q E p s n c h⟩
  | update a _ f k ih => intro Q E p s n c h; exact ⟨h.1, ih () Q E p { s with heap := s.heap.update a f } n c h.2⟩
  | loadIfAlive a k ih => intro Q E p s n c h; exact ih _ Q E p s n c h
  | point _ k ih => intro Q E p s n c h; exact ih () Q E p s n c h
  | register _ _ => intro Q E p s _ _ h; exact h
  | alloc o k ih => intro Q E p s n c h; exact ih _ Q E p { s with heap := s.heap.push o } n c h
  | fresh k ih => intro Q E p s n c h; exact ih _ Q E p { s with toks := s.toks + 1 } n c h
  | ask k ih => intro Q E p s n c h; exact ih _ Q E p s n c h
  | choose src m k ih => intro Q E p s n c h; exact ⟨h.1, ih _ Q E p { s with drawn := s.drawn.bump src } n c h.2⟩
  | os q _ k ih => intro Q E p s n c h; exact ih _ Q E p { s with os := (Os.step s.os q).1 } n c h
  | call cd hd _ _ k ih =>
    intro Q E p s n c h
    obtain ⟨r, s', hr, h⟩ := h
    obtain ⟨x, _, b1, c1⟩ := runs_frame G0 hr (fun F hF => nomatch hF) n c
    exact ⟨r, _, x, ih r Q E p s' b1 c1 h⟩
  | handled own k ih => intro Q E p s n c h; exact ih _ Q E p s n c h
  | genState g k ih =>
    intro Q E p s n c h
    obtain ⟨st, hs, h⟩ := h
    obtain ⟨st', e1, e2⟩ := patch_seen G0 c hs
    exact ⟨st', e1, by rw [e2]; exact ih _ Q E p s n c h⟩
  | newGen cd k ih =>
    intro Q E p s n c h
    have z : (patch G0 s).gens.size = s.gens.size := patch_size G0 _
    have r := ih s.gens.size Q E p { s with gens := s.gens.push (.fresh cd) } (ngS_push n cd) (prot_push G0 c cd) h
    rw [patch_newGen G0 c] at r
    show PySem.Sem.wp M Γ (k (patch G0 s).gens.size) _ _ p _
    rw [z]
    exact r
  | resume g r _ k ih =>
    intro Q E p s n c h
    obtain ⟨res, s', hw, h⟩ := h
    obtain ⟨x, b1, c1⟩ := wakes_frame G0 hw n c
    exact ⟨res, _, x, ih res Q E p s' b1 c1 h⟩
  | yield _ _ _ _ => intro Q E p s _ _ h; exact h
  | stack k ih => intro Q E p s n c h; exact ih _ Q E p s n c h
  | fork _ _ => intro Q E p s _ _ h; exact h
  | thread k ih => intro Q E p s n c h; exact ih _ Q E p s n c h
  | await _ _ _ _ _ => intro Q E p s _ _ h; exact h
end
/-- the state with all that sleeps unwakeable -/
def hush (s : Shared) : Shared := { s with gens := s.gens.map badG }
theorem hush_ng (s : Shared) : ngS (hush s) := fun i x hx => by
  have hx' : (s.gens.map badG)[i]? = some x := hx
  rw [Array.getElem?_map] at hx'
  cases e : s.gens[i]? with
  | none => rw [e] at hx'; cases hx'
  | some y =>
    rw [e] at hx'
    cases hx'
    cases y with
    | suspended k l c p fs cl => exact ng_map fs
    | _ => exact True.intro
theorem hush_prot (s : Shared) : prot s.gens (hush s) := by
  refine ⟨by show s.gens.size ≤ (s.gens.map badG).size; rw [Array.size_map]; exact Nat.le_refl _, fun i y hy _ => ?_⟩
  show (s.gens.map badG)[i]? = _
  rw [Array.getElem?_map, hy]
  rfl
theorem hush_patch (s : Shared) : patch s.gens (hush s) = s := by
  have e : patchA s.gens (s.gens.map badG) = s.gens := by
    apply Array.ext_getElem?
    intro i
    rw [patch_get, Array.getElem?_map]
    cases e : s.gens[i]? with
    | none => rfl
    | some y => cases y <;> rfl
  unfold patch hush
  rw [e]
theorem bad_bare (x : GenState) (h : x.bare = true) : (badG x).bare = true := by
  cases x with
  | suspended k l c p fs cl => rfl
  | _ => exact h
theorem wpAny_keepG {α : Type} {M : Model} {A : Around} {t : Sem α} {Q : α → Shared → Prop} {E : Value → Shared → Prop} {s : Shared} (h : wpAny M A t Q E (hush s)) :
    wpAny M A t (Kept s.gens Q) (Kept s.gens E) s := fun Γ p hΓ => by
  have z := wp_frame s.gens M Γ t _ _ p (hush s) (hush_ng s) (hush_prot s) (h Γ p hΓ)
  rw [hush_patch] at z
  exact z
/-- what slept is as it was -/
theorem Kept.at {α : Type} {G0 : Array GenState} {Q : α → Shared → Prop} {a : α} {s' : Shared} (h : Kept G0 Q a s') {i : Nat} {y : GenState} (hy : G0[i]? = some y) (hs : slp y = true) : s'.gens[i]? = some y := by
  obtain ⟨b, rfl, pb, _, _⟩ := h
  show (patchA G0 b.gens)[i]? = _
  rw [patch_get, pb.2 i y hy hs, hy]
  simp [hs]
end LmG

set_option Elab.async false
set_option linter.all false
set_option maxRecDepth 100000
set_option maxHeartbeats 1000000
/-! what runs while generators sleep: the layer's rules hold, and who sleeps stays as he is -/
namespace LmG
open PySem PySem.Spec PyProof.Rows L2
theorem bare_patch {G0 : Array GenState} {s : Shared} (h0 : AllBare G0) (h : AllBare s.gens) : AllBare (patch G0 s).gens := fun y hy => by
  obtain ⟨i, hi⟩ := Array.mem_iff_getElem?.mp hy
  have e : (patchA G0 s.gens)[i]? = some y := hi
  rw [patch_get] at e
  obtain ⟨x, ex, rfl⟩ := Option.map_eq_some_iff.mp e
  have bx := h x (Array.mem_of_getElem? ex)
  cases e0 : G0[i]? with
  | none => exact bx
  | some z =>
    simp only
    split
    · exact h0 z (Array.mem_of_getElem? e0)
    · exact bx
theorem bare_hush {s : Shared} (h : AllBare s.gens) : AllBare (hush s).gens := fun y hy => by
  obtain ⟨x, hx, rfl⟩ := Array.mem_map.mp (show y ∈ s.gens.map badG from hy)
  exact bad_bare x (h x hx)
/-- what slept stays as it is -/
def Asleep (s s' : Shared) : Prop := ∀ (i : Nat) (y : GenState), s.gens[i]? = some y → slp y = true → s'.gens[i]? = some y
theorem Asleep.refl (s : Shared) : Asleep s s := fun _ _ h _ => h
theorem Asleep.trans {s s1 s2 : Shared} (a : Asleep s s1) (b : Asleep s1 s2) : Asleep s s2 := fun i y h q => b i y (a i y h q) q
theorem keep_of {α : Type} {M : Model} {A : Around} {t : Sem α} {Q : α → Shared → Prop} {E : Value → Shared → Prop} {s : Shared} (h : wpAny M A t Q E (hush s))
    (hQ : ∀ a b, Q a b → Q a (patch s.gens b)) (hE : ∀ e b, E e b → E e (patch s.gens b)) : wpAny M A t (fun a s' => Q a s' ∧ Asleep s s') (fun e s' => E e s' ∧ Asleep s s') s :=
  wpAny_mono (wpAny_keepG h) (fun a s' z => ⟨by
    obtain ⟨b, rfl, _, _, q⟩ := z
    exact hQ a b q, fun i y hy hs => z.at hy hs⟩) fun e s' z => ⟨by
    obtain ⟨b, rfl, _, _, q⟩ := z
    exact hE e b q, fun i y hy hs => z.at hy hs⟩
section
variable {X : Cx} {pins : List (Addr × Obj)} {σ : L2.St} {H : Hp} {s : Shared}
theorem inv_gens {G : Array GenState} (I : Inv X pins σ H s) (h : AllBare G) : Inv X pins σ H { s with gens := G } := ⟨I.ok, I.os, h, I.base, I.loc, I.cell, I.free, I.freeC, I.pin, I.hok, I.len⟩
theorem inv_hush (I : Inv X pins σ H s) : Inv X pins σ H (hush s) := inv_gens I (bare_hush I.bare)
theorem inv_patch {G0 : Array GenState} (h0 : AllBare G0) (I : Inv X pins σ H s) : Inv X pins σ H (patch G0 s) := inv_gens I (bare_patch h0 I.bare)
theorem sp_patch {G0 : Array GenState} (h0 : AllBare G0) {D : Ends} {f : Flow} (h : SP X pins D f s) : SP X pins D f (patch G0 s) := by
  cases f with
  | next => obtain ⟨σ', H', I, q⟩ := h; exact ⟨σ', H', inv_patch h0 I, q⟩
  | brk => obtain ⟨σ', H', I, q⟩ := h; exact ⟨σ', H', inv_patch h0 I, q⟩
  | cont => obtain ⟨σ', H', I, q⟩ := h; exact ⟨σ', H', inv_patch h0 I, q⟩
  | ret u => obtain ⟨v, σ', H', I, r, q⟩ := h; exact ⟨v, σ', H', inv_patch h0 I, r, q⟩
/-- exceptions may leave with any generators -/
def XePatch (X : Cx) (G0 : Array GenState) : Prop := ∀ e b, X.xe e b → X.xe e (patch G0 b)
theorem run_pss {st : List Stmt} {t : TS} {D : Ends} (h : PSs X st t) (hx : XePatch X s.gens) (I : Inv X pins σ H s) (q : t D σ H) :
    wpAny (model X.prog X.w) X.A (execs st X.env) (fun f s' => SP X pins D f s' ∧ Asleep s s') (fun e s' => X.xe e s' ∧ Asleep s s') s :=
  keep_of (h.run pins (hush s) σ H D (inv_hush I) q) (fun f b z => sp_patch I.bare z) hx
theorem run_pe {e : Expr} {t : TE} {Q : VK} (h : PE X e t) (hx : XePatch X s.gens) (I : Inv X pins σ H s) (q : t σ H Q) :
    wpAny (model X.prog X.w) X.A (eval e X.env) (fun u s' => EP X pins σ Q u s' ∧ Asleep s s') (fun e s' => X.xe e s' ∧ Asleep s s') s :=
  keep_of (h.run pins (hush s) σ H Q (inv_hush I) q) (fun u b z => by
    obtain ⟨v, H', J, r, z⟩ := z
    exact ⟨v, H', inv_patch I.bare J, r, z⟩) hx
end
end LmG

set_option Elab.async false
set_option linter.all false
set_option maxRecDepth 100000
set_option maxHeartbeats 1000000
/-! for over an iterator whose standing is told of the whole state: a generator that sleeps between two turns -/
namespace LmG
open PySem PySem.Spec PyProof.Rows L2
/-- a tuple, or one that is known -/
def IsTp (t : HO) : Prop := (∃ xs, t = .tup xs) ∨ ∃ o xs, t = .frz o (.tup xs)
theorem isTp (xs : List V) : IsTp (.tup xs) := .inl ⟨xs, rfl⟩
theorem IsTp.noext {t : HO} (h : IsTp t) (φ : Heap → Prop) : t ≠ .ext φ := by
  rcases h with ⟨xs, rfl⟩ | ⟨o, xs, rfl⟩ <;> exact fun z => nomatch z
/-- tuples stay, and other ones' things -/
def Tps (H H' : Hp) : Prop := (∀ b t, IsTp t → H b = some t → H' b = some t) ∧ ∀ b φ, H b = some (.ext φ) → H' b = some (.ext φ)
theorem Tps.refl (H : Hp) : Tps H H := ⟨fun _ _ _ h => h, fun _ _ h => h⟩
theorem Tps.trans {H H1 H2 : Hp} (a : Tps H H1) (b : Tps H1 H2) : Tps H H2 := ⟨fun c t i h => b.1 c t i (a.1 c t i h), fun c φ h => b.2 c φ (a.2 c φ h)⟩
theorem Tps.same {H H' : Hp} (a : Same H H') : Tps H H' := ⟨fun c t _ h => a c t h, fun c φ h => a c _ h⟩
/-- what an iterator tells: goes on, ends, hands out x, leaves -/
structure ItS where
  go : Nat → Hp → Prop
  stop : Nat → Hp → Prop
  yld : Nat → Hp → V → Hp → Prop
  fin : Nat → Hp → Hp → Prop
/-- tn: how the iterator stands ahead of turn i; pl: what it keeps for itself while it sleeps -/
structure TurnS (X : Cx) (pins : List (Addr × Obj)) (tg : Expr) (J : ItS) (it : Addr) (tn : Nat → Hp → Shared → Prop) : Prop where
  item : ∀ (i : Nat) (σ : L2.St) (H : Hp) (s : Shared), Inv X pins σ H s → tn i H s → J.go i H → wpAny (model X.prog X.w) X.A (pyNext (.ref it)) (fun r s1 => ∃ u, r = some u ∧
    wpAny (model X.prog X.w) X.A (letOwnedTupleGo tg (.ref it) u) (fun _ s2 => ∃ (x : V) (H' : Hp) (pl : List (Addr × Obj)), Inv X (pins ++ pl) σ H' s2 ∧ RelV x u ∧ J.yld i H x H' ∧
      ∀ (σ3 : L2.St) (H3 : Hp) (s3 : Shared), Inv X (pins ++ pl) σ3 H3 s3 → Asleep s2 s3 → Tps H' H3 → tn (i + 1) H3 s3) X.xe s1) X.xe s
  done : ∀ (i : Nat) (σ : L2.St) (H : Hp) (s : Shared), Inv X pins σ H s → tn i H s → J.stop i H → wpAny (model X.prog X.w) X.A (pyNext (.ref it)) (fun r s1 => r = none ∧ ∃ H', Inv X pins σ H' s1 ∧ J.fin i H H') X.xe s
abbrev TIS := L2.St → Hp → (ItS → Hp → Prop) → Prop
structure PIS (X : Cx) (tg iter : Expr) (wi : TIS) : Prop where
  run : ∀ (pins : List (Addr × Obj)) (s : Shared) (σ : L2.St) (H : Hp) (R : ItS → Hp → Prop), Inv X pins σ H s → wi σ H R →
    wpAny (model X.prog X.w) X.A (eval iter X.env) (fun v s1 => wpAny (model X.prog X.w) X.A (pyIter v) (fun itv s2 => ∃ (it : Addr) (tn : Nat → Hp → Shared → Prop) (J : ItS) (H' : Hp), itv = .ref it ∧ Inv X pins σ H' s2 ∧ TurnS X pins tg J it tn ∧ tn 0 H' s2 ∧ R J H') X.xe s1) X.xe s
/-- the reading of the loop: the body keeps tuples -/
def tForS (wi : TIS) (g : TG) (tb : TS) : TS := fun D σ H => wi σ H fun J H1 => ∃ W : Nat → Nat → L2.St → Hp → Prop, (∃ m, W 0 m σ H1) ∧ ∀ i m σ H, W i m σ H →
  (J.stop i H ∧ ∀ H', J.fin i H H' → D.nx σ H') ∨ (J.go i H ∧ ∀ x H', J.yld i H x H' → ∃ N : L2.St → Hp → Prop, (∀ σ3 H3, N σ3 H3 → Tps H' H3 ∧ ∃ m', m' < m ∧ W (i + 1) m' σ3 H3) ∧
    g x σ H' fun σ2 H2 => tb { D with nx := N, ct := N, bk := D.nx } σ2 H2)
theorem ps_forS {X : Cx} {tg iter : Expr} {body : List Stmt} {wi : TIS} {g : TG} {tb : TS} {pos : Pos} (hp : PassesOwn (model X.prog X.w) X.A X.env X.xe) (hx : ∀ G0, AllBare G0 → XePatch X G0) (hi : PIS X tg iter wi) (hg : PG X tg g) (hb : PSs X body tb)
    (hs : ∀ x, foldedSetIterable iter X.env x = pure x := by intro _; rfl) : PS X (.For tg iter body [] pos) (tForS wi g tb) := by
  refine ⟨fun pins s σ H D I h => ?_⟩
  refine wpAny_For (thn (hi.run pins s σ H _ I h) fun v s1 h1 => thn h1 fun itv s2 h2 => ?_) hs
  obtain ⟨it, tn, J, H2, rfl, I2, T, st2, W, ⟨m0, w0⟩, turn⟩ := h2
  refine codeAny_forLoop_any (fun n s' => ∃ i σ' H', Inv X pins σ' H' s' ∧ tn i H' s' ∧ W i n σ' H') ?_ m0 ⟨0, σ, H2, I2, st2, w0⟩
  rintro n s3 ⟨i, σ3, H3, I3, st3, w3⟩
  rcases turn i n σ3 H3 w3 with ⟨stop, qn⟩ | ⟨go, step⟩
  · refine wpAny_passesOwn hp (thn (T.done i σ3 H3 s3 I3 st3 stop) fun r s4 ⟨hr, H4, I4, y4⟩ => ?_)
    subst hr
    exact wpAny_execs_nil ⟨σ3, H4, I4, qn H4 y4⟩
  · refine wpAny_passesOwn hp (thn (T.item i σ3 H3 s3 I3 st3 go) fun r s4 ⟨u, hr, h4⟩ => ?_)
    subst hr
    refine wpAny_passesOwn hp (thn h4 fun _ s5 ⟨x, H5, pl, I5, r5, y5, back⟩ => ?_)
    obtain ⟨N, hN, q5⟩ := step x H5 y5
    have A1 := keep_of (s := s5) (hg.run (pins ++ pl) (hush s5) σ3 H5 x u _ (inv_hush I5) r5 q5) (fun _ b z => by
      obtain ⟨σ6, H6, I6, q6⟩ := z
      exact ⟨σ6, H6, inv_patch I5.bare I6, q6⟩) (hx _ I5.bare)
    refine wpAny_passesOwn hp (wpAny_mono A1 (fun _ s6 z => ?_) fun _ _ z => z.1)
    obtain ⟨⟨σ6, H6, I6, q6⟩, a6⟩ := z
    refine wpAny_passesOwn hp (wpAny_mono (run_pss hb (hx _ I6.bare) I6 q6) (fun fl s7 z => ?_) fun _ _ z => z.1)
    obtain ⟨q7, a7⟩ := z
    have again : ∀ {σ7 : L2.St} {H7 : Hp}, Inv X (pins ++ pl) σ7 H7 s7 → N σ7 H7 → ∃ m, m < n ∧ ∃ i σ' H', Inv X pins σ' H' s7 ∧ tn i H' s7 ∧ W i m σ' H' := fun {σ7 H7} I7 n7 => by
      obtain ⟨tp, m', lt, w7⟩ := hN σ7 H7 n7
      exact ⟨m', lt, i + 1, σ7, H7, I7.unpinned, back σ7 H7 s7 I7 (a6.trans a7) tp, w7⟩
    cases fl with
    | next => obtain ⟨σ7, H7, J7, n7⟩ := q7; exact again J7 n7
    | cont => obtain ⟨σ7, H7, J7, n7⟩ := q7; exact again J7 n7
    | brk => obtain ⟨σ7, H7, J7, n7⟩ := q7; exact ⟨σ7, H7, J7.unpinned, n7⟩
    | ret v => obtain ⟨x7, σ7, H7, J7, r7, n7⟩ := q7; exact ⟨x7, σ7, H7, J7.unpinned, r7, n7⟩
end LmG

set_option Elab.async false
set_option linter.all false
set_option maxRecDepth 100000
set_option maxHeartbeats 1000000
/-! a generator is woken: its context is laid anew on the heap as it stands -/
namespace LmG
open PySem PySem.Spec PyProof.Rows L2
open Classical
/-- the objects below n that L names -/
noncomputable def cutH (n : Nat) (L : Nat → Prop) (h : Heap) : Heap := { h with objs := (h.objs.take n).mapIdx fun i o => if L i then o else { cls := .none, data := .freed } }
theorem cut_get (n : Nat) (L : Nat → Prop) (h : Heap) (b : Nat) : (cutH n L h).get? b = if b < n ∧ L b then h.get? b else none := by
  have e : (h.objs.take n)[b]? = if b < n then h.objs[b]? else none := by
    rw [Array.take_eq_extract, Array.getElem?_extract]
    by_cases z : b < n
    · rw [if_pos z]
      split
      · rw [Nat.zero_add]
      · rw [Array.getElem?_eq_none (by omega)]
    · rw [if_neg z, if_neg (by omega)]
  unfold cutH Heap.get?
  simp only [Array.getElem?_mapIdx, e]
  by_cases z : b < n
  · rw [if_pos z]
    by_cases l : L b
    · rw [if_pos ⟨z, l⟩]
      cases h.objs[b]? <;> simp [l]
    · rw [if_neg fun q => l q.2]
      cases h.objs[b]? <;> simp [l]
  · rw [if_neg z, if_neg fun q => z q.1]
    rfl
theorem cut_size (n : Nat) (L : Nat → Prop) (h : Heap) : (cutH n L h).objs.size = min n h.objs.size := by
  unfold cutH
  simp
/-- the tuples that are tracked -/
def tpP (H : Hp) : Hp := fun b => match H b with
  | some (.tup xs) => some (.tup xs)
  | some (.frz o (.tup xs)) => some (.frz o (.tup xs))
  | _ => none
theorem tpP_some {H : Hp} {b : Addr} {o : HO} (h : tpP H b = some o) : IsTp o ∧ H b = some o := by
  unfold tpP at h
  split at h
  · rename_i xs e
    cases h
    exact ⟨.inl ⟨xs, rfl⟩, e⟩
  · rename_i ob xs e
    cases h
    exact ⟨.inr ⟨ob, xs, rfl⟩, e⟩
  · cases h
theorem tpP_tup {H : Hp} {b : Addr} {t : HO} (i : IsTp t) (h : H b = some t) : tpP H b = some t := by
  unfold tpP
  rw [h]
  rcases i with ⟨xs, rfl⟩ | ⟨o, xs, rfl⟩ <;> rfl
theorem tpP_none {H : Hp} {b : Addr} (h : H b = none) : tpP H b = none := by
  unfold tpP
  rw [h]
/-- where L is -/
noncomputable def lowP (L : Nat → Prop) (H : Hp) : Hp := fun b => if L b then H b else none
/-- a generator's context: where it is laid; L: what there was when it was made -/
noncomputable def rx (X : Cx) (L : Nat → Prop) (s : Shared) (H : Hp) : Cx := { X with s_0 := { s with heap := cutH X.env.locals L s.heap }, H_0 := lowP L (tpP H), pn := [], xe := fun _ _ => False }
/-- just this object -/
def one (b : Addr) (o : Obj) : HO := .ext fun h => h.get? b = some o
theorem one_ok {P : Program} {w : World} {H : Hp} {h : Heap} {b : Addr} {o : Obj} (e : h.get? b = some o) : ObjOk P w H h b (one b o) := ⟨e, ⟨o, e⟩, fun _ _ q k => k o q⟩
theorem one_at {P : Program} {w : World} {H : Hp} {h : Heap} {b : Addr} {o : Obj} (x : HOk P w H h) (e : H b = some (one b o)) : h.get? b = some o := (show _ ∧ _ from x b _ e).1
/-- what a generator has of its own: what it tracks but tuples and other ones' things -/
def Priv (H : Hp) (b : Addr) : Prop := ∃ o, H b = some o ∧ ¬ IsTp o ∧ ∀ φ, o ≠ .ext φ
/-- its own things, the tuples that there are, and other ones' younger things just as they are -/
noncomputable def ownP (L : Nat → Prop) (n : Nat) (Hg H : Hp) (h : Heap) : Hp := fun b => if Priv Hg b then Hg b else match tpP H b with
  | some o => some o
  | none => if ¬ L b ∧ b ≠ n then (h.get? b).map (one b) else none
section
variable {L : Nat → Prop} {n : Nat} {Hg H : Hp} {h : Heap} {b : Addr}
theorem own_priv (p : Priv Hg b) : ownP L n Hg H h b = Hg b := if_pos p
theorem own_tup {t : HO} (i : IsTp t) (p : ¬ Priv Hg b) (e : H b = some t) : ownP L n Hg H h b = some t := by
  unfold ownP
  rw [if_neg p, tpP_tup i e]
theorem own_low (p : ¬ Priv Hg b) (z : L b ∨ b = n) : ownP L n Hg H h b = tpP H b := by
  unfold ownP
  rw [if_neg p]
  cases e : tpP H b with
  | none => simp only; rw [if_neg fun q => z.elim q.1 q.2]
  | some o => rfl
theorem own_up (p : ¬ Priv Hg b) (l : ¬ L b) (m : b ≠ n) (e : tpP H b = none) : ownP L n Hg H h b = (h.get? b).map (one b) := by
  unfold ownP
  rw [if_neg p, e]
  simp only
  rw [if_pos ⟨l, m⟩]
theorem not_priv_tup {t : HO} (i : IsTp t) (e : Hg b = some t) : ¬ Priv Hg b := fun ⟨_, w, m, _⟩ => by
  rw [e] at w
  cases w
  exact m i
theorem not_priv_none (e : Hg b = none) : ¬ Priv Hg b := fun ⟨_, w, _⟩ => by rw [e] at w; cases w
theorem not_priv_one {o : Obj} (e : Hg b = some (one b o)) : ¬ Priv Hg b := fun ⟨_, w, _, m⟩ => by
  rw [e] at w
  cases w
  exact m _ rfl
end
theorem funs_cut {n : Nat} {L : Nat → Prop} {h base : Heap} : ∀ l : List Env, h.FunFrames base l → (∀ b ∈ frs l, b < n ∧ L b) → (cutH n L h).FunFrames base l
  | [], _, _ => True.intro
  | env :: l, hf, hb => by
    obtain ⟨hk, ⟨a, o, e, hn, ho, hd⟩, hr⟩ := hf
    refine ⟨hk, ⟨a, o, e, hn, ?_, hd⟩, funs_cut l hr fun b z => hb b ?_⟩
    · rw [cut_get, if_pos (hb a (List.mem_filterMap.mpr ⟨env, List.mem_cons_self, e⟩))]
      exact ho
    · obtain ⟨x, hx, q⟩ := List.mem_filterMap.mp z
      exact List.mem_filterMap.mpr ⟨x, List.mem_cons_of_mem _ hx, q⟩
/-- of what there was when it was made a generator tracks tuples alone -/
def LowT (L : Nat → Prop) (Hg : Hp) : Prop := ∀ b o, L b → Hg b = some o → IsTp o
section
variable {X Xg : Cx} {L : Nat → Prop} {σ : L2.St} {H3 Hg T : Hp} {s1 s3 : Shared} {A : Around}
theorem low_of (I : Inv (rx Xg L s3 T) [] σ Hg s1) (hex : Xg.ex = []) (lt : ∀ b, L b → b < Xg.env.locals) (lv : ∀ b, L b → ∃ o, s3.heap.get? b = some o) : LowT L Hg := fun b o l e => by
  obtain ⟨ob, eo⟩ := lv b l
  have ec : (rx Xg L s3 T).s_0.heap.get? b = some ob := by
    show (cutH Xg.env.locals L s3.heap).get? b = some ob
    rw [cut_get, if_pos ⟨lt b l, l⟩]
    exact eo
  have e0 : (rx Xg L s3 T).H_0 b = tpP T b := if_pos l
  cases et : tpP T b with
  | none =>
    have q : Hg b = none := I.base.free b ob ec (e0.trans et) (by rw [show (rx Xg L s3 T).ex = [] from hex]; simp)
    rw [q] at e
    cases e
  | some t =>
    obtain ⟨i, _⟩ := tpP_some et
    have q : Hg b = some t := by
      rcases id i with ⟨xs, rfl⟩ | ⟨ob, xs, rfl⟩
      · exact I.base.tups b xs (e0.trans et)
      · exact I.base.frzs b ob _ (e0.trans et)
    rw [q] at e
    cases e
    exact i
theorem priv_no (Ig : Inv Xg [] σ Hg s1) (low : LowT L Hg) {b : Addr} (p : Priv Hg b) : ¬ L b ∧ b ≠ Xg.env.locals := by
  obtain ⟨o, e, n, _⟩ := p
  refine ⟨fun l => ?_, fun z => ?_⟩
  · exact n (low b o l e)
  · rw [z, Ig.free] at e
    cases e
/-- woken: what it has of its own lies as it did, all tuples are tracked still -/
theorem wake_inv (Ig : Inv Xg [] σ Hg s1) (hc : ∀ x c, Xg.env.cells.lookup x = some c → False) (lt : ∀ b, L b → b < Xg.env.locals) (hfr : ∀ b ∈ Xg.fs, L b) (hbs : ∀ b o, Xg.base.get? b = some o → L b) (low : LowT L Hg)
    (e3 : Env0 Xg.prog Xg.w Xg.K Xg.mg Xg.base A Xg.outer s3 H3)
    (pin : ∀ b o, Priv Hg b ∨ b = Xg.env.locals → s1.heap.get? b = some o → s3.heap.get? b = some o)
    (tps : ∀ b t, IsTp t → Hg b = some t → H3 b = some t) (h3l : ∀ t, IsTp t → H3 Xg.env.locals ≠ some t) :
    Inv (rx Xg L s3 H3) [] σ (ownP L Xg.env.locals Hg H3 s3.heap) s3 := by
  obtain ⟨m, ⟨ol, es, ep, hol, r⟩, hl⟩ := Ig.loc
  have hol3 := pin _ _ (.inr rfl) hol
  have lsz : Xg.env.locals < s3.heap.objs.size := Heap.lt_size hol3
  have up : ∀ b, Priv Hg b → ¬ L b ∧ b ≠ Xg.env.locals := fun b p => priv_no Ig low p
  have npl : ¬ Priv Hg Xg.env.locals := fun p => (up _ p).2 rfl
  have cget : ∀ {b o}, (cutH Xg.env.locals L s3.heap).get? b = some o → L b ∧ s3.heap.get? b = some o := fun {b o} e => by
    rw [cut_get] at e
    by_cases z : b < Xg.env.locals ∧ L b
    · rw [if_pos z] at e; exact ⟨z.2, e⟩
    · rw [if_neg z] at e; cases e
  have lowat : ∀ {b}, L b → lowP L (tpP H3) b = tpP H3 b := fun {b} z => if_pos z
  have lowsome : ∀ {b o}, lowP L (tpP H3) b = some o → L b ∧ tpP H3 b = some o := fun {b o} e => by
    unfold lowP at e
    by_cases z : L b
    · rw [if_pos z] at e; exact ⟨z, e⟩
    · rw [if_neg z] at e; cases e
  have own_l : ∀ {b}, L b → ownP L Xg.env.locals Hg H3 s3.heap b = tpP H3 b := fun {b} z => own_low (fun p => (up b p).1 z) (.inl z)
  have l0 : tpP H3 Xg.env.locals = none := by
    cases e : tpP H3 Xg.env.locals with
    | none => rfl
    | some o =>
      obtain ⟨i, q⟩ := tpP_some e
      exact absurd q (h3l o i)
  refine ⟨⟨Ig.ok.mod, Ig.ok.kind, Ig.ok.glob, Ig.ok.blt, ?_, Ig.ok.inj, Ig.ok.has, fun x c _ h => (hc x c h).elim, Ig.ok.hd, Ig.ok.frames, Ig.ok.stk, Ig.ok.exf, fun b o e => ?_, ?_, Ig.ok.noex, Ig.ok.exfs, ?_, fun b hb => ?_⟩,
    rfl, e3.bare, ⟨fun b o e _ _ _ => (cget e).2, fun b o e _ _ _ => ⟨o.slots, (cget e).2⟩, fun b o e n _ => ?_, fun b o e _ => ⟨o, (cget e).2⟩, fun b xs e => ?_, fun b o u e => ?_, fun b ps e => ?_⟩,
    ⟨m, ⟨ol, es, ep, hol3, r⟩, fun i x v h1 h2 h3 => ?_⟩, fun x c h => (hc x c h).elim, ?_, fun x c h => (hc x c h).elim, fun p hp => ?_, fun b u e => ?_, Ig.len⟩
  · show (cutH Xg.env.locals L s3.heap).objs.size ≤ Xg.env.locals
    rw [cut_size]
    exact Nat.min_le_left _ _
  · obtain ⟨q1, q2⟩ := e3.bs b o e
    have l := hbs b o e
    refine ⟨?_, (lowat l).trans (tpP_none q2)⟩
    show (cutH Xg.env.locals L s3.heap).get? b = some o
    rw [cut_get, if_pos ⟨lt b l, l⟩]
    exact q1
  · show Xg.base.objs.size ≤ (cutH Xg.env.locals L s3.heap).objs.size
    rw [cut_size]
    have z := Nat.le_trans Ig.ok.bsz Ig.ok.above
    exact Nat.le_min.mpr ⟨z, Nat.le_trans z (Nat.le_of_lt lsz)⟩
  · show (cutH Xg.env.locals L s3.heap).FunFrames Xg.base Xg.outer
    exact funs_cut Xg.outer e3.funs fun b hb => ⟨lt b (hfr b hb), hfr b hb⟩
  · exact (lowat (hfr b hb)).trans (tpP_none (e3.frf b hb))
  · have l := (cget e).1
    rw [own_l l, ← lowat l]
    exact n
  · obtain ⟨z, q⟩ := lowsome e
    rw [own_l z]
    exact q
  · obtain ⟨z, q⟩ := lowsome e
    rw [own_l z]
    exact q
  · obtain ⟨z, q⟩ := lowsome e
    obtain ⟨i, _⟩ := tpP_some q
    rcases i with ⟨_, i⟩ | ⟨_, _, i⟩ <;> cases i
  · obtain ⟨u, ru, l⟩ := hl i x v h1 h2 h3
    refine ⟨u, ru, ?_⟩
    rcases l with l | ⟨_, c, ec, _⟩
    · exact .inl l
    · exact (hc x c ec).elim
  · show ownP L Xg.env.locals Hg H3 s3.heap Xg.env.locals = none
    rw [own_low npl (.inr rfl)]
    exact l0
  · exact absurd (show p ∈ ([] : List (Addr × Obj)) from hp) (by simp)
  · by_cases p : Priv Hg b
    · rw [own_priv p] at e
      refine (Ig.hok b u e).stay (fun c v hcc q => ?_) (fun d q => ?_) fun d xs q => ?_
      · refine pin c v (.inl ?_) q
        rcases hcc with z | z
        · rw [z]; exact p
        · exact ⟨_, z, (fun w => w.elim (fun ⟨_, w⟩ => nomatch w) fun ⟨_, _, w⟩ => nomatch w), fun φ w => nomatch w⟩
      · rw [own_priv ⟨_, q, (fun w => w.elim (fun ⟨_, w⟩ => nomatch w) fun ⟨_, _, w⟩ => nomatch w), fun φ w => nomatch w⟩]
        exact q
      · exact own_tup (isTp xs) (not_priv_tup (isTp xs) q) (tps d _ (isTp xs) q)
    · cases et : tpP H3 b with
      | some o =>
        obtain ⟨i, q⟩ := tpP_some et
        rw [own_tup i p q] at e
        cases e
        have z := e3.hok b _ q
        rcases i with ⟨xs, rfl⟩ | ⟨ob, xs, rfl⟩ <;> exact z
      | none =>
        by_cases z : L b ∨ b = Xg.env.locals
        · rw [own_low p z, et] at e
          cases e
        · rw [own_up p (fun l => z (.inl l)) (fun l => z (.inr l)) et] at e
          obtain ⟨o, eo, rfl⟩ := Option.map_eq_some_iff.mp e
          exact one_ok eo
end
end LmG

set_option Elab.async false
set_option linter.all false
set_option maxRecDepth 100000
set_option maxHeartbeats 1000000
/-! a generator hands something out: what its consumer sees then -/
namespace LmG
open PySem PySem.Spec PyProof.Rows L2
open Classical in
/-- the consumer's heap behind the generator's turn: its own things as they were, the generator's tuples, the generator's own things just as they are -/
noncomputable def seeP (n : Nat) (Hg Hg4 H3 : Hp) (h : Heap) : Hp := fun b => match tpP Hg4 b with
  | some t => some t
  | none => if Priv Hg b ∨ b = n ∨ Priv Hg4 b then (h.get? b).map (one b) else H3 b
section
variable {n : Nat} {Hg Hg4 H3 : Hp} {h : Heap} {b : Addr}
theorem see_tup {t : HO} (i : IsTp t) (e : Hg4 b = some t) : seeP n Hg Hg4 H3 h b = some t := by
  unfold seeP
  rw [tpP_tup i e]
theorem see_own (e : tpP Hg4 b = none) (p : Priv Hg b ∨ b = n ∨ Priv Hg4 b) : seeP n Hg Hg4 H3 h b = (h.get? b).map (one b) := by
  unfold seeP
  rw [e]
  exact if_pos p
theorem see_old (e : tpP Hg4 b = none) (p : ¬ (Priv Hg b ∨ b = n ∨ Priv Hg4 b)) : seeP n Hg Hg4 H3 h b = H3 b := by
  unfold seeP
  rw [e]
  exact if_neg p
end
theorem tp_of_priv {H : Hp} {b : Addr} (p : Priv H b) : tpP H b = none := by
  cases e : tpP H b with
  | none => rfl
  | some o =>
    obtain ⟨i, q⟩ := tpP_some e
    exact absurd p (not_priv_tup i q)
section
variable {Xc Xg : Cx} {pins : List (Addr × Obj)} {σc σ : L2.St} {L : Nat → Prop} {H3 Hg Hg4 T : Hp} {s3 s4 : Shared}
theorem yield_inv (Ic : Inv Xc pins σc H3 s3) (Ig : Inv (rx Xg L s3 T) [] σ Hg4 s4) (hT : ∀ b t, IsTp t → T b = some t → H3 b = some t) (hP : Xg.prog = Xc.prog) (hW : Xg.w = Xc.w) (ho : Xg.outer = Xc.stack) (hex : Xg.ex = [])
    (lt : ∀ b, L b → b < Xg.env.locals) (hfr : ∀ b ∈ Xg.fs, L b) (up : ∀ b, Priv Hg b → ¬ L b ∧ b ≠ Xg.env.locals) (see : ∀ b, Priv Hg b ∨ b = Xg.env.locals → ∃ o, H3 b = some (one b o)) (own4 : ∀ b, Priv Hg b → Hg4 b ≠ none)
    (sm : ∀ b o, ¬ Priv Hg b → ownP L Xg.env.locals Hg T s3.heap b = some o → Hg4 b = some o) :
    Inv Xc pins σc (seeP Xg.env.locals Hg Hg4 H3 s4.heap) s4 ∧
      (∀ b u, H3 b = some u → ¬ (Priv Hg b ∨ b = Xg.env.locals) → seeP Xg.env.locals Hg Hg4 H3 s4.heap b = some u) := by
  have exf : ∀ b, b ∉ (rx Xg L s3 T).ex := fun b z => by
    rw [show (rx Xg L s3 T).ex = [] from hex] at z
    cases z
  have e3 := Ic.env0
  have frno : ∀ b, b ∈ frs Xg.outer → H3 b = none := fun b hb => e3.frf b (by rw [ho] at hb; exact hb)
  have cutg : ∀ {b o}, L b → s3.heap.get? b = some o → (rx Xg L s3 T).s_0.heap.get? b = some o := fun {b o} z e => by
    show (cutH Xg.env.locals L s3.heap).get? b = some o
    rw [cut_get, if_pos ⟨lt b z, z⟩]
    exact e
  have lown : ∀ {b}, tpP T b = none → (rx Xg L s3 T).H_0 b = none := fun {b} e => by
    show lowP L (tpP T) b = none
    unfold lowP
    split
    · exact e
    · rfl
  have hokg : HOk Xc.prog Xc.w Hg4 s4.heap := by
    have z : HOk Xg.prog Xg.w Hg4 s4.heap := Ig.hok
    rw [hP, hW] at z
    exact z
  -- what isn't the generator's, and no tuple
  have old : ∀ b o, tpP T b = none → ¬ (Priv Hg b ∨ b = Xg.env.locals) → s3.heap.get? b = some o → tpP Hg4 b = none ∧ ¬ Priv Hg4 b ∧ (b ∉ frs Xg.outer → s4.heap.get? b = some o) := fun b o et np e => by
    by_cases z : L b
    · have q : Hg4 b = none := Ig.base.free b o (cutg z e) (lown et) (exf b)
      exact ⟨tpP_none q, not_priv_none q, fun nf => Ig.base.keep b o (cutg z e) (lown et) nf (exf b)⟩
    · have q := sm b (one b o) (fun p => np (.inl p)) (by rw [own_up (fun p => np (.inl p)) z (fun y => np (.inr y)) et, e]; rfl)
      refine ⟨?_, not_priv_one q, fun _ => one_at Ig.hok q⟩
      unfold tpP
      rw [q]
      rfl
  have nosee : ∀ {b}, H3 b = none → ¬ (Priv Hg b ∨ b = Xg.env.locals) := fun {b} e p => by
    obtain ⟨o, q⟩ := see b p
    rw [e] at q
    cases q
  have tup4 : ∀ b t, IsTp t → T b = some t → Hg4 b = some t := fun b t i e => by
    have np : ¬ Priv Hg b := fun p => by
      obtain ⟨o, q⟩ := see b (.inl p)
      rw [hT b t i e] at q
      cases q
      exact i.noext _ rfl
    exact sm b _ np (own_tup i np e)
  have noT : ∀ {b}, H3 b = none → tpP T b = none := fun {b} e => by
    cases w : tpP T b with
    | none => rfl
    | some t =>
      obtain ⟨i, q⟩ := tpP_some w
      rw [hT b t i q] at e
      cases e
  have stay : ∀ b u, H3 b = some u → ¬ (Priv Hg b ∨ b = Xg.env.locals) → seeP Xg.env.locals Hg Hg4 H3 s4.heap b = some u := fun b u e np => by
    cases et : tpP T b with
    | some t =>
      obtain ⟨i, q⟩ := tpP_some et
      have z := hT b t i q
      rw [e] at z
      cases z
      exact see_tup i (tup4 b _ i q)
    | none =>
      cases eo : s3.heap.get? b with
      | none => rw [Ic.hok.gone eo] at e; cases e
      | some o =>
        obtain ⟨q1, q2, _⟩ := old b o et np eo
        rw [see_old q1 (fun w => w.elim (fun p => np (.inl p)) fun w => w.elim (fun p => np (.inr p)) q2)]
        exact e
  refine ⟨Ic.call' (ch := []) (show s4.os = s3.os from Ig.os) ⟨fun b o e nn nf nc => ?_, fun b o e nn hb nc => ?_, fun b o e nn nc => ?_, fun b o e nc => ?_, fun b xs e => stay b _ e fun p => (by obtain ⟨o', q⟩ := see b p; rw [e] at q; cases q), fun b o u e => ?_, fun b ps e => ?_⟩ (fun b u e => ?_) Ig.bare (fun b hb => ?_), stay⟩
  · -- keep
    have np : ¬ (Priv Hg b ∨ b = Xg.env.locals) := nosee nn
    rw [← ho] at nf
    exact (old b o (noT nn) np e).2.2 nf
  · -- slot
    rw [← ho] at hb
    have z := hfr b hb
    exact Ig.base.slot b o (cutg z e) (lown (noT nn)) hb (exf b)
  · -- free
    have np : ¬ (Priv Hg b ∨ b = Xg.env.locals) := nosee nn
    obtain ⟨q1, q2, _⟩ := old b o (noT nn) np e
    rw [see_old q1 (fun w => w.elim (fun p => np (.inl p)) fun w => w.elim (fun p => np (.inr p)) q2)]
    exact nn
  · -- there
    by_cases p : Priv Hg b
    · cases e4 : Hg4 b with
      | none => exact absurd e4 (own4 b p)
      | some u =>
        cases w : s4.heap.get? b with
        | some ob => exact ⟨ob, rfl⟩
        | none => rw [HOk.gone hokg w] at e4; cases e4
    by_cases p0 : b = Xg.env.locals
    · obtain ⟨m, ⟨ol, _, _, hol, _⟩, _⟩ := Ig.loc
      rw [p0]
      exact ⟨ol, hol⟩
    have np : ¬ (Priv Hg b ∨ b = Xg.env.locals) := fun w => w.elim p p0
    cases et : tpP T b with
    | none =>
      by_cases nf : b ∈ frs Xg.outer
      · obtain ⟨sl, q⟩ := Ig.base.slot b o (cutg (hfr b nf) e) (lown et) nf (exf b)
        exact ⟨_, q⟩
      · exact ⟨o, (old b o et np e).2.2 nf⟩
    | some t =>
      obtain ⟨i, q⟩ := tpP_some et
      cases w : s4.heap.get? b with
      | some ob => exact ⟨ob, rfl⟩
      | none =>
        have z4 := tup4 b t i q
        rw [HOk.gone hokg w] at z4
        cases z4
  · exact stay b _ e fun p => by
      obtain ⟨o', q⟩ := see b p
      rw [e] at q
      cases q
  · refine ⟨#[], ?_⟩
    rw [Array.append_empty]
    exact stay b _ e fun p => by
      obtain ⟨o', q⟩ := see b p
      rw [e] at q
      cases q
  · -- held
    cases et : tpP Hg4 b with
    | some t =>
      obtain ⟨i, q⟩ := tpP_some et
      rw [see_tup i q] at e
      cases e
      have z := hokg b _ q
      rcases i with ⟨xs, rfl⟩ | ⟨ob, xs, rfl⟩ <;> exact z
    | none =>
      by_cases p : Priv Hg b ∨ b = Xg.env.locals ∨ Priv Hg4 b
      · rw [see_own et p] at e
        obtain ⟨o, eo, rfl⟩ := Option.map_eq_some_iff.mp e
        exact one_ok eo
      · rw [see_old et p] at e
        have np : ¬ (Priv Hg b ∨ b = Xg.env.locals) := fun w => p (w.elim .inl fun w => .inr (.inl w))
        have npo : ∀ {c x}, H3 c = some (.own x) → ¬ (Priv Hg c ∨ c = Xg.env.locals) := fun {c x} ec w => by
          obtain ⟨o', q⟩ := see c w
          rw [ec] at q
          cases q
        have fr : ∀ {c u}, H3 c = some u → c ∉ frs Xg.outer := fun {c u} ec w => by
          rw [frno c w] at ec
          cases ec
        have noTu : ∀ {c u}, H3 c = some u → tpP Hg4 c = none → tpP T c = none := fun {c u} ec w => by
          cases z : tpP T c with
          | none => rfl
          | some t =>
            obtain ⟨i, q⟩ := tpP_some z
            rw [tpP_tup i (tup4 c t i q)] at w
            cases w
        have noTo : ∀ {c x}, H3 c = some (.own x) → tpP T c = none := fun {c x} ec => by
          cases z : tpP T c with
          | none => rfl
          | some t =>
            obtain ⟨i, q⟩ := tpP_some z
            rw [hT c t i q] at ec
            cases ec
            rcases i with ⟨_, i⟩ | ⟨_, _, i⟩ <;> cases i
        refine (Ic.hok b u e).stay (fun c v hcc' q => ?_) (fun d q => stay d _ q (npo q)) fun d xs q => stay d _ q fun p => (by obtain ⟨o', w⟩ := see d p; rw [q] at w; cases w)
        rcases hcc' with w | w
        · rw [w] at q ⊢
          exact (old b v (noTu e et) np q).2.2 (fr e)
        · exact (old c v (noTo w) (npo w) q).2.2 (fr w)
  · exact absurd hb (by simp)
end
end LmG

set_option Elab.async false
set_option linter.all false
set_option maxRecDepth 100000
set_option maxHeartbeats 1000000
/-! one turn of a generator, with any wish of its end: what is told at one turn may lean on what was told before -/
namespace LmG
open PySem
open Sem (wp)
/-- from t, over the frames fs, the turn comes to an end of which Z is true -/
def SegD (M : Model) (A : Around) (Z : End → Shared → Prop) (c : Code) (t : Sem PySem.Fin) (fs : List Frame) (s : Shared) : Prop :=
  ∀ Γ p, Γ.code = c → Γ.Woken A → ∃ e s', Runs M Γ p t fs s e s' ∧ Z e s'
section
variable {M : Model} {A : Around} {Z Z' : End → Shared → Prop} {c : Code} {fs : List Frame} {s : Shared} {env : Env} {K : Flow → Sem PySem.Fin} {J : Value → Sem PySem.Fin} {gd : Bool → Bool} {lv : List Value → List Value}
theorem sd_mono {t : Sem PySem.Fin} (h : SegD M A Z c t fs s) (hz : ∀ e s', Z e s' → Z' e s') : SegD M A Z' c t fs s := fun Γ p hc hw => by
  obtain ⟨e, s', r, z⟩ := h Γ p hc hw
  exact ⟨e, s', r, hz e s' z⟩
theorem sd_wrap {α : Type} {m : Sem α} {k : α → Sem PySem.Fin} {j : Value → Sem PySem.Fin} (h : wpAny M (A.over c fs) m (fun a s' => SegD M A Z c (k a) fs s') (fun x s' => SegD M A Z c (j x) fs s') s) : SegD M A Z c (m.wrap k j gd lv) fs s := fun Γ p hc hw => by
  subst hc
  exact runs_wrap_of_wp k j gd lv m (h (Γ.over fs) p (hw.over fs)) (fun a q s' z => z Γ q rfl hw) fun x q s' z => z Γ q rfl hw
theorem sd_bind {α : Type} {m : Sem α} {k : α → Sem PySem.Fin} (h : wpAny M (A.over c fs) m (fun a s' => SegD M A Z c (k a) fs s') (fun x s' => SegD M A Z c (.raise x) fs s') s) : SegD M A Z c (m >>= k) fs s := by
  rw [Sem.bind_eq_wrap']
  exact sd_wrap h
theorem sd_at {q : Pos} {k : Unit → Sem PySem.Fin} (h : SegD M A Z c (k ()) fs s) : SegD M A Z c (.at q k) fs s := sd_wrap (m := standAt q) (k := k) (j := .raise) (gd := id) (lv := id) (wpAny_standAt h)
theorem sd_point {l : List Value} {k : Unit → Sem PySem.Fin} (h : SegD M A Z c (k ()) fs s) : SegD M A Z c (.point l k) fs s := sd_wrap (m := point) (k := k) (j := .raise) (gd := id) (lv := fun _ => l) (wpAny_point h)
theorem sd_call {c' : Code} {h : Option Value} {g : Bool} {l : List Value} {k : Result → Sem PySem.Fin} (hc : ∀ p, SegD M A Z c' (M.den c') (.ret k h g l c p [] :: fs) s) : SegD M A Z c (.call c' h g l k) fs s := fun Γ p e hw => by
  subst e
  obtain ⟨en, s', r, z⟩ := hc p (Γ.goto c') p rfl (hw.goto c')
  exact ⟨en, s', runs_call_seg r, z⟩
theorem sd_again {c' : Code} (hq : c'.quiet = true) (hc : SegD M A Z c' (M.den c') fs s) : SegD M A Z c (.pure (.again c')) fs s := fun Γ p e hw => by
  subst e
  obtain ⟨en, s', r, z⟩ := hc (Γ.goto c') p rfl (hw.goto c')
  exact ⟨en, s', Runs.head (c₁ := c') (fun _ _ x => .again hq x) r, z⟩
theorem sd_end (r : Result) (h : Z (.ret r) s) : SegD M A Z c (leafOf r) [] s := fun Γ p e _ => by
  subst e
  exact ⟨_, s, .leaf r, h⟩
theorem sd_yield {v : Value} {g : Bool} {l : List Value} {k : Resume → Sem PySem.Fin} (hfs : splitAtGen fs = none) (h : ∀ p, Z (.susp v g l k c p fs) s) : SegD M A Z c (.yield v g l k) fs s := fun Γ p e _ => by
  subst e
  exact ⟨_, s, Runs.yield' fs hfs, h p⟩
theorem sd_execs_nil (h : SegD M A Z c (K .next) fs s) : SegD M A Z c ((execs [] env).wrap K J gd lv) fs s := h
theorem sd_execs_cons {st : Stmt} {rest : List Stmt} (h : SegD M A Z c ((exec st env).wrap (fun f => match f with | .next => (execs rest env).wrap K J gd lv | f => K f) J gd lv) fs s) : SegD M A Z c ((execs (st :: rest) env).wrap K J gd lv) fs s := by
  rw [execs_cons_wrap]
  exact h
/-- yield e, as a statement: what is asked of the end that is handed out -/
theorem sd_yieldS {e : Expr} {yp pos : Pos} (hfs : splitAtGen fs = none) (hgd : gd false = false) (hfg : fs.any Frame.guarded = false)
    (h : wpAny M (A.over c fs) (eval e env) (fun v s' => ∀ (l : List Value) (k : Resume → Sem PySem.Fin) (p : Pos), (∀ x (M' : Model) (A' : Around) (Z' : End → Shared → Prop) (s'' : Shared), (match x with | .ref _ => False | _ => SegD M' A' Z' c (K .next) fs s'') → SegD M' A' Z' c (k (.send x)) fs s'') → Z (.susp v false l k c p fs) s')
      (fun x s' => SegD M A Z c (J x) fs s') s) (hco : env.scope.isCoroutine = false := by rfl) (hi : interactive env = false := by rfl) :
    SegD M A Z c ((exec (.Expr (.Yield (some e) yp) pos) env).wrap K J gd lv) fs s := by
  have out : ∀ u, yieldOut env u = yieldValue u := fun u => by simp only [yieldOut, hco, if_false, Bool.false_eq_true]
  rw [exec_Expr env _ pos hi (by rfl)]
  show SegD M A Z c (.at pos fun _ => ((eval e env >>= fun v => (standAt yp >>= fun _ => yieldOut env v)) >>= fun x => dropValue (.Yield (some e) yp) pos x).wrap K J gd lv) fs s
  simp only [out]
  refine sd_at ?_
  rw [Sem.bind_eq_wrap', Sem.bind_eq_wrap']
  rw [Sem.wrap_wrap, Sem.wrap_wrap]
  refine sd_wrap (wpAny_mono h (fun v s' q => ?_) fun _ _ x => x)
  refine sd_at (sd_yield hfs fun p => ?_)
  have eg : ∀ b, b = false → ∀ l k, Z (.susp v false l k c p fs) s' → Z (.susp v b l k c p fs) s' := fun b e l k z => by rw [e]; exact z
  refine eg _ (by first | exact hgd | rfl) _ _ (q _ _ p fun x M' A' Z' s'' hx => ?_)
  cases x <;> first | exact hx.elim | exact hx
theorem sd_while {test : Expr} {body orelse : List Stmt} {pos : Pos}
    (h : ∀ p, SegD M A Z (.whileLoop test body orelse env) (M.den (.whileLoop test body orelse env))
      (.ret (fun r => ((match r with | .ok f => (Sem.pure f : Sem Flow) | .error x => Sem.raise x).onRaise (L2.cameBack env)).wrap K J gd lv) none (gd false) (lv []) c p [] :: fs) s) :
    SegD M A Z c ((exec (.While test body orelse pos) env).wrap K J gd lv) fs s := sd_at (sd_call h)
end
section
variable {M : Model} {A : Around} {E : Value → Shared → Prop} {s : Shared}
/-- woken once: from the generator's own turn -/
theorem wake_sd {α : Type} {g : Nat} {gs : GenState} {r : Resume} {l : List Value} {k : GenResult → Sem α} {Q : α → Shared → Prop} {Z : End → Shared → Prop} (hg : s.gens[g]? = some gs)
    (hgo : match gs with
      | .fresh c => r = .send .none ∧ SegD M A Z c (M.den c) [] (s.setGen g .running)
      | .suspended k' _ c _ fs _ => SegD M A Z c (k' r) fs (s.setGen g .running)
      | _ => False)
    (hq : ∀ e s', Z e s' → e.quiet = true)
    (hk : ∀ e s', Z e s' → wpAny M A (k e.result) Q E (s'.setGen g e.genState)) : wpAny M A (.resume g r l k) Q E s := by
  intro Γ p hΓ
  rw [Sem.wp_resume]
  cases gs with
  | fresh c =>
    obtain ⟨rfl, hs⟩ := hgo
    obtain ⟨e, s', hr, z⟩ := hs (Γ.wake c p) p rfl (hΓ.wake c p)
    refine ⟨_, _, ?_, hk e s' z Γ p hΓ⟩
    unfold Wakes
    rw [hg]
    exact ⟨e, s', hr, hq e s' z, rfl, rfl⟩
  | suspended k' l' c pp fs cl =>
    obtain ⟨e, s', hr, z⟩ := hgo (Γ.wake c p) pp rfl (hΓ.wake c p)
    refine ⟨_, _, ?_, hk e s' z Γ p hΓ⟩
    unfold Wakes
    rw [hg]
    exact ⟨e, s', hr, hq e s' z, rfl, rfl⟩
  | running => exact hgo.elim
  | finished => exact hgo.elim
end
section
variable {prog : Program} {w : World} {A : Around} {Z : End → Shared → Prop} {fs : List Frame} {s : Shared} {env : Env}
theorem sd_func {body : List Stmt} (h : SegD (model prog w) A Z (.func body env) ((execs body env).wrap (fun f => .pure (.done (.ret (match f with | .ret v => v | _ => .none)))) (fun e => (leaving env e).wrap (fun _ => .raise e) .raise id id) id id) fs s) :
    SegD (model prog w) A Z (.func body env) ((model prog w).den (.func body env)) fs s := by
  show SegD _ A Z _ (.point [] fun _ => ((execs body env).onRaise (leaving env)) >>= _) fs s
  refine sd_point ?_
  rw [Sem.onRaise_eq_wrap]
  rw [Sem.bind_eq_wrap', Sem.wrap_wrap]
  have e : ∀ (K' : Flow → Sem PySem.Fin) (H' : Value → Sem PySem.Fin), (∀ f, K' f = .pure (.done (.ret (match f with | .ret v => v | _ => .none)))) → (∀ x, H' x = (leaving env x).wrap (fun _ => .raise x) .raise id id) → SegD (model prog w) A Z (.func body env) ((execs body env).wrap K' H' id id) fs s := fun K' H' a b => by
    rw [Sem.wrap_congr (execs body env) _ _ a b]
    exact h
  refine e _ _ (fun f => by cases f <;> rfl) fun x => by rw [Sem.bind_eq_wrap, Sem.wrap_wrap]; rfl
end
end LmG

set_option Elab.async false
set_option linter.all false
set_option maxRecDepth 100000
set_option maxHeartbeats 1000000
/-! the statements of a generator's body, turn by turn -/
namespace LmG
open PySem PySem.Spec PyProof.Rows L2
/-- what stays of what it was woken with: tuples, other ones' things; its own things are still tracked -/
def Holds (Hw H : Hp) : Prop := (∀ b o, Hw b = some o → (IsTp o ∨ ∃ φ, o = .ext φ) → H b = some o) ∧ ∀ b, Priv Hw b → H b ≠ none
/-- what it finds at the next waking -/
def Woke (H H2 : Hp) : Prop := (∀ b t, IsTp t → H b = some t → H2 b = some t) ∧ ∀ b, Priv H b → H2 b = H b
/-- the heap as it finds it -/
noncomputable def Hwk (X : Cx) (L : Nat → Prop) (Hg : Hp) (sw : Shared) : Hp := ownP L X.env.locals Hg (tpP Hg) sw.heap
/-- a right waking -/
structure Wkn (X : Cx) (L : Nat → Prop) (H : Hp) (s1 s2 : Shared) : Prop where
  env : ∃ A, Env0 X.prog X.w X.K X.mg X.base A X.outer s2 (tpP H)
  pin : ∀ b o, Priv H b ∨ b = X.env.locals → s1.heap.get? b = some o → s2.heap.get? b = some o
  live : ∀ b, L b → ∃ o, s2.heap.get? b = some o
/-- what a turn's end tells: Yp j x: the j-th thing handed out; Fp j: so many were -/
def GoD (M : Model) (A : Around) (X : Cx) (L : Nat → Prop) (Yp : Nat → V → Hp → Prop) (Fp : Nat → Prop) : Nat → Nat → Hp → Shared → End → Shared → Prop
  | m, j, Hg, sw, .ret r, s' => (r = .ok (.ret .none) ∨ r = .ok .next) ∧ Fp j ∧ ∃ σ H, Inv (rx X L sw (tpP Hg)) [] σ H s' ∧ Holds (Hwk X L Hg sw) H
  | 0, _, _, _, .susp .., _ => False
  | m + 1, j, Hg, sw, .susp v g l k c p fs, s' => (End.susp v g l k c p fs).quiet = true ∧ ∃ σ H x, Inv (rx X L sw (tpP Hg)) [] σ H s' ∧ Holds (Hwk X L Hg sw) H ∧ RelV x v ∧ Yp j x H ∧
      ∀ s2, Wkn X L H s' s2 → SegD M A (fun e s3 => GoD M A X L Yp Fp m (j + 1) H s2 e s3) c (k (.send .none)) fs s2
/-- what is wanted behind a statement: how many were handed out, the heap at the last waking -/
structure DEnds where
  nx : Nat → Hp → L2.St → Hp → Prop
  rt : Nat → Hp → V → Hp → Prop
  bk : Nat → Hp → L2.St → Hp → Prop := fun _ _ _ _ => False
  ct : Nat → Hp → L2.St → Hp → Prop := fun _ _ _ _ => False
abbrev TD := DEnds → Nat → Hp → L2.St → Hp → Prop
def DEnds.at (D : DEnds) (j : Nat) (Hw : Hp) : Ends := { nx := D.nx j Hw, rt := D.rt j Hw, bk := D.bk j Hw, ct := D.ct j Hw }
/-- a statement's end within a turn -/
def DSP (X : Cx) (L : Nat → Prop) (Hg : Hp) (sw : Shared) (D : DEnds) (j : Nat) (f : Flow) (s : Shared) : Prop := SP (rx X L sw (tpP Hg)) [] (D.at j (Hwk X L Hg sw)) f s
/-- what follows it -/
def DK (X : Cx) (L : Nat → Prop) (M : Model) (A : Around) (Yp : Nat → V → Hp → Prop) (Fp : Nat → Prop) (N : Nat) (c : Code) (fs : List Frame) (K : Flow → Sem PySem.Fin) (D : DEnds) : Prop :=
  ∀ (m j : Nat) (Hg : Hp) (sw s : Shared) (f : Flow), m + j = N → (∀ b, L b → ∃ o, sw.heap.get? b = some o) → DSP X L Hg sw D j f s → SegD M A (GoD M A X L Yp Fp m j Hg sw) c (K f) fs s
/-- where its code stands -/
structure DC (X : Cx) (A : Around) (c : Code) (fs : List Frame) (gd : Bool → Bool) : Prop where
  over : A.over c fs = X.A
  split : splitAtGen fs = none
  guard : fs.any Frame.guarded = false
  gd : gd false = false
structure DS (X : Cx) (L : Nat → Prop) (Yp : Nat → V → Hp → Prop) (Fp : Nat → Prop) (N : Nat) (st : Stmt) (t : TD) : Prop where
  run : ∀ (A : Around) (c : Code) (fs : List Frame) (K : Flow → Sem PySem.Fin) (J : Value → Sem PySem.Fin) (gd : Bool → Bool) (lv : List Value → List Value) (m j : Nat) (Hg : Hp) (sw s : Shared) (σ : L2.St) (H : Hp) (D : DEnds),
    DC X A c fs gd → DK X L (model X.prog X.w) A Yp Fp N c fs K D → m + j = N → (∀ b, L b → ∃ o, sw.heap.get? b = some o) → Inv (rx X L sw (tpP Hg)) [] σ H s → t D j (Hwk X L Hg sw) σ H → SegD (model X.prog X.w) A (GoD (model X.prog X.w) A X L Yp Fp m j Hg sw) c ((exec st X.env).wrap K J gd lv) fs s
structure DSs (X : Cx) (L : Nat → Prop) (Yp : Nat → V → Hp → Prop) (Fp : Nat → Prop) (N : Nat) (st : List Stmt) (t : TD) : Prop where
  run : ∀ (A : Around) (c : Code) (fs : List Frame) (K : Flow → Sem PySem.Fin) (J : Value → Sem PySem.Fin) (gd : Bool → Bool) (lv : List Value → List Value) (m j : Nat) (Hg : Hp) (sw s : Shared) (σ : L2.St) (H : Hp) (D : DEnds),
    DC X A c fs gd → DK X L (model X.prog X.w) A Yp Fp N c fs K D → m + j = N → (∀ b, L b → ∃ o, sw.heap.get? b = some o) → Inv (rx X L sw (tpP Hg)) [] σ H s → t D j (Hwk X L Hg sw) σ H → SegD (model X.prog X.w) A (GoD (model X.prog X.w) A X L Yp Fp m j Hg sw) c ((execs st X.env).wrap K J gd lv) fs s
section
variable {X : Cx} {L : Nat → Prop} {Yp : Nat → V → Hp → Prop} {Fp : Nat → Prop} {N : Nat} {st : Stmt} {rest : List Stmt}
/-- a statement that hands out nothing -/
def tPl (t : TS) : TD := fun D j Hw σ H => t (D.at j Hw) σ H
theorem ds_ps {t : TS} (h : ∀ s T, PS (rx X L s T) st t) : DS X L Yp Fp N st (tPl t) := by
  refine ⟨fun A c fs K J gd lv m j Hg sw s σ H D g k hm lv0 I q => sd_wrap ?_⟩
  rw [g.over]
  exact wpAny_mono ((h sw (tpP Hg)).run [] s σ H (D.at j (Hwk X L Hg sw)) I q) (fun f s' z => k m j Hg sw s' f hm lv0 z) fun e s' z => False.elim z
def tD0 : TD := fun D j Hw σ H => D.nx j Hw σ H
theorem dss_nil : DSs X L Yp Fp N [] tD0 := ⟨fun A c fs K J gd lv m j Hg sw s σ H D g k hm lv0 I q => sd_execs_nil (k m j Hg sw s .next hm lv0 ⟨σ, H, I, q⟩)⟩
def tDThen (t u : TD) : TD := fun D j Hw σ H => t { D with nx := fun j' Hw' σ' H' => u D j' Hw' σ' H' } j Hw σ H
theorem dss_cons {t u : TD} (a : DS X L Yp Fp N st t) (b : DSs X L Yp Fp N rest u) : DSs X L Yp Fp N (st :: rest) (tDThen t u) := by
  refine ⟨fun A c fs K J gd lv m j Hg sw s σ H D g k hm lv0 I q => sd_execs_cons ?_⟩
  refine a.run A c fs _ J gd lv m j Hg sw s σ H { D with nx := fun j' Hw' σ' H' => u D j' Hw' σ' H' } g (fun m' j' Hg' sw' s' f hm' lv' z => ?_) hm lv0 I q
  cases f with
  | next =>
    obtain ⟨σ', H', I', q'⟩ := z
    exact b.run A c fs K J gd lv m' j' Hg' sw' s' σ' H' D g k hm' lv' I' q'
  | brk => exact k m' j' Hg' sw' s' .brk hm' lv' z
  | cont => exact k m' j' Hg' sw' s' .cont hm' lv' z
  | ret u => exact k m' j' Hg' sw' s' (.ret u) hm' lv' z
/-- what is known of a generator's context from its making on -/
structure GenX (X : Cx) (L : Nat → Prop) : Prop where
  cells : ∀ x c, X.env.cells.lookup x = some c → False
  lt : ∀ b, L b → b < X.env.locals
  fr : ∀ b ∈ X.fs, L b
  bs : ∀ b o, X.base.get? b = some o → L b
  ex : X.ex = []
theorem wkn_inv {H Hg : Hp} {sw s1 s2 : Shared} {σ : L2.St} (G : GenX X L) (lv : ∀ b, L b → ∃ o, sw.heap.get? b = some o) (I : Inv (rx X L sw (tpP Hg)) [] σ H s1) (w : Wkn X L H s1 s2) : Inv (rx X L s2 (tpP H)) [] σ (Hwk X L H s2) s2 := by
  obtain ⟨A, e⟩ := w.env
  have z := wake_inv (Xg := rx X L sw (tpP Hg)) (L := L) (H3 := tpP H) (s3 := s2) (A := A) I G.cells G.lt G.fr G.bs (low_of I G.ex G.lt lv) e w.pin (fun b t i q => tpP_tup i q) fun t i q => by
    obtain ⟨_, q'⟩ := tpP_some q
    have f : H X.env.locals = none := I.free
    rw [show H X.env.locals = some t from q'] at f
    cases f
  exact z
theorem woke_of {H : Hp} {h : Heap} {n : Nat} : Woke H (ownP L n H (tpP H) h) := ⟨fun b t i e => own_tup i (not_priv_tup i e) (tpP_tup i e), fun b p => own_priv p⟩
/-- yield e -/
def tDY (N : Nat) (Yp : Nat → V → Hp → Prop) (te : TE) : TD := fun D j Hw σ H => j < N ∧ te σ H fun x H1 => Holds Hw H1 ∧ Yp j x H1 ∧ ∀ H2, Woke H1 H2 → D.nx (j + 1) H2 σ H2
theorem ds_yield {e : Expr} {te : TE} {yp pos : Pos} (G : GenX X L) (he : ∀ s T, PE (rx X L s T) e te) (hco : X.env.scope.isCoroutine = false := by rfl) (hi : interactive X.env = false := by rfl) : DS X L Yp Fp N (.Expr (.Yield (some e) yp) pos) (tDY N Yp te) := by
  refine ⟨fun A c fs K J gd lv m j Hg sw s σ H D g k hm lv0 I q => ?_⟩
  obtain ⟨jn, q⟩ := q
  obtain ⟨m, rfl⟩ : ∃ m', m = m' + 1 := ⟨m - 1, by omega⟩
  refine sd_yieldS g.split g.gd g.guard ?_ hco hi
  rw [g.over]
  refine wpAny_mono ((he sw (tpP Hg)).run [] s σ H _ I q) (fun v s' z => ?_) fun x s' z => False.elim z
  obtain ⟨x, H1, I1, rv, hw, y, nx⟩ := z
  intro l kk p hk
  refine ⟨by simp [End.quiet, g.guard], σ, H1, x, I1, hw, rv, y, fun s2 w => hk .none _ _ _ s2 ?_⟩
  exact k m (j + 1) H1 s2 s2 .next (by omega) w.live ⟨σ, _, wkn_inv G lv0 I1 w, nx _ woke_of⟩
end
end LmG

set_option Elab.async false
set_option linter.all false
set_option maxRecDepth 100000
set_option maxHeartbeats 1000000
/-! while in a generator's body -/
namespace LmG
open PySem PySem.Spec PyProof.Rows L2
section
variable {prog : Program} {w : World} {A : Around} {Z : End → Shared → Prop} {fs : List Frame} {s : Shared} {env : Env} {test : Expr} {body orelse : List Stmt}
/-- what a loop's turn leaves when an exception goes through it -/
def noted (env : Env) (x : Value) : Sem PySem.Fin := (do noteFrame x env; theTreesLotGoes x : Sem Unit).wrap (fun _ => .raise x) .raise id id
theorem sd_loop (h : wpAny (model prog w) (A.over (.whileLoop test body orelse env) fs) (isTrue test env (eval test env)) (fun b s' => if b = true then
        SegD (model prog w) A Z (.whileLoop test body orelse env) ((execs body env).wrap (fun f => match f with
          | .brk => .pure (.done .next)
          | .ret v => .pure (.done (.ret v))
          | _ => .pure (.again (.whileLoop test body orelse env))) (noted env) id id) fs s'
      else SegD (model prog w) A Z (.whileLoop test body orelse env) ((execs orelse env).wrap (fun f => .pure (.done f)) (noted env) id id) fs s')
      (fun x s' => SegD (model prog w) A Z (.whileLoop test body orelse env) (noted env x) fs s') s) :
    SegD (model prog w) A Z (.whileLoop test body orelse env) ((model prog w).den (.whileLoop test body orelse env)) fs s := by
  show SegD _ A Z _ ((whileTurn test body orelse env).onRaise (fun x => do noteFrame x env; theTreesLotGoes x)) fs s
  have nt : ∀ x, ((do noteFrame x env; theTreesLotGoes x : Sem Unit).bind fun _ => (Sem.raise x : Sem PySem.Fin)) = noted env x := fun x => Sem.bind_eq_wrap _ _
  unfold whileTurn
  rw [Sem.onRaise_eq_wrap, Sem.bind_eq_wrap']
  rw [Sem.wrap_wrap]
  refine sd_wrap (wpAny_mono h (fun b s' q => ?_) fun x s' q => ?_)
  · cases b with
    | true =>
      rw [if_pos rfl] at q
      show SegD _ A Z _ (Sem.wrap _ _ _ _ (if true = true then _ else _)) fs s'
      rw [if_pos rfl, Sem.bind_eq_wrap']
      rw [Sem.wrap_wrap]
      refine cast (congrArg (fun t => SegD (model prog w) A Z (.whileLoop test body orelse env) t fs s') ?_) q
      exact (Sem.wrap_congr (execs body env) _ _ (fun f => by cases f <;> rfl) fun x => (nt x)).symm
    | false =>
      rw [if_neg Bool.false_ne_true] at q
      show SegD _ A Z _ (Sem.wrap _ _ _ _ (if false = true then _ else _)) fs s'
      rw [if_neg Bool.false_ne_true, Sem.bind_eq_wrap']
      rw [Sem.wrap_wrap]
      refine cast (congrArg (fun t => SegD (model prog w) A Z (.whileLoop test body orelse env) t fs s') ?_) q
      exact (Sem.wrap_congr (execs orelse env) _ _ (fun f => by rfl) fun x => (nt x)).symm
  · exact cast (congrArg (fun t => SegD (model prog w) A Z (.whileLoop test body orelse env) t fs s') (nt x).symm) q
end
section
variable {M : Model} {A : Around} {Z : End → Shared → Prop} {c : Code} {fs : List Frame} {s : Shared}
theorem sd_leaf {k : Result → Sem PySem.Fin} {hd : Option Value} {g : Bool} {l kp : List Value} {c1 : Code} {p1 : Pos} (r : Result) (hk : SegD M A Z c1 (k r) fs s) : SegD M A Z c (leafOf r) (.ret k hd g l c1 p1 kp :: fs) s := fun Γ p e hw => by
  subst e
  obtain ⟨en, s', q, z⟩ := hk (Γ.goto c1) p1 rfl (hw.goto c1)
  exact ⟨en, s', .pop r q, z⟩
end
section
variable {X : Cx} {L : Nat → Prop} {Yp : Nat → V → Hp → Prop} {Fp : Nat → Prop} {N : Nat} {test : Expr} {body : List Stmt} {pos : Pos}
def tDWhile (c : TT) (tb : TD) : TD := fun D j Hw σ H => ∃ W : Nat → Nat → Hp → L2.St → Hp → Prop, (∃ m, W m j Hw σ H) ∧ ∀ m j Hw σ H, W m j Hw σ H →
  c σ H fun b H1 => if b = true then ∃ N' : Nat → Hp → L2.St → Hp → Prop, (∀ j' Hw' σ' H', N' j' Hw' σ' H' → ∃ m', m' < m ∧ W m' j' Hw' σ' H') ∧ tb { D with nx := N', ct := N', bk := D.nx } j Hw σ H1 else D.nx j Hw σ H1
theorem ds_while {tc : TT} {tb : TD} (hc : ∀ s T, PT (rx X L s T) test tc) (hb : DSs X L Yp Fp N body tb) : DS X L Yp Fp N (.While test body [] pos) (tDWhile tc tb) := by
  refine ⟨fun A c fs K J gd lv m j Hg sw s σ H D g k hm lv0 I q => ?_⟩
  obtain ⟨W, ⟨m0, w0⟩, turn⟩ := q
  refine sd_while fun p => ?_
  have loop : ∀ (d m j : Nat) (Hg : Hp) (sw s : Shared) (σ : L2.St) (H : Hp), m + j = N → (∀ b, L b → ∃ o, sw.heap.get? b = some o) → W d j (Hwk X L Hg sw) σ H → Inv (rx X L sw (tpP Hg)) [] σ H s →
      SegD (model X.prog X.w) A (GoD (model X.prog X.w) A X L Yp Fp m j Hg sw) (.whileLoop test body [] X.env) ((model X.prog X.w).den (.whileLoop test body [] X.env))
        (.ret (fun r => ((match r with | .ok f => (Sem.pure f : Sem Flow) | .error x => Sem.raise x).onRaise (L2.cameBack X.env)).wrap K J gd lv) none (gd false) (lv []) c p [] :: fs) s := by
    intro d
    induction d using Nat.strongRecOn with
    | ind d ih =>
      intro m j Hg sw s σ H hm lv0 wd I
      have gl : DC X A (.whileLoop test body [] X.env) (.ret (fun r => ((match r with | .ok f => (Sem.pure f : Sem Flow) | .error x => Sem.raise x).onRaise (L2.cameBack X.env)).wrap K J gd lv) none (gd false) (lv []) c p [] :: fs) id := by
        refine ⟨(GenW.over_loop rfl rfl).trans g.over, ?_, ?_, rfl⟩
        · show Option.map _ (splitAtGen fs) = none
          rw [g.split]
          rfl
        · show (gd false || fs.any Frame.guarded) = false
          rw [g.gd, g.guard]
          rfl
      refine sd_loop ?_
      rw [gl.over]
      refine wpAny_mono ((hc sw (tpP Hg)).run [] s σ H _ I (turn d j _ σ H wd)) (fun b s' z => ?_) fun x s' z => False.elim z
      obtain ⟨H1, I1, q⟩ := z
      cases b with
      | true =>
        rw [if_pos rfl] at q ⊢
        obtain ⟨N', hN, q⟩ := q
        refine hb.run A _ _ _ _ id id m j Hg sw s' σ H1 _ gl (fun m' j' Hg' sw' s2 f hm' lv' z => ?_) hm lv0 I1 q
        cases f with
        | next =>
          obtain ⟨σ', H', I', n'⟩ := z
          obtain ⟨d', lt, w'⟩ := hN _ _ _ _ n'
          exact sd_again rfl (ih d' lt m' j' Hg' sw' s2 σ' H' hm' lv' w' I')
        | cont =>
          obtain ⟨σ', H', I', n'⟩ := z
          obtain ⟨d', lt, w'⟩ := hN _ _ _ _ n'
          exact sd_again rfl (ih d' lt m' j' Hg' sw' s2 σ' H' hm' lv' w' I')
        | brk => exact sd_leaf (.ok .next) (k m' j' Hg' sw' s2 .next hm' lv' z)
        | ret v => exact sd_leaf (.ok (.ret v)) (k m' j' Hg' sw' s2 (.ret v) hm' lv' z)
      | false =>
        rw [if_neg Bool.false_ne_true] at q ⊢
        exact sd_execs_nil (sd_leaf (.ok .next) (k m j Hg sw s' .next hm lv0 ⟨σ, H1, I1, q⟩))
  exact loop m0 m j Hg sw s σ H hm lv0 w0 I
end
end LmG

set_option Elab.async false
set_option linter.all false
set_option maxRecDepth 100000
set_option maxHeartbeats 1000000
/-! next of a generator, by one turn of its own -/
namespace LmG
open PySem PySem.Spec PyProof.Rows L2 GenW
section
variable {P : Program} {w : World} {A : Around} {E : Value → Shared → Prop} {s : Shared}
/-- one turn of the generator as it stands -/
def Turn1 (M : Model) (A : Around) (Z : End → Shared → Prop) (gs : GenState) (s : Shared) : Prop := match gs with
  | .fresh c => SegD M A Z c (M.den c) [] s
  | .suspended k _ c _ fs _ => SegD M A Z c (k (.send .none)) fs s
  | _ => False
theorem next_sd {a : Addr} {g : Nat} {gs : GenState} {Z : End → Shared → Prop} {Q : Option Value → Shared → Prop} (hh : A.handled = none) (hl : s.heap.NoLimit) (hroom : A.depth < recursionLimit) (hg : s.heap.IsGen a g) (hgs : s.gens[g]? = some gs)
    (hgo : Turn1 (model P w) A.in1 Z gs (s.setGen g .running))
    (hz : ∀ e s', Z e s' → match e with
      | .ret r => (r = .ok (.ret .none) ∨ r = .ok .next) ∧ ∀ h', (∀ b o, s'.heap.get? b = some o → h'.get? b = some o) → Q none { s'.setGen g .finished with heap := h' }
      | .susp v gg l k c p fs => (End.susp v gg l k c p fs).quiet = true ∧ Q (some v) (s'.setGen g (End.susp v gg l k c p fs).genState)) :
    wpAny (model P w) A (pyNext (.ref a)) Q E s := by
  unfold pyNext
  refine wpAny_bind (wpAny_attempt (wpAny_callSpecial?_slot (name := Str.ofString "__next__") hg.typeIs slot_gen_next (wpAny_call_entry slot_gen_next hg.typeIs entry_gen_next ?_ (args_gen_next _))))
  show wpAny _ A.in1 (Builtin.Generator.genWake (.ref a) (.send .none)) _ _ s
  unfold Builtin.Generator.genWake
  refine wpAny_bind (wpAny_holding (wpAny_genNumber hg (wpAny_bind (wpAny_genState hgs ?_))))
  have hq : ∀ e s', Z e s' → e.quiet = true := fun e s' z => by
    have q := hz e s' z
    cases e with
    | ret r => rfl
    | susp v gg l k c p fs => exact q.1
  cases gs with
  | running => exact hgo.elim
  | finished => exact hgo.elim
  | _ =>
    refine wpAny_bind (wpAny_roomToWake hl hroom ?_)
    show wpAny _ A.in1 (.resume g (.send .none) [] _) _ _ s
    refine wake_sd hgs (by first | exact ⟨rfl, hgo⟩ | exact hgo) hq fun e s1 z => ?_
    have q := hz e s1 z
    cases e with
    | susp v gg l k c p fs => exact wpAny_pure ⟨v, rfl, wpAny_pure q.2⟩
    | ret r =>
      obtain ⟨hr, hq1⟩ := q
      have hres : End.result (.ret r) = .returned .none := by rcases hr with hr | hr <;> rw [hr] <;> rfl
      simp only [hres]
      show wpAny (model P w) A.in1 (newExc (.type "StopIteration") [] >>= _) _ _ (s1.setGen g _)
      refine wpAny_bind ?_
      simp only [newTuple, newExc]
      refine wpAny_bind (wpAny_newObj_type ?_ (by size_fits))
      refine wpAny_bind (m := firstArgMember _ _) (wpAny_of_eq (a := Value.none) (by first | rfl | (simp only [firstArgMember] <;> rfl)) ?_)
      refine wpAny_newObj_type ?_ (by size_fits)
      simp only [raiseNew]
      refine wpAny_bind (wpAny_bind (wpAny_handled ?_))
      rw [show A.in1.handled = none from hh]
      refine wpAny_throw ?_
      refine wpAny_bind (wpAny_isInstance (b := true) (T := "StopIteration") ⟨_, Heap.get?_push_size _ rfl, rfl⟩ isSubtype_stop ?_)
      exact wpAny_pure (hq1 _ fun b o e => Heap.get?_push_of_some _ (Heap.get?_push_of_some _ e))
end
end LmG

set_option Elab.async false
set_option linter.all false
set_option maxRecDepth 100000
set_option maxHeartbeats 1000000
/-! a right waking, from what its consumer knows -/
namespace LmG
open PySem PySem.Spec PyProof.Rows L2
section
variable {Xg : Cx} {L : Nat → Prop} {A : Around} {H H3 : Hp} {s1 s3 : Shared}
theorem tpP_sub (tps : ∀ b t, IsTp t → H b = some t → H3 b = some t) {b : Addr} (e : H3 b = none) : tpP H b = none := by
  cases w : tpP H b with
  | none => rfl
  | some t =>
    obtain ⟨i, q⟩ := tpP_some w
    rw [tps b t i q] at e
    cases e
theorem wkn_of (e3 : Env0 Xg.prog Xg.w Xg.K Xg.mg Xg.base A Xg.outer s3 H3) (tps : ∀ b t, IsTp t → H b = some t → H3 b = some t) (see : ∀ b o, Priv H b ∨ b = Xg.env.locals → s1.heap.get? b = some o → H3 b = some (one b o))
    (lv : ∀ b, L b → ∃ o, s3.heap.get? b = some o) : Wkn Xg L H s1 s3 := by
  refine ⟨⟨A, e3.frames, e3.mod, fun b o e => ⟨(e3.bs b o e).1, tpP_sub tps (e3.bs b o e).2⟩, e3.bsz, e3.funs, fun b hb => tpP_sub tps (e3.frf b hb), fun b u e => ?_, e3.bare⟩, fun b o p e => one_at e3.hok (see b o p e), lv⟩
  obtain ⟨i, q⟩ := tpP_some e
  have z := e3.hok b _ (tps b u i q)
  rcases i with ⟨xs, rfl⟩ | ⟨ob, xs, rfl⟩ <;> exact z
/-- what the consumer saw at the yield it sees still: so the generator may be woken -/
theorem wkn_back {Hg Hg4 Hc : Hp} {s4 : Shared} (e3 : Env0 Xg.prog Xg.w Xg.K Xg.mg Xg.base A Xg.outer s3 H3) (keep : Tps (seeP Xg.env.locals Hg Hg4 Hc s4.heap) H3)
    (up4 : ∀ b, Priv Hg4 b → tpP Hg4 b = none) (l4 : tpP Hg4 Xg.env.locals = none) (lv : ∀ b, L b → ∃ o, s3.heap.get? b = some o) : Wkn Xg L Hg4 s4 s3 := by
  refine wkn_of e3 (fun b t i q => keep.1 b t i (see_tup i q)) (fun b o p e => keep.2 b _ ?_) lv
  rw [see_own (p.elim (fun p => up4 b p) fun p => by rw [p]; exact l4) (p.elim (fun p => .inr (.inr p)) fun p => .inr (.inl p)), e]
  rfl
/-! from what a turn's end tells to what the consumer's word asks -/
theorem holds_sm {Hg Hw Hg4 : Hp} {h : Heap} {n : Nat} (e : Hw = ownP L n Hg (tpP Hg) h) (hd : Holds Hw Hg4) (b : Addr) (o : HO) (p : ¬ Priv Hg b) (q : ownP L n Hg (tpP Hg) h b = some o) : Hg4 b = some o := by
  refine hd.1 b o (by rw [e]; exact q) ?_
  unfold ownP at q
  rw [if_neg p] at q
  cases w : tpP (tpP Hg) b with
  | some t =>
    obtain ⟨i, _⟩ := tpP_some w
    rw [w] at q
    cases q
    exact .inl i
  | none =>
    rw [w] at q
    simp only at q
    split at q
    · obtain ⟨ob, _, rfl⟩ := Option.map_eq_some_iff.mp q
      exact .inr ⟨_, rfl⟩
    · cases q
theorem holds_own {Hg Hw Hg4 : Hp} {h : Heap} {n : Nat} (e : Hw = ownP L n Hg (tpP Hg) h) (hd : Holds Hw Hg4) (b : Addr) (p : Priv Hg b) : Hg4 b ≠ none := by
  refine hd.2 b ?_
  obtain ⟨o, q, r⟩ := id p
  refine ⟨o, ?_, r⟩
  rw [e, own_priv p]
  exact q
/-- what the generator has of its own its consumer sees as just these objects -/
theorem see_one {Hg Hg4 Hc : Hp} {s4 : Shared} (keep : Tps (seeP Xg.env.locals Hg Hg4 Hc s4.heap) H3) (l4 : tpP Hg4 Xg.env.locals = none) (ex : ∀ b, Priv Hg4 b ∨ b = Xg.env.locals → ∃ o, s4.heap.get? b = some o) (b : Addr) (p : Priv Hg4 b ∨ b = Xg.env.locals) : ∃ o, H3 b = some (one b o) := by
  obtain ⟨o, e⟩ := ex b p
  refine ⟨o, keep.2 b _ ?_⟩
  rw [see_own (p.elim (fun p => tp_of_priv p) fun p => by rw [p]; exact l4) (p.elim (fun p => .inr (.inr p)) fun p => .inr (.inl p)), e]
  rfl
end
end LmG

set_option Elab.async false
set_option linter.all false
set_option maxRecDepth 100000
set_option maxHeartbeats 1000000
/-! a generator as its consumer holds it between two turns; one turn of it: a thing handed out, or its end -/
namespace LmG
open PySem PySem.Spec PyProof.Rows L2
/-- consumer and generator belong together; A1: where the generator's turns run -/
structure Duo (X : Cx) (L : Nat → Prop) (A1 : Around) (Xc : Cx) : Prop where
  prog : Xc.prog = X.prog
  w : Xc.w = X.w
  K : Xc.K = X.K
  mg : Xc.mg = X.mg
  base : Xc.base = X.base
  stack : Xc.stack = X.outer
  A1 : Xc.A.in1 = A1
  hh : Xc.A.handled = none
  room : Xc.A.depth < recursionLimit
  live : ∀ (pins : List (Addr × Obj)) (σ : L2.St) (H : Hp) (s : Shared), Inv Xc pins σ H s → ∀ b, L b → ∃ o, s.heap.get? b = some o
/-- behind a turn: the consumer's own things are as they were, and what was other ones' when the generator was made -/
def GKeep (Hc H H' : Hp) : Prop := (∀ b u, H b = some u → (∀ φ, u ≠ .ext φ) → H' b = some u) ∧ ∀ b φ, Hc b = some (.ext φ) → H' b = some (.ext φ)
theorem GKeep.same {H0 Hc H H' : Hp} (a : Same H0 Hc) (b : Same H0 H) (k : GKeep Hc H H') : Same H0 H' := fun c u e => by
  cases u with
  | ext φ => exact k.2 c φ (a c _ e)
  | _ => exact k.1 c _ (b c _ e) fun φ z => nomatch z
/-- the generator's object -/
def GenO (g : Nat) (o : Obj) : Prop := ∃ nm qn, o.cls = .type "generator" ∧ o.data = .fields #[.int g 0, nm, qn] ∧ o.slots = #[]
section
variable {X Xc : Cx} {L : Nat → Prop} {Yp : Nat → V → Hp → Prop} {Fp : Nat → Prop} {N a g j : Nat} {A1 : Around} {pins : List (Addr × Obj)} {σ : L2.St} {Hc H : Hp} {s : Shared} {E : Value → Shared → Prop}
theorem Duo.env0 (d : Duo X L A1 Xc) (I : Inv Xc pins σ H s) : Env0 X.prog X.w X.K X.mg X.base Xc.A X.outer s H := by
  have z := I.env0
  rw [d.prog, d.w, d.K, d.mg, d.base, d.stack] at z
  exact z
/-- asleep (or not begun) behind j things; Hc: the consumer's heap when it was made -/
structure Asl (A1 : Around) (X : Cx) (L : Nat → Prop) (Yp : Nat → V → Hp → Prop) (Fp : Nat → Prop) (N a g : Nat) (Hc : Hp) (j : Nat) (H : Hp) (s : Shared) : Prop where
  gen : ∃ o, H a = some (one a o) ∧ GenO g o
  run : ∃ (gs : GenState) (m : Nat) (Hg : Hp) (s1 : Shared), s.gens[g]? = some gs ∧ m + j = N ∧ (∀ b, Priv Hg b → ¬ L b ∧ b ≠ X.env.locals) ∧
    (∀ b, Priv Hg b ∨ b = X.env.locals → ∃ o, H b = some (one b o)) ∧ (∀ b t, IsTp t → Hg b = some t → H b = some t) ∧ ¬ Priv Hg a ∧ Wkn X L Hg s1 s ∧
    (∀ b φ, Hc b = some (.ext φ) → H b = some (.ext φ) ∧ ¬ (Priv Hg b ∨ b = X.env.locals)) ∧
    ∀ s2, Wkn X L Hg s1 s2 → Turn1 (model X.prog X.w) A1 (fun e s3 => GoD (model X.prog X.w) A1 X L Yp Fp m j Hg s2 e s3) gs s2
theorem wkn_set {H1 : Hp} {s1 : Shared} (w : Wkn X L H1 s1 s) : Wkn X L H1 s1 (s.setGen g .running) := by
  obtain ⟨A, e⟩ := w.env
  exact ⟨⟨A, e.frames, e.mod, e.bs, e.bsz, e.funs, e.frf, e.hok, allBare_setGen e.bare rfl⟩, w.pin, w.live⟩
/-- what wasn't its own, and is there, isn't its own behind the turn -/
theorem np4 {Hg Hg4 : Hp} {sw : Shared} (up4 : ∀ b, Priv Hg4 b → ¬ L b ∧ b ≠ X.env.locals) (hw : Holds (Hwk X L Hg sw) Hg4) {b : Addr} (np : ¬ Priv Hg b) (al : ∃ o, sw.heap.get? b = some o) : ¬ Priv Hg4 b := fun p => by
  obtain ⟨nl, nn⟩ := up4 b p
  obtain ⟨o, eo⟩ := al
  cases et : tpP (tpP Hg) b with
  | some t =>
    obtain ⟨i, q⟩ := tpP_some et
    exact not_priv_tup i (hw.1 b t (own_tup i np q) (.inl i)) p
  | none =>
    refine not_priv_one (o := o) (hw.1 b (one b o) ?_ (.inr ⟨_, rfl⟩)) p
    unfold Hwk
    rw [own_up np nl nn et, eo]
    rfl
theorem alive_of (I : Inv Xc pins σ H s) {b : Addr} {u : HO} (e : H b = some u) : ∃ o, s.heap.get? b = some o := by
  cases w : s.heap.get? b with
  | some o => exact ⟨o, rfl⟩
  | none => rw [HOk.gone I.hok w] at e; cases e
theorem asl_turn (d : Duo X L A1 Xc) (G : GenX X L) (na : ¬ L a ∧ a ≠ X.env.locals) (Ic : Inv Xc pins σ H s) (S : Asl A1 X L Yp Fp N a g Hc j H s) :
    wpAny (model Xc.prog Xc.w) Xc.A (pyNext (.ref a)) (fun r s1 => match r with
      | some u => ∃ (x : V) (H' : Hp), RelV x u ∧ (∃ Hg4, Yp j x Hg4 ∧ ∀ b t, IsTp t → Hg4 b = some t → H' b = some t) ∧ GKeep Hc H H' ∧ (∃ o, H' a = some (one a o) ∧ GenO g o) ∧ Inv Xc pins σ H' s1 ∧
          ∀ (Xd : Cx) (pd : List (Addr × Obj)) (σ3 : L2.St) (H3 : Hp) (s3 : Shared), Duo X L A1 Xd → Inv Xd pd σ3 H3 s3 → Asleep s1 s3 → Tps H' H3 → Asl A1 X L Yp Fp N a g Hc (j + 1) H3 s3
      | none => Fp j ∧ ∃ H', GKeep Hc H H' ∧ Inv Xc pins σ H' s1) E s := by
  obtain ⟨o, eo, go⟩ := S.gen
  obtain ⟨gs, m, Hg, s1, hgs, hm, up, see, tp, na0, w, fx, run⟩ := S.run
  have ho := one_at Ic.hok eo
  have hgl : g < s.gens.size := (Array.getElem?_eq_some_iff.mp hgs).1
  obtain ⟨nm, qn, o1, o2, o3⟩ := id go
  have lv0 : ∀ b, L b → ∃ o, (s.setGen g .running).heap.get? b = some o := fun b l => d.live _ _ _ _ Ic b l
  have Ic' : Inv Xc pins σ H (s.setGen g .running) := inv_gens Ic (allBare_setGen Ic.bare rfl)
  -- the turn's end, by the consumer
  have fin : ∀ {σ4 : L2.St} {Hg4 : Hp} {s' : Shared}, Inv (rx X L (s.setGen g .running) (tpP Hg)) [] σ4 Hg4 s' → Holds (Hwk X L Hg (s.setGen g .running)) Hg4 →
      Inv Xc pins σ (seeP X.env.locals Hg Hg4 H s'.heap) s' ∧ (∀ b u, H b = some u → ¬ (Priv Hg b ∨ b = X.env.locals) → seeP X.env.locals Hg Hg4 H s'.heap b = some u) ∧
      GKeep Hc H (seeP X.env.locals Hg Hg4 H s'.heap) := fun {σ4 Hg4 s'} I4 hw => by
    obtain ⟨J, st⟩ := yield_inv (T := tpP Hg) Ic' I4 (fun b t i e => tp b t i (tpP_some e).2) d.prog.symm d.w.symm d.stack.symm G.ex G.lt G.fr up see (holds_own rfl hw) (holds_sm rfl hw)
    refine ⟨J, st, fun b u e n => st b u e fun p => ?_, fun b φ e => ?_⟩
    · obtain ⟨o', q⟩ := see b p
      rw [e] at q
      cases q
      exact n _ rfl
    · obtain ⟨q1, q2⟩ := fx b φ e
      exact st b _ q1 q2
  have run' : Turn1 (model Xc.prog Xc.w) Xc.A.in1 (fun e s3 => GoD (model X.prog X.w) A1 X L Yp Fp m j Hg (s.setGen g .running) e s3) gs (s.setGen g .running) := by
    rw [d.A1, d.prog, d.w]
    exact run _ (wkn_set w)
  refine GenW.wpAny_gsz (n := g + 1) hgl (next_sd d.hh Ic.nolimit d.room ⟨o, nm, qn, ho, o1, o2, o3⟩ hgs run' fun e s' z => ?_)
  cases e with
  | ret r =>
    have z' : (r = .ok (.ret .none) ∨ r = .ok .next) ∧ Fp j ∧ ∃ σ H, Inv (rx X L (s.setGen g .running) (tpP Hg)) [] σ H s' ∧ Holds (Hwk X L Hg (s.setGen g .running)) H := by cases m <;> exact z
    obtain ⟨hr, f, σ4, Hg4, I4, hw⟩ := z'
    refine ⟨hr, fun h' kp _ => ⟨f, _, (fin I4 hw).2.2, ?_⟩⟩
    exact inv_gens (Inv.kept (t' := s'.toks) (fin I4 hw).1 kp) (allBare_setGen (fin I4 hw).1.bare rfl)
  | susp v q l k c p fs =>
    cases m with
    | zero => exact False.elim z
    | succ m =>
      obtain ⟨hq, σ4, Hg4, x, I4, hw, rv, y, next⟩ := z
      obtain ⟨J, st, kp⟩ := fin I4 hw
      have low := low_of I4 G.ex G.lt lv0
      have up4 : ∀ b, Priv Hg4 b → ¬ L b ∧ b ≠ X.env.locals := fun b p => priv_no (Xg := rx X L (s.setGen g .running) (tpP Hg)) I4 low p
      have l4 : tpP Hg4 X.env.locals = none := tpP_none I4.free
      have ex4 : ∀ b, Priv Hg4 b ∨ b = X.env.locals → ∃ o, s'.heap.get? b = some o := fun b p => by
        rcases p with p | p
        · obtain ⟨u, e, _⟩ := p
          exact alive_of I4 e
        · obtain ⟨mm, ⟨ol, _, _, hol, _⟩, _⟩ := I4.loc
          rw [p]
          exact ⟨ol, hol⟩
      have na4 : ¬ Priv Hg4 a := np4 up4 hw na0 ⟨o, ho⟩
      have ha' := st a _ eo fun z => z.elim na0 na.2
      have Jg := inv_gens (G := (s'.setGen g (End.susp v q l k c p fs).genState).gens) J (allBare_setGen J.bare (End.bare_of_quiet hq))
      refine ⟨hq, fun hsz => ⟨x, _, rv, ⟨Hg4, y, fun b t i e => see_tup i e⟩, kp, ⟨o, ha', go⟩, Jg, fun Xd pd σ3 H3 s3 dd I3 asl keep => ?_⟩⟩
      have hg' : g < s'.gens.size := by
        have q := GenW.setGen_size s' g (End.susp v q l k c p fs).genState
        omega
      refine ⟨⟨o, keep.2 a _ ha', go⟩, (End.susp v q l k c p fs).genState, m, Hg4, s', asl g _ (setGen_at hg') rfl, by omega, up4, fun b p => see_one keep l4 ex4 b p, fun b t i q => keep.1 b t i (see_tup i q), na4,
        wkn_back (dd.env0 I3) keep (fun b p => tp_of_priv p) l4 (dd.live _ _ _ _ I3), fun b φ e => ?_, next⟩
      obtain ⟨q1, q2⟩ := fx b φ e
      refine ⟨keep.2 b φ (st b _ q1 q2), fun z => z.elim (fun p => ?_) fun p => q2 (.inr p)⟩
      exact np4 up4 hw (fun p => q2 (.inl p)) (alive_of Ic' q1) p
end
end LmG

set_option Elab.async false
set_option linter.all false
set_option maxRecDepth 100000
set_option maxHeartbeats 1000000
/-! the consumer's for and comprehension over a generator -/
namespace LmG
open PySem PySem.Spec PyProof.Rows L2
/-- what there was when a consumer's def began, and its frame -/
def Lx (X : Cx) (b : Nat) : Prop := (∃ o, X.s_0.heap.get? b = some o) ∨ b = X.env.locals
/-- a def and its comprehensions' blocks -/
structure Fam (X Xc : Cx) : Prop where
  prog : Xc.prog = X.prog
  w : Xc.w = X.w
  K : Xc.K = X.K
  mg : Xc.mg = X.mg
  base : Xc.base = X.base
  stack : Xc.stack = X.stack
  A : Xc.A = X.A
  live : ∀ (pins : List (Addr × Obj)) (σ : L2.St) (H : Hp) (s : Shared), Inv Xc pins σ H s → ∀ b, Lx X b → ∃ o, s.heap.get? b = some o
theorem live_self {X : Cx} (hex : X.ex = []) {pins : List (Addr × Obj)} {σ : L2.St} {H : Hp} {s : Shared} (I : Inv X pins σ H s) (b : Nat) (l : Lx X b) : ∃ o, s.heap.get? b = some o := by
  rcases l with ⟨o, e⟩ | e
  · exact I.base.there b o e (by rw [hex]; simp)
  · obtain ⟨m, ⟨o, _, _, ho, _⟩, _⟩ := I.loc
    rw [e]
    exact ⟨o, ho⟩
theorem fam_self {X : Cx} (hex : X.ex = []) : Fam X X := ⟨rfl, rfl, rfl, rfl, rfl, rfl, rfl, fun _ _ _ _ I => live_self hex I⟩
theorem fam_blk {X : Cx} (hex : X.ex = []) {pins : List (Addr × Obj)} {σ : L2.St} {H H' : Hp} {s : Shared} {scope : Scope} {cenv : Env} (I : Inv X pins σ H s) : Fam X (X.blk s H' scope cenv []) := ⟨rfl, rfl, rfl, rfl, rfl, rfl, rfl, fun _ _ _ s' J b l => by
  obtain ⟨o, e⟩ := live_self hex I b l
  exact J.base.there b o e (by show b ∉ ([] : List Addr); simp)⟩
/-- an iterator that all of the family may turn -/
structure PIX (X : Cx) (tg iter : Expr) (wi : TIS) : Prop where
  run : ∀ (pins : List (Addr × Obj)) (s : Shared) (σ : L2.St) (H : Hp) (R : ItS → Hp → Prop), Inv X pins σ H s → wi σ H R →
    wpAny (model X.prog X.w) X.A (eval iter X.env) (fun v s1 => wpAny (model X.prog X.w) X.A (pyIter v) (fun itv s2 => ∃ (it : Addr) (tn : Nat → Hp → Shared → Prop) (J : ItS) (H' : Hp), itv = .ref it ∧ Inv X pins σ H' s2 ∧ (∀ Xc pc, Fam X Xc → TurnS Xc pc tg J it tn) ∧
      (∀ Xc pc σ3 H3 s3, Fam X Xc → Inv Xc pc σ3 H3 s3 → s3.gens = s2.gens → Tps H' H3 → tn 0 H3 s3 ∧ ∃ g, s3.heap.IsGen it g) ∧ R J H') X.xe s1) X.xe s
theorem pis_of {X : Cx} {tg iter : Expr} {wi : TIS} (hex : X.ex = []) (h : PIX X tg iter wi) : PIS X tg iter wi := ⟨fun pins s σ H R I q => thn (h.run pins s σ H R I q) fun v s1 h1 => thn h1 fun itv s2 h2 => by
  obtain ⟨it, tn, J, H', e, I2, T, k, r⟩ := h2
  exact ⟨it, tn, J, H', e, I2, T X pins (fam_self hex), (k X pins σ H' s2 (fam_self hex) I2 rfl (Tps.refl _)).1, r⟩⟩
/-- for, over a generator -/
theorem ps_forG {X : Cx} {tg iter : Expr} {body : List Stmt} {wi : TIS} {g : TG} {tb : TS} {pos : Pos} (hex : X.ex = []) (hp : PassesOwn (model X.prog X.w) X.A X.env X.xe) (hx : ∀ G0, AllBare G0 → XePatch X G0) (hi : PIX X tg iter wi) (hg : PG X tg g) (hb : PSs X body tb)
    (hs : ∀ x, foldedSetIterable iter X.env x = pure x := by intro _; rfl) : PS X (.For tg iter body [] pos) (tForS wi g tb) := ps_forS hp hx (pis_of hex hi) hg hb hs
section
variable {X : Cx}
theorem keepF {α : Type} {M : Model} {A : Around} {t : Sem α} {Q : α → Shared → Prop} {E' : Value → Shared → Prop} {s : Shared} (h : wpAny M A t Q (fun _ _ => False) (hush s)) (hQ : ∀ a b, Q a b → Q a (patch s.gens b)) : wpAny M A t (fun a s' => Q a s' ∧ Asleep s s') E' s :=
  wpAny_mono (keep_of h hQ fun _ _ z => z) (fun _ _ z => z) fun _ _ z => z.1.elim
/-- [elt for target in generator if ..] -/
def tLcS (wi : TIS) (g : TG) (tt : TT) (te : TE) (vs : List Nat) : TE := fun σ H Q => wi σ H fun J H1 => ∀ D, H1 D = none → ∃ W : Nat → Nat → Hp → Prop, (∃ m, W 0 m (upd H1 D (.lst []))) ∧ ∀ i m H, W i m H →
  (J.stop i H ∧ ∀ H', J.fin i H H' → Q (.ref D) H') ∨ (J.go i H ∧ ∀ x H', J.yld i H x H' → ∃ Nx : Hp → Prop, (∀ H2, Nx H2 → Tps H' H2 ∧ ∃ m', m' < m ∧ W (i + 1) m' H2) ∧ g x (wipe σ vs) H' fun σ2 H2 => wipe σ2 vs = wipe σ vs ∧ tt σ2 H2 fun b H3 =>
    if b = true then te σ2 H3 fun y H4 => ∃ acc, H4 D = some (.lst acc) ∧ acc.length < sizeLine ∧ Nx (upd H4 D (.lst (acc ++ [y]))) else Nx H3)
theorem lcS_core {pins : List (Addr × Obj)} {s : Shared} {σ : L2.St} {H : Hp} {Q : VK} {elt tg iter : Expr} {ifs : List Expr} {scope : Scope} {own : List (Str × Nat)} {pos pos' : Pos} {wi : TIS} {g : TG} {tt : TT} {te : TE} {use : Option (Value → Sem Unit)} {Qf : Value → Shared → Prop}
    (hex : X.ex = []) (hN : X.N.Nodup) (I : Inv X pins σ H s) (hi : PIX X tg iter wi) (ok : BlkOk X.N X.env.scope scope own)
    (hg : ∀ (s : Shared) (H : Hp) (C : Addr) (cl : List (Str × Addr)) (fp : List Addr), PG (X.blk s H scope (compEnvC scope cl C X.env) fp) tg g) (ht : ∀ (s : Shared) (H : Hp) (C : Addr) (cl : List (Str × Addr)) (fp : List Addr), PTs (X.blk s H scope (compEnvC scope cl C X.env) fp) ifs tt)
    (he : ∀ (s : Shared) (H : Hp) (C : Addr) (cl : List (Str × Addr)) (fp : List Addr), PE (X.blk s H scope (compEnvC scope cl C X.env) fp) elt te) (hs : ∀ x, foldedSetIterable iter X.env x = pure x)
    (h : tLcS wi g tt te (own.map (·.2)) σ H Q)
    (hRR : ∀ D C s' m H', Inv X pins σ H' s' → Q (.ref D) H' → s'.heap.Ns C m → FpOk X pins H' C → compPost (model X.prog X.w) X.A X.xe use Qf (.ref D) C (.ok .next) s') :
    wpAny (model X.prog X.w) X.A (comprehension (.ListComp elt [⟨tg, iter, ifs, 0⟩] scope pos) scope X.env pos' (newList []) false (eval iter X.env) use) Qf X.xe s := by
  have hfree : ∀ y ∈ scope.names, y.2 = .free → ∃ c, X.env.cells.lookup y.1 = some c := fun y hy e => by
    rcases ok.free y hy e with k | k
    · exact I.ok.has _ (.inl k)
    · exact I.ok.has _ (.inr k)
  refine wpAny_comprehension_free (use := use) rfl hs (closure_ok hfree) ok.kind (fun y hy e => by rw [ok.uniq y hy, e])
    (thn (hi.run pins s σ H _ I h) fun xv s1 hx => thn hx fun itv s2 h2 => ?_)
  obtain ⟨it, tn, J, H2, e, I2, T, k2, q⟩ := h2
  subst e
  refine wpAny_newObj_type (newEnv_comp ?_) (by show 0 ≤ sizeLine; decide)
  generalize hD : s2.heap.objs.size = D
  have hDn : H2 D = none := I2.hok.fresh (Nat.le_of_eq hD)
  obtain ⟨W, ⟨m0, w0⟩, turn⟩ := q D hDn
  generalize hs3 : ({ s2 with heap := s2.heap.push { cls := .type "list", data := .seq ([] : List Value).toArray } } : Shared) = s3
  have I3 : Inv X pins σ (upd H2 D (.lst [])) s3 := by
    rw [← hs3]
    refine I2.laid (t' := s2.toks) (fun b o e => Heap.get?_push_of_some _ e) (Nat.le_of_eq hD) ⟨Nat.zero_le _, [], 0, .nil, ?_⟩
    rw [← hD]
    exact Heap.get?_push_size _ rfl
  have tp3 : Tps H2 (upd H2 D (.lst [])) := ⟨fun b t _ e => by rw [upd_ne (ne_of_none e hDn)]; exact e, fun b φ e => by rw [upd_ne (ne_of_none e hDn)]; exact e⟩
  have g3 : s3.gens = s2.gens := by rw [← hs3]
  have I4 := block_start (fp := []) I3 ok hN (fun b hb => by cases hb)
  have pg := hg s3 (upd H2 D (.lst [])) s3.heap.objs.size (cellsFrom (s3.heap.objs.size + 1) scope.names (cloFrom X.env.cells scope.names [])) []
  have pt := ht s3 (upd H2 D (.lst [])) s3.heap.objs.size (cellsFrom (s3.heap.objs.size + 1) scope.names (cloFrom X.env.cells scope.names [])) []
  have pe := he s3 (upd H2 D (.lst [])) s3.heap.objs.size (cellsFrom (s3.heap.objs.size + 1) scope.names (cloFrom X.env.cells scope.names [])) []
  show codeAny _ _ (.compStart (.ListComp elt [⟨tg, iter, ifs, 0⟩] scope pos) 0 (.ref it) (.ref D) (compEnvC scope (cellsFrom (s3.heap.objs.size + 1) scope.names (cloFrom X.env.cells scope.names [])) s3.heap.objs.size X.env)) (compPost (model X.prog X.w) X.A X.xe use Qf (.ref D) s3.heap.objs.size) { s3 with heap := pushCells (s3.heap.push { cls := .type "dict", data := .dict #[] }) scope.names }
  generalize hce : compEnvC scope (cellsFrom (s3.heap.objs.size + 1) scope.names (cloFrom X.env.cells scope.names [])) s3.heap.objs.size X.env = ce at I4 pg pt pe ⊢
  have cL : ce.locals = s3.heap.objs.size := by subst hce; rfl
  generalize hH3 : upd H2 D (.lst []) = H3 at I3 I4 pg pt pe w0 tp3
  have fm : Fam X (X.blk s3 H3 scope ce []) := fam_blk hex I3
  have TB := T (X.blk s3 H3 scope ce []) [] fm
  have g4 : ({ s3 with heap := pushCells (s3.heap.push { cls := .type "dict", data := .dict #[] }) scope.names } : Shared).gens = s2.gens := g3
  generalize hs4 : ({ s3 with heap := pushCells (s3.heap.push { cls := .type "dict", data := .dict #[] }) scope.names } : Shared) = s4 at I4 g4 ⊢
  obtain ⟨st4, gi, hgi⟩ := k2 _ _ _ _ s4 fm I4 g4 tp3
  have loop : codeAny (model X.prog X.w) X.A (.compLoop (.ListComp elt [⟨tg, iter, ifs, 0⟩] scope pos) 0 (.ref it) (.ref D) ce) (compPost (model X.prog X.w) X.A X.xe use Qf (.ref D) s3.heap.objs.size) s4 := by
    refine compLoop_any (fun n s' => ∃ i H', Inv (X.blk s3 H3 scope ce []) [] (wipe σ (own.map (·.2))) H' s' ∧ tn i H' s' ∧ W i n H') ?_ m0 ⟨0, H3, I4, st4, w0⟩
    rintro n s5 ⟨i, H5, I5, st5, w5⟩
    rcases turn i n H5 w5 with ⟨stop, qq⟩ | ⟨go, step⟩
    · have td := TB.done i _ H5 s5 I5 st5 stop
      refine thnF td fun r s6 ⟨hr, H6, I6, f6⟩ => ?_
      subst hr
      have I7 : Inv X pins σ H6 s6 := I3.call' (ch := []) I6.os I6.base I6.hok I6.bare fun b hb => by cases hb
      have nC : H6 s3.heap.objs.size = none := by
        have z : H6 ce.locals = none := I6.free
        rw [cL] at z
        exact z
      obtain ⟨m, hn, _⟩ := I6.loc
      have hn : s6.heap.Ns ce.locals m := hn
      rw [cL] at hn
      exact hRR D s3.heap.objs.size s6 m H6 I7 (qq H6 f6) hn (I3.fpOk (Nat.le_refl _) nC)
    · have ti := TB.item i _ H5 s5 I5 st5 go
      refine thnF ti fun r s6 ⟨u, hr, h6⟩ => ?_
      subst hr
      refine thnF h6 fun _ s7 ⟨x, H7, pl, I7, r7, y7, back⟩ => ?_
      obtain ⟨Nx, hNx, q7⟩ := step x H7 y7
      have A7 := keepF (E' := notedBy (model X.prog X.w) X.A ce fun e s' => compPost (model X.prog X.w) X.A X.xe use Qf (.ref D) s3.heap.objs.size (.error e) s') (s := s7) (pg.run _ (hush s7) _ H7 x u _ (inv_hush I7) r7 q7) (fun _ b z => by
        obtain ⟨σ8, H8, I8, q8⟩ := z
        exact ⟨σ8, H8, inv_patch I7.bare I8, q8⟩)
      refine thn A7 fun _ s8 ⟨⟨σ8, H8, I8, hw8, q8⟩, a8⟩ => ?_
      have A8 := keepF (E' := notedBy (model X.prog X.w) X.A ce fun e s' => compPost (model X.prog X.w) X.A X.xe use Qf (.ref D) s3.heap.objs.size (.error e) s') (s := s8) (pt.run _ (hush s8) σ8 H8 _ (inv_hush I8) q8) (fun _ b z => by
        obtain ⟨H9, I9, q9⟩ := z
        exact ⟨H9, inv_patch I8.bare I9, q9⟩)
      refine thn A8 fun b s9 ⟨⟨H9, I9, q9⟩, a9⟩ => ?_
      have fin : ∀ {s' : Shared} {H' : Hp}, Inv (X.blk s3 H3 scope ce []) ([] ++ pl) σ8 H' s' → Asleep s7 s' → Nx H' → ∃ m, m < n ∧ ∃ i H', Inv (X.blk s3 H3 scope ce []) [] (wipe σ (own.map (·.2))) H' s' ∧ tn i H' s' ∧ W i m H' := fun {s' H'} I' al nx => by
        obtain ⟨tp, m', hm, w'⟩ := hNx H' nx
        have hl : (wipe σ (own.map (·.2))).length = σ8.length := by rw [← hw8, wipe_length]
        refine ⟨m', hm, i + 1, H', (I'.unpinned (pins := [])).weak hl (fun j v e => ?_), back σ8 H' s' I' al tp, w'⟩
        rw [← hw8] at e
        exact (wipe_some e).1
      cases b with
      | false =>
        simp only [Bool.false_eq_true, if_false] at q9 ⊢
        exact fin I9 (a8.trans a9) q9
      | true =>
        simp only [if_true] at q9 ⊢
        have A9 := keepF (E' := notedBy (model X.prog X.w) X.A ce fun e s' => compPost (model X.prog X.w) X.A X.xe use Qf (.ref D) s3.heap.objs.size (.error e) s') (s := s9) (pe.run _ (hush s9) σ8 H9 _ (inv_hush I9) q9) (fun _ b z => by
          obtain ⟨v, H10, I10, r10, q10⟩ := z
          exact ⟨v, H10, inv_patch I9.bare I10, r10, q10⟩)
        refine thn A9 fun z s10 ⟨⟨yv, H10, I10, r10, acc, hD10, hz10, nx⟩, a10⟩ => ?_
        have A10 := keepF (E' := notedBy (model X.prog X.w) X.A ce fun e s' => compPost (model X.prog X.w) X.A X.xe use Qf (.ref D) s3.heap.objs.size (.error e) s') (s := s10) (Q := fun _ s' => Inv (X.blk s3 H3 scope ce []) ([] ++ pl) σ8 (upd H10 D (.lst (acc ++ [yv]))) s') (app_ok (X := X.blk s3 H3 scope ce []) (inv_hush I10) hD10 hz10 r10 fun s11 I11 => I11) (fun _ b z => inv_patch I10.bare z)
        exact thn A10 fun _ s11 ⟨I11, a11⟩ => fin I11 (((a8.trans a9).trans a10).trans a11) nx
  exact codeAny_compStart_list loop (wpAny_pyIter_gen hgi loop)
/-- as a value -/
theorem pe_lcG {elt tg iter : Expr} {ifs : List Expr} {scope : Scope} {own : List (Str × Nat)} {pos : Pos} {wi : TIS} {g : TG} {tt : TT} {te : TE} (hex : X.ex = []) (hN : X.N.Nodup) (hi : PIX X tg iter wi) (ok : BlkOk X.N X.env.scope scope own)
    (hg : ∀ (s : Shared) (H : Hp) (C : Addr) (cl : List (Str × Addr)) (fp : List Addr), PG (X.blk s H scope (compEnvC scope cl C X.env) fp) tg g) (ht : ∀ (s : Shared) (H : Hp) (C : Addr) (cl : List (Str × Addr)) (fp : List Addr), PTs (X.blk s H scope (compEnvC scope cl C X.env) fp) ifs tt)
    (he : ∀ (s : Shared) (H : Hp) (C : Addr) (cl : List (Str × Addr)) (fp : List Addr), PE (X.blk s H scope (compEnvC scope cl C X.env) fp) elt te) (hs : ∀ x, foldedSetIterable iter X.env x = pure x := by intro _; rfl) :
    PE X (.ListComp elt [⟨tg, iter, ifs, 0⟩] scope pos) (tLcS wi g tt te (own.map (·.2))) := by
  refine ⟨fun pins s σ H Q I h => ?_⟩
  rw [eval_ListComp]
  refine lcS_core hex hN I hi ok hg ht he hs h fun D C s' m H' I' q hn f => ⟨m, hn, fun h'' sb => ?_⟩
  obtain ⟨f0, f1, f2, f3, f4, f5⟩ := f
  exact ⟨.ref D, H', I'.turned (t' := s'.toks) (fun b o hb e => (sb.2 b hb).trans e) f0 f1 f3 f4 f5, rfl, q⟩
end
end LmG

set_option Elab.async false
set_option linter.all false
set_option maxRecDepth 100000
set_option maxHeartbeats 1000000
/-! a call of a generator def: a generator that has not begun -/
namespace LmG
open PySem PySem.Spec PyProof.Rows L2 GenW
/-- a generator def's promise: from the arguments and the heap: how many it hands out at most, what, when it ends -/
abbrev SpD := List V → Hp → (Nat → (Nat → V → Hp → Prop) → (Nat → Prop) → Prop) → Prop
def GMk (P : Program) (w : World) (K : PySem.W.Frag) (mg : Str → Option Value) (base : Heap) (A : Around) (outer : List Env) (H : Hp) (s : Shared) (N : Nat) (Yp : Nat → V → Hp → Prop) (Fp : Nat → Prop) (u : Value) (s' : Shared) : Prop :=
  ∃ (a g : Nat) (X : Cx) (c : Code) (o : Obj), u = .ref a ∧ GenO g o ∧ s'.heap.get? a = some o ∧ (∃ oL, s'.heap.get? X.env.locals = some oL) ∧ X.env.locals = s.heap.objs.size ∧ s.heap.objs.size < a ∧ (∀ b o, s.heap.get? b = some o → s'.heap.get? b = some o) ∧
    s'.gens[g]? = some (.fresh c) ∧ s'.os = s.os ∧ AllBare s'.gens ∧ (X.prog = P ∧ X.w = w ∧ X.K = K ∧ X.mg = mg ∧ X.base = base ∧ X.outer = outer) ∧
    ∀ L : Nat → Prop, (∀ b, L b → ∃ o, s.heap.get? b = some o) → (∀ b ∈ frs outer, L b) → (∀ b o, base.get? b = some o → L b) → GenX X L ∧
      ∀ s2, Wkn X L (tpP H) s' s2 → SegD (model P w) A.in1 (fun e s3 => GoD (model P w) A.in1 X L Yp Fp N 0 (tpP H) s2 e s3) c ((model P w).den c) [] s2
structure GDFn (P : Program) (w : World) (K : PySem.W.Frag) (mg : Str → Option Value) (base : Heap) (k : Nat) (f : Addr) (fd : FuncData) (ps : List Str) (sp : SpD) : Prop where
  len : ∀ vs H Q, sp vs H Q → vs.length = ps.length
  run : ∀ (A : Around) (outer : List Env) (s : Shared) (H : Hp) (args : Args) (us : List Value) (vs : List V) (Q : Nat → (Nat → V → Hp → Prop) → (Nat → Prop) → Prop), Room k A → Env0 P w K mg base A outer s H → BindsTo s fd args (ps.zip us) → Vals vs us → sp vs H Q →
    codeAny (model P w) A (.call (.ref f) args) (fun r s' => match r with | .ok (.ret u) => ∃ N Yp Fp, Q N Yp Fp ∧ GMk P w K mg base A outer H s N Yp Fp u s' | _ => False) s
/-- the context of a generator's body -/
abbrev gx (P : Program) (w : World) (K : PySem.W.Frag) (mg : Str → Option Value) (base : Heap) (N : List Str) (qual : Str) (scope : Scope) (f : Addr) (cd : Value) (A : Around) (outer : List Env) (s : Shared) (H : Hp) : Cx :=
  gcxOf P w K mg base N qual scope f cd A outer s (tpP H) (fun _ _ _ => False) []
theorem tpP_idem {H : Hp} {b : Addr} {t : HO} (i : IsTp t) (e : H b = some t) : tpP (tpP H) b = some t := tpP_tup i (tpP_tup i e)
/-- THE RULE: a generator def, by its body -/
theorem gd_of {P : Program} {w : World} {K : PySem.W.Frag} {mg : Str → Option Value} {base : Heap} {k : Nat} {f : Addr} {name qual : Str} {params : Arguments} {body : List Stmt} {scope : Scope} {dV kV doc pm cdv ct oc : Value} {an od : Option Addr}
    {osl : Array (Option Value)} {Nn ps : List Str} {sp : SpD} (lk : K.lookup f = some ⟨oc, od, .func (PySem.W.fnOf name qual params body scope dV kV doc pm an cdv ct), osl⟩) (hcd : PySem.W.codeIn K cdv qual = true) (S : GScope Nn ps scope) (nc : ∀ y ∈ scope.names, y.2 ≠ .cell)
    (len : ∀ vs H Q, sp vs H Q → vs.length = ps.length)
    (hbody : ∀ (A : Around) (outer : List Env) (s : Shared) (H : Hp) (vs : List V) (Q : Nat → (Nat → V → Hp → Prop) → (Nat → Prop) → Prop), Room k (A.deeper (envOfC qual scope s.heap.objs.size f cdv)) → sp vs H Q →
      ∃ N Yp Fp t, Q N Yp Fp ∧ (∀ L, GenX (gx P w K mg base Nn qual scope f cdv A outer s H) L → DSs (gx P w K mg base Nn qual scope f cdv A outer s H) L Yp Fp N body t) ∧
        ∀ Hw, (∀ b t, IsTp t → H b = some t → Hw b = some t) → t { nx := fun j Hw _ H' => Fp j ∧ Holds Hw H', rt := fun j Hw v H' => v = .non ∧ Fp j ∧ Holds Hw H' } 0 Hw (start Nn vs) Hw) :
    GDFn P w K mg base (k + 2) f (PySem.W.fnOf name qual params body scope dV kV doc pm an cdv ct) ps sp := by
  refine ⟨len, fun A outer s H args us vs Q hr e0 hb r hsp => ?_⟩
  have hl := len _ _ _ hsp
  have KX : K.In s.heap := e0.mod.kin.keeps fun b o e => (e0.bs b o e).1
  have lim : s.heap.NoLimit := e0.mod.nolimit.keeps fun b o e => (e0.bs b o e).1
  have hkind : ∀ y ∈ ps.zip us, scope.names.lookup y.1 = some .local ∨ (scope.names.lookup y.1 = some .cell ∧ ((cellsFrom (s.heap.objs.size + 1) scope.names []).lookup y.1).isSome = true) := fun ⟨n, v⟩ hy => by
    rcases S.par n (List.of_mem_zip hy).1 with q | q
    · exact .inl q
    · exact .inr ⟨q, PySem.W.cellsFrom_some _ _ _ (.inl q)⟩
  refine codeAny_call_generator hr.depth (KX _ _ lk) rfl S.co S.gen rfl (PySem.W.codeRec_of KX hcd) (hb _ _ _ _ ?_)
  refine wpAny_newFunctionEnv_cells S.kind hkind fun env he s1 x => ?_
  subst he
  have lim1 : s1.heap.NoLimit := lim.keeps x.toInCall.keep
  refine ⟨lim1, ?_⟩
  obtain ⟨h1, tk, es1, hk1⟩ := x.done
  have os1 : s1.os = s.os := by rw [es1]
  have gen1 : s1.gens = s.gens := by rw [es1]
  have lt1 : s.heap.objs.size < s1.heap.objs.size := x.toInCall.ns.lt
  have kp1 : ∀ b o, s.heap.get? b = some o → s1.heap.get? b = some o := x.toInCall.keep
  have hr1 : Room (k + 1) A.in1 := hr.in1
  have e1 : Env0 P w K mg base A.in1 outer s (tpP H) := ⟨e0.frames, e0.mod, fun b o e => ⟨(e0.bs b o e).1, tpP_none (e0.bs b o e).2⟩, e0.bsz, e0.funs, fun b hb => tpP_none (e0.frf b hb), fun b u e => by
    obtain ⟨i, q⟩ := tpP_some e
    have z := e0.hok b _ q
    rcases i with ⟨xs, rfl⟩ | ⟨ob, xs, rfl⟩ <;> exact z, e0.bare⟩
  obtain ⟨N, Yp, Fp, t, hQ, hD, hq⟩ := hbody A.in1 outer s H vs Q (hr1.deeper _) hsp
  have I1 : Inv (gx P w K mg base Nn qual scope f cdv A.in1 outer s H) [] (start Nn vs) (tpP H) s1 := inv_startG S hr.hd e1 hl r x
  have hcells : ∀ y c, (cellsFrom (s.heap.objs.size + 1) scope.names []).lookup y = some c → False := fun y c e => by
    rcases cells_mem (h := s.heap.push { cls := .type "frame", data := .dict #[] }) (names := scope.names) (acc := []) (x := y) (c := c) (by rw [Heap.size_push]; exact PySem.mem_of_lookup e) with z | ⟨z, _⟩
    · cases z
    · exact nc _ z rfl
  have main : ∀ (go : Obj) (nm qn : Value) (tk2 : Nat), go.cls = .type "generator" → go.data = .fields #[.int s1.gens.size 0, nm, qn] → go.slots = #[] → (∀ h : Heap, (h.push go).get? h.objs.size = some go) →
      GMk P w K mg base A outer H s N Yp Fp (.ref s1.heap.objs.size) { s1 with gens := s1.gens.push (.fresh (.func body (envOfC qual scope s.heap.objs.size f cdv))), toks := tk2, heap := s1.heap.push go } := by
    intro go nm qn tk2 hgc hgd0 hgs hgp
    refine ⟨s1.heap.objs.size, s1.gens.size, gx P w K mg base Nn qual scope f cdv A.in1 outer s H, .func body (envOfC qual scope s.heap.objs.size f cdv), go, rfl, ⟨nm, qn, hgc, hgd0, hgs⟩, hgp _, ?_, rfl, lt1, fun b o e => Heap.get?_push_of_some _ (kp1 b o e), Array.getElem?_push_size .., os1, ?_, ⟨rfl, rfl, rfl, rfl, rfl, rfl⟩, ?_⟩
    · obtain ⟨m, ⟨o, _, _, ho, _⟩, _⟩ := I1.loc
      exact ⟨o, Heap.get?_push_of_some _ ho⟩
    · exact AllBare.push (by rw [gen1]; exact e0.bare) rfl
    intro L hL hfr hbs
    have G : GenX (gx P w K mg base Nn qual scope f cdv A.in1 outer s H) L := ⟨hcells, fun b l => by
      obtain ⟨o, e⟩ := hL b l
      exact Heap.lt_size e, hfr, hbs, rfl⟩
    refine ⟨G, fun s2 wk => ?_⟩
    obtain ⟨Aw, ew⟩ := wk.env
    have hnone : H s.heap.objs.size = none := e0.hok.fresh (Nat.le_refl _)
    have I2 := wake_inv (Xg := gx P w K mg base Nn qual scope f cdv A.in1 outer s H) (L := L) (H3 := tpP (tpP H)) (s3 := s2) (A := Aw) I1 G.cells G.lt G.fr G.bs (fun b o l e => (tpP_some e).1) ew (fun b o p e => wk.pin b o p (Heap.get?_push_of_some _ e)) (fun b t i e => tpP_tup i e) fun t i e => by
        have z : tpP (tpP H) s.heap.objs.size = none := tpP_none (tpP_none hnone)
        rw [show tpP (tpP H) s.heap.objs.size = some t from e] at z
        cases z
    refine sd_func ?_
    refine (hD L G).run A.in1 _ [] _ _ id id N 0 (tpP H) s2 s2 (start Nn vs) _ _ ⟨over_func, rfl, rfl, rfl⟩ (fun m j Hg sw s3 fl hm lv z => ?_) (Nat.add_zero _) wk.live I2 (hq _ fun b t i e => own_tup i (fun ⟨o, q, n, _⟩ => n (tpP_some q).1) (tpP_idem i e))
    cases fl with
    | next =>
      obtain ⟨σ', H', I', f', hh⟩ := z
      refine sd_end (.ok (.ret .none)) ?_
      cases m <;> exact ⟨.inl rfl, f', σ', H', I', hh⟩
    | brk => obtain ⟨_, _, _, q⟩ := z; exact False.elim q
    | cont => obtain ⟨_, _, _, q⟩ := z; exact False.elim q
    | ret u =>
      obtain ⟨v, σ', H', I', rv, ev, f', hh⟩ := z
      subst ev
      have eu : u = Value.none := rv
      subst eu
      refine sd_end (.ok (.ret .none)) ?_
      cases m <;> exact ⟨.inl rfl, f', σ', H', I', hh⟩
  exact ⟨N, Yp, Fp, hQ, main _ _ _ _ rfl rfl rfl fun h => Heap.get?_push_size _ rfl⟩
/-- what stands under the name x is a generator def that keeps sp -/
def CalD (P : Program) (w : World) (K : PySem.W.Frag) (mg : Str → Option Value) (base : Heap) (k : Nat) (x : Str) (ps : List Str) (sp : SpD) : Prop :=
  ∃ f fd, GDFn P w K mg base k f fd ps sp ∧ mg x = some (.ref f) ∧ PySem.W.keepIn K (.ref f) = true ∧ Binds K fd ps []
theorem CalD.mono {P : Program} {w : World} {K : PySem.W.Frag} {mg : Str → Option Value} {base : Heap} {j k : Nat} {x : Str} {ps : List Str} {sp : SpD} (c : CalD P w K mg base j x ps sp) (h : j ≤ k) : CalD P w K mg base k x ps sp := by
  obtain ⟨f, fd, F, g, kp, b⟩ := c
  exact ⟨f, fd, ⟨F.len, fun A outer s H args us vs Q hr => F.run A outer s H args us vs Q (hr.mono h)⟩, g, kp, b⟩
/-- the iterator that a generator is: Hc: the consumer's heap when it was made -/
def ItG (Hc : Hp) (Yp : Nat → V → Hp → Prop) (Fp : Nat → Prop) : ItS where
  go := fun j _ => ¬ Fp j
  stop := fun j _ => ∀ x Hg, ¬ Yp j x Hg
  yld := fun j H x H' => GKeep Hc H H' ∧ ∃ Hg, Yp j x Hg ∧ ∀ b t, IsTp t → Hg b = some t → H' b = some t
  fin := fun _ H H' => GKeep Hc H H'
/-- f(e, ..) of a generator def, walked -/
def iGen (sp : SpD) (t : TA) : TIS := fun σ H R => t σ H fun vs Hc => sp vs Hc fun _ Yp Fp => ∀ H1, Same Hc H1 → R (ItG Hc Yp Fp) H1
theorem turn_of {Xg Xc : Cx} {L : Nat → Prop} {A1 : Around} {Yp : Nat → V → Hp → Prop} {Fp : Nat → Prop} {N a g : Nat} {Hc : Hp} {tg : Expr} {pc : List (Addr × Obj)} (d : Duo Xg L A1 Xc) (G : GenX Xg L) (na : ¬ L a ∧ a ≠ Xg.env.locals) :
    TurnS Xc pc tg (ItG Hc Yp Fp) a (fun j H s => Asl A1 Xg L Yp Fp N a g Hc j H s) := by
  refine ⟨fun j σ H s I S go => ?_, fun j σ H s I S stop => ?_⟩
  · refine thn (asl_turn (E := Xc.xe) d G na I S) fun r s1 z => ?_
    cases r with
    | none => exact absurd z.1 go
    | some u =>
      obtain ⟨x, H', rv, ⟨Hg, y, tp⟩, kp, ⟨o, eo, nm, qn, o1, o2, o3⟩, I1, back⟩ := z
      refine ⟨u, rfl, go_of (one_at I1.hok eo) o1 o2 (by decide) ⟨x, H', [], ?_, rv, ⟨kp, Hg, y, tp⟩, fun σ3 H3 s3 I3 al tps => back Xc _ σ3 H3 s3 d I3 al tps⟩⟩
      rw [List.append_nil]
      exact I1
  · refine thn (asl_turn (E := Xc.xe) d G na I S) fun r s1 z => ?_
    cases r with
    | none => exact ⟨rfl, z.2.elim fun H' q => ⟨H', q.2, q.1⟩⟩
    | some u =>
      obtain ⟨x, H', rv, ⟨Hg, y, tp⟩, _⟩ := z
      exact absurd y (stop x Hg)
theorem pix_cal {X : Cx} {k : Nat} {x : Str} {ps : List Str} {sp : SpD} {tg e : Expr} {es : List Expr} {t : TA} {p pos : Pos} (hex : X.ex = []) (C : CalD X.prog X.w X.K X.mg X.base k x ps sp) (hr : Room k X.A) (hg : Gl X x) (ha : PA X (e :: es) t)
    (hdb : (x == ("__debug__" : Str)) = false := by decide) (he : starEach (e :: es) X.env = (false, eval e X.env) :: starEach es X.env := by rfl) (hpl : (backTo pos (starEach es X.env)).any (·.1) = false := by rfl) :
    PIX X tg (.Call (.Name x p) (e :: es) [] pos) (iGen sp t) := by
  obtain ⟨f, fd, F, hm, hk, hb⟩ := C
  refine ⟨fun pins s σ H R I h => ?_⟩
  refine wpAny_Call_Name_kw (ld_glob I hg hm ?_ hdb)
  refine PySem.W.callWith_K (h₀ := X.base) I.ok.mod.kin hk (thn (ha.run pos pins s σ H _ I h) fun us s1 ⟨vs, Hc, I1, r, q⟩ => ⟨I1.kIn, ?_⟩) he hpl
  have hl2 : (us ++ ([] : List Value)).length = ps.length := by rw [List.append_nil, ← r.length]; exact F.len _ _ _ q
  have hbt := hb s1 us I1.kIn hl2
  rw [List.append_nil] at hbt
  refine wpAny_call (codeAny_mono (F.run X.A X.stack s1 Hc ⟨us, []⟩ us vs _ hr I1.env0 hbt r q) fun rr s2 hq => ?_)
  cases rr with
  | error e => exact False.elim hq
  | ok fl =>
    cases fl with
    | next => exact False.elim hq
    | brk => exact False.elim hq
    | cont => exact False.elim hq
    | ret u =>
      obtain ⟨N, Yp, Fp, hR, a, g, Xg, c, o, rfl, go, ho, ⟨oL, hoL⟩, eL, lta, kp, hgs, hos, hba, ⟨e1, e2, e3, e4, e5, e6⟩, hall⟩ := hq
      obtain ⟨nm, qn, o1, o2, o3⟩ := id go
      have gis : s2.heap.IsGen a g := ⟨o, nm, qn, ho, o1, o2, o3⟩
      refine wpAny_pyIter_gen gis ?_
      have lv1 := live_self hex I1
      obtain ⟨G, wake⟩ := hall (Lx X) lv1 (fun b hb => by
        rcases List.mem_cons.mp (I1.stkSub b hb) with z | z
        · exact .inr z
        · obtain ⟨_, ob, eb, _⟩ := I1.ok.funs.mem z
          exact .inl ⟨ob, eb⟩) fun b ob e => .inl ⟨ob, (I1.ok.bs b ob e).1⟩
      -- the consumer's heap: the frame and the generator's object just as they are
      have nL : Hc Xg.env.locals = none := I1.hok.fresh (by rw [eL]; exact Nat.le_refl _)
      have nA : Hc a = none := I1.hok.fresh (Nat.le_of_lt lta)
      have neA : a ≠ Xg.env.locals := by rw [eL]; exact Nat.ne_of_gt lta
      have same : Same Hc (upd (upd Hc Xg.env.locals (one Xg.env.locals oL)) a (one a o)) := fun b u e => by
        rw [upd_ne (ne_of_none e nA), upd_ne (ne_of_none e nL)]
        exact e
      have atL : upd (upd Hc Xg.env.locals (one Xg.env.locals oL)) a (one a o) Xg.env.locals = some (one Xg.env.locals oL) := by
        rw [upd_ne (Ne.symm neA), upd_same]
      have atA : upd (upd Hc Xg.env.locals (one Xg.env.locals oL)) a (one a o) a = some (one a o) := upd_same
      have neither : ∀ b, b ≠ a → b ≠ Xg.env.locals → upd (upd Hc Xg.env.locals (one Xg.env.locals oL)) a (one a o) b = Hc b := fun b h1 h2 => by
        rw [upd_ne h1, upd_ne h2]
      generalize upd (upd Hc Xg.env.locals (one Xg.env.locals oL)) a (one a o) = H1 at same atL atA neither
      have old : ∀ b u, s1.heap.get? b = some u → b ≠ a ∧ b ≠ Xg.env.locals := fun b u e => by
        have z := Heap.lt_size e
        exact ⟨Nat.ne_of_lt (Nat.lt_trans z lta), by rw [eL]; exact Nat.ne_of_lt z⟩
      have hok1 : HOk X.prog X.w H1 s2.heap := fun b u e => by
        by_cases ha : b = a
        · subst ha
          rw [atA] at e
          cases e
          exact one_ok ho
        by_cases hl : b = Xg.env.locals
        · subst hl
          rw [atL] at e
          cases e
          exact one_ok hoL
        rw [neither b ha hl] at e
        exact ((I1.hok.kept kp) b u e).stay (fun _ _ _ q => q) (fun d q => same d _ q) fun d xs q => same d _ q
      have J : Inv X pins σ H1 s2 := I1.call' (ch := []) hos ⟨fun b u q _ _ _ => kp b u q, fun b u q _ _ _ => ⟨u.slots, kp b u q⟩, fun b u q n _ => by rw [neither b (old b u q).1 (old b u q).2]; exact n, fun b u q _ => ⟨u, kp b u q⟩, fun b xs e => same b _ e, fun b _ _ e => same b _ e, fun b qs e => ⟨#[], by
        rw [Array.append_empty]
        exact same b _ e⟩⟩ hok1 hba fun b hb => by cases hb
      have na : ¬ Lx X a ∧ a ≠ Xg.env.locals := ⟨fun l => by
        obtain ⟨ob, eb⟩ := lv1 a l
        exact (old a ob eb).1 rfl, neA⟩
      have np : ∀ b, ¬ Priv (tpP Hc) b := fun b ⟨ob, q, n, _⟩ => n (tpP_some q).1
      have duo : ∀ Xc, Fam X Xc → Duo Xg (Lx X) X.A.in1 Xc := fun Xc fm => ⟨fm.prog.trans e1.symm, fm.w.trans e2.symm, fm.K.trans e3.symm, fm.mg.trans e4.symm, fm.base.trans e5.symm, fm.stack.trans e6.symm, by rw [fm.A], by rw [fm.A]; exact hr.hd, by rw [fm.A]; exact hr.depth, fm.live⟩
      refine ⟨a, fun j H s => Asl X.A.in1 Xg (Lx X) Yp Fp N a g Hc j H s, ItG Hc Yp Fp, H1, rfl, J, fun Xc pc fm => turn_of (duo Xc fm) G na, fun Xc pc σ3 H3 s3 fm I3 eg tps => ⟨?_, g, o, nm, qn, one_at I3.hok (tps.2 a _ atA), o1, o2, o3⟩, hR H1 same⟩
      refine ⟨⟨o, tps.2 a _ atA, go⟩, .fresh c, N, tpP Hc, s2, by rw [eg]; exact hgs, Nat.add_zero _, fun b p => (np b p).elim, fun b p => ⟨oL, ?_⟩, fun b t i q => tps.1 b t i (same b _ (tpP_some q).2), np a, ?_, fun b φ e => ⟨tps.2 b φ (same b _ e), fun z => z.elim (np b) fun z => ?_⟩, ?_⟩
      · rcases p with p | p
        · exact (np b p).elim
        · rw [p]
          exact tps.2 _ _ atL
      · refine wkn_of ((duo Xc fm).env0 I3) (fun b t i q => tps.1 b t i (same b _ (tpP_some q).2)) (fun b ob p eb => ?_) (fm.live _ _ _ _ I3)
        · rcases p with p | p
          · exact (np b p).elim
          · subst p
            rw [hoL] at eb
            cases eb
            exact tps.2 _ _ atL
      · rw [z, nL] at e
        cases e
      · rw [e1, e2]
        exact wake
end LmG

set_option Elab.async false
set_option linter.all false
set_option maxRecDepth 100000
set_option maxHeartbeats 1000000
/-! generator defs of the text -/
namespace Lm
open PySem PySem.Spec PyProof.Rows L2 LmG
theorem cald_of {P : Program} {w : World} {K : PySem.W.Frag} {mg : Str → Option Value} {base : Heap} {x : Str} {st : Stmt} {Nn ps : List Str} {k : Nat} {sp : SpD} (D : DefAt K mg x st ps) (S : GScope Nn ps (defScope st)) (nc : ∀ y ∈ (defScope st).names, y.2 ≠ .cell) (len : ∀ vs H Q, sp vs H Q → vs.length = ps.length)
    (hbody : ∀ (f : Addr) (cdv : Value) (A : Around) (outer : List Env) (s : Shared) (H : Hp) (vs : List V) (Q : Nat → (Nat → V → Hp → Prop) → (Nat → Prop) → Prop), Room k (A.deeper (envOfC x (defScope st) s.heap.objs.size f cdv)) → sp vs H Q →
      ∃ N Yp Fp t, Q N Yp Fp ∧ (∀ L, GenX (gx P w K mg base Nn x (defScope st) f cdv A outer s H) L → DSs (gx P w K mg base Nn x (defScope st) f cdv A outer s H) L Yp Fp N (defBody st) t) ∧
        ∀ Hw, (∀ b t, IsTp t → H b = some t → Hw b = some t) → t { nx := fun j Hw _ H' => Fp j ∧ Holds Hw H', rt := fun j Hw v H' => v = .non ∧ Fp j ∧ Holds Hw H' } 0 Hw (start Nn vs) Hw) : CalD P w K mg base (k + 2) x ps sp := by
  obtain ⟨f, fd, F, b, g⟩ := D
  obtain ⟨oc, od, kV, doc, pm, an, cdv, ct, osl, rfl, lk, hcd⟩ := F.ex
  exact ⟨f, _, gd_of lk hcd S nc len fun A outer s H vs Q hr hsp => hbody f cdv A outer s H vs Q hr hsp, g, F.kp, b⟩
/-- tuples that stay are known still -/
theorem Tp.tps {K : PySem.W.Frag} {H H' : Hp} (h : ∀ b t, IsTp t → H b = some t → H' b = some t) : Tp K H H' := fun a xs q => by
  rcases q with (q | ⟨o, q⟩) | q
  · exact .inl (.inl (h a _ (isTp xs) q))
  · exact .inl (.inr ⟨o, h a _ (.inr ⟨o, xs, rfl⟩) q⟩)
  · exact .inr q
theorem xp_nox {X : Cx} (h : ∀ e s, ¬ X.xe e s) : ∀ G0, AllBare G0 → XePatch X G0 := fun _ _ e b z => (h e b z).elim
theorem GKeep.tp {K : PySem.W.Frag} {Hc H H' : Hp} (k : GKeep Hc H H') : Tp K H H' := Tp.tps fun b t i q => k.1 b t q i.noext
/-- a heap where a list (or dict) was written keeps tuples and other ones' things -/
theorem Tps.put {H : Hp} {p : Addr} {o o' : HO} (h : H p = some o) (n1 : ¬ IsTp o) (n2 : ∀ φ, o ≠ .ext φ) : Tps H (upd H p o') := ⟨fun b t i q => by
  rw [upd_ne fun z => ?_]
  · exact q
  · rw [z, h] at q
    cases q
    exact n1 i, fun b φ q => by
  rw [upd_ne fun z => ?_]
  · exact q
  · rw [z, h] at q
    cases q
    exact n2 φ rfl⟩
theorem Tps.lst {H : Hp} {p : Addr} {xs ys : List V} (h : H p = some (.lst xs)) : Tps H (upd H p (.lst ys)) := Tps.put h (fun i => by rcases i with ⟨_, i⟩ | ⟨_, _, i⟩ <;> cases i) fun φ z => nomatch z
theorem Tps.new {H : Hp} {p : Addr} {o : HO} (h : H p = none) : Tps H (upd H p o) := Tps.same (same_new h)
theorem Tps.tp {K : PySem.W.Frag} {H H' : Hp} (h : Tps H H') : Tp K H H' := Tp.tps h.1
theorem pt_truthK {X : Cx} {K : PySem.W.Frag} {a : Expr} {ta : TE} (h : X.K = K) (ha : PE X a ta) (he : ∀ whole, isTrue a X.env whole = (do let v ← whole; standAt a.pos; holding [v] (truthy v))) :
    PT X a (fun σ H Q => ta σ H fun x H' => ∃ k, TruV K x H' k ∧ Q k H') := h ▸ pt_truth ha he
theorem pe_bmLG {K : PySem.W.Frag} {X : Cx} {T : String} {name : Str} {id : String} {r : V → List V → Hp → VK → Prop} {o e : Expr} {es : List Expr} {to : TE} {t : TA} {apos cpos : Pos} (h : X.K = K) (pa : PlainAttrs T) (slot : Slot T name id) (hty : typeOf (.builtin id) = pure (.type "method_descriptor")) (hm : MtR X id r) (ho : PE X o to) (ha : PA X (e :: es) t)
    (hbase : attributeBase o name X.env (eval o X.env) = eval o X.env := by rfl)
    (hfew : ((backTo cpos (starEach (e :: es) X.env)).all (fun x => !x.1) && (backToKw cpos (keywordEach [] X.env)).all (fun x => x.1.isSome)
      && decide ((e :: es).length + ([] : List Keyword).length + (if ([] : List Keyword).isEmpty then 0 else 1) < 30)) = true := by rfl)
    (hline : (apos.endLine == cpos.line) = true := by rfl) (he : starEach (e :: es) X.env = (false, eval e X.env) :: starEach es X.env := by rfl) (hpl : (backTo cpos (starEach es X.env)).any (·.1) = false := by rfl) : PE X (.Call (.Attribute o name apos) (e :: es) [] cpos) (tBM K T r to t) := h ▸ pe_bm pa slot hty hm ho ha hbase hfew hline he hpl
end Lm

set_option Elab.async false
set_option linter.all false
set_option maxRecDepth 100000
set_option maxHeartbeats 2000000
set_option pp.maxSteps 2000
set_option pp.deepTerms.threshold 12
namespace Lm
open PySem PySem.Spec PyProof.Rows L2 LmR RZ LmG
/-! ### the table of steps -/
def stepN : Tk → Str
  | .pg (.inp _) => "step_in"
  | .pg (.num _) => "step_num"
  | .pg (.tr true) => "step_yes"
  | .pg (.tr false) => "step_no"
  | .pg (.plus _ _) => "step_plus"
  | .pg (.bin .both _ _) => "step_both"
  | .pg (.bin .either _ _) => "step_either"
  | .pg (.bin _ _ _) => "step_two"
  | .pg (.neg _) => "step_not"
  | .pg (.ite _ _ _) => "step_if"
  | .add _ => "step_add"
  | .meet _ => "step_meet"
  | .pick _ _ => "step_pick"
structure StepsG (K : PySem.W.Frag) (w : World) (mg : Str → Option Value) (d : Addr) : Prop where
  g : mg "STEPS" = some (.ref d)
  at_ : ∀ k : Tk, ∃ f, KDct K w d (wordK k) (.ref f) ∧ mg (stepN k) = some (.ref f)
section
variable {P : Program} {w : World} {K : PySem.W.Frag} {mg : Str → Option Value} {base : Heap}
def StepsOk (P : Program) (w : World) (K : PySem.W.Frag) (mg : Str → Option Value) (base : Heap) : Prop := ∀ k : Tk, Cal P w K mg base 3 (stepN k) ["region", "task", "rest", "ready"] (spStep K fun k' => k' = k)
theorem weakS {j : Nat} {x : Str} {ps : List Str} {Pk : Tk → Prop} {k : Tk} (C : Cal P w K mg base j x ps (spStep K Pk)) (h : Pk k) (hj : j ≤ 3) : Cal P w K mg base 3 x ps (spStep K fun k' => k' = k) :=
  (C.mono hj).weak fun vs H Q E z => by
    obtain ⟨v, kv, tv, ev, ks, κ, r, k', t, e, e1, rfl, rest⟩ := z
    exact ⟨v, kv, tv, ev, ks, κ, r, k', t, e, e1, h, rest⟩
theorem steps_ok (C1 : Cal P w K mg base 1 "step_in" ["region", "task", "rest", "ready"] (spStep K fun k => ∃ n, k = .pg (.inp n))) (C2 : Cal P w K mg base 1 "step_num" ["region", "task", "rest", "ready"] (spStep K fun k => ∃ c, k = .pg (.num c))) (C3 : Cal P w K mg base 1 "step_yes" ["region", "task", "rest", "ready"] (spStep K fun k => k = .pg (.tr true))) (C4 : Cal P w K mg base 1 "step_no" ["region", "task", "rest", "ready"] (spStep K fun k => k = .pg (.tr false)))
    (C5 : Cal P w K mg base 1 "step_plus" ["region", "task", "rest", "ready"] (spStep K fun k => ∃ c a, k = .pg (.plus c a))) (C6 : Cal P w K mg base 1 "step_add" ["region", "task", "rest", "ready"] (spStep K fun k => ∃ n, k = .add n)) (C7 : Cal P w K mg base 1 "step_two" ["region", "task", "rest", "ready"] (spStep K fun k => ∃ w a b, k = .pg (.bin w a b) ∧ isCmp w = true)) (C8 : Cal P w K mg base 3 "step_meet" ["region", "task", "rest", "ready"] (spStep K fun k => ∃ w, k = .meet w))
    (C9 : Cal P w K mg base 1 "step_not" ["region", "task", "rest", "ready"] (spStep K fun k => ∃ a, k = .pg (.neg a))) (C10 : Cal P w K mg base 1 "step_both" ["region", "task", "rest", "ready"] (spStep K fun k => ∃ a b, k = .pg (.bin .both a b))) (C11 : Cal P w K mg base 1 "step_either" ["region", "task", "rest", "ready"] (spStep K fun k => ∃ a b, k = .pg (.bin .either a b))) (C12 : Cal P w K mg base 1 "step_if" ["region", "task", "rest", "ready"] (spStep K fun k => ∃ p a b, k = .pg (.ite p a b)))
    (C13 : Cal P w K mg base 1 "step_pick" ["region", "task", "rest", "ready"] (spStep K fun k => ∃ p q, k = .pick p q)) : StepsOk P w K mg base := fun k => by
  cases k with
  | add c => exact weakS C6 ⟨_, rfl⟩ (by decide)
  | meet c => exact weakS C8 ⟨_, rfl⟩ (by decide)
  | pick p q => exact weakS C13 ⟨_, _, rfl⟩ (by decide)
  | pg p =>
    cases p with
    | inp n => exact weakS C1 ⟨_, rfl⟩ (by decide)
    | num n => exact weakS C2 ⟨_, rfl⟩ (by decide)
    | tr b =>
      cases b with
      | true => exact weakS C3 rfl (by decide)
      | false => exact weakS C4 rfl (by decide)
    | plus c a => exact weakS C5 ⟨_, _, rfl⟩ (by decide)
    | bin w a b =>
      cases w with
      | least => exact weakS C7 ⟨_, _, _, rfl, rfl⟩ (by decide)
      | most => exact weakS C7 ⟨_, _, _, rfl, rfl⟩ (by decide)
      | atmost => exact weakS C7 ⟨_, _, _, rfl, rfl⟩ (by decide)
      | both => exact weakS C10 ⟨_, _, rfl⟩ (by decide)
      | either => exact weakS C11 ⟨_, _, rfl⟩ (by decide)
    | neg a => exact weakS C9 ⟨_, rfl⟩ (by decide)
    | ite p a b => exact weakS C12 ⟨_, _, _, rfl⟩ (by decide)
theorem tk_head {H : Hp} {v : V} {k : Tk} (h : Fd K H v (tkPD k)) : ∃ a vs, v = .ref a ∧ SqT K H a (.str (wordK k) :: vs) := by
  cases k with
  | pg p =>
    obtain ⟨a, vs, rfl, ha, _⟩ := (show At K H v p from h.2).open
    have e : front p ++ vs = .str (word p) :: ((front p).tail ++ vs) := by cases p <;> rfl
    exact ⟨a, _, rfl, e ▸ ha⟩
  | add c =>
    obtain ⟨a, x, y, rfl, ha, hx, _⟩ := fd_two (show Fd K H v (.tuple [.str "add", .int c]) from h)
    obtain rfl := fd_str_of hx
    exact ⟨a, _, rfl, ha⟩
  | meet w =>
    obtain ⟨a, x, y, rfl, ha, hx, _⟩ := fd_two (show Fd K H v (.tuple [.str "meet", .str w.str]) from h)
    obtain rfl := fd_str_of hx
    exact ⟨a, _, rfl, ha⟩
  | pick p q =>
    obtain ⟨a, x, y, z, rfl, ha, hx, _⟩ := fd_three (show Fd K H v (.tuple [.str "pick", enc p, enc q]) from h)
    obtain rfl := fd_str_of hx
    exact ⟨a, _, rfl, ha⟩
/-- what a walk tells -/
def WAns (K : PySem.W.Frag) (H : Hp) (u : V) (z : Fr × List Tk × List En) : Prop := ∃ a x y e, u = .ref a ∧ SqT K H a [x, y, e] ∧ Fd K H x (.tuple (frPD z.1)) ∧ Fd K H y (tdPD z.2.1) ∧ Fd K H e (rdPD z.2.2)
def wkInv (K : PySem.W.Frag) (v : V) (ks : List Bool) (κ : Bool) (r : Rg) (H : Hp) (z : Fr × List Tk × List En) (n : Nat) (σ' : L2.St) (H' : Hp) : Prop := ∃ (tv ev : V) (t : List Tk) (e : List En) (y3 y4 y5 y6 y7 y8 : Option V), σ' = [some v, some tv, some ev, y3, y4, y5, y6, y7, y8] ∧ Same H H' ∧ Fd K H' tv (tdPD t) ∧ Fd K H' ev (rdPD e) ∧ StOk ks κ t e ∧ wsz t ≤ n ∧ walkW ks r n t e = z
abbrev s_walked : Stmt := topS 49
theorem sc_walked : FnScope ["region", "todo", "ready", "task", "rest", "step", "question", "onward", "worked"] ["region", "todo", "ready"] (defScope s_walked) := ⟨rfl, rfl, rfl, by decide +kernel, rfl, by decide +kernel, by decide +kernel⟩
def spWalked (K : PySem.W.Frag) : Sp := fun vs H Q _ => ∃ (v tv ev : V) (ks : List Bool) (κ : Bool) (r : Rg) (t : List Tk) (e : List En), vs = [v, tv, ev] ∧ Fd K H v (rgPD ks r) ∧ Fd K H tv (tdPD t) ∧ Fd K H ev (rdPD e) ∧ StOk ks κ t e ∧ RgOk ks.length r ∧ ks.length ≤ 100 ∧
  ∀ (u : V) (H' : Hp), Same H H' → WAns K H' u (walkW ks r (wsz t) t e) → Q u H'
theorem ok_walked {dS : Addr} (CS : StepsOk P w K mg base) (SG : StepsG K w mg dS) (D : DefAt K mg "walked" s_walked ["region", "todo", "ready"]) : Cal P w K mg base 4 "walked" ["region", "todo", "ready"] (spWalked K) := by
  refine cal_of D sc_walked (fun vs H Q E h => ?_) (fun f cdv A outer s H vs Q E hr h => ?_)
  · obtain ⟨v, tv, ev, ks, κ, r, t, e, rfl, _⟩ := h
    rfl
  obtain ⟨v, tv0, ev0, ks, κ, r, t0, e0, rfl, hv, ht0, he0, st0, ok, hkl, q⟩ := h
  have hr' : Room 3 _ := hr
  have hSTEPS := SG.g
  refine ⟨_, (pss_cons (ps_while PassesOwn.never (pt_cmpR op_notN (pv 1) pe_non (nomark _))
        (pss_cons (ps_asg (pv 1) (pg_tup rfl (pgs_cons (pg_name (i := 3) sc_walked.nd rfl (.inl rfl)) (pgs_cons (pg_name (i := 4) sc_walked.nd rfl (.inl rfl)) pgs_nil))))
      (pss_cons (ps_set (i := 5) sc_walked.nd rfl (.inl rfl) (pe_ix ix_kdict (pe_glob (v := .ref _) (by rfl) hSTEPS rfl) (pe_ix ix_tup (pv 3) pe_int (fun _ _ => rfl)) (fun _ _ => rfl)))
      (pss_cons (ps_asg (pe_callH (i := 5) hr' rfl (.inl rfl) (pa_cons (pv 0) (pa_cons (pv 3) (pa_cons (pv 4) (pa_cons (pv 2) pa_nil))))) (pg_tup rfl (pgs_cons (pg_name (i := 6) sc_walked.nd rfl (.inl rfl)) (pgs_cons (pg_name (i := 7) sc_walked.nd rfl (.inl rfl)) (pgs_cons (pg_name (i := 8) sc_walked.nd rfl (.inl rfl)) pgs_nil)))))
      (pss_cons (ps_if (pt_cmpR op_notN (pv 6) pe_non (nomark _))
        (pss_one (ps_ret (pe_tup (pa_cons (pv 6) (pa_cons (pv 1) (pa_cons (pv 2) pa_nil))))))
        pss_nil)
      (pss_one (ps_par (i := 1) (j := 2) rfl sc_walked.nd rfl rfl (by decide) rfl rfl (pa_cons (pv 7) (pa_cons (pv 8) pa_nil)) rfl)))))))
      (pss_one (ps_ret (pe_tup (pa_cons (pe_tup (pa_cons pe_str (pa_cons (pe_ix ix_tup (pv 2) pe_int (fun _ _ => rfl)) pa_nil))) (pa_cons (pv 1) (pa_cons (pv 2) pa_nil))))))), ?_⟩
  refine ⟨wkInv K v ks κ r H (walkW ks r (wsz t0) t0 e0), ⟨wsz t0, tv0, ev0, t0, e0, none, none, none, none, none, none, rfl, Same.refl _, ht0, he0, st0, Nat.le_refl _, rfl⟩, ?_⟩
  rintro n σ' H' ⟨tv, ev, t, e, y3, y4, y5, y6, y7, y8, rfl, s', ht, he, st, hn, ew⟩
  cases t with
  | nil =>
    obtain rfl := fd_non_of ht
    obtain ⟨x, rfl⟩ : ∃ x, e = [x] := by
      obtain ⟨sst, hes, hty⟩ := st
      cases sst with
      | nil => exact hty.elim
      | cons a sst =>
        cases sst with
        | cons _ _ => exact hty.elim
        | nil =>
          obtain ⟨x, e', rfl, _, h2⟩ := ensOk_cons hes
          cases e' with
          | nil => exact ⟨x, rfl⟩
          | cons _ _ => exact h2.elim
    have ew' : (Fr.en x, ([] : List Tk), [x]) = walkW ks r (wsz t0) t0 e0 := by
      rw [← ew]
      cases n <;> rfl
    obtain ⟨ea, y1, y2, rfl, hea, h1, h2⟩ := fd_two (show Fd K H' ev (.tuple [enPD x, rdPD []]) from he)
    refine ⟨_, rfl, rfl, _, rfl, iteF ⟨_, rfl, ea, _, 0, _, rfl, rfl, hea, at_of (j := 0) rfl rfl, len2, fun p hp => al2 (fd_str "end") h1 hp fun H1 s1 g1 => ⟨_, rfl, _, rfl, len3, fun p2 hp2 => alT (K := K) hp2 fun H2 s2 g2 => q _ _ (s'.trans (s1.trans s2)) ?_⟩⟩⟩
    rw [← ew']
    exact ⟨p2, _, _, _, rfl, g2, g1.same s2, fd_non', he.same (s1.trans s2)⟩
  | cons k u =>
    obtain ⟨ta, x1, x2, rfl, hta, h1, h2⟩ := fd_two (show Fd K H' tv (.tuple [tkPD k, tdPD u]) from ht)
    obtain ⟨ka, kvs, rfl, hka⟩ := tk_head h1
    obtain ⟨n, rfl⟩ : ∃ n', n = n' + 1 := ⟨n - 1, by have := ksz_pos k; simp only [wsz] at hn; omega⟩
    obtain ⟨f, hkd, hmg⟩ := SG.at_ k
    refine ⟨_, rfl, rfl, _, rfl, iteT ⟨fun σ2 H2 => ∃ m', m' < n + 1 ∧ wkInv K v ks κ r H (walkW ks r (wsz t0) t0 e0) m' σ2 H2, fun _ _ h => h, ?_⟩⟩
    refine ⟨_, rfl, ta, _, rfl, hta, rfl, _, _, rfl, _, _, rfl, rfl, ?_⟩
    refine ⟨_, rfl, ka, _, 0, _, rfl, rfl, hka, at_of (j := 0) rfl rfl, dS, wordK k, .ref f, rfl, rfl, hkd, ?_⟩
    refine ⟨f, _, rfl, held_of (CS k) hmg, _, rfl, _, rfl, _, rfl, _, rfl, v, _, _, _, ks, κ, r, k, u, e, rfl, rfl, hv.same s', h1, h2, he, st, hkl, fun w H1 s1 hw => ?_⟩
    have so := step_ok ok st
    have ew2 : (match stepW ks r k u e with | .ask q => (Fr.qn q, k :: u, e) | .go t' e' => walkW ks r n t' e') = walkW ks r (wsz t0) t0 e0 := ew
    cases hs : stepW ks r k u e with
    | ask qn =>
      rw [hs] at hw ew2
      obtain ⟨a, x, y, z, rfl, ha, hx⟩ := hw
      obtain ⟨b, rfl, hb⟩ := qn_open hx
      refine ⟨a, _, rfl, ha, rfl, _, _, rfl, _, _, rfl, _, _, rfl, rfl, ?_⟩
      refine ⟨_, rfl, rfl, _, rfl, iteT ⟨_, rfl, _, rfl, _, rfl, len3, fun p hp => alT (K := K) hp fun H2 s2 g2 => q _ _ (s'.trans (s1.trans s2)) ?_⟩⟩
      rw [← ew2]
      exact ⟨p, _, _, _, rfl, g2, hx.same s2, ht.same (s1.trans s2), he.same (s1.trans s2)⟩
    | go t' e' =>
      rw [hs] at hw ew2 so
      obtain ⟨so1, so2, _, _⟩ := so
      obtain ⟨a, y, z, rfl, ha, hy, hz⟩ := hw
      refine ⟨a, _, rfl, ha, rfl, _, _, rfl, _, _, rfl, _, _, rfl, rfl, ?_⟩
      refine ⟨_, rfl, rfl, _, rfl, iteF ⟨_, rfl, _, rfl, _, _, rfl, n, Nat.lt_succ_self _, y, z, t', e', _, _, _, _, _, _, rfl, s'.trans s1, hy, hz, so1, by omega, ew2⟩⟩
end
end Lm

set_option Elab.async false
set_option linter.all false
set_option maxRecDepth 100000
set_option maxHeartbeats 2000000
set_option pp.maxSteps 2000
set_option pp.deepTerms.threshold 12
namespace Lm
open PySem PySem.Spec PyProof.Rows L2 LmR RZ LmG
/-- one that waits: where, what is to be worked, what is worked, its tree -/
structure Wt where
  r : Rg
  t : List Tk
  e : List En
  d : DT
def wtPD (ks : List Bool) (x : Wt) : PyData := .tuple [rgPD ks x.r, tdPD x.t, rdPD x.e]
def itPD (ks : List Bool) (z : Fr × Rg) : PyData := .tuple [.tuple (frPD z.1), rgPD ks z.2]
def remW (l : List Wt) : List (Fr × Rg) := l.flatMap fun x => x.d.list
def WtOk (ks : List Bool) (κ : Bool) (x : Wt) : Prop := Ct ks x.r x.t x.e x.d ∧ RgOk ks.length x.r ∧ StOk ks κ x.t x.e
theorem wtPD_flat (ks : List Bool) (x : Wt) : flat (wtPD ks x) = true := by
  show (flat (rgPD ks x.r) && (flat (tdPD x.t) && (flat (rdPD x.e) && true))) = true
  rw [rgPD_flat, tdPD_flat, rdPD_flat]
  rfl
theorem flats_map' {α : Type} (f : α → PyData) (h : ∀ x, flat (f x) = true) (l : List α) : flat.flats (l.map f) = true := flats_map f h l
theorem itPD_flat (ks : List Bool) (z : Fr × Rg) : flat (itPD ks z) = true := by
  show (flat.flats (frPD z.1) && (flat (rgPD ks z.2) && true)) = true
  rw [frPD_flat, rgPD_flat]
  rfl
theorem remW_len : ∀ l : List Wt, l.length ≤ (remW l).length
  | [] => Nat.zero_le _
  | z :: l => by
    have := z.d.list_pos
    have ih := remW_len l
    show l.length + 1 ≤ (z.d.list ++ remW l).length
    rw [List.length_append]
    omega
theorem ifN_f {c A B : Prop} [Decidable c] (hc : ¬ c) (h : A) : if (!decide c) = true then A else B := by
  rw [decide_eq_false hc]
  exact iteT h
theorem qn_word (q : Qn) : ∃ wd, atI (qnV q) 0 = some (.str wd) ∧ ¬ V.str wd = V.str "end" := by
  cases q with
  | row i j c => exact ⟨_, at_of (j := 0) rfl rfl, fun z => absurd (V.str.inj z) (by decide +kernel)⟩
  | truth k => exact ⟨_, at_of (j := 0) rfl rfl, fun z => absurd (V.str.inj z) (by decide +kernel)⟩
section
variable {P : Program} {w : World} {K : PySem.W.Frag} {mg : Str → Option Value} {base : Heap}
abbrev s_cases_of : Stmt := topS 50
theorem sc_cases_of : GScope ["program", "region", "waiting", "here", "todo", "ready", "front"] ["program", "region"] (defScope s_cases_of) := ⟨rfl, rfl, rfl, by decide +kernel, rfl, by decide +kernel, by decide +kernel⟩
def spCases (K : PySem.W.Frag) : SpD := fun vs H Q => ∃ (pz v : V) (ks : List Bool) (p : Pg) (r : Rg) (d : DT), vs = [pz, v] ∧ At K H pz p ∧ Fd K H v (rgPD ks r) ∧ Wk ks p ∧ RgOk ks.length r ∧ ks.length ≤ 100 ∧ d.list.length ≤ sizeLine ∧ Ct ks r [.pg p] [] d ∧
  Q (d.list.length + 1) (fun j x Hg => ∃ z, d.list[j]? = some z ∧ Fd K Hg x (itPD ks z)) (fun j => j = d.list.length)
/-- at the loop's head: the list at lw has those that wait -/
def casInv (K : PySem.W.Frag) (pz v : V) (ks : List Bool) (κ : Bool) (d : DT) (m j : Nat) (Hw : Hp) (σ : L2.St) (H : Hp) : Prop := ∃ (lw : Addr) (us : List V) (l : List Wt) (y3 y4 y5 y6 : Option V), σ = [some pz, some v, some (.ref lw), y3, y4, y5, y6] ∧ Ex [lw] Hw H ∧ (Hw lw = none ∨ ∃ ys, Hw lw = some (.lst ys)) ∧
  H lw = some (.lst us.reverse) ∧ DpAll K H us (l.map (wtPD ks)) ∧ (∀ x ∈ l, WtOk ks κ x) ∧ d.list.drop j = remW l ∧ j ≤ d.list.length ∧ m = (remW l).length
theorem holds_ex {lw : Addr} {Hw H : Hp} (h : Ex [lw] Hw H) (h0 : Hw lw = none ∨ ∃ ys, Hw lw = some (.lst ys)) {xs : List V} (h1 : H lw = some (.lst xs)) : Holds Hw H := by
  refine ⟨fun b o e k => h b o e fun hb => ?_, fun b p => ?_⟩
  · rw [List.mem_singleton.mp hb] at e
    rcases h0 with z | ⟨ys, z⟩
    · rw [z] at e; cases e
    · rw [z] at e
      cases e
      rcases k with (⟨_, k⟩ | ⟨_, _, k⟩) | ⟨_, k⟩ <;> cases k
  · by_cases hb : b = lw
    · rw [hb, h1]; exact fun z => by cases z
    · obtain ⟨o, e, _⟩ := p
      rw [h b o e (by simp [hb])]
      exact fun z => by cases z
theorem ok_cases_of (B : Bt mg) (C_walked : Cal P w K mg base 4 "walked" ["region", "todo", "ready"] (spWalked K)) (C_narrowed : Cal P w K mg base 4 "narrowed" ["region", "question", "answer"] (spNar K)) (D : DefAt K mg "cases_of" s_cases_of ["program", "region"]) : CalD P w K mg base 6 "cases_of" ["program", "region"] (spCases K) := by
  refine cald_of D sc_cases_of (by decide +kernel) (fun vs H Q h => ?_) (fun f cdv A outer s H vs Q hr h => ?_)
  · obtain ⟨pz, v, ks, p, r, d, rfl, _⟩ := h
    rfl
  obtain ⟨pz, v, ks, p, r, d, rfl, hp, hv, hw, ok, hkl, hdl, hd, q⟩ := h
  have hr' : Room 4 _ := hr
  refine ⟨_, _, _, _, q, fun L GL => (dss_cons (ds_ps fun s T => (ps_set (i := 2) sc_cases_of.nd rfl (.inl rfl) (pe_lst (pa_cons (pe_tup (pa_cons (pv 1) (pa_cons (pe_tup (pa_cons (pv 0) (pa_cons pe_non pa_nil))) (pa_cons pe_non pa_nil)))) pa_nil))))
      (dss_cons (ds_while (fun s T => (pt_truthK (K := K) rfl (pv 2) (by intro _; rfl)))
        (dss_cons (ds_ps fun s T => (ps_asg (pe_bm0K (K := K) rfl PySem.F.plainAttrs_list PySem.F.slot_list_pop PySem.F.type_list_pop mt_pop (pv 2)) (pg_tupK (K := K) (n := 3) rfl rfl (pgs_cons (pg_name (i := 3) sc_cases_of.nd rfl (.inl rfl)) (pgs_cons (pg_name (i := 4) sc_cases_of.nd rfl (.inl rfl)) (pgs_cons (pg_name (i := 5) sc_cases_of.nd rfl (.inl rfl)) pgs_nil))))))
      (dss_cons (ds_ps fun s T => (ps_asg (pe_cal C_walked hr' (by rfl) (pa_cons (pv 3) (pa_cons (pv 4) (pa_cons (pv 5) pa_nil)))) (pg_tupK (K := K) (n := 3) rfl rfl (pgs_cons (pg_name (i := 6) sc_cases_of.nd rfl (.inl rfl)) (pgs_cons (pg_name (i := 4) sc_cases_of.nd rfl (.inl rfl)) (pgs_cons (pg_name (i := 5) sc_cases_of.nd rfl (.inl rfl)) pgs_nil))))))
      (dss_cons (ds_yield GL (fun s T => (pe_tup (pa_cons (pv 6) (pa_cons (pv 3) pa_nil)))))
      (dss_cons (ds_ps fun s T => (ps_if (pt_cmpR op_ne (pe_ix (ix_tupK (K := K) rfl) (pv 6) pe_int (fun _ _ => rfl)) pe_str (nomark _))
        (pss_cons (ps_expr (pe_bmLG (K := K) rfl PySem.F.plainAttrs_list PySem.F.slot_list_append PySem.F.type_list_append mt_append (pv 2) (pa_cons (pe_tup (pa_cons (pe_cal C_narrowed hr' (by rfl) (pa_cons (pv 3) (pa_cons (pv 6) (pa_cons pe_bl pa_nil)))) (pa_cons (pv 4) (pa_cons (pv 5) pa_nil)))) pa_nil)))
      (pss_one (ps_expr (pe_bmLG (K := K) rfl PySem.F.plainAttrs_list PySem.F.slot_list_append PySem.F.type_list_append mt_append (pv 2) (pa_cons (pe_tup (pa_cons (pe_cal C_narrowed hr' (by rfl) (pa_cons (pv 3) (pa_cons (pv 6) (pa_cons pe_bl pa_nil)))) (pa_cons (pv 4) (pa_cons (pv 5) pa_nil)))) pa_nil)))))
        pss_nil))
      dss_nil)))))
      dss_nil)), fun Hw hT => ?_⟩
  have tp0 : Tp K H Hw := Tp.tps hT
  refine ⟨_, rfl, _, rfl, len2, fun p1 n1 => al2 (fd_at (hp.keep tp0)) (fd_non' (K := K)) n1 fun H1 s1 h1 => ⟨len3, fun p2 n2 => al3 ((hv.keep tp0).same s1) h1 fd_non' n2 fun H2 s2 h2 => ⟨len1, fun lw hlw => ?_⟩⟩⟩
  have s12 := s1.trans s2
  refine ⟨casInv K pz v ks (own ks p) d, ⟨_, lw, [.ref p2], [⟨r, [.pg p], [], d⟩], none, none, none, none, rfl, (Ex.of_same s12).trans (Ex.at (by simp)), .inl (s12.free hlw), upd_same, .cons (h2.same (same_new hlw)).2 .nil, fun x hx => ?_, ?_, Nat.zero_le _, rfl⟩, ?_⟩
  · rw [List.mem_singleton.mp hx]
    exact ⟨hd, ok, pg_stOk hw⟩
  · show d.list = d.list ++ []
    rw [List.append_nil]
  clear hlw h1 h2 s1 s2 s12 n1 n2
  rintro m j Hw σ H ⟨lw, us, l, y3, y4, y5, y6, rfl, hex, h0, hl, hus, hok, hrem, hj, rfl⟩
  refine ⟨_, rfl, _, .inl ⟨_, SqL.of hl, rfl⟩, ite2 (fun c => ?_) (fun c => ?_)⟩
  · cases us with
    | nil => simp at c
    | cons x us =>
      cases l with
      | nil => cases hus
      | cons y l =>
        obtain ⟨hx, hus'⟩ : Dp K H x (wtPD ks y) ∧ DpAll K H us (l.map (wtPD ks)) := by
          cases hus with
          | cons a b => exact ⟨a, b⟩
        clear hus
        obtain ⟨r1, t1, e1, d1⟩ := y
        obtain ⟨hct, ok1, st1⟩ := hok _ List.mem_cons_self
        have hok' : ∀ x ∈ l, WtOk ks (own ks p) x := fun x hx => hok x (List.mem_cons_of_mem _ hx)
        have hct : Ct ks r1 t1 e1 d1 := hct
        have ok1 : RgOk ks.length r1 := ok1
        have st1 : StOk ks (own ks p) t1 e1 := st1
        have hrem : d.list.drop j = d1.list ++ remW l := hrem
        have ul : us.length = l.length := by rw [dpS_len hus', List.length_map]
        have ll := remW_len l
        have jl : j + (d1.list.length + (remW l).length) ≤ d.list.length := by
          have z := congrArg List.length hrem
          rw [List.length_drop, List.length_append] at z
          have := d1.list_pos
          omega
        have dp := d1.list_pos
        -- what is told, and what comes then
        obtain ⟨f, t', e', tl, hz, hdl1⟩ : ∃ f t' e' tl, walkW ks r1 (wsz t1) t1 e1 = (f, t', e') ∧ d1.list = (f, r1) :: tl := by
          cases hct with
          | en h => exact ⟨_, _, _, _, h, rfl⟩
          | qn h _ _ => exact ⟨_, _, _, _, h, rfl⟩
        obtain ⟨xa, v1, v2, v3, rfl, hxa, g1, g2, g3⟩ := fd_three (show Fd K H x (.tuple [rgPD ks r1, tdPD t1, rdPD e1]) from ⟨wtPD_flat ks ⟨r1, t1, e1, d1⟩, hx⟩)
        refine ⟨fun j' Hw' σ' H' => ∃ m', m' < (remW (⟨r1, t1, e1, d1⟩ :: l)).length ∧ casInv K pz v ks (own ks p) d m' j' Hw' σ' H', fun _ _ _ _ h => h, ?_⟩
        rw [List.reverse_cons] at hl
        refine ⟨_, rfl, .inl ⟨rfl, _, SqL.of hl⟩, lw, _, .ref xa, rfl, rfl, hl, ?_, ?_⟩
        · rw [List.length_append, List.length_singleton, Nat.add_sub_cancel, List.getElem?_append_right (Nat.le_refl _), Nat.sub_self]
          rfl
        rw [List.dropLast_concat]
        have t2 : Tp K H (upd H lw (.lst us.reverse)) := Tp.lst hl
        have hl2 : (upd H lw (.lst us.reverse)) lw = some (.lst us.reverse) := upd_same
        have ex2 : Ex [lw] Hw (upd H lw (.lst us.reverse)) := hex.trans (Ex.at (by simp))
        generalize upd H lw (.lst us.reverse) = H2 at t2 hl2 ex2
        refine ⟨xa, _, rfl, t2 _ _ hxa, rfl, _, _, rfl, _, _, rfl, _, _, rfl, rfl, ?_⟩
        refine ⟨_, rfl, _, rfl, _, rfl, v1, v2, v3, ks, own ks p, r1, t1, e1, rfl, g1.keep t2, g2.keep t2, g3.keep t2, st1, ok1, hkl, fun u H3 s3 hu => ?_⟩
        rw [hz] at hu
        obtain ⟨ua, fv, tv, ev, rfl, hua, hf, ht, he⟩ := hu
        refine ⟨ua, _, rfl, hua, rfl, _, _, rfl, _, _, rfl, _, _, rfl, rfl, ?_⟩
        have g1' := (g1.keep t2).same s3
        have dj : d.list[j]? = some (f, r1) := by
          have z : (d.list.drop j)[0]? = some (f, r1) := by rw [hrem, hdl1]; rfl
          rw [List.getElem?_drop] at z
          exact z
        refine ⟨by omega, _, rfl, _, rfl, len2, fun p4 n4 => al2 hf g1' n4 fun H4 s4 h4 => ?_⟩
        have ex4 : Ex [lw] Hw H4 := (ex2.trans (Ex.of_same s3)).trans (Ex.of_same s4)
        have hl4 : H4 lw = some (.lst us.reverse) := s4 _ _ (s3 _ _ hl2)
        refine ⟨holds_ex ex4 h0 hl4, ⟨(f, r1), dj, h4⟩, fun H5 w5 => ?_⟩
        have t5 : Tp K H4 H5 := Tp.tps w5.1
        have hl5 : H5 lw = some (.lst us.reverse) := by
          rw [w5.2 lw ⟨_, hl4, (fun i => by rcases i with ⟨_, i⟩ | ⟨_, _, i⟩ <;> cases i), fun φ z => nomatch z⟩]
          exact hl4
        have t25 : Tp K H2 H5 := (Tp.same (s3.trans s4)).trans t5
        have t35 : Tp K H3 H5 := (Tp.same s4).trans t5
        have hus5 : DpAll K H5 us (l.map (wtPD ks)) := dps_keep (t2.trans t25) _ _ (flats_map' _ (wtPD_flat ks) l) hus'
        have hrem5 : d.list.drop (j + 1) = tl ++ remW l := by
          rw [← List.drop_drop, hrem, hdl1]
          rfl
        have wlen : (remW (⟨r1, t1, e1, d1⟩ :: l)).length = tl.length + 1 + (remW l).length := by
          show (d1.list ++ remW l).length = _
          rw [hdl1, List.length_append, List.length_cons]
        obtain ⟨fb, hfb⟩ : ∃ fb, fv = .ref fb := by
          obtain ⟨_, z⟩ := hf
          cases z
          exact ⟨_, rfl⟩
        subst hfb
        have w := walk_ok ok1 (wsz t1) t1 e1 (Nat.le_refl _) st1
        rw [hz] at w
        cases f with
        | en x =>
          have etl : tl = [] := by
            cases hct with
            | en h => rw [hz] at h; cases h; cases hdl1; rfl
            | qn h _ _ => rw [hz] at h; cases h
          subst etl
          obtain ⟨fa, fx, fy, efa, hfa, h6, h7⟩ := fd_two (show Fd K H5 (.ref fb) (.tuple [.str "end", enPD x]) from hf.keep t35)
          cases efa
          obtain rfl := fd_str_of h6
          refine ⟨_, rfl, fb, _, 0, _, rfl, rfl, hfa, at_of (j := 0) rfl rfl, rfl, _, rfl, iteNS rfl ?_⟩
          exact ⟨_, by omega, lw, us, l, _, _, _, _, rfl, Ex.refl _ H5, .inr ⟨_, hl5⟩, hl5, hus5, hok', hrem5, by omega, rfl⟩
        | qn qn =>
          obtain ⟨qo, qn0, st', _⟩ := w
          obtain ⟨dy, dn, hy, hn, etl⟩ : ∃ dy dn, Ct ks (nar ks.length r1 qn true) t' e' dy ∧ Ct ks (nar ks.length r1 qn false) t' e' dn ∧ tl = dy.list ++ dn.list := by
            cases hct with
            | en h => rw [hz] at h; cases h
            | qn h hy hn => rw [hz] at h; cases h; cases hdl1; exact ⟨_, _, hy, hn, rfl⟩
          subst etl
          have hf5 := hf.keep t35
          obtain ⟨fa, efa, hfa⟩ := qn_open (show Fd K H5 (.ref fb) (.tuple (qnPD qn)) from hf5)
          cases efa
          obtain ⟨wd, hat, hwd⟩ := qn_word qn
          have g5 := g1'.keep t35
          have ht5 := ht.keep t35
          have he5 := he.keep t35
          have p1 := dy.list_pos
          have p2 := dn.list_pos
          rw [hdl1, List.length_cons, List.length_append] at jl
          have ult : us.reverse.length = us.length := List.length_reverse
          refine ⟨_, rfl, fb, _, 0, _, rfl, rfl, hfa, hat, rfl, _, rfl, ifN_f hwd ?_⟩
          refine ⟨_, rfl, .inl ⟨rfl, _, SqL.of hl5⟩, _, rfl, _, rfl, v1, _, ks, r1, qn, false, rfl, g5, hf5, qo, qn0, hkl, fun u1 H6 s6 hu1 => ⟨_, rfl, _, rfl, len3, fun p6 n6 => al3 hu1 (ht5.same s6) (he5.same s6) n6 fun H7 s7 h7 => ⟨lw, _, _, rfl, rfl, s7 _ _ (s6 _ _ hl5), by omega, ?_⟩⟩⟩
          have s57 := s6.trans s7
          have hl7 := s57 _ _ hl5
          have t8 : Tp K H7 (upd H7 lw (.lst (us.reverse ++ [.ref p6]))) := Tp.lst hl7
          have hl8 : (upd H7 lw (.lst (us.reverse ++ [.ref p6]))) lw = some (.lst (us.reverse ++ [.ref p6])) := upd_same
          have ex8 : Ex [lw] H5 (upd H7 lw (.lst (us.reverse ++ [.ref p6]))) := (Ex.of_same s57).trans (Ex.at (by simp))
          generalize upd H7 lw (.lst (us.reverse ++ [.ref p6])) = H8 at t8 hl8 ex8
          have t58 : Tp K H5 H8 := (Tp.same s57).trans t8
          refine ⟨_, rfl, .inl ⟨rfl, _, SqL.of hl8⟩, _, rfl, _, rfl, v1, _, ks, r1, qn, true, rfl, g5.keep t58, hf5.keep t58, qo, qn0, hkl, fun u2 H9 s9 hu2 => ⟨_, rfl, _, rfl, len3, fun p9 n9 => al3 hu2 ((ht5.keep t58).same s9) ((he5.keep t58).same s9) n9 fun H10 s10 h10 => ⟨lw, _, _, rfl, rfl, s10 _ _ (s9 _ _ hl8), by rw [List.length_append, List.length_singleton]; omega, ?_⟩⟩⟩
          have s810 := s9.trans s10
          have hl10 := s810 _ _ hl8
          have t11 : Tp K H10 (upd H10 lw (.lst (us.reverse ++ [.ref p6] ++ [.ref p9]))) := Tp.lst hl10
          have hl11 : (upd H10 lw (.lst (us.reverse ++ [.ref p6] ++ [.ref p9]))) lw = some (.lst (us.reverse ++ [.ref p6] ++ [.ref p9])) := upd_same
          have ex11 : Ex [lw] H5 (upd H10 lw (.lst (us.reverse ++ [.ref p6] ++ [.ref p9]))) := (ex8.trans (Ex.of_same s810)).trans (Ex.at (by simp))
          generalize upd H10 lw (.lst (us.reverse ++ [.ref p6] ++ [.ref p9])) = H11 at t11 hl11 ex11
          have t511 : Tp K H5 H11 := (t58.trans (Tp.same s810)).trans t11
          have t711 : Tp K H7 H11 := (t8.trans (Tp.same s810)).trans t11
          refine ⟨(remW (⟨_, _, _, dy⟩ :: ⟨_, _, _, dn⟩ :: l)).length, ?_, lw, .ref p9 :: .ref p6 :: us, ⟨nar ks.length r1 qn true, t', e', dy⟩ :: ⟨nar ks.length r1 qn false, t', e', dn⟩ :: l, _, _, _, _, rfl, ex11, .inr ⟨_, hl5⟩, ?_, ?_, fun x hx => ?_, ?_, by omega, rfl⟩
          · rw [wlen]
            show (dy.list ++ (dn.list ++ remW l)).length < _
            simp only [List.length_append]
            omega
          · rw [hl11]
            simp
          · exact .cons (h10.keep t11).2 (.cons (h7.keep t711).2 (dps_keep t511 _ _ (flats_map' _ (wtPD_flat ks) l) hus5))
          · rcases List.mem_cons.mp hx with z | hx
            · rw [z]; exact ⟨hy, nar_ok ok1 qo qn0 true, st'⟩
            rcases List.mem_cons.mp hx with z | hx
            · rw [z]; exact ⟨hn, nar_ok ok1 qo qn0 false, st'⟩
            · exact hok' x hx
          · rw [hrem5]
            show dy.list ++ dn.list ++ remW l = dy.list ++ (dn.list ++ remW l)
            rw [List.append_assoc]
  · cases us with
    | cons x us => simp at c
    | nil =>
      cases l with
      | cons y l => cases hus
      | nil =>
        have z : d.list.drop j = [] := hrem
        have e : j = d.list.length := by
          have zl := congrArg List.length z
          rw [List.length_drop] at zl
          have zl : d.list.length - j = 0 := zl
          omega
        exact ⟨e, holds_ex hex h0 hl⟩
end
end Lm

set_option Elab.async false
set_option linter.all false
set_option maxRecDepth 100000
set_option maxHeartbeats 2000000
set_option pp.maxSteps 2000
set_option pp.deepTerms.threshold 12
namespace Lm
open PySem PySem.Spec PyProof.Rows L2 LmR RZ LmG
/-! ### trees from their fronts -/
inductive FT where
  | leaf (ds : List PyData)
  | fork (ds : List PyData) (y n : FT)
def FT.enc : FT → PyData
  | .leaf ds => .tuple ds
  | .fork ds y n => .tuple (ds ++ [y.enc, n.enc])
def FT.list : FT → List (List PyData)
  | .leaf ds => [ds]
  | .fork ds y n => ds :: (y.list ++ n.list)
/-- a front begins with a word -/
def isFork (ds : List PyData) : Bool := match ds with
  | .str x :: _ => decide (x = ("row" : Str)) || decide (x = ("truth" : Str)) || decide (x = ("if" : Str))
  | _ => false
def wordD (ds : List PyData) : Prop := ∃ x r, ds = PyData.str x :: r
def FT.Ok : FT → Prop
  | .leaf ds => wordD ds ∧ isFork ds = false ∧ flat.flats ds = true ∧ ds.length ≤ 1000
  | .fork ds y n => wordD ds ∧ isFork ds = true ∧ flat.flats ds = true ∧ ds.length ≤ 1000 ∧ y.Ok ∧ n.Ok
def buildF : List (List PyData) → List FT
  | [] => []
  | d :: s => if isFork d = true then (match buildF s with
      | y :: n :: r => .fork d y n :: r
      | r => r) else .leaf d :: buildF s
theorem flats_app {a b : List PyData} (ha : flat.flats a = true) (hb : flat.flats b = true) : flat.flats (a ++ b) = true := by
  induction a with
  | nil => exact hb
  | cons x a ih =>
    have ha : (flat x && flat.flats a) = true := ha
    rw [Bool.and_eq_true] at ha
    show (flat x && flat.flats (a ++ b)) = true
    rw [ha.1, ih ha.2]
    rfl
theorem build_eq (d : List PyData) (s : List (List PyData)) : buildF (d :: s) = if isFork d = true then (match buildF s with
    | y :: n :: r => .fork d y n :: r
    | r => r) else .leaf d :: buildF s := rfl
theorem build_len : ∀ s, (buildF s).length ≤ s.length
  | [] => Nat.le_refl _
  | d :: s => by
    have ih := build_len s
    rw [build_eq]
    split
    · split
      · rename_i y n r e
        rw [e] at ih
        simp only [List.length_cons] at ih ⊢
        omega
      · simp only [List.length_cons]
        omega
    · simp only [List.length_cons]
      omega
theorem build_flat : ∀ s : List (List PyData), (∀ d ∈ s, flat.flats d = true) → flat.flats ((buildF s).map FT.enc) = true
  | [], _ => rfl
  | d :: s, h => by
    have ih := build_flat s fun x hx => h x (List.mem_cons_of_mem _ hx)
    have hd := h d List.mem_cons_self
    rw [build_eq]
    split
    · split
      · rename_i y n r e
        rw [e] at ih
        have ih : (flat y.enc && (flat n.enc && flat.flats (r.map FT.enc))) = true := ih
        rw [Bool.and_eq_true, Bool.and_eq_true] at ih
        show (flat.flats (d ++ [y.enc, n.enc]) && flat.flats (r.map FT.enc)) = true
        rw [flats_app hd (show flat.flats [y.enc, n.enc] = true from by show (flat y.enc && (flat n.enc && true)) = true; rw [ih.1, ih.2.1]; rfl), ih.2.2]
        rfl
      · exact ih
    · show (flat.flats d && flat.flats ((buildF s).map FT.enc)) = true
      rw [hd, ih]
      rfl
theorem build_ft : ∀ (t : FT), t.Ok → ∀ s, buildF (t.list ++ s) = t :: buildF s
  | .leaf ds, h, s => by
    show buildF (ds :: s) = _
    rw [build_eq, h.2.1, if_neg Bool.false_ne_true]
  | .fork ds y n, h, s => by
    show buildF (ds :: (y.list ++ n.list ++ s)) = _
    rw [List.append_assoc, build_eq, h.2.1, if_pos rfl, build_ft y h.2.2.2.2.1, build_ft n h.2.2.2.2.2]
theorem ft_flat : ∀ t : FT, t.Ok → flat t.enc = true
  | .leaf ds, h => h.2.2.1
  | .fork ds y n, h => by
    show flat.flats (ds ++ [y.enc, n.enc]) = true
    refine flats_app h.2.2.1 ?_
    show (flat y.enc && (flat n.enc && true)) = true
    rw [ft_flat y h.2.2.2.2.1, ft_flat n h.2.2.2.2.2]
    rfl
/-- what stands in a tree's list of fronts -/
def fOk (ds : List PyData) : Prop := wordD ds ∧ flat.flats ds = true ∧ ds.length ≤ 1000
theorem ft_list : ∀ t : FT, t.Ok → ∀ ds ∈ t.list, fOk ds
  | .leaf ds, h, x, hx => by rw [List.mem_singleton.mp hx]; exact ⟨h.1, h.2.2.1, h.2.2.2⟩
  | .fork ds y n, h, x, hx => by
    rcases List.mem_cons.mp hx with z | hx
    · rw [z]; exact ⟨h.1, h.2.2.1, h.2.2.2.1⟩
    rcases List.mem_append.mp hx with hx | hx
    · exact ft_list y h.2.2.2.2.1 x hx
    · exact ft_list n h.2.2.2.2.2 x hx
/-- behind a suffix of a tree's fronts at least two trees are built where a fork comes next -/
theorem build_two : ∀ (t : FT), t.Ok → ∀ (s p : List (List PyData)) (d : List PyData) (r : List (List PyData)), t.list ++ s = p ++ d :: r → p.length < t.list.length → isFork d = true → ∃ y n q, buildF r = y :: n :: q
  | .leaf ds, h, s, p, d, r, e, hp, hf => by
    have : p = [] := by
      cases p with
      | nil => rfl
      | cons _ _ => simp [FT.list] at hp
    subst this
    have e' : ds :: s = d :: r := e
    cases e'
    rw [h.2.1] at hf
    cases hf
  | .fork ds y n, h, s, p, d, r, e, hp, hf => by
    have e' : ds :: (y.list ++ n.list ++ s) = p ++ d :: r := e
    cases p with
    | nil =>
      cases e'
      rw [List.append_assoc, build_ft y h.2.2.2.2.1, build_ft n h.2.2.2.2.2]
      exact ⟨_, _, _, rfl⟩
    | cons p0 p =>
      have e2 : y.list ++ (n.list ++ s) = p ++ d :: r := by
        rw [← List.append_assoc]
        exact (List.cons.inj e').2
      by_cases z : p.length < y.list.length
      · exact build_two y h.2.2.2.2.1 (n.list ++ s) p d r e2 z hf
      · have ez : ∃ p', p = y.list ++ p' ∧ n.list ++ s = p' ++ d :: r := by
          have z' : y.list.length ≤ p.length := by omega
          refine ⟨p.drop y.list.length, ?_, ?_⟩
          · have q1 : (p ++ d :: r).take y.list.length = y.list := by rw [← e2, List.take_left]
            rw [List.take_append_of_le_length z'] at q1
            calc p = p.take y.list.length ++ p.drop y.list.length := (List.take_append_drop _ _).symm
              _ = _ := by rw [q1]
          · have q2 : (y.list ++ (n.list ++ s)).drop y.list.length = n.list ++ s := List.drop_left
            rw [← q2, e2, List.drop_append_of_le_length z']
        obtain ⟨p', rfl, e3⟩ := ez
        refine build_two n h.2.2.2.2.2 s p' d r e3 ?_ hf
        have hp' : (y.list ++ p').length + 1 < (y.list ++ n.list).length + 1 := hp
        rw [List.length_append, List.length_append] at hp'
        omega
theorem inV_fork (wd : Str) (r : List PyData) : inV (.str wd) [.str "row", .str "truth", .str "if"] = isFork (.str wd :: r) := by
  show (eqV (.str "row") (.str wd) || (eqV (.str "truth") (.str wd) || (eqV (.str "if") (.str wd) || false))) = _
  show ((("row" : Str) == wd) || ((("truth" : Str) == wd) || ((("if" : Str) == wd) || false))) = (decide (wd = ("row" : Str)) || decide (wd = ("truth" : Str)) || decide (wd = ("if" : Str)))
  have e : ∀ a : Str, (a == wd) = decide (wd = a) := fun a => by
    by_cases z : wd = a
    · rw [decide_eq_true z, z]
      exact beq_self_eq_true a
    · rw [decide_eq_false z]
      exact beq_eq_false_iff_ne.mpr (Ne.symm z)
  rw [e, e, e, Bool.or_false, Bool.or_assoc]
section
variable {P : Program} {w : World} {K : PySem.W.Frag} {mg : Str → Option Value} {base : Heap}
abbrev s_grown : Stmt := topS 53
theorem sc_grown : FnScope ["fronts", "ready", "front"] ["fronts"] (defScope s_grown) := ⟨rfl, rfl, rfl, by decide +kernel, rfl, by decide +kernel, by decide +kernel⟩
def spGrown (K : PySem.W.Frag) : Sp := fun vs H Q _ => ∃ (l : Addr) (us : List V) (t : FT), vs = [.ref l] ∧ H l = some (.lst us) ∧ DpAll K H us (t.list.map PyData.tuple) ∧ t.Ok ∧ t.list.length < sizeLine ∧ ∀ (v : V) (H' : Hp), Same H H' → Fd K H' v t.enc → Q v H'
theorem ok_grown {aFK : Addr} (hFORKS : mg "FORKS" = some (.ref aFK)) (hFK : ∀ H, SqT K H aFK [.str "row", .str "truth", .str "if"]) (B : Bt mg) (C_taken : Cal P w K mg base 1 "taken" ["pile", "many"] (spTaken)) (D : DefAt K mg "grown" s_grown ["fronts"]) : Cal P w K mg base 2 "grown" ["fronts"] (spGrown K) := by
  refine cal_of D sc_grown (fun vs H Q E h => ?_) (fun f cdv A outer s H vs Q E hr h => ?_)
  · obtain ⟨l, us, t, rfl, _⟩ := h
    rfl
  obtain ⟨l, us, t, rfl, hl, hus, tok, tl, q⟩ := h
  have hr' : Room 1 _ := hr
  refine ⟨_, (pss_cons (ps_set (i := 1) sc_grown.nd rfl (.inl rfl) (pe_lst pa_nil))
      (pss_cons (ps_for PassesOwn.never rfl (pi_reversed (by rfl) B.reversed (pa_cons (pv 0) pa_nil)) (pg_name (i := 2) sc_grown.nd rfl (.inl rfl))
        (pss_one (ps_expr (pe_bm PySem.F.plainAttrs_list PySem.F.slot_list_append PySem.F.type_list_append mt_append (pv 1) (pa_cons (pe_ifExp (pt_cmpR op_in_seq (pe_ix ix_tup (pv 2) pe_int (fun _ _ => rfl)) (pe_glob (v := .ref _) (by rfl) hFORKS rfl) rfl) (pe_op op_catA (pv 2) (pe_cal C_taken hr' (by rfl) (pa_cons (pv 1) (pa_cons pe_int pa_nil)))) (pv 2)) pa_nil)))))
      (pss_one (ps_ret (pe_ix ix_list (pv 1) pe_int (fun _ _ => rfl)))))), ?_⟩
  have n1 : us.length = t.list.length := by rw [dpS_len hus, List.length_map]
  obtain ⟨_, hg⟩ := dpall_getM PyData.tuple hus
  have fl := ft_list t tok
  refine ⟨(by show 0 ≤ sizeLine; decide), fun rl hrl => ?_⟩
  have s1 := same_new (o := .lst []) hrl
  have e1 : (upd H rl (.lst [])) rl = some (.lst []) := upd_same
  generalize upd H rl (.lst []) = H1 at s1 e1
  refine ⟨_, rfl, l, us, rfl, SqL.of (s1 _ _ hl), for_it (walk_rev (K := K)) (fun i σ' H' => ∃ y2 : Option V, σ' = [some (.ref l), some (.ref rl), y2] ∧ Same H H' ∧ ∃ ws, H' rl = some (.lst ws.reverse) ∧ DpAll K H' ws ((buildF (t.list.drop (t.list.length - i))).map FT.enc)) ?_ ?_ ?_ ?_⟩
  · refine ⟨none, rfl, s1, [], e1, ?_⟩
    rw [Nat.sub_zero, List.drop_length]
    exact .nil
  · rintro i σ' H' _ ⟨_, _, s', _⟩
    exact SqL.of (s' _ _ hl)
  · rintro i x σ' Hx H' hi ⟨y2, rfl, s', ws, hrl', hws⟩ ⟨e, hx⟩
    subst e
    have hi' : i < t.list.length := by omega
    have hk : t.list.length - 1 - i < t.list.length := by omega
    rw [n1] at hx
    obtain ⟨x', ex', dx⟩ := hg _ _ (List.getElem?_eq_getElem hk)
    rw [hx] at ex'
    cases ex'
    have hmem := List.getElem_mem hk
    have ed : t.list.drop (t.list.length - (i + 1)) = t.list[t.list.length - 1 - i] :: t.list.drop (t.list.length - i) := by
      rw [show t.list.length - (i + 1) = t.list.length - 1 - i by omega, List.drop_eq_getElem_cons hk, show t.list.length - 1 - i + 1 = t.list.length - i by omega]
    have esp : t.list ++ [] = t.list.take (t.list.length - 1 - i) ++ t.list[t.list.length - 1 - i] :: t.list.drop (t.list.length - i) := by
      rw [List.append_nil, ← ed, show t.list.length - (i + 1) = t.list.length - 1 - i by omega, List.take_append_drop]
    have two := build_two t tok [] _ _ _ esp (by rw [List.length_take]; omega)
    obtain ⟨⟨wd, dr, eds⟩, dfl, dl⟩ := fl _ hmem
    generalize t.list[t.list.length - 1 - i] = ds at ed two eds dfl dl dx
    have sl : (t.list.drop (t.list.length - i)).length ≤ t.list.length := by rw [List.length_drop]; omega
    have bf := build_flat (t.list.drop (t.list.length - i)) fun d hd => (fl d (List.mem_of_mem_drop hd)).2.1
    have bl := build_len (t.list.drop (t.list.length - i))
    generalize t.list.drop (t.list.length - i) = sfx at ed two hws bl sl bf
    have wl : ws.length = (buildF sfx).length := by rw [dpS_len hws, List.length_map]
    obtain ⟨xa, xvs, rfl, hxa, hxvs⟩ : ∃ xa xvs, x = .ref xa ∧ SqT K H' xa xvs ∧ DpAll K H' xvs ds := by
      cases dp_keep (Tp.same s') (.tuple ds) _ dfl dx with
      | tup a b => exact ⟨_, _, rfl, a, b⟩
    obtain ⟨xv0, rfl⟩ : ∃ r, xvs = .str wd :: r := by
      rw [eds] at hxvs
      cases hxvs with
      | cons a b => cases a; exact ⟨_, rfl⟩
    have fin : ∀ (u : V) (H3 : Hp) (ws' : List V) (q' : List FT), Same H H3 → H3 rl = some (.lst ws'.reverse) → ws'.length < sizeLine → DpAll K H3 ws' (q'.map FT.enc) → flat.flats (q'.map FT.enc) = true → ∀ z : FT, flat z.enc = true → Dp K H3 u z.enc → buildF (t.list.drop (t.list.length - (i + 1))) = z :: q' →
        ∃ (l' : Addr) (xs : List V) (y : V), V.ref rl = .ref l' ∧ [u] = [y] ∧ H3 l' = some (.lst xs) ∧ xs.length < sizeLine ∧ ∃ y2' : Option V, [some (.ref l), some (.ref rl), some (.ref xa)] = [some (.ref l), some (.ref rl), y2'] ∧ Same H (upd H3 l' (.lst (xs ++ [y]))) ∧ ∃ ws, (upd H3 l' (.lst (xs ++ [y]))) rl = some (.lst ws.reverse) ∧ DpAll K (upd H3 l' (.lst (xs ++ [y]))) ws ((buildF (t.list.drop (t.list.length - (i + 1)))).map FT.enc) := fun u H3 ws' q' s3 h3 hz hq hqf z zf hu eb => by
      have tl3 : Tp K H3 (upd H3 rl (.lst (ws'.reverse ++ [u]))) := Tp.lst h3
      refine ⟨rl, ws'.reverse, u, rfl, rfl, h3, by rw [List.length_reverse]; exact hz, _, rfl, fun b o e => ?_, u :: ws', ?_, ?_⟩
      · rw [upd_ne (ne_of_none e hrl)]
        exact s3 _ _ e
      · rw [upd_same, List.reverse_cons]
      · rw [eb]
        exact .cons (dp_keep tl3 _ _ zf hu) (dps_keep tl3 _ _ hqf hq)
    refine ⟨_, rfl, .inl ⟨rfl, _, SqL.of hrl'⟩, _, rfl, xa, _, 0, _, rfl, rfl, hxa, at_of (j := 0) rfl rfl, aFK, _, rfl, .inr (hFK _), rfl, rfl, _, rfl, ?_⟩
    have ei : inV (.str wd) [.str "row", .str "truth", .str "if"] = isFork ds := by
      rw [eds]
      exact inV_fork wd dr
    show if inV (.str wd) [.str "row", .str "truth", .str "if"] = true then _ else _
    rw [ei]
    have edf := build_eq ds sfx
    rw [← ed] at edf
    cases hf : isFork ds with
    | false =>
      rw [hf, if_neg Bool.false_ne_true] at edf
      refine iteF ⟨_, rfl, ?_⟩
      exact fin (.ref xa) H' ws (buildF sfx) s' hrl' (by omega) hws bf (.leaf ds) dfl (.tup hxa hxvs) edf
    | true =>
      obtain ⟨y, n, q', eq'⟩ := two hf
      rw [hf, if_pos rfl, eq'] at edf
      rw [eq'] at hws bf bl wl
      have bf' : (flat y.enc && (flat n.enc && flat.flats (q'.map FT.enc))) = true := bf
      rw [Bool.and_eq_true, Bool.and_eq_true] at bf'
      obtain ⟨yv, nv, ws', rfl, hy, hn, hq⟩ : ∃ yv nv ws', ws = yv :: nv :: ws' ∧ Dp K H' yv y.enc ∧ Dp K H' nv n.enc ∧ DpAll K H' ws' (q'.map FT.enc) := by
        cases hws with
        | cons a b => cases b with
          | cons c d => exact ⟨_, _, _, rfl, a, c, d⟩
      have hrl2 : H' rl = some (.lst (ws'.reverse ++ [yv, nv].reverse)) := by rw [hrl']; simp
      refine iteT ⟨_, rfl, _, rfl, rl, ws'.reverse, [yv, nv], rfl, hrl2, (by show 2 ≤ 1000; decide), fun tt H2 ex2 hl2 ht2 => ?_⟩
      have t2 : Tp K H' H2 := ex2.tp fun b hb ys rd => by
        rw [List.mem_singleton.mp hb] at rd
        rcases rd with rd | ⟨o, rd⟩
        · rw [hrl'] at rd; cases rd
        · rw [hrl'] at rd; cases rd
      have s2 : Same H H2 := fun b o e => ex2 b o (s' _ _ e) (by
        intro hb
        rw [List.mem_singleton.mp hb, hrl] at e
        cases e)
      have xl : (V.str wd :: xv0).length ≤ 1000 := by rw [dpS_len hxvs]; exact dl
      refine catS (t2 _ _ hxa) (.inl (.inl ht2)) (by show _ + 2 ≤ _; exact small (by omega)) fun pc H3 s3 h3 => ?_
      have t3 : Tp K H' H3 := t2.trans (Tp.same s3)
      simp only [List.length_cons] at wl bl
      refine fin (.ref pc) H3 ws' q' (s2.trans s3) (s3 _ _ hl2) (by omega) (dps_keep t3 _ _ bf'.2.2 hq) bf'.2.2 (.fork ds y n) ?_ ?_ edf
      · exact flats_app dfl (by show (flat y.enc && (flat n.enc && true)) = true; rw [bf'.1, bf'.2.1]; rfl)
      · exact .tup h3 (dpS_app (dps_keep t3 _ _ dfl hxvs) (.cons (dp_keep t3 _ _ bf'.1 hy) (.cons (dp_keep t3 _ _ bf'.2.1 hn) .nil)))
  · rintro σ' H' ⟨y2, rfl, s', ws, hrl', hws⟩
    have eb : buildF (t.list.drop (t.list.length - us.length)) = [t] := by
      rw [n1, Nat.sub_self, List.drop_zero, ← List.append_nil t.list, build_ft t tok]
      rfl
    rw [eb] at hws
    obtain ⟨tv, rfl, htv⟩ : ∃ tv, ws = [tv] ∧ Dp K H' tv t.enc := by
      cases hws with
      | cons a b => cases b; exact ⟨_, rfl, a⟩
    exact ⟨_, rfl, rl, _, 0, tv, rfl, rfl, SqL.of hrl', at_of (j := 0) rfl rfl, q _ _ s' ⟨ft_flat t tok, htv⟩⟩
def DT.ft : DT → FT
  | .en _ x => .leaf (frPD (.en x))
  | .qn _ q y n => .fork (qnPD q) y.ft n.ft
def trPD (d : DT) : PyData := d.ft.enc
theorem dt_fronts : ∀ d : DT, (d.list.map fun z => PyData.tuple (frPD z.1)) = d.ft.list.map PyData.tuple
  | .en r x => rfl
  | .qn r q y n => by
    show PyData.tuple (qnPD q) :: ((y.list ++ n.list).map fun z => PyData.tuple (frPD z.1)) = PyData.tuple (qnPD q) :: (y.ft.list ++ n.ft.list).map PyData.tuple
    rw [List.map_append, List.map_append, dt_fronts y, dt_fronts n]
theorem dt_ftOk : ∀ d : DT, d.ft.Ok
  | .en r x => ⟨⟨_, _, rfl⟩, by show (decide (("end" : Str) = "row") || decide (("end" : Str) = "truth") || decide (("end" : Str) = "if")) = false; decide +kernel, frPD_flat (.en x), (by show 2 ≤ 1000; decide)⟩
  | .qn r q y n => by
    refine ⟨?_, ?_, qnPD_flat q, ?_, dt_ftOk y, dt_ftOk n⟩
    · cases q <;> exact ⟨_, _, rfl⟩
    · cases q with
      | row i j c => show (decide (("row" : Str) = "row") || decide (("row" : Str) = "truth") || decide (("row" : Str) = "if")) = true; decide +kernel
      | truth k => show (decide (("truth" : Str) = "row") || decide (("truth" : Str) = "truth") || decide (("truth" : Str) = "if")) = true; decide +kernel
    · cases q with
      | row i j c => show 4 ≤ 1000; decide
      | truth k => show 2 ≤ 1000; decide
end
end Lm

set_option Elab.async false
set_option linter.all false
set_option maxRecDepth 100000
set_option maxHeartbeats 2000000
set_option pp.maxSteps 600
set_option pp.deepTerms.threshold 6
namespace Lm
open PySem PySem.Spec PyProof.Rows L2 LmR RZ
/-- the point that is told -/
def PtF (D : Mat) (m : Nat) (ns : List Int) : Prop := ns.length = m ∧ ∃ low : Nat → Int, (∀ a, a ≤ m → IsLow D m a (low a)) ∧ ∀ a, a < m → ns[a]? = some (low a - low m)
theorem low_one {D : Mat} {m a : Nat} {x y : Int} (h : IsLow D m a x) (g : IsLow D m a y) : x = y := by
  obtain ⟨b, hb, eb⟩ := h.2
  obtain ⟨c, hc, ec⟩ := g.2
  have h1 := h.1 c hc y ec
  have h2 := g.1 b hb x eb
  omega
theorem pt_one {D : Mat} {m : Nat} {ns ms : List Int} (h : PtF D m ns) (g : PtF D m ms) : ns = ms := by
  obtain ⟨l1, f, hf, e1⟩ := h
  obtain ⟨l2, g, hg, e2⟩ := g
  refine List.ext_getElem? fun a => ?_
  by_cases ha : a < m
  · rw [e1 a ha, e2 a ha, low_one (hf a (by omega)) (hg a (by omega)), low_one (hf m (Nat.le_refl _)) (hg m (Nat.le_refl _))]
  · rw [List.getElem?_eq_none (by omega), List.getElem?_eq_none (by omega)]
section
variable {P : Program} {w : World} {K : PySem.W.Frag} {mg : Str → Option Value} {base : Heap}
abbrev s_point_in : Stmt := topS 25
theorem sc_point_in : FnScope ["closed", "lows", "row", "low", "c"] ["closed"] (defScope s_point_in) := ⟨rfl, rfl, rfl, by decide +kernel, rfl, by decide +kernel, by decide +kernel⟩
def spPin (K : PySem.W.Frag) : Sp := fun vs H Q _ => ∃ (v : V) (D : Mat) (m : Nat), vs = [v] ∧ Fd K H v (cloPD D m) ∧ m ≤ 100 ∧ (∀ a, a ≤ m → D a a = some 0) ∧ ∀ (t : Addr) (ns : List Int) (H' : Hp), Same H H' → H' t = some (.tup (ns.map V.int)) → PtF D m ns → Q (.ref t) H'
theorem ok_point_in (B : Bt mg) (D : DefAt K mg "point_in" s_point_in ["closed"]) : Cal P w K mg base 1 "point_in" ["closed"] (spPin K) := by
  refine cal_of D sc_point_in (fun vs H Q E h => ?_) (fun f cdv A outer s H vs Q E hr h => ?_)
  · obtain ⟨v, D, m, rfl, _⟩ := h
    rfl
  obtain ⟨v, D, m, rfl, hv, hm, hz, q⟩ := h
  refine ⟨_, (pss_cons (ps_set (i := 1) sc_point_in.nd rfl (.inr rfl) (pe_lc (own := [("row", 2)]) (g := gName 2) rfl sc_point_in.nd (pi_tup (pv 0)) (blkOk_by (own := [("row", 2)]) (N := ["closed", "lows", "row", "low", "c"]) (sc := defScope s_point_in) (by decide +kernel)) (fun _ _ _ _ _ => (pg_name (i := 2) sc_point_in.nd rfl (.inl rfl))) (fun _ _ _ _ _ => pts_nil) (fun _ _ _ _ _ => (pe_callB (cr_minQ (K := K) rfl rfl) (by rfl) B.min PyProof.Rows.boot_min (pa_cons (pe_lc (own := [("c", 4)]) (g := gName 4) rfl sc_point_in.nd (pi_tupK (K := K) rfl (pv 2)) (blkOk_by (own := [("c", 4)]) (N := ["closed", "lows", "row", "low", "c"]) (by rfl)) (fun _ _ _ _ _ => (pg_name (i := 4) sc_point_in.nd rfl (.inl rfl))) (fun _ _ _ _ _ => (pts_one (pt_cmpR op_notN (pv 4) pe_non (nomark _)))) (fun _ _ _ _ _ => (pv 4))) pa_nil)))))
      (pss_one (ps_ret (pe_callTy call_tuple_of (by rfl) B.tuple PyProof.Rows.boot_tuple (pa_cons (pe_lc (own := [("low", 3)]) (g := gName 3) rfl sc_point_in.nd (pi_list (pe_slice sl_list (pv 1) po_none (po_some (pe_un un_neg pe_int)))) (blkOk_by (own := [("low", 3)]) (N := ["closed", "lows", "row", "low", "c"]) (sc := defScope s_point_in) (by decide +kernel)) (fun _ _ _ _ _ => (pg_name (i := 3) sc_point_in.nd rfl (.inl rfl))) (fun _ _ _ _ _ => pts_nil) (fun _ _ _ _ _ => (pe_op op_sub (pv 3) (pe_ix (ix_listK (K := K) rfl) (pv 1) (pe_un un_neg pe_int) (fun _ _ => rfl))))) pa_nil))))), ?_⟩
  obtain ⟨t, rs, rfl, ht, hl, hrow⟩ := clo_open_at hv
  refine ⟨_, rfl, t, rfl, ⟨_, ht⟩, fun L hL => lc_tup (K := K) (a := t) (xs := rs) (fun a H' => Same H H' ∧ ∃ ls : List Int, H' L = some (.lst (ls.map V.int)) ∧ ls.length = a ∧ ∀ b, b < a → ∃ l, ls[b]? = some l ∧ IsLow D m b l) ?_ ?_ ?_ ?_⟩
  · exact ⟨same_new hL, [], upd_same, rfl, fun b hb => absurd hb (Nat.not_lt_zero _)⟩
  · rintro a H' _ ⟨s', _⟩
    exact Tp.same s' _ _ ht
  · rintro a x H' hx ⟨s', ls, hL', ll, hls⟩
    have al : a < m + 1 := by rw [← hl]; exact (List.getElem?_eq_some_iff.mp hx).1
    obtain ⟨r, er, hr1⟩ := hrow a (by omega)
    rw [hx] at er
    cases er
    have hr2 := Tp.same s' _ _ hr1
    refine ⟨rfl, _, rfl, r, rfl, ⟨_, hr2⟩, fun D2 hD2 => lc_tup (K := K) (a := r) (xs := rowV D m a) (fun b H2 => Same H' H2 ∧ ∃ ns : List Int, H2 D2 = some (.lst (ns.map V.int)) ∧ ns.length ≤ b ∧ (∀ n ∈ ns, ∃ k, k ≤ m ∧ D a k = some n) ∧ ∀ k, k < b → ∀ n, D a k = some n → n ∈ ns) ?_ ?_ ?_ ?_⟩
    · exact ⟨same_new hD2, [], upd_same, Nat.le_refl _, fun n hn => absurd hn (by simp), fun k hk => absurd hk (Nat.not_lt_zero _)⟩
    · rintro b H2 _ ⟨s2, _⟩
      exact Tp.same s2 _ _ hr2
    · rintro b y H2 hy ⟨s2, ns, hD3, nl, n1, n2⟩
      obtain ⟨bl, rfl⟩ := range_atV hy
      refine ⟨rfl, _, rfl, rfl, _, rfl, ?_⟩
      cases e : D a b with
      | none =>
        refine iteF ⟨s2, ns, hD3, by omega, n1, fun k hk n hn => ?_⟩
        by_cases kb : k = b
        · rw [kb, e] at hn; cases hn
        · exact n2 k (by omega) n hn
      | some d =>
        refine iteT ⟨_, rfl, _, hD3, by rw [List.length_map]; exact smallL (by omega), fun b' o z => ?_, ns ++ [d], by rw [upd_same, List.map_append]; rfl, by rw [List.length_append]; show ns.length + 1 ≤ _; omega, fun n hn => ?_, fun k hk n hn => ?_⟩
        · rw [upd_ne (ne_of_none z hD2)]
          exact s2 _ _ z
        · rcases List.mem_append.mp hn with z | z
          · exact n1 n z
          · rw [List.mem_singleton.mp z]; exact ⟨b, by omega, e⟩
        · by_cases kb : k = b
          · rw [kb, e] at hn; cases hn; exact List.mem_append_right _ (List.mem_singleton.mpr rfl)
          · exact List.mem_append_left _ (n2 k (by omega) n hn)
    · rintro H3 ⟨s3, ns, hD3, nl, n1, n2⟩
      rw [rowV_len] at n2
      have h0 := n2 a (by omega) 0 (hz a (by omega))
      refine ⟨D2, ns, rfl, SqL.of hD3, List.length_pos_of_mem h0, fun l hl1 hl2 => ?_⟩
      have hL3 := s3 _ _ hL'
      refine ⟨_, hL3, by rw [List.length_map]; exact smallL (by omega), fun b o z => ?_, ls ++ [l], by rw [upd_same, List.map_append]; rfl, by rw [List.length_append, ll]; rfl, fun b hb => ?_⟩
      · rw [upd_ne (ne_of_none z hL)]
        exact s3 _ _ (s' _ _ z)
      · by_cases ba : b = a
        · subst ba
          refine ⟨l, by rw [List.getElem?_append_right (by omega), ll, Nat.sub_self]; rfl, fun k hk d hd => hl2 d (n2 k (by omega) d hd), ?_⟩
          obtain ⟨k, hk, ek⟩ := n1 l hl1
          exact ⟨k, hk, ek⟩
        · obtain ⟨l', e', il⟩ := hls b (by omega)
          exact ⟨l', by rw [List.getElem?_append_left (by omega)]; exact e', il⟩
  rintro H1 ⟨s1, ls, hL1, ll, hls⟩
  rw [hl] at ll hls
  obtain ⟨low, hlow⟩ : ∃ low : Nat → Int, ∀ b, b ≤ m → ls[b]? = some (low b) ∧ IsLow D m b (low b) := by
    refine ⟨fun b => (ls[b]?).getD 0, fun b hb => ?_⟩
    obtain ⟨l, e, il⟩ := hls b (by omega)
    show ls[b]? = some ((ls[b]?).getD 0) ∧ IsLow D m b ((ls[b]?).getD 0)
    rw [e]
    exact ⟨rfl, il⟩
  have ecut : cutV (ls.map V.int) none (some (-1)) = (ls.take m).map V.int := by
    unfold cutV HT.sIx
    rw [List.length_map, ll, List.map_take]
    simp
    omega
  refine ⟨_, rfl, 1, rfl, -1, rfl, L, _, rfl, SqL.of hL1, fun p hp => ?_⟩
  rw [ecut]
  have s2 := same_new (o := .lst ((ls.take m).map V.int)) hp
  have e2 : (upd H1 p (.lst ((ls.take m).map V.int))) p = some (.lst ((ls.take m).map V.int)) := upd_same
  generalize upd H1 p (.lst ((ls.take m).map V.int)) = H2 at s2 e2
  have tl : (ls.take m).length = m := by rw [List.length_take, ll]; omega
  refine ⟨p, rfl, ⟨_, SqL.of e2⟩, fun D3 hD3 => lc_list (K := K) (a := p) (xs := (ls.take m).map V.int) (fun j H' => Same H2 H' ∧ H' D3 = some (.lst (((List.range j).map fun b => low b - low m).map V.int))) ?_ ?_ ?_ ?_⟩
  · exact ⟨same_new hD3, upd_same⟩
  · rintro j H' _ ⟨s', _⟩
    exact SqL.of (s' _ _ e2)
  · rintro j y H' hy ⟨s', hD'⟩
    have jm : j < m := by
      have := (List.getElem?_eq_some_iff.mp hy).1
      rw [List.length_map, tl] at this
      exact this
    have ey : y = .int (low j) := by
      rw [List.getElem?_map, List.getElem?_take, if_pos jm, (hlow j (by omega)).1] at hy
      exact (Option.some.inj hy).symm
    subst ey
    have elast : atI (ls.map V.int) (-1) = some (.int (low m)) := at_pl (by rw [List.length_map, ll]) (by decide) (by omega) (by
      show (ls.map V.int)[pl m (-1)]? = _
      rw [show pl m (-1) = m from if_pos rfl, List.getElem?_map, (hlow m (Nat.le_refl _)).1]
      rfl)
    refine ⟨rfl, _, rfl, _, rfl, 1, rfl, L, _, -1, _, rfl, rfl, SqL.of ((s2.trans s') _ _ hL1), elast, _, _, rfl, rfl, _, hD', by rw [List.length_map, List.length_map, List.length_range]; exact smallL (by omega), fun b o z => ?_, ?_⟩
    · rw [upd_ne (ne_of_none z hD3)]
      exact s' _ _ z
    · rw [upd_same, List.range_succ, List.map_append, List.map_append]
      rfl
  · rintro H3 ⟨s3, hD⟩
    rw [List.length_map, tl] at hD
    refine ⟨D3, _, rfl, .inl ⟨SqL.of hD, fun t2 ht2 => q t2 _ _ (s1.trans (s2.trans (s3.trans (same_new ht2)))) upd_same ⟨by simp, low, fun a ha => (hlow a ha).2, fun a ha => ?_⟩⟩⟩
    rw [List.getElem?_map, List.getElem?_range ha]
    rfl
end
end Lm

set_option Elab.async false
set_option linter.all false
set_option maxRecDepth 100000
set_option maxHeartbeats 2000000
/-! a region's inputs -/
namespace Lm
open PySem PySem.Spec PyProof.Rows L2 LmR
theorem op_isO {X : Cx} : OpR X (compareOp .Is) (fun x y H Q => ∃ (o : Option Bool) (b : Bool), x = (match o with | none => V.non | some c => V.bl c) ∧ y = .bl b ∧ Q (.bl (decide (o = some b))) H) := by
  intro pins s σ H x y v u Q I rx ry h
  obtain ⟨o, b, rfl, rfl, q⟩ := h
  cases o with
  | some a =>
    refine op_isBl pins s σ H _ _ v u Q I rx ry ⟨a, b, rfl, rfl, ?_⟩
    have e : decide (some a = some b) = decide (a = b) := by cases a <;> cases b <;> rfl
    rw [← e]
    exact q
  | none =>
    cases rx
    cases (show u = Value.bool b from ry)
    exact wpAny_is_other rfl (fun z => nomatch z) ⟨.bl false, H, I, rfl, q⟩
/-- a place that a row may speak of -/
def PlN (ks : List Bool) (a : Nat) : Prop := a = ks.length ∨ ks[a]? = some false
theorem NumAt.pln {ks : List Bool} {i : Int} (h : NumAt ks i) : PlN ks (Lm.pl ks.length i) := by
  rcases h with rfl | ⟨k, rfl, e⟩
  · exact .inl rfl
  · refine .inr ?_
    unfold Lm.pl
    rw [if_neg (by omega)]
    exact e
structure RgK (ks : List Bool) (r : Rg) : Prop where
  e : ∀ e ∈ r.R, PlN ks e.1 ∧ PlN ks e.2.1
  t : ∀ k b, r.T k = some b → ks[k]? = some true
theorem openRg_k (ks : List Bool) : RgK ks openRg := ⟨fun e he => absurd he (by show e ∉ ([] : List Edge); simp), fun k b e => by cases e⟩
theorem nar_k {ks : List Bool} {r : Rg} {q : Qn} (h : RgK ks r) (qo : QOk ks q) (b : Bool) : RgK ks (nar ks.length r q b) := by
  cases q with
  | row i j c =>
    cases b with
    | true =>
      refine ⟨fun e he => ?_, h.t⟩
      rcases List.mem_append.mp he with z | z
      · exact h.e e z
      · rw [List.mem_singleton.mp z]
        exact ⟨qo.1.pln, qo.2.pln⟩
    | false =>
      refine ⟨fun e he => ?_, h.t⟩
      rcases List.mem_append.mp he with z | z
      · exact h.e e z
      · rw [List.mem_singleton.mp z]
        exact ⟨qo.2.pln, qo.1.pln⟩
  | truth k =>
    refine ⟨h.e, fun x c e => ?_⟩
    have e' : (if x = k then some b else r.T x) = some c := e
    split at e'
    · rename_i z
      rw [z]
      exact qo
    · exact h.t x c e'
theorem ct_k {ks : List Bool} {κ : Bool} {r : Rg} {t : List Tk} {e : List En} {d : DT} (h : Ct ks r t e d) : RgOk ks.length r → StOk ks κ t e → RgK ks r → ∀ f r', (f, r') ∈ d.list → RgK ks r' := by
  induction h with
  | @en r t e x t' e' h =>
    intro ok st hk f r' hm
    have e := List.mem_singleton.mp hm
    cases e
    exact hk
  | @qn r t e q t' e' y n h hy hn ihy ihn =>
    intro ok st hk f r' hm
    have w := walk_ok ok (wsz t) t e (Nat.le_refl _) st
    rw [h] at w
    obtain ⟨qo, qn, st', _, _, ev, _⟩ := w
    rcases List.mem_cons.mp hm with z | hm
    · cases z
      exact hk
    rcases List.mem_append.mp hm with hm | hm
    · exact ihy (nar_ok ok qo qn true) st' (nar_k hk qo true) f r' hm
    · exact ihn (nar_ok ok qo qn false) st' (nar_k hk qo false) f r' hm
/-- a region's inputs -/
def ptV (ks : List Bool) (T : Nat → Option Bool) (ns : List Int) : List V := (List.range ks.length).map fun j => if ks.getD j false = true then V.bl (decide (T j = some true)) else .int (ns.getD j 0)
theorem ptV_at {ks : List Bool} {T : Nat → Option Bool} {ns : List Int} {j : Nat} (h : j < ks.length) : (ptV ks T ns)[j]? = some (if ks.getD j false = true then V.bl (decide (T j = some true)) else .int (ns.getD j 0)) := by
  unfold ptV
  rw [List.getElem?_map, List.getElem?_range h]
  rfl
theorem ptV_len (ks : List Bool) (T : Nat → Option Bool) (ns : List Int) : (ptV ks T ns).length = ks.length := by unfold ptV; rw [List.length_map, List.length_range]
theorem ptV_kvs (ks : List Bool) (T : Nat → Option Bool) (ns : List Int) : Kvs ks (ptV ks T ns) := by
  refine ⟨ptV_len _ _ _, fun j k v e1 e2 => ?_⟩
  have hj : j < ks.length := (List.getElem?_eq_some_iff.mp e1).1
  rw [ptV_at hj] at e2
  have eg : ks.getD j false = k := by rw [List.getD_eq_getElem?_getD, e1]; rfl
  rw [eg] at e2
  cases e2
  cases k with
  | true => exact ⟨_, rfl⟩
  | false => exact ⟨_, rfl⟩
theorem ptV_in {ks : List Bool} {r : Rg} {ns : List Int} {low : Nat → Int} (ok : RgOk ks.length r) (hk : RgK ks r) (hl : ns.length = ks.length) (h1 : ∀ a, a ≤ ks.length → IsLow r.D ks.length a (low a)) (h2 : ∀ a, a < ks.length → ns[a]? = some (low a - low ks.length)) : InR (ptV ks r.T ns) r := by
  have pt := point_keeps ok h1 (low ks.length)
  have xs : ∀ a, PlN ks a → xsF (ptV ks r.T ns) a = low a - low ks.length := fun a h => by
    unfold xsF
    rw [ptV_len]
    rcases h with rfl | e
    · rw [if_pos rfl]; omega
    · have ha : a < ks.length := (List.getElem?_eq_some_iff.mp e).1
      rw [if_neg (by omega), List.getD_eq_getElem?_getD, ptV_at ha]
      have eg : ks.getD a false = false := by rw [List.getD_eq_getElem?_getD, e]; rfl
      rw [eg, if_neg Bool.false_ne_true, List.getD_eq_getElem?_getD, h2 a ha]
      rfl
  refine ⟨fun e he => ?_, fun k b e => ?_⟩
  · obtain ⟨p1, p2⟩ := hk.e e he
    rw [xs _ p1, xs _ p2]
    exact pt e he
  · have ek := hk.t k b e
    have hk' : k < ks.length := (List.getElem?_eq_some_iff.mp ek).1
    have eg : ks.getD k false = true := by rw [List.getD_eq_getElem?_getD, ek]; rfl
    rw [List.getD_eq_getElem?_getD, ptV_at hk', eg, if_pos rfl, e]
    cases b <;> rfl
end Lm

set_option Elab.async false
set_option linter.all false
set_option maxRecDepth 100000
set_option maxHeartbeats 2000000
set_option pp.maxSteps 2000
set_option pp.deepTerms.threshold 12
namespace Lm
open PySem PySem.Spec PyProof.Rows L2 LmR RZ
section
variable {P : Program} {w : World} {K : PySem.W.Frag} {mg : Str → Option Value} {base : Heap}
abbrev s_inputs_in : Stmt := topS 30
theorem sc_inputs_in : FnScope ["region", "closed", "facts", "number", "fact"] ["region"] (defScope s_inputs_in) := ⟨rfl, rfl, rfl, by decide +kernel, rfl, by decide +kernel, by decide +kernel⟩
def spIns (K : PySem.W.Frag) : Sp := fun vs H Q _ => ∃ (v : V) (ks : List Bool) (r : Rg), vs = [v] ∧ Fd K H v (rgPD ks r) ∧ ks.length ≤ 100 ∧ RgOk ks.length r ∧ RgK ks r ∧ ∀ (t : Addr) (us : List V) (H' : Hp), Same H H' → H' t = some (.tup us) → Kvs ks us → InR us r → (∃ ns, PtF r.D ks.length ns ∧ us = ptV ks r.T ns) → Q (.ref t) H'
theorem ok_inputs_in (B : Bt mg) (C_point_in : Cal P w K mg base 1 "point_in" ["closed"] (spPin K)) (D : DefAt K mg "inputs_in" s_inputs_in ["region"]) : Cal P w K mg base 2 "inputs_in" ["region"] (spIns K) := by
  refine cal_of D sc_inputs_in (fun vs H Q E h => ?_) (fun f cdv A outer s H vs Q E hr h => ?_)
  · obtain ⟨v, ks, r, rfl, _⟩ := h
    rfl
  obtain ⟨v, ks, r, rfl, hv, hkl, ok, rk, q⟩ := h
  have hr' : Room 1 _ := hr
  refine ⟨_, (pss_cons (ps_asg (pv 0) (pg_tup rfl (pgs_cons (pg_name (i := 1) sc_inputs_in.nd rfl (.inl rfl)) (pgs_cons (pg_name (i := 2) sc_inputs_in.nd rfl (.inl rfl)) pgs_nil))))
      (pss_one (ps_ret (pe_callTy call_tuple_of (by rfl) B.tuple PyProof.Rows.boot_tuple (pa_cons (pe_lc (own := [("number", 3), ("fact", 4)]) (g := gTup K 2 (gCons (gName 3) (gCons (gName 4) gNil))) rfl sc_inputs_in.nd (pi_zipA (by rfl) B.zip (pa_cons (pe_cal C_point_in hr' (by rfl) (pa_cons (pv 1) pa_nil)) (pa_cons (pv 2) pa_nil))) (blkOk_by (own := [("number", 3), ("fact", 4)]) (N := ["region", "closed", "facts", "number", "fact"]) (sc := defScope s_inputs_in) (by decide +kernel)) (fun _ _ _ _ _ => (pg_tupK (K := K) rfl rfl (pgs_cons (pg_name (i := 3) sc_inputs_in.nd rfl (.inl rfl)) (pgs_cons (pg_name (i := 4) sc_inputs_in.nd rfl (.inl rfl)) pgs_nil)))) (fun _ _ _ _ _ => pts_nil) (fun _ _ _ _ _ => (pe_ifExp (pt_val (pe_callB (call_isiK (K := K) rfl) (by rfl) B.isinstance (by decide +kernel) (pa_cons (pv 4) (pa_cons (pe_bltn (v := .ty "tuple") (by rfl) B.tuple PyProof.Rows.boot_tuple rfl) pa_nil)))) (pv 3) (pe_cmpR op_isO (pv 4) pe_bl (nomark _))))) pa_nil))))), ?_⟩
  obtain ⟨a, cv, ft, fs, rfl, ha, hc, hf, hfs⟩ := rg_open hv
  have fl : fs.length = ks.length := by rw [dpS_len hfs, facts_len]
  refine ⟨_, rfl, a, _, rfl, ha, rfl, _, _, rfl, _, _, rfl, rfl, ?_⟩
  refine ⟨_, rfl, cv, r.D, ks.length, rfl, hc, hkl, ok.z, fun pt ns H1 s1 hpt ⟨hnl, low, hlow, hns⟩ => ?_⟩
  have hf1 := Tp.same s1 _ _ hf
  have hpt1 : SqT K H1 pt (ns.map V.int) := .inl (.inl hpt)
  have hfs1 := dps_keep (Tp.same s1) _ _ (factsPD_flat _ _) hfs
  refine ⟨_, rfl, pt, ft, _, _, rfl, .inr ⟨hpt1, hf1, fun D hD => lc_it (walk_zipT (K := K) (a := pt) (b := ft) (xs := ns.map V.int) (ys := fs) (n := ks.length) (by rw [List.length_map, hnl, fl, Nat.min_self])) (fun j H' => Same H1 H' ∧ H' D = some (.lst ((List.range j).map fun j => if ks.getD j false = true then V.bl (decide (r.T j = some true)) else .int (ns.getD j 0)))) ?_ ?_ ?_ ?_⟩⟩
  · exact ⟨same_new hD, upd_same⟩
  · rintro j H' _ ⟨s', _⟩
    exact ⟨Tp.same s' _ _ hpt1, Tp.same s' _ _ hf1⟩
  · rintro j x H2 H3 hj ⟨s', hD'⟩ ⟨T, p, y, rfl, hT, rfl, hp, hy⟩
    have sm2 : Same H2 (upd H2 T (.tup [p, y])) := same_new hT
    refine ⟨T, _, rfl, .inl (.inl upd_same), rfl, _, _, rfl, _, _, rfl, rfl, ?_⟩
    generalize upd H2 T (.tup [p, y]) = H3 at sm2
    obtain ⟨hl, hg⟩ := dpall_getM (factPD ks r.T) hfs1
    obtain ⟨y', ey, dy⟩ := hg j j (List.getElem?_range hj)
    have hy : fs[j]? = some y := hy
    rw [hy] at ey
    cases ey
    have hp : (ns.map V.int)[j]? = some p := hp
    have ep : p = .int (ns.getD j 0) := by
      have hj' : j < ns.length := by omega
      rw [List.getElem?_map, List.getElem?_eq_getElem hj'] at hp
      rw [List.getD_eq_getElem?_getD, List.getElem?_eq_getElem hj']
      exact (Option.some.inj hp).symm
    subst ep
    have dy3 : Fd K H3 y (factPD ks r.T j) := ⟨factPD_flat _ _ _, dp_keep (Tp.same (s'.trans sm2)) _ _ (factPD_flat _ _ _) dy⟩
    have hD3 := sm2 _ _ hD'
    have fin : ∀ u : V, u = (if ks.getD j false = true then V.bl (decide (r.T j = some true)) else .int (ns.getD j 0)) → ∃ acc, H3 D = some (.lst acc) ∧ acc.length < sizeLine ∧ (Same H1 (upd H3 D (.lst (acc ++ [u]))) ∧ (upd H3 D (.lst (acc ++ [u]))) D = some (.lst ((List.range (j + 1)).map fun j => if ks.getD j false = true then V.bl (decide (r.T j = some true)) else .int (ns.getD j 0)))) := fun u hu => by
      refine ⟨_, hD3, by rw [List.length_map, List.length_range]; exact smallL (by omega), fun b o z => ?_, ?_⟩
      · rw [upd_ne (ne_of_none z hD)]
        exact sm2 _ _ (s' _ _ z)
      · rw [upd_same, List.range_succ, List.map_append, hu]
        rfl
    refine ⟨rfl, ?_⟩
    refine ⟨_, rfl, y, _, _, _, _, rfl, .ty _, dy3.ty, kit_tup _ (factPD_flat _ _ _), _, rfl, ?_⟩
    cases eg : ks.getD j false with
    | false =>
      have e1 : factPD ks r.T j = .tuple [.int j, .int 0] := by unfold factPD; rw [eg, if_neg Bool.false_ne_true]
      rw [eg, if_neg Bool.false_ne_true] at fin
      rw [e1]
      exact iteT ⟨_, rfl, fin _ rfl⟩
    | true =>
      have e1 : factPD ks r.T j = obPD (r.T j) := by unfold factPD; rw [eg, if_pos rfl]
      rw [eg, if_pos rfl] at fin
      rw [e1] at dy3
      rw [e1]
      cases et : r.T j with
      | none =>
        rw [et] at dy3 fin
        obtain rfl := fd_non_of (show Fd K H3 y .none from dy3)
        exact iteF ⟨_, rfl, none, true, rfl, rfl, fin _ rfl⟩
      | some b =>
        rw [et] at dy3 fin
        obtain rfl := fd_bl_of (show Fd K H3 y (.bool b) from dy3)
        exact iteF ⟨_, rfl, some b, true, rfl, rfl, fin _ rfl⟩
  · rintro H2 ⟨s2, hD1⟩
    refine ⟨D, _, rfl, .inl ⟨SqL.of hD1, fun t ht => q t (ptV ks r.T ns) _ (s1.trans (s2.trans (same_new ht))) upd_same (ptV_kvs _ _ _) (ptV_in ok rk hnl hlow hns) ⟨ns, ⟨hnl, low, hlow, hns⟩, rfl⟩⟩⟩
end
end Lm

set_option Elab.async false
set_option linter.all false
set_option maxRecDepth 100000
namespace Lm
open PySem PySem.Spec PyProof.Rows L2 LmR
/-! ### a == b, a != b of data without dicts, of any texts -/
def rEqP (K : PySem.W.Frag) : R2 := fun x y H Q => ∃ d e, Dp K H x d ∧ Dp K H y e ∧ d.plain = true ∧ e.plain = true ∧ d.depth ≤ 64 ∧ Q (.bl (PyData.eqv d e)) H
def rNeP (K : PySem.W.Frag) : R2 := fun x y H Q => ∃ d e, Dp K H x d ∧ Dp K H y e ∧ d.plain = true ∧ e.plain = true ∧ d.depth ≤ 64 ∧ Q (.bl (!PyData.eqv d e)) H
theorem op_eqP {X : Cx} (hu : X.A.units + 64 < cLine) : OpR X (compareOp .Eq) (rEqP X.K) := by
  intro pins s σ H x y v u Q I rx ry h
  obtain ⟨d, e, hd, he, sd, se, dd, q⟩ := h
  obtain ⟨as, r1⟩ := Dp.reads I d x v hd rx
  obtain ⟨bs, r2⟩ := Dp.reads I e y u he ry
  exact SeqAt.eq_plain r1 r2 sd se (by omega) ⟨.bl _, H, I, rfl, q⟩
theorem op_neP {X : Cx} (hu : X.A.units + 64 < cLine) : OpR X (compareOp .NotEq) (rNeP X.K) := by
  intro pins s σ H x y v u Q I rx ry h
  obtain ⟨d, e, hd, he, sd, se, dd, q⟩ := h
  obtain ⟨as, r1⟩ := Dp.reads I d x v hd rx
  obtain ⟨bs, r2⟩ := Dp.reads I e y u he ry
  exact SeqAt.ne_plain r1 r2 sd se (by omega) ⟨.bl _, H, I, rfl, q⟩
mutual
theorem plain_flat : ∀ d : PyData, flat d = true → d.plain = true
  | .none, _ => rfl
  | .bool _, _ => rfl
  | .int _, _ => rfl
  | .str _, _ => rfl
  | .list _, h => by simp [flat] at h
  | .tuple xs, h => plains_flat xs h
  | .dict _, h => by simp [flat] at h
theorem plains_flat : ∀ ds : List PyData, flat.flats ds = true → PyData.plainAll ds = true
  | [], _ => rfl
  | d :: ds, h => by
    rw [flat.flats, Bool.and_eq_true] at h
    show (d.plain && PyData.plainAll ds) = true
    rw [plain_flat d h.1, plains_flat ds h.2]; rfl
end
end Lm

set_option Elab.async false
set_option linter.all false
set_option maxRecDepth 100000
set_option maxHeartbeats 2000000
set_option pp.maxSteps 2000
set_option pp.deepTerms.threshold 12
namespace Lm
open PySem PySem.Spec PyProof.Rows L2 LmR RZ LmG
theorem frPD_depth (f : Fr) : (PyData.tuple (frPD f)).depth ≤ 64 := by
  cases f with
  | qn q => cases q with
    | row i j c => exact Nat.le_of_ble_eq_true rfl
    | truth k => exact Nat.le_of_ble_eq_true rfl
  | en x => cases x with
    | num i c => exact Nat.le_of_ble_eq_true rfl
    | tr b => exact Nat.le_of_ble_eq_true rfl
def isF : Fr → Bool
  | .en (.tr false) => true
  | _ => false
theorem eqv_end (f : Fr) : PyData.eqv (.tuple (frPD f)) (.tuple [.str "end", .bool false]) = isF f := by
  cases f with
  | qn q => cases q with
    | row i j c => rfl
    | truth k => rfl
  | en x => cases x with
    | num i c => rfl
    | tr b => cases b <;> rfl
theorem all_true {ks : List Bool} {us : List V} : ∀ d : DT, d.Fits ks true → (∀ z ∈ d.list, isF z.1 = false) → d.val us = .bl true
  | .en r x, h, n => by
    obtain ⟨b, rfl⟩ := enOk_tr (show EnOk ks x true from h)
    have := n (.en (.tr b), r) (List.mem_singleton.mpr rfl)
    cases b with
    | true => rfl
    | false => cases this
  | .qn r q y z, h, n => by
    show (if ansAt us q = true then y.val us else z.val us) = .bl true
    split
    · exact all_true y h.2.1 fun x hx => n x (List.mem_cons_of_mem _ (List.mem_append_left _ hx))
    · exact all_true z h.2.2 fun x hx => n x (List.mem_cons_of_mem _ (List.mem_append_right _ hx))
/-- what is told where it fails: of the first case that does -/
def FailR (ks : List Bool) (p : Pg) (us : List V) : Prop := ∃ (d : DT) (i : Nat) (z : Fr × Rg) (ns : List Int), Ct ks openRg [.pg p] [] d ∧ d.list[i]? = some z ∧ isF z.1 = true ∧ (∀ y ∈ d.list.take i, isF y.1 = false) ∧ PtF z.2.D ks.length ns ∧ us = ptV ks z.2.T ns
theorem fail_one {ks : List Bool} {p : Pg} {us us' : List V} (h : FailR ks p us) (h' : FailR ks p us') : us = us' := by
  obtain ⟨d, i, z, ns, c1, e1, f1, n1, q1, rfl⟩ := h
  obtain ⟨d', i', z', ns', c2, e2, f2, n2, q2, rfl⟩ := h'
  have ed := ct_one c1 d' c2
  subst ed
  have key : ∀ (a b : Nat) (x y : Fr × Rg), d'.list[a]? = some x → d'.list[b]? = some y → isF x.1 = true → (∀ w ∈ d'.list.take b, isF w.1 = false) → ¬ a < b := fun a b x y ea eb fx nb hlt => by
    have hm : x ∈ d'.list.take b := List.mem_of_getElem? (by rw [List.getElem?_take, if_pos hlt]; exact ea)
    rw [nb x hm] at fx
    cases fx
  have ei : i = i' := by
    have k1 := key i i' z z' e1 e2 f1 n2
    have k2 := key i' i z' z e2 e1 f2 n1
    omega
  subst ei
  rw [e1] at e2
  cases e2
  rw [pt_one q1 q2]
section
variable {P : Program} {w : World} {K : PySem.W.Frag} {mg : Str → Option Value} {base : Heap}
abbrev s_always : Stmt := topS 55
theorem sc_always : FnScope ["kinds", "program", "everywhere", "fronts", "front", "region"] ["kinds", "program"] (defScope s_always) := ⟨rfl, rfl, rfl, by decide +kernel, rfl, by decide +kernel, by decide +kernel⟩
def spAlways (K : PySem.W.Frag) : Sp := fun vs H Q _ => ∃ (ka : Addr) (pz : V) (ks : List Bool) (p : Pg), vs = [.ref ka, pz] ∧ SqT K H ka (ksV ks) ∧ At K H pz p ∧ Wk ks p ∧ own ks p = true ∧ FewT ks p ∧ ks.length ≤ 100 ∧
  (∀ (a : Addr) (u : V) (H' : Hp) (d : DT), Same H H' → H' a = some (.tup [.str "sure", u]) → Ct ks openRg [.pg p] [] d → d.Fits ks true → Fd K H' u (trPD d) → (∀ us, Kvs ks us → pval us p = .bl true) → (∀ us, Kvs ks us → d.val us = .bl true) → Q (.ref a) H') ∧
  (∀ (a t : Addr) (us : List V) (H' : Hp), Same H H' → H' a = some (.tup [.str "fails", .ref t]) → H' t = some (.tup us) → Kvs ks us → pval us p = .bl false → FailR ks p us → Q (.ref a) H')
theorem ok_always (B : Bt mg) (C_open_region : Cal P w K mg base 2 "open_region" ["kinds"] (spOpenR K)) (C_grown : Cal P w K mg base 2 "grown" ["fronts"] (spGrown K)) (C_inputs_in : Cal P w K mg base 2 "inputs_in" ["region"] (spIns K)) (C_cases_of : CalD P w K mg base 6 "cases_of" ["program", "region"] (spCases K)) (D : DefAt K mg "always" s_always ["kinds", "program"]) : Cal P w K mg base 7 "always" ["kinds", "program"] (spAlways K) := by
  refine cal_of D sc_always (fun vs H Q E h => ?_) (fun f cdv A outer s H vs Q E hr h => ?_)
  · obtain ⟨ka, pz, ks, p, rfl, _⟩ := h
    rfl
  obtain ⟨ka, pz, ks, p, rfl, hk, hp, hw, ho, hz, hkl, qS, qF⟩ := h
  have hr' : Room 6 _ := hr
  have C_open_region := C_open_region.mono (k := 6) (by decide)
  have C_grown := C_grown.mono (k := 6) (by decide)
  have C_inputs_in := C_inputs_in.mono (k := 6) (by decide)
  refine ⟨_, (pss_cons (ps_set (i := 2) sc_always.nd rfl (.inl rfl) (pe_cal C_open_region hr' (by rfl) (pa_cons (pv 0) pa_nil)))
      (pss_cons (ps_set (i := 3) sc_always.nd rfl (.inl rfl) (pe_lst pa_nil))
      (pss_cons (ps_forG rfl PassesOwn.never (xp_nox fun _ _ z => z) (pix_cal rfl C_cases_of hr' (by rfl) (pa_cons (pv 1) (pa_cons (pv 2) pa_nil))) (pg_tup rfl (pgs_cons (pg_name (i := 4) sc_always.nd rfl (.inl rfl)) (pgs_cons (pg_name (i := 5) sc_always.nd rfl (.inl rfl)) pgs_nil)))
        (pss_cons (ps_if (pt_cmpR (op_eqP hr.units) (pv 4) (pe_tup (pa_cons pe_str (pa_cons pe_bl pa_nil))) (nomark _))
        (pss_one (ps_ret (pe_tup (pa_cons pe_str (pa_cons (pe_cal C_inputs_in hr' (by rfl) (pa_cons (pv 5) pa_nil)) pa_nil)))))
        pss_nil)
      (pss_one (ps_expr (pe_bm PySem.F.plainAttrs_list PySem.F.slot_list_append PySem.F.type_list_append mt_append (pv 3) (pa_cons (pv 4) pa_nil))))))
      (pss_one (ps_ret (pe_tup (pa_cons pe_str (pa_cons (pe_cal C_grown hr' (by rfl) (pa_cons (pv 3) pa_nil)) pa_nil)))))))), ?_⟩
  obtain ⟨d, hd, hf, hlen'⟩ := hz
  rw [ho] at hf
  have hl2 : d.list.length < sizeLine := Nat.lt_of_lt_of_le hlen' (by decide)
  refine ⟨_, rfl, ka, ks, rfl, hk, hkl, fun v0 H1 s1 h0 => ?_⟩
  refine ⟨(by show 0 ≤ sizeLine; decide), fun D hD => ?_⟩
  have s2 := same_new (o := .lst []) hD
  have e2 : (upd H1 D (.lst [])) D = some (.lst []) := upd_same
  generalize upd H1 D (.lst []) = H2 at s2 e2
  have s02 := s1.trans s2
  refine ⟨_, rfl, _, rfl, pz, v0, ks, p, openRg, d, rfl, hp.keep (Tp.same s02), h0.same s2, hw, openRg_ok _, hkl, Nat.le_of_lt hl2, hd, fun Hc sc => ?_⟩
  refine ⟨fun i m σ' H' => (∃ y4 y5 : Option V, σ' = [some (.ref ka), some pz, some v0, some (.ref D), y4, y5]) ∧ i ≤ d.list.length ∧ m = d.list.length - i ∧ Same H1 H' ∧ (∃ acc, H' D = some (.lst acc) ∧ DpAll K H' acc ((d.list.take i).map fun z => PyData.tuple (frPD z.1))) ∧ ∀ z ∈ d.list.take i, isF z.1 = false, ⟨_, ⟨_, _, rfl⟩, Nat.zero_le _, rfl, s2.trans sc, ⟨[], sc _ _ e2, .nil⟩, fun z hz => by rw [List.take_zero] at hz; cases hz⟩, ?_⟩
  rintro i m σ' H' ⟨⟨y4, y5, rfl⟩, hi, rfl, s', ⟨acc, hA, hP⟩, hn⟩
  have al : acc.length = i := by rw [dpS_len hP, List.length_map, List.length_take]; omega
  by_cases hlt : i < d.list.length
  · refine .inr ⟨fun z => absurd z (by omega), fun x H3 y => ?_⟩
    obtain ⟨gk, Hg, ⟨z, ez, hz'⟩, tps⟩ := y
    have hz2 := hz'.keep (Tp.tps tps)
    have s3 : Same H1 H3 := gk.same s2 s'
    have hA3 : H3 D = some (.lst acc) := gk.1 _ _ hA fun φ w => nomatch w
    obtain ⟨xa, fv, rv, rfl, hxa, g1, g2⟩ := fd_two (show Fd K H3 x (.tuple [.tuple (frPD z.1), rgPD ks z.2]) from hz2)
    refine ⟨fun σ3 H4 => Tps H3 H4 ∧ ((∃ y4 y5 : Option V, σ3 = [some (.ref ka), some pz, some v0, some (.ref D), y4, y5]) ∧ i + 1 ≤ d.list.length ∧ Same H1 H4 ∧ (∃ acc, H4 D = some (.lst acc) ∧ DpAll K H4 acc ((d.list.take (i + 1)).map fun z => PyData.tuple (frPD z.1))) ∧ ∀ z ∈ d.list.take (i + 1), isF z.1 = false), fun σ3 H4 h3 => ⟨h3.1, d.list.length - (i + 1), by omega, h3.2.1, h3.2.2.1, rfl, h3.2.2.2⟩, ?_⟩
    refine ⟨xa, _, rfl, hxa, rfl, _, _, rfl, _, _, rfl, rfl, ?_⟩
    refine ⟨_, rfl, len2, fun tt htt => ?_⟩
    refine al2 (K := K) (fd_str "end") (fd_b false) htt fun H4 s4 h4 => ?_
    have g1' := g1.same s4
    refine ⟨_, _, g1'.2, h4.2, plain_flat _ g1'.1, plain_flat _ h4.1, ?_, ?_⟩
    · exact frPD_depth z.1
    refine ⟨_, rfl, ?_⟩
    rw [eqv_end]
    cases hF : isF z.1 with
    | true =>
      have hmem : z ∈ d.list := List.mem_of_getElem? ez
      have hst : StOk ks true [.pg p] [] := ho ▸ pg_stOk hw
      have rk := ct_k hd (openRg_ok _) hst (openRg_k ks) z.1 z.2 hmem
      have ez1 : z.1 = .en (.tr false) := by
        cases e : z.1 with
        | qn q => rw [e] at hF; cases hF
        | en x => cases x with
          | num i c => rw [e] at hF; cases hF
          | tr b => cases b with
            | true => rw [e] at hF; cases hF
            | false => rfl
      refine iteT ⟨_, rfl, rv, ks, z.2, rfl, g2.same s4, hkl, (ct_node (us := ptV ks z.2.T []) (ptV_kvs _ _ _) hd (openRg_ok _) hst z.1 z.2 hmem).1, rk, fun t us H5 s5 h5 hu hin ⟨ns, hpt, eus⟩ => ⟨len2, fun a ha => ?_⟩⟩
      refine qF a t us _ ((s1.trans (s3.trans (s4.trans s5))).trans (same_new ha)) upd_same (same_new ha _ _ h5) hu ?_ ⟨d, i, z, ns, hd, ez, hF, hn, hpt, eus⟩
      obtain ⟨i1, i2⟩ := (ct_node hu hd (openRg_ok _) hst z.1 z.2 hmem).2 hin
      have e : d.val us = pval us p := ct_val (κ := own ks p) hu hd (openRg_ok _) (pg_stOk hw) (openRg_in us)
      rw [← e]
      exact i2 _ ez1
    | false =>
      have hA4 := s4 _ _ hA3
      have tl : Tp K H4 (upd H4 D (.lst (acc ++ [fv]))) := Tp.lst hA4
      have fm : ∀ l : List (Fr × Rg), flat.flats (l.map fun z => PyData.tuple (frPD z.1)) = true := fun l => flats_map (fun z : Fr × Rg => PyData.tuple (frPD z.1)) (fun z => frPD_flat z.1) l
      refine iteF ⟨_, rfl, .inl ⟨rfl, _, SqL.of hA4⟩, _, rfl, D, acc, fv, rfl, rfl, hA4, by omega, (Tps.same s4).trans (Tps.lst hA4), ⟨_, _, rfl⟩, hlt, fun b o e => ?_, ⟨acc ++ [fv], upd_same, ?_⟩, fun y hy => ?_⟩
      · rw [upd_ne (ne_of_none e hD)]
        exact s4 _ _ (s3 _ _ e)
      · rw [List.take_add_one, ez, List.map_append]
        exact dpS_app (dps_keep (((GKeep.tp gk).trans (Tp.same s4)).trans tl) _ _ (fm _) hP) (.cons (dp_keep tl _ _ (frPD_flat z.1) g1'.2) .nil)
      · rw [List.take_add_one, ez] at hy
        rcases List.mem_append.mp hy with w | w
        · exact hn y w
        · rw [List.mem_singleton.mp w]
          exact hF
  · have ei : i = d.list.length := by omega
    subst ei
    refine .inl ⟨fun x Hg y => ?_, fun H3 gk => ?_⟩
    · obtain ⟨z, ez, _⟩ := y
      rw [List.getElem?_eq_none (Nat.le_refl _)] at ez
      cases ez
    · rw [List.take_length] at hP hn
      have fm : ∀ l : List (Fr × Rg), flat.flats (l.map fun z => PyData.tuple (frPD z.1)) = true := fun l => flats_map (fun z : Fr × Rg => PyData.tuple (frPD z.1)) (fun z => frPD_flat z.1) l
      have hP2 := dps_keep (GKeep.tp gk) _ _ (fm _) hP
      rw [dt_fronts d] at hP2
      have hl3 : d.ft.list.length < sizeLine := by
        have z := congrArg List.length (dt_fronts d)
        rw [List.length_map, List.length_map] at z
        omega
      refine ⟨_, rfl, D, acc, d.ft, rfl, gk.1 _ _ hA fun φ w => (nomatch w), hP2, dt_ftOk d, hl3, fun v H4 s4 h4 => ⟨len2, fun a ha => ?_⟩⟩
      have hv : ∀ us, Kvs ks us → d.val us = .bl true := fun us _ => all_true d hf hn
      refine qS a v _ d ((s1.trans ((gk.same s2 s').trans s4)).trans (same_new ha)) upd_same hd hf (h4.same (same_new ha)) (fun us hu => ?_) hv
      have e : d.val us = pval us p := ct_val (κ := own ks p) hu hd (openRg_ok _) (pg_stOk hw) (openRg_in us)
      rw [← e]
      exact hv us hu
end
end Lm

set_option Elab.async false
set_option linter.all false
set_option maxRecDepth 100000
set_option maxHeartbeats 2000000
set_option pp.maxSteps 2000
set_option pp.deepTerms.threshold 12
namespace Lm
open PySem PySem.Spec PyProof.Rows L2 LmR RZ LmG
/-- a tree's knot, opened: what it begins with, then its branches -/
def DT.front : DT → List PyData
  | .en _ x => frPD (.en x)
  | .qn _ q _ _ => qnPD q
def DT.brs : DT → List DT
  | .en _ _ => []
  | .qn _ _ y n => [y, n]
theorem tr_eq (d : DT) : trPD d = .tuple (d.front ++ d.brs.map trPD) := by
  cases d with
  | en r x => rfl
  | qn r q y n => rfl
theorem tr_flat (d : DT) : flat (trPD d) = true := ft_flat _ (dt_ftOk d)
/-- FRONTS stands at d -/
structure FrontsG (K : PySem.W.Frag) (w : World) (mg : Str → Option Value) (d : Addr) : Prop where
  g : mg "FRONTS" = some (.ref d)
  e : KDct K w d "end" (.int 2)
  r : KDct K w d "row" (.int 4)
  t : KDct K w d "truth" (.int 2)
def DT.wd : DT → Str
  | .en _ _ => "end"
  | .qn _ (.row _ _ _) _ _ => "row"
  | .qn _ (.truth _) _ _ => "truth"
theorem FrontsG.at {K : PySem.W.Frag} {w : World} {mg : Str → Option Value} {a : Addr} (F : FrontsG K w mg a) (d : DT) : KDct K w a d.wd (.int d.front.length) := by
  cases d with
  | en r x => exact F.e
  | qn r q y n => cases q with
    | row i j c => exact F.r
    | truth k => exact F.t
theorem dt_wd (d : DT) : ∃ r, d.front = .str d.wd :: r := by
  cases d with
  | en r x => exact ⟨_, rfl⟩
  | qn r q y n => cases q <;> exact ⟨_, rfl⟩
theorem tr_open {K : PySem.W.Frag} {H : Hp} {v : V} {d : DT} (h : Fd K H v (trPD d)) : ∃ a fs bs, v = .ref a ∧ SqT K H a (.str d.wd :: fs ++ bs) ∧ DpAll K H (.str d.wd :: fs) d.front ∧ DpAll K H bs (d.brs.map trPD) ∧ fs.length + 1 = d.front.length := by
  obtain ⟨_, h⟩ := h
  rw [tr_eq] at h
  cases h with
  | @tup a xs _ q r =>
    have l := dpS_len r
    rw [List.length_append] at l
    have r1 := dpS_take d.front.length r
    have r2 := dpS_drop d.front.length r
    rw [List.take_left] at r1
    rw [List.drop_left] at r2
    have e0 : xs = xs.take d.front.length ++ xs.drop d.front.length := (List.take_append_drop _ _).symm
    have lt := dpS_len r1
    obtain ⟨fr, efr⟩ := dt_wd d
    generalize xs.take d.front.length = ts at e0 r1 lt
    generalize xs.drop d.front.length = bs at e0 r2
    rw [efr] at r1 lt
    cases r1 with
    | cons a1 a2 =>
      cases a1
      rename_i fs
      refine ⟨a, fs, bs, rfl, e0 ▸ q, by rw [efr]; exact .cons (.str _) a2, r2, by rw [efr]; exact lt⟩
section
variable {P : Program} {w : World} {K : PySem.W.Frag} {mg : Str → Option Value} {base : Heap}
end
end Lm

set_option Elab.async false
set_option linter.all false
set_option maxRecDepth 100000
set_option maxHeartbeats 4000000
set_option pp.maxSteps 2000
set_option pp.deepTerms.threshold 12
namespace Lm
open PySem PySem.Spec PyProof.Rows L2 LmR RZ LmG
theorem pval_psub (us : List V) (ss : List Pg) : ∀ p : Pg, Low ss.length p → pval us (psub ss p) = pval (ss.map (pval us)) p
  | .inp k, h => by
    have hk : k < ss.length := h
    show pval us (ss.getD k (.inp k)) = (ss.map (pval us)).getD k .non
    rw [List.getD_eq_getElem?_getD, List.getD_eq_getElem?_getD, List.getElem?_map, List.getElem?_eq_getElem hk]
    rfl
  | .num _, _ => rfl
  | .tr _, _ => rfl
  | .plus c a, h => by show V.int (iv (pval us (psub ss a)) + c) = V.int (iv (pval _ a) + c); rw [pval_psub us ss a h]
  | .bin w a b, h => by show bval w (pval us (psub ss a)) (pval us (psub ss b)) = bval w (pval _ a) (pval _ b); rw [pval_psub us ss a h.1, pval_psub us ss b h.2]
  | .neg a, h => by show V.bl (!bv (pval us (psub ss a))) = V.bl (!bv (pval _ a)); rw [pval_psub us ss a h]
  | .ite p a b, h => by
    show (if bv (pval us (psub ss p)) = true then pval us (psub ss a) else pval us (psub ss b)) = (if bv (pval _ p) = true then pval _ a else pval _ b)
    rw [pval_psub us ss p h.1, pval_psub us ss a h.2.1, pval_psub us ss b h.2.2]

theorem ex_seqW {K : PySem.W.Frag} {H H' : Hp} {f a : Addr} {xs : List V} (hf : H f = none) (ex : Ex [f] H H') (h : SqL K H a xs) : SqL K H' a xs := by
  rcases h with (h | ⟨o, h⟩) | h
  · exact .inl (.inl (ex _ _ h (by simp [ne_of_none h hf])))
  · exact .inl (.inr ⟨o, ex _ _ h (by simp [ne_of_none h hf])⟩)
  · exact .inr h
theorem inps_pval (us : List V) : (inps us.length).map (pval us) = us := by
  unfold inps
  rw [List.map_map]
  apply List.ext_getElem
  · rw [List.length_map, List.length_range]
  · intro i h1 h2
    rw [List.getElem_map, List.getElem_range]
    show us.getD i .non = us[i]
    rw [List.getD_eq_getElem?_getD, List.getElem?_eq_getElem h2]
    rfl
theorem inps_own (ks : List Bool) : (inps ks.length).map (own ks) = ks := by
  unfold inps
  rw [List.map_map]
  apply List.ext_getElem
  · rw [List.length_map, List.length_range]
  · intro i h1 h2
    rw [List.getElem_map, List.getElem_range]
    show ks.getD i false = ks[i]
    rw [List.getD_eq_getElem?_getD, List.getElem?_eq_getElem h2]
    rfl
theorem inps_mem {n : Nat} {s : Pg} (h : s ∈ inps n) : ∃ k, k < n ∧ s = .inp k := by
  unfold inps at h
  obtain ⟨k, hk, rfl⟩ := List.mem_map.mp h
  exact ⟨k, List.mem_range.mp hk, rfl⟩
theorem kvs_snoc {ks : List Bool} {us : List V} {k : Bool} {v : V} (h : Kvs ks us) (hv : Kv k v) : Kvs (ks ++ [k]) (us ++ [v]) := by
  refine ⟨by rw [List.length_append, List.length_append, h.1]; rfl, fun j c u h1 h2 => ?_⟩
  by_cases z : j < ks.length
  · rw [List.getElem?_append_left z] at h1
    rw [List.getElem?_append_left (by rw [h.1]; exact z)] at h2
    exact h.2 j c u h1 h2
  · have zl := (List.getElem?_eq_some_iff.mp h1).1
    rw [List.length_append] at zl
    have : j = ks.length := by have : j < ks.length + 1 := zl; omega
    subst this
    rw [List.getElem?_append_right (Nat.le_refl _), Nat.sub_self] at h1
    rw [← h.1, List.getElem?_append_right (Nat.le_refl _), Nat.sub_self] at h2
    cases h1
    cases h2
    exact hv
theorem psub_dep (m : Nat) (ss : List Pg) (h1 : 1 ≤ m) (hm : ∀ s ∈ ss, dep s ≤ m) : ∀ p : Pg, dep (psub ss p) ≤ m + dep p - 1
  | .inp k => by
    simp only [psub, dep]
    rw [List.getD_eq_getElem?_getD]
    cases e : ss[k]? with
    | none => show 1 ≤ m + 1 - 1; omega
    | some s => have := hm s (List.mem_of_getElem? e); show dep s ≤ m + 1 - 1; omega
  | .num c => by simp only [psub, dep]; omega
  | .tr b => by simp only [psub, dep]; omega
  | .plus c a => by
    have := psub_dep m ss h1 hm a; have := dep_pos a
    simp only [psub, dep]; omega
  | .bin w a b => by
    have := psub_dep m ss h1 hm a; have := psub_dep m ss h1 hm b; have := dep_pos a; have := dep_pos b
    simp only [psub, dep]; omega
  | .neg a => by
    have := psub_dep m ss h1 hm a; have := dep_pos a
    simp only [psub, dep]; omega
  | .ite p a b => by
    have := psub_dep m ss h1 hm a; have := psub_dep m ss h1 hm b; have := psub_dep m ss h1 hm p; have := dep_pos a; have := dep_pos b; have := dep_pos p
    simp only [psub, dep]; omega
/-- how often a program asks the n-th input -/
def ansN (n : Nat) : Pg → Nat
  | .inp k => if k = n then 1 else 0
  | .num _ => 0
  | .tr _ => 0
  | .plus _ a => ansN n a
  | .bin _ a b => ansN n a + ansN n b
  | .neg a => ansN n a
  | .ite p a b => ansN n p + ansN n a + ansN n b
theorem ansN_le (n : Nat) : ∀ p : Pg, 3 * ansN n p ≤ 2 * psz p + 1
  | .inp k => by
    show 3 * (if k = n then 1 else 0) ≤ 2 * 1 + 1
    split <;> omega
  | .num _ => by show 3 * 0 ≤ _; omega
  | .tr _ => by show 3 * 0 ≤ _; omega
  | .plus c a => by have := ansN_le n a; simp only [ansN, psz]; omega
  | .bin w a b => by have := ansN_le n a; have := ansN_le n b; simp only [ansN, psz]; omega
  | .neg a => by have := ansN_le n a; simp only [ansN, psz]; omega
  | .ite p a b => by have := ansN_le n a; have := ansN_le n b; have := ansN_le n p; simp only [ansN, psz]; omega
theorem ansN_none {ks : List Bool} : ∀ p : Pg, Wk ks p → ansN ks.length p = 0
  | .inp k, h => by
    have : k < ks.length := h
    show (if k = ks.length then 1 else 0) = 0
    rw [if_neg (by omega)]
  | .num _, _ => rfl
  | .tr _, _ => rfl
  | .plus c a, h => ansN_none a h.1
  | .bin w a b, h => by show ansN _ a + ansN _ b = 0; rw [ansN_none a h.1, ansN_none b h.2.1]
  | .neg a, h => ansN_none a h.1
  | .ite p a b, h => by show ansN _ p + ansN _ a + ansN _ b = 0; rw [ansN_none p h.1, ansN_none a h.2.1, ansN_none b h.2.2.1]
theorem inps_get {n k : Nat} (q : Pg) (h : k < n + 1) : (inps n ++ [q]).getD k (.inp k) = if k = n then q else .inp k := by
  have il : (inps n).length = n := by unfold inps; rw [List.length_map, List.length_range]
  rw [List.getD_eq_getElem?_getD]
  by_cases z : k = n
  · rw [if_pos z, List.getElem?_append_right (by omega), il, z, Nat.sub_self]
    rfl
  · rw [if_neg z, List.getElem?_append_left (by omega)]
    unfold inps
    rw [List.getElem?_map, List.getElem?_range (by omega)]
    rfl
theorem psub_cc {n : Nat} (q : Pg) : ∀ p : Pg, Low (n + 1) p → ccp (psub (inps n ++ [q]) p) ≤ ccp p + ansN n p * ccp q
  | .inp k, h => by
    show ccp ((inps n ++ [q]).getD k (.inp k)) ≤ 0 + (if k = n then 1 else 0) * ccp q
    rw [inps_get q h]
    by_cases z : k = n
    · rw [if_pos z, if_pos z]; omega
    · rw [if_neg z, if_neg z]; show 0 ≤ _; omega
  | .num _, _ => Nat.zero_le _
  | .tr _, _ => Nat.zero_le _
  | .plus c a, h => psub_cc q a h
  | .bin w a b, h => by
    have := psub_cc q a h.1; have := psub_cc q b h.2
    simp only [psub, ccp, ansN, Nat.add_mul]; omega
  | .neg a, h => psub_cc q a h
  | .ite p a b, h => by
    have := psub_cc q a h.2.1; have := psub_cc q b h.2.2; have := psub_cc q p h.1
    simp only [psub, ccp, ansN, Nat.add_mul]; omega
theorem wk_more {ks : List Bool} {k : Bool} : ∀ p : Pg, Wk ks p → Wk (ks ++ [k]) p ∧ own (ks ++ [k]) p = own ks p
  | .inp i, h => by
    have h : i < ks.length := h
    refine ⟨by show i < (ks ++ [k]).length; rw [List.length_append]; exact Nat.lt_of_lt_of_le h (Nat.le_add_right _ _), ?_⟩
    show (ks ++ [k]).getD i false = ks.getD i false
    rw [List.getD_eq_getElem?_getD, List.getD_eq_getElem?_getD, List.getElem?_append_left h]
  | .num _, _ => ⟨trivial, rfl⟩
  | .tr _, _ => ⟨trivial, rfl⟩
  | .plus c a, h => by
    have x := wk_more (k := k) a h.1
    exact ⟨⟨x.1, x.2.trans h.2⟩, rfl⟩
  | .bin w a b, h => by
    have x := wk_more (k := k) a h.1; have y := wk_more (k := k) b h.2.1
    exact ⟨⟨x.1, y.1, x.2.trans h.2.2.1, y.2.trans h.2.2.2⟩, rfl⟩
  | .neg a, h => by
    have x := wk_more (k := k) a h.1
    exact ⟨⟨x.1, x.2.trans h.2⟩, rfl⟩
  | .ite p a b, h => by
    have x := wk_more (k := k) p h.1; have y := wk_more (k := k) a h.2.1; have z := wk_more (k := k) b h.2.2.1
    exact ⟨⟨x.1, y.1, z.1, x.2.trans h.2.2.2.1, by rw [z.2, y.2]; exact h.2.2.2.2⟩, y.2⟩
section
variable {P : Program} {w : World} {K : PySem.W.Frag} {mg : Str → Option Value} {base : Heap}
abbrev s_meets : Stmt := topS 58
theorem sc_meets : FnScope ["head", "wish", "program"] ["head", "wish", "program"] (defScope s_meets) := ⟨rfl, rfl, rfl, by decide +kernel, rfl, by decide +kernel, by decide +kernel⟩
def spMeets (K : PySem.W.Frag) : Sp := fun vs H Q _ => ∃ (h ka : Addr) (v1 v2 : V) (ks : List Bool) (κ : Bool) (p q : Pg), vs = [.ref h, v1, v2] ∧ SqT K H h [.ref ka, .str (kS κ)] ∧ SqT K H ka (kVs ks) ∧ ks.length ≤ 100 ∧ At K H v1 p ∧ At K H v2 q ∧ Wk (ks ++ [κ]) p ∧ own (ks ++ [κ]) p = true ∧ Wk ks q ∧ own ks q = κ ∧ psz p ≤ 10000 ∧ FewT ks (psub (inps ks.length ++ [q]) p) ∧
  (∀ (a : Addr) (u : V) (H' : Hp) (d : DT), Same H H' → H' a = some (.tup [.str "sure", u]) → d.Fits ks true → Fd K H' u (trPD d) → (∀ us, Kvs ks us → pval us (psub (inps ks.length ++ [q]) p) = .bl true) → (∀ us, Kvs ks us → d.val us = .bl true) → Q (.ref a) H') ∧
  (∀ (a t : Addr) (us : List V) (H' : Hp), Same H H' → H' a = some (.tup [.str "fails", .ref t]) → H' t = some (.tup us) → Kvs ks us → pval us (psub (inps ks.length ++ [q]) p) = .bl false → Q (.ref a) H')
theorem met_wk {ks : List Bool} {κ : Bool} {p q : Pg} (hp : Wk (ks ++ [κ]) p) (hq : Wk ks q) (ho : own ks q = κ) : Wk ks (psub (inps ks.length ++ [q]) p) ∧ own ks (psub (inps ks.length ++ [q]) p) = own (ks ++ [κ]) p := by
  have il : (inps ks.length).length = ks.length := by unfold inps; rw [List.length_map, List.length_range]
  have sl : (inps ks.length ++ [q]).length = (ks ++ [κ]).length := by rw [List.length_append, il, List.length_append]; rfl
  have so : (inps ks.length ++ [q]).map (own ks) = ks ++ [κ] := by rw [List.map_append, inps_own]; show ks ++ [own ks q] = _; rw [ho]
  have sw : ∀ s ∈ inps ks.length ++ [q], Wk ks s := fun s hs => by
    rcases List.mem_append.mp hs with z | z
    · obtain ⟨c, hc, rfl⟩ := inps_mem z
      exact hc
    · rw [List.mem_singleton.mp z]; exact hq
  exact ⟨psub_wk (ks ++ [κ]) ks _ sl so sw p hp, psub_own (ks ++ [κ]) ks _ sl so p hp⟩
theorem ok_meets (B : Bt mg) (C_always : Cal P w K mg base 7 "always" ["kinds", "program"] (spAlways K)) (C_met_by : CalK0 P w K mg base 5 "met_by" ["wish", "program", "many"] 2 ["many"] (spMet K)) (D : DefAt K mg "meets" s_meets ["head", "wish", "program"]) : Cal P w K mg base 8 "meets" ["head", "wish", "program"] (spMeets K) := by
  refine cal_of D sc_meets (fun vs H Q E h => ?_) (fun f cdv A outer s H vs Q E hr h => ?_)
  · obtain ⟨h, ka, v1, v2, ks, κ, p, q, rfl, _⟩ := h
    rfl
  obtain ⟨h, ka, v1, v2, ks, κ, p, q, rfl, hh, hk, hkl, h1, h2, wp, op, wq, oq, hz, few, q1, q2⟩ := h
  have hr' : Room 7 _ := hr
  have hr'' := hr'
  have C_met_by := C_met_by.mono (k := 7) (by decide)
  refine ⟨_, (pss_one (ps_ret (pe_cal C_always hr' (by rfl) (pa_cons (pe_ix ix_tup (pv 0) pe_int (fun _ _ => rfl)) (pa_cons (pe_calK0 C_met_by hr' (by rfl) (pa_cons (pv 1) (pa_cons (pv 2) pa_nil)) (pk_cons (pe_callB call_len_seq (by rfl) B.len PySem.boot_len (pa_cons (pe_ix ix_tup (pv 0) pe_int (fun _ _ => rfl)) pa_nil)) pk_nil)) pa_nil))))), ?_⟩
  have kl : (kVs ks).length = ks.length := List.length_map _
  obtain ⟨mw, mo⟩ := met_wk wp wq oq
  have low : Low ((kVs ks).length + 1) p := by
    have z := wk_low p wp
    rw [List.length_append] at z
    rw [kl]
    exact z
  refine ⟨_, rfl, h, _, 0, _, rfl, rfl, hh, at_of (j := 0) rfl rfl, _, rfl, _, rfl, _, rfl, h, _, 0, _, rfl, rfl, hh, at_of (j := 0) rfl rfl, ka, _, rfl, .inr hk, rfl, rfl, v1, v2, p, q, (kVs ks).length, rfl, h1, h2, low, hz, by omega, fun u2 H8 s8 hu2 => ?_⟩
  rw [kl] at hu2
  exact ⟨ka, u2, ks, _, rfl, Tp.same s8 _ _ hk, hu2, mw, mo.trans op, few, hkl, fun a u H' d s ha _ hf hu hs hv => q1 a u H' d (s8.trans s) ha hf hu hs hv, fun a t us H' s ha ht hu hv _ => q2 a t us H' (s8.trans s) ha ht hu hv⟩
end
end Lm

set_option Elab.async false
set_option linter.all false
set_option maxRecDepth 100000
set_option maxHeartbeats 4000000
namespace Lm
open PySem PySem.Spec PyProof.Rows L2 LmR
/-! ### the truth program of one place -/
def thingP (k : Nat) : V → Pg
  | .bl true => .inp k
  | .bl false => .neg (.inp k)
  | .int c => .bin .both (.bin .atmost (.inp k) (.num c)) (.bin .atmost (.num c) (.inp k))
  | _ => .tr true
def allP : List Pg → Pg
  | [] => .tr true
  | [p] => p
  | p :: q :: ps => .bin .both p (allP (q :: ps))
def thingsP (k : Nat) : List V → List Pg
  | [] => []
  | v :: us => thingP k v :: thingsP (k + 1) us
def atP (us : List V) : Pg := allP (thingsP 0 us)
theorem thing_wk {ks : List Bool} {k : Nat} {κ : Bool} {v : V} (h : ks[k]? = some κ) (hv : Kv κ v) : Wk ks (thingP k v) ∧ own ks (thingP k v) = true := by
  have hk : k < ks.length := (List.getElem?_eq_some_iff.mp h).1
  have ho : own ks (.inp k) = κ := by
    show ks.getD k false = κ
    rw [List.getD_eq_getElem?_getD, h]
    rfl
  cases κ with
  | true =>
    obtain ⟨b, rfl⟩ := hv
    cases b with
    | true => exact ⟨hk, ho⟩
    | false => exact ⟨⟨hk, ho⟩, rfl⟩
  | false =>
    obtain ⟨c, rfl⟩ := hv
    exact ⟨⟨⟨hk, trivial, ho, rfl⟩, ⟨trivial, hk, rfl, ho⟩, rfl, rfl⟩, rfl⟩
theorem thing_val {vs : List V} {k : Nat} {κ : Bool} {v x : V} (hx : vs[k]? = some x) (kx : Kv κ x) (hv : Kv κ v) : pval vs (thingP k v) = .bl (decide (x = v)) := by
  have e : pval vs (.inp k) = x := by
    show vs.getD k .non = x
    rw [List.getD_eq_getElem?_getD, hx]
    rfl
  cases κ with
  | true =>
    obtain ⟨b, rfl⟩ := hv
    obtain ⟨c, rfl⟩ := kx
    cases b with
    | true =>
      show pval vs (.inp k) = _
      rw [e]
      cases c <;> rfl
    | false =>
      show V.bl (!bv (pval vs (.inp k))) = _
      rw [e]
      cases c <;> rfl
  | false =>
    obtain ⟨c, rfl⟩ := hv
    obtain ⟨d, rfl⟩ := kx
    show V.bl (bv (V.bl (decide (iv (pval vs (.inp k)) ≤ c))) && bv (V.bl (decide (c ≤ iv (pval vs (.inp k)))))) = _
    rw [e]
    show V.bl (decide (d ≤ c) && decide (c ≤ d)) = _
    congr 1
    rw [Bool.eq_iff_iff, Bool.and_eq_true, decide_eq_true_iff, decide_eq_true_iff, decide_eq_true_iff]
    constructor
    · intro h; rw [show d = c by omega]
    · intro h; injection h with h; omega
theorem all_wk {ks : List Bool} : ∀ {ps : List Pg}, (∀ p ∈ ps, Wk ks p ∧ own ks p = true) → Wk ks (allP ps) ∧ own ks (allP ps) = true
  | [], _ => ⟨trivial, rfl⟩
  | [p], h => h p List.mem_cons_self
  | p :: q :: ps, h => by
    have h1 := h p List.mem_cons_self
    have h2 := all_wk (ps := q :: ps) fun r hr => h r (List.mem_cons_of_mem _ hr)
    exact ⟨⟨h1.1, h2.1, h1.2, h2.2⟩, rfl⟩
theorem all_val {vs : List V} : ∀ {ps : List Pg} {bs : List Bool}, ps.map (pval vs) = bs.map V.bl → pval vs (allP ps) = .bl (bs.all id)
  | [], [], _ => rfl
  | [], _ :: _, h => by cases h
  | _ :: _, [], h => by cases h
  | [p], [b], h => by
    injection h with h _
    show pval vs p = _
    rw [h]
    cases b <;> rfl
  | [p], _ :: _ :: _, h => by injection h with _ h; cases h
  | _ :: _ :: _, [_], h => by injection h with _ h; cases h
  | p :: q :: ps, b :: c :: bs, h => by
    injection h with h1 h2
    have ih := all_val (ps := q :: ps) (bs := c :: bs) h2
    show V.bl (bv (pval vs p) && bv (pval vs (allP (q :: ps)))) = _
    rw [h1, ih]
    rfl
theorem thing_sz {k : Nat} {v : V} : psz (thingP k v) ≤ 7 ∧ dep (thingP k v) ≤ 3 := by
  cases v with
  | bl b => cases b <;> exact ⟨by simp only [thingP, psz]; omega, by simp only [thingP, dep]; omega⟩
  | int c => exact ⟨by show 7 ≤ 7; decide, by show 3 ≤ 3; decide⟩
  | _ => exact ⟨by show 1 ≤ 7; decide, by show 1 ≤ 3; decide⟩
theorem all_sz {m d : Nat} (hm : 1 ≤ m) (hd : 1 ≤ d) : ∀ {ps : List Pg}, (∀ p ∈ ps, psz p ≤ m ∧ dep p ≤ d) → psz (allP ps) ≤ (m + 1) * ps.length + 1 ∧ dep (allP ps) ≤ d + ps.length
  | [], _ => ⟨by show 1 ≤ _; omega, by show 1 ≤ _; omega⟩
  | [p], h => by
    have := h p List.mem_cons_self
    show psz p ≤ (m + 1) * 1 + 1 ∧ dep p ≤ d + 1
    omega
  | p :: q :: ps, h => by
    have h1 := h p List.mem_cons_self
    have h2 := all_sz hm hd (ps := q :: ps) fun r hr => h r (List.mem_cons_of_mem _ hr)
    show psz p + psz (allP (q :: ps)) + 1 ≤ (m + 1) * ((q :: ps).length + 1) + 1 ∧ max (dep p) (dep (allP (q :: ps))) + 1 ≤ d + ((q :: ps).length + 1)
    rw [Nat.mul_add]
    omega
theorem things_len : ∀ (us : List V) (k : Nat), (thingsP k us).length = us.length
  | [], _ => rfl
  | _ :: us, k => congrArg (· + 1) (things_len us (k + 1))
theorem things_get : ∀ (us : List V) (k j : Nat), (thingsP k us)[j]? = (us[j]?).map (thingP (k + j))
  | [], _, _ => by cases ‹Nat› <;> rfl
  | u :: us, k, 0 => rfl
  | u :: us, k, j + 1 => by
    show (thingsP (k + 1) us)[j]? = _
    rw [things_get us (k + 1) j, show k + 1 + j = k + (j + 1) by omega]
    rfl
theorem things_app (us : List V) (v : V) : ∀ k, thingsP k (us ++ [v]) = thingsP k us ++ [thingP (k + us.length) v] := by
  induction us with
  | nil => intro k; rfl
  | cons u us ih =>
    intro k
    show thingP k u :: thingsP (k + 1) (us ++ [v]) = thingP k u :: (thingsP (k + 1) us ++ [_])
    rw [ih (k + 1)]
    show _ = thingP k u :: (thingsP (k + 1) us ++ [thingP (k + (us.length + 1)) v])
    rw [show k + 1 + us.length = k + (us.length + 1) by omega]
theorem things_mem {us : List V} {p : Pg} (h : p ∈ thingsP 0 us) : ∃ j v, us[j]? = some v ∧ p = thingP j v := by
  obtain ⟨j, hj⟩ := List.mem_iff_getElem?.mp h
  rw [things_get, Nat.zero_add] at hj
  cases e : us[j]? with
  | none => rw [e] at hj; cases hj
  | some v => rw [e] at hj; exact ⟨j, v, e, (Option.some.inj hj).symm⟩
theorem at_wk {ks : List Bool} {us : List V} (h : Kvs ks us) : Wk ks (atP us) ∧ own ks (atP us) = true := by
  refine all_wk fun p hp => ?_
  obtain ⟨j, v, e, rfl⟩ := things_mem hp
  have hj : j < ks.length := by rw [← h.1]; exact (List.getElem?_eq_some_iff.mp e).1
  exact thing_wk (List.getElem?_eq_getElem hj) (h.2 j _ v (List.getElem?_eq_getElem hj) e)
theorem at_sz (us : List V) : psz (atP us) ≤ 8 * us.length + 1 ∧ dep (atP us) ≤ 3 + us.length := by
  have z := all_sz (m := 7) (d := 3) (by decide) (by decide) (ps := thingsP 0 us) fun p hp => by
    obtain ⟨j, v, e, rfl⟩ := things_mem hp
    exact thing_sz
  rw [things_len] at z
  exact z
theorem at_val {ks : List Bool} {us vs : List V} (h : Kvs ks us) (h' : Kvs ks vs) : pval vs (atP us) = .bl (decide (vs = us)) := by
  have hl : vs.length = us.length := h'.1.trans h.1.symm
  have e : (thingsP 0 us).map (pval vs) = ((vs.zip us).map fun z => decide (z.1 = z.2)).map V.bl := by
    apply List.ext_getElem?
    intro j
    rw [List.getElem?_map, List.getElem?_map, List.getElem?_map, things_get, Nat.zero_add]
    cases e1 : us[j]? with
    | none =>
      have : (vs.zip us)[j]? = none := by
        rw [List.getElem?_eq_none_iff] at e1 ⊢
        rw [List.length_zip]
        omega
      rw [this]
      rfl
    | some v =>
      have hj : j < us.length := (List.getElem?_eq_some_iff.mp e1).1
      have hk : j < ks.length := by rw [← h.1]; exact hj
      have e2 : vs[j]? = some vs[j] := List.getElem?_eq_getElem (by omega)
      have e3 : (vs.zip us)[j]? = some (vs[j], v) := List.getElem?_zip_eq_some.mpr ⟨e2, e1⟩
      rw [e3]
      show some (pval vs (thingP j v)) = some (V.bl (decide (vs[j] = v)))
      rw [thing_val e2 (h'.2 j _ _ (List.getElem?_eq_getElem hk) e2) (h.2 j _ v (List.getElem?_eq_getElem hk) e1)]
  have z := all_val e
  show pval vs (allP (thingsP 0 us)) = _
  rw [z]
  congr 1
  rw [Bool.eq_iff_iff, decide_eq_true_iff, List.all_eq_true]
  constructor
  · intro hb
    apply List.ext_getElem hl
    intro j h1 h2
    have := hb _ (List.mem_map.mpr ⟨(vs[j], us[j]), List.mem_iff_getElem?.mpr ⟨j, List.getElem?_zip_eq_some.mpr ⟨List.getElem?_eq_getElem h1, List.getElem?_eq_getElem h2⟩⟩, rfl⟩)
    exact of_decide_eq_true this
  · intro hb b hbm
    subst hb
    obtain ⟨⟨x, y⟩, hm, rfl⟩ := List.mem_map.mp hbm
    obtain ⟨j, hj⟩ := List.mem_iff_getElem?.mp hm
    have := List.getElem?_zip_eq_some.mp hj
    have e1 : x = y := by have a := this.1; have b := this.2; rw [a] at b; exact Option.some.inj b
    exact decide_eq_true e1
theorem cut_last {xs : List V} (h : 1 ≤ xs.length) : cutV xs none (some (-1)) = xs.take (xs.length - 1) := by
  unfold cutV
  rw [HT.sIx_none]
  have e : HT.sIx xs.length xs.length (some (-1)) = xs.length - 1 := by
    show (if (-1 : Int) < 0 then ((-1 : Int) + ((xs.length : Nat) : Int)).toNat else min (-1 : Int).toNat (xs.length)) = xs.length - 1
    rw [if_pos (by decide)]
    omega
  rw [e, List.drop_zero, Nat.sub_zero]
theorem allP_cons {p : Pg} {ps : List Pg} (h : ps ≠ []) : allP (p :: ps) = .bin .both p (allP ps) := by
  cases ps with
  | nil => exact absurd rfl h
  | cons a b => rfl
theorem at_lastQ {xs : List V} {v : V} (h : 1 ≤ xs.length) (e : xs[xs.length - 1]? = some v) : atI xs (-1) = some v := by
  unfold atI ixN
  rw [if_neg (by decide), if_pos (by omega)]
  show xs[_]? = some v
  rw [← e]
  congr 1
  omega
/-! ### ways out of what is at one place -/
section
variable {ks : List Bool}
theorem out_in {k : Nat} (h : ks[k]? = some true) : Out ks (.inp k) 1 (fun _ => True) (fun r => Fx ks r k) := fun κ r t e N0 N1 ok _ h0 h1 => by
  refine (cnt_in (N := fun b => if b = true then N1 else N0) h ok fun b r' n ok' ha => ?_).le (by simp; omega)
  cases b with
  | false => exact h0 r' n ok'
  | true => exact h1 r' n ok' ⟨fun _ => ⟨_, ha⟩, fun z => by rw [h] at z; cases z⟩
theorem out_not {k : Nat} (h : ks[k]? = some true) : Out ks (.neg (.inp k)) 1 (fun _ => True) (fun r => Fx ks r k) := fun κ r t e N0 N1 ok _ h0 h1 => by
  refine cnt_go (t' := .pg (.inp k) :: .pick (.tr false) (.tr true) :: t) (e' := e) rfl ?_
  refine (cnt_in (N := fun b => if b = true then N0 else N1) h ok fun b r' n ok' ha => ?_).le (by simp)
  cases b with
  | true => exact cnt_go (t' := .pg (.tr false) :: t) (e' := e) rfl (cnt_go (t' := t) (e' := .tr false :: e) rfl (h0 r' n ok'))
  | false => exact cnt_go (t' := .pg (.tr true) :: t) (e' := e) rfl (cnt_go (t' := t) (e' := .tr true :: e) rfl (h1 r' n ok' ⟨fun _ => ⟨_, ha⟩, fun z => by rw [h] at z; cases z⟩))
theorem Out.le {p : Pg} {f g : Nat} {F P P' : Rg → Prop} (h : Out ks p f F P) (l : f ≤ g) (i : ∀ r, P r → P' r) : Out ks p g F P' := fun κ r t e N0 N1 ok hf h0 h1 => (h κ r t e N0 N1 ok hf h0 (fun r' n ok' p => h1 r' n ok' (i r' p))).le (by have := Nat.mul_le_mul_right N0 l; omega)
theorem Out.pre {p : Pg} {f : Nat} {F F' P : Rg → Prop} (h : Out ks p f F P) (i : ∀ r, F' r → F r) : Out ks p f F' P := fun κ r t e N0 N1 ok hf h0 h1 => h κ r t e N0 N1 ok (i r hf) h0 h1
theorem leo_nrw {r r' : Rg} {a b : Nat} {c : Int} (n : Nrw r' r) (h : leO (r.D a b) c) : leO (r'.D a b) c := by
  obtain ⟨x, e, l⟩ := h
  exact (n.d _ _ _ e).le l
theorem out_thing {k : Nat} {κ : Bool} {v : V} (h : ks[k]? = some κ) (hv : Kv κ v) : Out ks (thingP k v) 2 (fun _ => True) (fun r => Fx ks r k) := by
  cases κ with
  | true =>
    obtain ⟨b, rfl⟩ := hv
    cases b with
    | true => exact (out_in h).le (by decide) fun _ p => p
    | false => exact (out_not h).le (by decide) fun _ p => p
  | false =>
    obtain ⟨c, rfl⟩ := hv
    refine (out_both (fun _ _ _ _ => trivial) (fun r r' n p => leo_nrw n p) (out_up h) ((out_down (c := c) h).pre fun _ _ => trivial)).le (by decide) fun r p => ?_
    exact (show Fx ks r k from ⟨(fun z => by rw [h] at z; cases z), fun _ => ⟨c, p.1, p.2⟩⟩)
theorem out_all : ∀ (us : List V) (k : Nat), (∀ j v, us[j]? = some v → ∃ κ, ks[k + j]? = some κ ∧ Kv κ v) → Out ks (allP (thingsP k us)) (2 * us.length) (fun _ => True) (fun r => ∀ j, j < us.length → Fx ks r (k + j))
  | [], k, _ => fun κ r t e N0 N1 ok _ h0 h1 => (cnt_go (t' := t) (e' := .tr true :: e) rfl (h1 r (Nrw.rfl' r) ok fun j hj => by cases hj)).le (by simp)
  | [v], k, h => by
    obtain ⟨κ, e, kv⟩ := h 0 v rfl
    refine (out_thing e kv).le (by show 2 ≤ 2 * 1; decide) fun r p j hj => ?_
    have : j = 0 := by have hj : j < 1 := hj; omega
    rw [this]
    exact p
  | v :: w :: us, k, h => by
    obtain ⟨κ, e, kv⟩ := h 0 v rfl
    have ih := out_all (w :: us) (k + 1) fun j x hx => by
      have := h (j + 1) x hx
      rw [show k + 1 + j = k + (j + 1) by omega]
      exact this
    refine (out_both (fun _ _ _ _ => trivial) (fun r r' n p => Fx.nrw p n) (out_thing e kv) (ih.pre fun _ _ => trivial)).le (by show 2 + 2 * (us.length + 1) ≤ 2 * (us.length + 1 + 1); omega) fun r p j hj => ?_
    cases j with
    | zero => exact p.1
    | succ j =>
      rw [show k + (j + 1) = k + 1 + j by omega]
      exact p.2 j (by have hj : j + 1 < us.length + 1 + 1 := hj; show j < us.length + 1; omega)
theorem out_at {us : List V} (h : Kvs ks us) : Out ks (atP us) (2 * ks.length) (fun _ => True) (fun r => ∀ k, k < ks.length → Fx ks r k) := by
  refine (out_all us 0 fun j v hv => ?_).le (by rw [h.1]; exact Nat.le_refl _) fun r p k hk => ?_
  · have hj : j < ks.length := by rw [← h.1]; exact (List.getElem?_eq_some_iff.mp hv).1
    rw [Nat.zero_add]
    exact ⟨ks[j], List.getElem?_eq_getElem hj, h.2 j _ v (List.getElem?_eq_getElem hj) hv⟩
  · have := p k (by rw [h.1]; exact hk)
    rw [Nat.zero_add] at this
    exact this
/-- one that asks at one place alone -/
def caseP (us : List V) (x : Pg) : Pg := .bin .either (.neg (atP us)) x
theorem cnt_case {us : List V} {x : Pg} {κ : Bool} {r : Rg} {t : List Tk} {N : Nat} (h : Kvs ks us) (ok : RgOk ks.length r) (hn : ∀ r', Nrw r' r → RgOk ks.length r' → Cnt ks κ r' t [.tr true] N) : Cnt ks κ r (.pg (caseP us x) :: t) [] (2 * ks.length * N + 1) := by
  refine cnt_go (t' := .pg (.neg (atP us)) :: .pick (.tr true) x :: t) (e' := []) rfl ?_
  refine cnt_go (t' := .pg (atP us) :: .pick (.tr false) (.tr true) :: .pick (.tr true) x :: t) (e' := []) rfl ?_
  refine out_at h κ r _ [] N 1 ok trivial (fun r' n ok' => ?_) (fun r' n ok' p => cnt_fx p)
  refine cnt_go (t' := .pg (.tr true) :: .pick (.tr true) x :: t) (e' := []) rfl ?_
  refine cnt_go (t' := .pick (.tr true) x :: t) (e' := [.tr true]) rfl ?_
  refine cnt_go (t' := .pg (.tr true) :: t) (e' := []) rfl ?_
  exact cnt_go (t' := t) (e' := [.tr true]) rfl (hn r' n ok')
theorem cnt_cases {κ : Bool} {m : Nat} (hm : 2 * ks.length + 1 ≤ m) : ∀ (l : List (List V × Pg)), (∀ z ∈ l, Kvs ks z.1) → ∀ r, RgOk ks.length r → Cnt ks κ r [.pg (allP (l.map fun z => caseP z.1 z.2))] [] (m ^ l.length)
  | [], _, r, ok => (cnt_go (t' := []) (e' := [.tr true]) rfl cnt_end).le (Nat.le_refl _)
  | [z], h, r, ok => (cnt_case (N := 1) (h z List.mem_cons_self) ok fun r' _ _ => cnt_end).le (by show 2 * ks.length * 1 + 1 ≤ m ^ 1; rw [Nat.pow_one]; omega)
  | z :: y :: l, h, r, ok => by
    have ih := cnt_cases (κ := κ) hm (y :: l) fun w hw => h w (List.mem_cons_of_mem _ hw)
    refine (cnt_go (t' := .pg (caseP z.1 z.2) :: .pick (allP ((y :: l).map fun z => caseP z.1 z.2)) (.tr false) :: []) (e' := []) rfl (cnt_case (N := m ^ (y :: l).length) (h z List.mem_cons_self) ok fun r' _ ok' => ?_)).le ?_
    · exact cnt_go (t' := [.pg (allP ((y :: l).map fun z => caseP z.1 z.2))]) (e' := []) rfl (ih r' ok')
    · have pos : 1 ≤ m ^ (y :: l).length := Nat.one_le_pow _ _ (by omega)
      show 2 * ks.length * m ^ (y :: l).length + 1 ≤ m ^ ((y :: l).length + 1)
      rw [Nat.pow_succ]
      have a := Nat.mul_le_mul_left (m ^ (y :: l).length) hm
      rw [Nat.mul_add, Nat.mul_one] at a
      have b : m ^ (y :: l).length * (2 * ks.length) = 2 * ks.length * m ^ (y :: l).length := Nat.mul_comm _ _
      omega
theorem few_cases {l : List (List V × Pg)} (hk : ks.length ≤ 3) (hl : l.length ≤ 6) (h : ∀ z ∈ l, Kvs ks z.1) (hw : Wk ks (allP (l.map fun z => caseP z.1 z.2))) : FewT ks (allP (l.map fun z => caseP z.1 z.2)) := by
  obtain ⟨d, hd, hf, _, _⟩ := ct_has (r := openRg) (openRg_ok ks.length) (pg_stOk hw)
  refine ⟨d, hd, hf, ?_⟩
  have c := cnt_cases (m := 7) (κ := own ks _) (by omega) l h openRg (openRg_ok ks.length) (openRg_ok ks.length) (pg_stOk hw) d hd
  have p : 7 ^ l.length ≤ 7 ^ 6 := Nat.pow_le_pow_right (by decide) hl
  have e : (7 : Nat) ^ 6 = 117649 := by decide
  omega
end
end Lm

set_option Elab.async false
set_option linter.all false
set_option maxRecDepth 100000
set_option maxHeartbeats 2000000
namespace Lm
open PySem PySem.Spec PyProof.Rows L2 LmR
/-! ### defs that are called while no repr is under way -/
structure FnG (P : Program) (w : World) (K : PySem.W.Frag) (mg : Str → Option Value) (base : Heap) (k : Nat) (f : Addr) (fd : FuncData) (ps : List Str) (sp : Sp) : Prop where
  len : ∀ vs H Q E, sp vs H Q E → vs.length = ps.length
  run : ∀ (A : Around) (outer : List Env) (s : Shared) (H : Hp) (args : Args) (us : List Value) (vs : List V) (Q : VK) (E : XK), A.guards = some [] → Room k A → Env0 P w K mg base A outer s H → BindsTo s fd args (ps.zip us) → Vals vs us → sp vs H Q E →
    codeAny (model P w) A (.call (.ref f) args) (CR CX0 outer P w H s Q E) s
section
variable {P : Program} {w : World} {K : PySem.W.Frag} {mg : Str → Option Value} {base : Heap}
theorem FnG.mono {j k : Nat} {f : Addr} {fd : FuncData} {ps : List Str} {sp : Sp} (F : FnG P w K mg base j f fd ps sp) (h : j ≤ k) : FnG P w K mg base k f fd ps sp :=
  ⟨F.len, fun A outer s H args us vs Q E hg hr => F.run A outer s H args us vs Q E hg (hr.mono h)⟩
theorem fnG_of {k : Nat} {x : Str} {st : Stmt} {f : Addr} {fd : FuncData} {N ps : List Str} {sp : Sp} (F : Fun K x x st f fd) (S : FnScope N ps (defScope st)) (len : ∀ vs H Q E, sp vs H Q E → vs.length = ps.length)
    (hbody : ∀ (cdv : Value) (A : Around) (outer : List Env) (s : Shared) (H : Hp) (vs : List V) (Q : VK) (E : XK), A.guards = some [] → Room k (A.deeper (envOfC x (defScope st) s.heap.objs.size f cdv)) → sp vs H Q E →
      ∃ t, PSs (cxOf CX0 P w K mg base N x (defScope st) f cdv A outer s H E).nox (defBody st) t ∧ t { nx := fun _ H' => Q .non H', rt := Q } (start N vs) H) : FnG P w K mg base (k + 1) f fd ps sp := by
  obtain ⟨oc, od, kV, doc, pm, an, cdv, ct, osl, rfl, lk, hcd⟩ := F.ex
  refine ⟨len, fun A outer s H args us vs Q E hg hr e0 hb r hsp => ?_⟩
  have kin : K.In s.heap := e0.mod.kin.keeps fun b o z => (e0.bs b o z).1
  have lim : s.heap.NoLimit := e0.mod.nolimit.keeps fun b o z => (e0.bs b o z).1
  have kinds : ∀ y ∈ ps.zip us, (defScope st).names.lookup y.1 = some .local ∨ ((defScope st).names.lookup y.1 = some .cell ∧ ((cellsFrom (s.heap.objs.size + 1) (defScope st).names []).lookup y.1).isSome = true) := fun y hy =>
    (S.par y.1 (List.of_mem_zip (show (y.1, y.2) ∈ ps.zip us from hy)).1).imp id fun z => ⟨z, PySem.W.cellsFrom_some _ _ _ (.inl z)⟩
  refine codeAny_call_function hr.depth (kin _ _ lk) rfl S.co S.gen rfl (PySem.W.codeRec_of kin hcd) (hb _ _ _ _ (wpAny_newFunctionEnv_cells S.kind kinds fun env he s1 y => ?_))
  subst he
  obtain ⟨t, ht, hq⟩ := hbody cdv A outer s H vs Q E hg (hr.deeper _) hsp
  have I : Inv (cxOf CX0 P w K mg base N x (defScope st) f cdv A outer s H E) [] (start N vs) H s1 := inv_start S hr.hd e0 (len _ _ _ _ hsp) r y
  refine ⟨lim.keeps y.toInCall.keep, codeAny_func (wpAny_mono (ht.nox.run [] s1 (start N vs) H _ I hq) (fun fl s' hs => ?_) fun e s' hs => hs)⟩
  cases fl with
  | ret u =>
    obtain ⟨v, σ', H', J, rv, q⟩ := hs
    exact ⟨v, H', J.os, J.bare, J.base, J.hok, rv, q⟩
  | next =>
    obtain ⟨σ', H', J, q⟩ := hs
    exact ⟨V.non, H', J.os, J.bare, J.base, J.hok, rfl, q⟩
  | brk => obtain ⟨_, _, _, q⟩ := hs; exact False.elim q
  | cont => obtain ⟨_, _, _, q⟩ := hs; exact False.elim q
/-- what stands under the name x keeps sp, called while no repr is under way -/
def CalG (P : Program) (w : World) (K : PySem.W.Frag) (mg : Str → Option Value) (base : Heap) (k : Nat) (x : Str) (ps : List Str) (sp : Sp) : Prop :=
  ∃ f fd, FnG P w K mg base k f fd ps sp ∧ mg x = some (.ref f) ∧ PySem.W.keepIn K (.ref f) = true ∧ Binds K fd ps []
theorem CalG.mono {j k : Nat} {x : Str} {ps : List Str} {sp : Sp} (c : CalG P w K mg base j x ps sp) (h : j ≤ k) : CalG P w K mg base k x ps sp := by
  obtain ⟨f, fd, F, g, kp, b⟩ := c
  exact ⟨f, fd, F.mono h, g, kp, b⟩
theorem calg_of {x : Str} {st : Stmt} {N ps : List Str} {k : Nat} {sp : Sp} (D : DefAt K mg x st ps) (S : FnScope N ps (defScope st)) (len : ∀ vs H Q E, sp vs H Q E → vs.length = ps.length)
    (hbody : ∀ (f : Addr) (cdv : Value) (A : Around) (outer : List Env) (s : Shared) (H : Hp) (vs : List V) (Q : VK) (E : XK), A.guards = some [] → Room k (A.deeper (envOfC x (defScope st) s.heap.objs.size f cdv)) → sp vs H Q E →
      ∃ t, PSs (cxOf CX0 P w K mg base N x (defScope st) f cdv A outer s H E).nox (defBody st) t ∧ t { nx := fun _ H' => Q .non H', rt := Q } (start N vs) H) : CalG P w K mg base (k + 1) x ps sp := by
  obtain ⟨f, fd, F, b, g⟩ := D
  exact ⟨f, fd, fnG_of F S len (hbody f), g, F.kp, b⟩
end
/-- f(e, ..) of such a def -/
theorem pe_calG {X : Cx} {k : Nat} {x : Str} {ps : List Str} {sp : Sp} {e : Expr} {es : List Expr} {t : TA} {p pos : Pos} (C : CalG X.prog X.w X.K X.mg X.base k x ps sp) (hgu : X.A.guards = some []) (hr : Room k X.A) (hg : Gl X x) (ha : PA X (e :: es) t)
    (hdb : (x == ("__debug__" : Str)) = false := by decide) (he : starEach (e :: es) X.env = (false, eval e X.env) :: starEach es X.env := by rfl) (hpl : (backTo pos (starEach es X.env)).any (·.1) = false := by rfl) :
    PE X (.Call (.Name x p) (e :: es) [] pos) (tCall sp [] (fun _ _ _ => False) t) := by
  obtain ⟨f, fd, F, g, kp, b⟩ := C
  refine ⟨fun pins s σ H Q I h => wpAny_Call_Name_kw (ld_glob I hg g ?_ hdb)⟩
  refine PySem.W.callWith_K (h₀ := X.base) I.ok.mod.kin kp (thn (ha.run pos pins s σ H _ I h) fun us s1 ⟨vs, H1, I1, r, q⟩ => ⟨I1.kIn, ?_⟩) he hpl
  have q1 : sp vs H1 Q (fun _ _ _ => False) := by
    have z : sp (vs ++ []) H1 Q (fun _ _ _ => False) := q
    rw [List.append_nil] at z
    exact z
  have bn := b s1 us I1.kIn (by rw [List.append_nil, ← r.length]; exact F.len _ _ _ _ q1)
  rw [List.append_nil] at bn
  refine wpAny_call (codeAny_mono (F.run X.A X.stack s1 H1 ⟨us, []⟩ us vs Q (fun _ _ _ => False) hgu hr I1.env0 bn r q1) fun z s' hq => ?_)
  cases z with
  | error e => exact hq.elim
  | ok fl =>
    cases fl with
    | ret u => exact I1.after hq
    | next => exact False.elim hq
    | brk => exact False.elim hq
    | cont => exact False.elim hq
/-- repr of data that stands in a tuple -/
def rRepr (X : Cx) : List V → Hp → VK → Prop := fun xs H Q => ∃ (a : Addr) (d : PyData), xs = [.ref a] ∧ Dp X.K H (.ref a) d ∧ d.showable = true ∧ d.hasDict = false ∧ d.depth ≤ 60 ∧ d.shown.length ≤ sizeLine ∧ Q (.str d.shown) H
theorem call_reprD {X : Cx} {k : Nat} (hr : Room k X.A) (hgu : X.A.guards = some []) : CallR X (.builtin "repr") (rRepr X) := by
  intro pins s σ H xs us Q I r h
  obtain ⟨a, d, rfl, hd, hs, hn, hz, hl, q⟩ := h
  obtain ⟨u, rfl, r1⟩ := vals1 r
  obtain ⟨as, hR⟩ := Dp.reads I d _ u hd r1
  cases r1
  have un := hr.un
  exact repr_of_reads' hR hs (PyData.noDict_hsm hn) hgu (by omega) (fun _ _ e => e) (fun h' v tk hk => ⟨.str d.shown, H, I.kept hk, ⟨_, rfl⟩, q⟩) hl
/-! ### the law's own call -/
section
variable {P : Program} {w : World} {K : PySem.W.Frag} {mg mb : Str → Option Value} {k : Nat} {fa a : Addr} {fd : FuncData} {x : Str} {sp : Sp} {s₁ : Shared} {vs : List Value} {ns : List Int}
/-- what is tracked when the law is called: its script, if that is none of the written things -/
def onlyAt (a : Addr) (o : Option HO) : Hp := fun b => if b = a then o else none
theorem onlyAt_some {a b : Addr} {o : Option HO} {u : HO} (h : onlyAt a o b = some u) : b = a ∧ o = some u := by
  unfold onlyAt at h
  split at h
  · rename_i e; exact ⟨e, h⟩
  · cases h
theorem call_lawG (KX : K.In s₁.heap) (hns : s₁.heap.Ns mainGlobals mg) (hb : s₁.heap.Ns builtinsNs mb) (hbb : ∀ x : Str, x ≠ "__name__" → mb x = bootBuiltins x) (hlim : s₁.heap.NoLimit) (hg : s₁.gens = #[])
    (ha : s₁.heap.get? a = some { cls := .type "list", data := .seq vs.toArray }) (hi : IntsAre vs ns) (hl : ns.length ≤ sizeLine) (hr : Room k callerA)
    (F : ∀ base : Heap, K.In base → base.Ns mainGlobals mg → FnG P w K mg base k fa fd [x] sp) (hbind : ∀ (s : Shared) (u : Value), BindsTo s fd ⟨[u], []⟩ [(x, u)])
    (hsp : ∀ H : Hp, SqL K H a (ns.map V.int) → sp [.ref a] H (fun v _ => v = .bl true) fun _ _ _ => False) :
    codeAny (model P w) callerA (.call (.ref fa) ⟨[.ref a], []⟩) (fun r s' => r = .ok (.ret (.bool true)) ∧ OldK s₁.heap s'.heap ∧ s'.os = s₁.os ∧ AllBare s'.gens) s₁ := by
  have lenV := hi.length
  have frz : ObjOk P w (onlyAt a (some (.frz { cls := .type "list", data := .seq vs.toArray } (.lst (ns.map V.int))))) s₁.heap a (.frz { cls := .type "list", data := .seq vs.toArray } (.lst (ns.map V.int))) :=
    ⟨ha, by rw [List.length_map]; exact hl, vs, _, vals_ints hi, ha⟩
  obtain ⟨o, hS, hok, hfr, hK⟩ : ∃ o : Option HO, SqL K (onlyAt a o) a (ns.map V.int) ∧ HOk P w (onlyAt a o) s₁.heap ∧ (∀ u, o = some u → u = .frz { cls := .type "list", data := .seq vs.toArray } (.lst (ns.map V.int))) ∧ (o ≠ none → K.lookup a = none) := by
    cases hk : K.lookup a with
    | none =>
      refine ⟨some (.frz { cls := .type "list", data := .seq vs.toArray } (.lst (ns.map V.int))), .inl (.inr ⟨_, if_pos rfl⟩), fun b u z => ?_, fun u z => (Option.some.inj z).symm, fun _ => rfl⟩
      obtain ⟨e1, e2⟩ := onlyAt_some z
      cases e2
      subst e1
      exact frz
    | some ob =>
      have e := KX a ob hk
      rw [ha] at e
      cases e
      exact ⟨none, .inr ⟨_, vs.toArray, _, hk, rfl, rfl, rfl, by rw [List.size_toArray, lenV]; exact hl, by simpa using vals_ints hi⟩, fun b u z => (by cases (onlyAt_some z).2), fun u z => (by cases z), fun z => absurd rfl z⟩
  have off : ∀ {b : Addr}, b ≠ a → onlyAt a o b = none := fun n => if_neg n
  generalize hH : onlyAt a o = H at hS hok
  have offH : ∀ {b : Addr} {u : HO}, H b = some u → b = a ∧ o = some u := fun z => by rw [← hH] at z; exact onlyAt_some z
  have dicts : ∀ {b : Addr} {ob : Obj} {es : Array DictEntry} {ep : Nat}, s₁.heap.get? b = some ob → ob.data = .dict es ep → H b = none := fun {b ob es ep} e d => by
    by_cases c : b = a
    · subst c
      rw [ha] at e
      cases e
      cases d
    · rw [← hH]; exact off c
  have nsB : ∀ {b : Addr} {m : Str → Option Value}, s₁.heap.Ns b m → (hidT s₁.heap H).Ns b m := fun {b m} z => by
    obtain ⟨ob, es, ep, e, d, r⟩ := z
    exact ⟨ob, es, ep, hidT_get e (dicts e d), d, r⟩
  have kB : K.In (hidT s₁.heap H) := fun b ob e => hidT_get (KX b ob e) (by
    cases q : H b with
    | none => rfl
    | some u =>
      obtain ⟨e1, e2⟩ := offH q
      subst e1
      rw [hK (by rw [e2]; simp)] at e
      cases e)
  obtain ⟨mc, l1, l2⟩ := hlim
  have e0 : Env0 P w K mg (hidT s₁.heap H) callerA [] s₁ H := ⟨rfl, ⟨kB, nsB hns, ⟨mb, nsB hb, hbb⟩, ⟨mc, nsB l1, l2⟩⟩, fun b ob e => of_hidT e, Nat.le_of_eq (hidT_size _ _), trivial, fun b hb => (by cases (show b ∈ ([] : List Addr) from hb)), hok, .of_eq hg⟩
  refine codeAny_mono ((F _ kB (nsB hns)).run callerA [] s₁ H ⟨[.ref a], []⟩ [.ref a] [.ref a] _ _ rfl hr e0 (hbind s₁ (.ref a)) (.cons rfl .nil) (hsp H hS)) fun res s' h => ?_
  cases res with
  | error e => exact h.elim
  | ok fl =>
    cases fl with
    | next => exact False.elim h
    | brk => exact False.elim h
    | cont => exact False.elim h
    | ret u =>
      obtain ⟨v, H', os, bare, un, hok', r', q⟩ := h
      have q' : v = .bl true := q
      subst q'
      have eu : u = Value.bool true := r'
      subst eu
      refine ⟨rfl, OldK.of_keep fun b ob e => ?_, os, bare⟩
      cases z : H b with
      | none => exact un.keep b ob e z (fun y => by cases (show b ∈ ([] : List Addr) from y)) (by simp)
      | some u =>
        obtain ⟨e1, e2⟩ := offH z
        have eu := hfr u e2
        subst eu
        obtain ⟨g1, _⟩ := hok b _ z
        obtain ⟨g2, _⟩ := hok' b _ (un.frzs b _ _ z)
        rw [e] at g1
        cases g1
        exact g2
end
theorem walk_ofG {l : PySem.W.OpenLaw} {n k : Nat} {q : Program} {loose : List Str} {XP : (Str → Option Value) → Heap → Prop} {YP : World → Heap → Prop} {d : DefRec} {K : Params → PySem.W.Frag} {sp : World → Sp} {x : Str} (hn : l.most = some n) (hn2 : n ≤ sizeLine) (hdf : d.params.defaults = []) (hr : Room k callerA)
    (hY : ∀ (w : World) (h : Heap), YP w h → (K w.params).In h)
    (F : ∀ (w : World) (mg : Str → Option Value) (fa : Addr) (h : Heap), (K w.params).In h → h.Ns mainGlobals mg → mg d.name = some (.ref fa) → ∃ fd : FuncData, (∀ (s : Shared) (u : Value), BindsTo s fd ⟨[u], []⟩ [(x, u)]) ∧ ∀ base : Heap, (K w.params).In base → base.Ns mainGlobals mg → FnG l.prog w (K w.params) mg base k fa fd [x] (sp w))
    (hsp : ∀ (w : World) (H : Hp) (a : Addr) (ns : List Int), ns.length ≤ n → SqL (K w.params) H a (ns.map V.int) → sp w [.ref a] H (fun v _ => v = .bl true) fun _ _ _ => False) :
    PySem.W.WalkO q loose XP YP l.row.toRowW d [] (fun f vs => PySem.call f vs) := by
  refine Att.attach_call hn hdf fun w s₀ s₁ mg mb fa o pm cd doc a vs ns G Y ho hd hcd hmg hobj hints hlen hg => ?_
  obtain ⟨fd, hb, hF⟩ := F w mg fa _ (hY w _ Y) G.T.g hmg
  exact call_lawG (hY w _ Y) G.T.g G.T.b G.T.builtins G.T.nolimit hg hobj hints (Nat.le_trans hlen hn2) hr hF hb fun H hS => hsp w H a ns hlen hS
end Lm

set_option Elab.async false
set_option linter.all false
set_option maxRecDepth 100000
set_option maxHeartbeats 4000000
/-! examples: inputs with their answers, as data -/
namespace Lm
open PySem PySem.Spec PyProof.Rows L2 LmR
theorem op_catAK {X : Cx} {K : PySem.W.Frag} (h : X.K = K) : OpR X (binaryOp .Add) (rCatA K) := h ▸ op_catA
theorem op_eqPK {X : Cx} {K : PySem.W.Frag} (h : X.K = K) (hu : X.A.units + 64 < cLine) : OpR X (compareOp .Eq) (rEqP K) := h ▸ op_eqP hu
theorem op_nePK {X : Cx} {K : PySem.W.Frag} (h : X.K = K) (hu : X.A.units + 64 < cLine) : OpR X (compareOp .NotEq) (rNeP K) := h ▸ op_neP hu
def xPD : V → PyData
  | .int i => .int i
  | .bl b => .bool b
  | _ => .none
def exPD (z : List V × V) : PyData := .tuple [.tuple (z.1.map xPD), xPD z.2]
/-- not too long a number -/
def Bq (v : V) : Prop := ∀ i, v = .int i → i.natAbs < 1073741824
def BqV (us : List V) : Prop := ∀ v ∈ us, Bq v
/-- an example at v -/
def Ex1 (K : PySem.W.Frag) (H : Hp) (ks : List Bool) (κ : Bool) (v : V) (z : List V × V) : Prop := ∃ e t, v = .ref e ∧ SqT K H e [.ref t, z.2] ∧ SqT K H t z.1 ∧ Kvs ks z.1 ∧ Kv κ z.2 ∧ BqV z.1 ∧ Bq z.2
theorem Ex1.keep {K : PySem.W.Frag} {H H' : Hp} {ks : List Bool} {κ : Bool} {v : V} {z : List V × V} (h : Ex1 K H ks κ v z) (t : Tp K H H') : Ex1 K H' ks κ v z := by
  obtain ⟨e, a, h1, h2, h3, h4⟩ := h
  exact ⟨e, a, h1, t _ _ h2, t _ _ h3, h4⟩
inductive Exs (K : PySem.W.Frag) (H : Hp) (ks : List Bool) (κ : Bool) : List V → List (List V × V) → Prop where
  | nil : Exs K H ks κ [] []
  | cons {v : V} {z : List V × V} {vs : List V} {zs : List (List V × V)} (h : Ex1 K H ks κ v z) (t : Exs K H ks κ vs zs) : Exs K H ks κ (v :: vs) (z :: zs)
section
variable {K : PySem.W.Frag} {H H' : Hp} {ks : List Bool} {κ : Bool}
theorem Exs.keep {vs : List V} {zs : List (List V × V)} (h : Exs K H ks κ vs zs) (t : Tp K H H') : Exs K H' ks κ vs zs := by
  induction h with
  | nil => exact .nil
  | cons a _ ih => exact .cons (a.keep t) ih
theorem Exs.len {vs : List V} {zs : List (List V × V)} (h : Exs K H ks κ vs zs) : vs.length = zs.length := by
  induction h with
  | nil => rfl
  | cons _ _ ih => rw [List.length_cons, List.length_cons, ih]
theorem Exs.app {vs us : List V} {zs ys : List (List V × V)} (h : Exs K H ks κ vs zs) (h' : Exs K H ks κ us ys) : Exs K H ks κ (vs ++ us) (zs ++ ys) := by
  induction h with
  | nil => exact h'
  | cons a _ ih => exact .cons a ih
theorem Exs.get {vs : List V} {zs : List (List V × V)} (h : Exs K H ks κ vs zs) : ∀ {j : Nat} {v : V}, vs[j]? = some v → ∃ z, zs[j]? = some z ∧ Ex1 K H ks κ v z := by
  induction h with
  | nil => intro j v e; cases e
  | cons a _ ih =>
    intro j v e
    cases j with
    | zero => cases e; exact ⟨_, rfl, a⟩
    | succ j => exact ih e
/-- some of them -/
theorem exs_of : ∀ {vs : List V}, (∀ v ∈ vs, ∃ z, Ex1 K H ks κ v z) → ∃ zs, Exs K H ks κ vs zs
  | [], _ => ⟨[], .nil⟩
  | v :: vs, h => by
    obtain ⟨z, hz⟩ := h v List.mem_cons_self
    obtain ⟨zs, hs⟩ := exs_of (vs := vs) fun w hw => h w (List.mem_cons_of_mem _ hw)
    exact ⟨z :: zs, .cons hz hs⟩
theorem Exs.mem {vs : List V} {zs : List (List V × V)} (h : Exs K H ks κ vs zs) {v : V} (hv : v ∈ vs) : ∃ z, z ∈ zs ∧ Ex1 K H ks κ v z := by
  obtain ⟨j, hj⟩ := List.mem_iff_getElem?.mp hv
  obtain ⟨z, e, x⟩ := h.get hj
  exact ⟨z, List.mem_of_getElem? e, x⟩
theorem kv_dpX {v : V} {k : Bool} (h : Kv k v) : Dp K H v (xPD v) := by
  cases k with
  | true => obtain ⟨b, rfl⟩ := h; exact .bl b
  | false => obtain ⟨b, rfl⟩ := h; exact .int b
theorem us_dpX : ∀ {ks : List Bool} {us : List V}, Kvs ks us → DpAll K H us (us.map xPD)
  | [], [], h => .nil
  | [], _ :: _, h => absurd h.1 (by simp)
  | k :: ks, [], h => absurd h.1 (by simp)
  | k :: ks, u :: us, h => .cons (kv_dpX (h.2 0 k u rfl rfl)) (us_dpX (ks := ks) ⟨by have := h.1; simpa using this, fun j k' v a b => h.2 (j + 1) k' v a b⟩)
theorem Ex1.dp {v : V} {z : List V × V} (h : Ex1 K H ks κ v z) : Dp K H v (exPD z) := by
  obtain ⟨e, t, rfl, h2, h3, h4, h5, _⟩ := h
  exact .tup h2 (.cons (.tup h3 (us_dpX h4)) (.cons (kv_dpX h5) .nil))
theorem Exs.dp {vs : List V} {zs : List (List V × V)} (h : Exs K H ks κ vs zs) : DpAll K H vs (zs.map exPD) := by
  induction h with
  | nil => exact .nil
  | cons a _ ih => exact .cons a.dp ih
/-! ### equal -/
theorem xpd_eqv {x y : V} {k : Bool} (hx : Kv k x) (hy : Kv k y) : PyData.eqv (xPD x) (xPD y) = decide (x = y) := by
  cases k with
  | true =>
    obtain ⟨a, rfl⟩ := hx
    obtain ⟨b, rfl⟩ := hy
    cases a <;> cases b <;> decide +kernel
  | false =>
    obtain ⟨a, rfl⟩ := hx
    obtain ⟨b, rfl⟩ := hy
    show PyData.eqv (.int a) (.int b) = _
    rw [Bool.eq_iff_iff, decide_eq_true_iff]
    rw [show PyData.eqv (.int a) (.int b) = (a == b) from by simp [PyData.eqv]]
    rw [beq_iff_eq]
    constructor
    · intro h; rw [h]
    · intro h; injection h
theorem xpds_eqv : ∀ {ks : List Bool} {us vs : List V}, Kvs ks us → Kvs ks vs → PyData.eqvAll (us.map xPD) (vs.map xPD) = decide (us = vs)
  | [], [], [], _, _ => by simp [PyData.eqvAll]
  | [], _ :: _, _, h, _ => absurd h.1 (by simp)
  | [], _, _ :: _, _, h => absurd h.1 (by simp)
  | _ :: _, [], _, h, _ => absurd h.1 (by simp)
  | _ :: _, _, [], _, h => absurd h.1 (by simp)
  | k :: ks, u :: us, v :: vs, h, h' => by
    have t : Kvs ks us := ⟨by have := h.1; simpa using this, fun j k' v a b => h.2 (j + 1) k' v a b⟩
    have t' : Kvs ks vs := ⟨by have := h'.1; simpa using this, fun j k' v a b => h'.2 (j + 1) k' v a b⟩
    show PyData.eqvAll (xPD u :: us.map xPD) (xPD v :: vs.map xPD) = _
    rw [show PyData.eqvAll (xPD u :: us.map xPD) (xPD v :: vs.map xPD) = (PyData.eqv (xPD u) (xPD v) && PyData.eqvAll (us.map xPD) (vs.map xPD)) from by rw [PyData.eqvAll], xpd_eqv (h.2 0 k u rfl rfl) (h'.2 0 k v rfl rfl), xpds_eqv t t', Bool.eq_iff_iff, Bool.and_eq_true, decide_eq_true_iff, decide_eq_true_iff, decide_eq_true_iff]
    constructor
    · rintro ⟨a, b⟩; rw [a, b]
    · intro e; injection e with a b; exact ⟨a, b⟩
theorem tup_eqv {us vs : List V} (h : Kvs ks us) (h' : Kvs ks vs) : PyData.eqv (.tuple (us.map xPD)) (.tuple (vs.map xPD)) = decide (us = vs) := by
  rw [show PyData.eqv (.tuple (us.map xPD)) (.tuple (vs.map xPD)) = PyData.eqvAll (us.map xPD) (vs.map xPD) from by rw [PyData.eqv]]
  exact xpds_eqv h h'
theorem list_none (ds : List PyData) : PyData.eqv (.list ds) (.list []) = decide (ds = []) := by
  rw [show PyData.eqv (.list ds) (.list []) = PyData.eqvAll ds [] from by rw [PyData.eqv]]
  cases ds with
  | nil => simp [PyData.eqvAll]
  | cons a b => simp [PyData.eqvAll]
/-! ### plain, shown -/
theorem xpd_plain (v : V) : (xPD v).plain = true ∧ (xPD v).depth ≤ 0 ∧ (xPD v).hasDict = false := by
  cases v <;> exact ⟨rfl, Nat.le_refl _, rfl⟩
structure Good (d : PyData) (w n : Nat) : Prop where
  p : d.plain = true
  h : d.hasDict = false
  s : d.showable = true
  l : d.leavesShort 13 = true
  t : d.depth ≤ n
  w : d.weight ≤ w
structure GoodAll (ds : List PyData) (w n : Nat) : Prop where
  p : PyData.plainAll ds = true
  h : PyData.hasDictAll ds = false
  s : PyData.showableAll ds = true
  l : PyData.leavesShortAll 13 ds = true
  t : PyData.depthAll ds ≤ n
  w : PyData.weightAll ds ≤ w
theorem good_all {w n : Nat} : ∀ {ds : List PyData}, (∀ d ∈ ds, Good d w n) → GoodAll ds ((w + 1) * ds.length) n
  | [], _ => ⟨rfl, rfl, rfl, rfl, Nat.zero_le _, Nat.zero_le _⟩
  | x :: ds, h => by
    have a := h x List.mem_cons_self
    have b := good_all (ds := ds) fun d hd => h d (List.mem_cons_of_mem _ hd)
    refine ⟨?_, ?_, ?_, ?_, ?_, ?_⟩
    · show (x.plain && PyData.plainAll ds) = true; rw [a.p, b.p]; rfl
    · show (x.hasDict || PyData.hasDictAll ds) = false; rw [a.h, b.h]; rfl
    · show (x.showable && PyData.showableAll ds) = true; rw [a.s, b.s]; rfl
    · show (x.leavesShort 13 && PyData.leavesShortAll 13 ds) = true; rw [a.l, b.l]; rfl
    · show max x.depth (PyData.depthAll ds) ≤ n; have := a.t; have := b.t; omega
    · show x.weight + 1 + PyData.weightAll ds ≤ (w + 1) * (ds.length + 1)
      have := a.w; have := b.w
      rw [Nat.mul_add, Nat.mul_one]
      omega
theorem GoodAll.tup {ds : List PyData} {w n : Nat} (g : GoodAll ds w n) : Good (.tuple ds) w (n + 1) := ⟨g.p, g.h, g.s, g.l, Nat.succ_le_succ g.t, g.w⟩
theorem GoodAll.lst {ds : List PyData} {w n : Nat} (g : GoodAll ds w n) : Good (.list ds) w (n + 1) := ⟨g.p, g.h, g.s, g.l, Nat.succ_le_succ g.t, g.w⟩
theorem Good.up {d : PyData} {w n w' n' : Nat} (g : Good d w n) (hw : w ≤ w') (hn : n ≤ n') : Good d w' n' := ⟨g.p, g.h, g.s, g.l, Nat.le_trans g.t hn, Nat.le_trans g.w hw⟩
theorem good_x {v : V} (h : Bq v) : Good (xPD v) 31 0 := by
  cases v with
  | int i =>
    have hi := h i rfl
    have l : i.natAbs.log2 < 30 := by
      by_cases z : i.natAbs = 0
      · rw [z]; decide
      · exact (Nat.log2_lt z).mpr hi
    refine ⟨rfl, rfl, decide_eq_true (by omega), decide_eq_true (PyData.shown_int_le (by omega)), Nat.le_refl _, ?_⟩
    show (if i == 0 then 0 else i.natAbs.log2 + 1) ≤ 31
    split <;> omega
  | bl b => cases b <;> exact ⟨rfl, rfl, rfl, by decide +kernel, Nat.le_refl _, Nat.zero_le _⟩
  | _ => exact ⟨rfl, rfl, rfl, show PyData.leavesShort 13 .none = true by decide +kernel, Nat.le_refl _, Nat.zero_le _⟩
theorem good_us {us : List V} (h : BqV us) : Good (.tuple (us.map xPD)) (32 * us.length) 1 := by
  have g := good_all (ds := us.map xPD) (w := 31) (n := 0) fun d hd => by
    obtain ⟨v, hv, rfl⟩ := List.mem_map.mp hd
    exact good_x (h v hv)
  rw [List.length_map] at g
  exact g.tup
theorem good_ex {z : List V × V} (h : BqV z.1) (h' : Bq z.2) (hl : z.1.length ≤ 100) : Good (exPD z) 7000 2 := by
  have g := good_all (ds := [.tuple (z.1.map xPD), xPD z.2]) (w := 3299) (n := 1) fun d hd => by
    rcases List.mem_cons.mp hd with rfl | hd
    · exact (good_us h).up (by omega) (Nat.le_refl _)
    · rw [List.mem_singleton.mp hd]
      exact (good_x h').up (by omega) (by omega)
  exact g.tup.up (by show 3300 * 2 ≤ 7000; decide) (Nat.le_refl _)
theorem Ex1.good {v : V} {z : List V × V} (h : Ex1 K H ks κ v z) (hk : ks.length ≤ 100) : Good (exPD z) 7000 2 := by
  obtain ⟨_, _, _, _, _, h4, _, h6, h7⟩ := h
  exact good_ex h6 h7 (by rw [h4.1]; exact hk)
theorem Exs.good {vs : List V} {zs : List (List V × V)} (h : Exs K H ks κ vs zs) (hk : ks.length ≤ 100) : GoodAll (zs.map exPD) (7001 * zs.length) 2 := by
  have g := good_all (ds := zs.map exPD) (w := 7000) (n := 2) fun d hd => by
    obtain ⟨z, hz, rfl⟩ := List.mem_map.mp hd
    obtain ⟨j, hj⟩ := List.mem_iff_getElem?.mp hz
    have hl : j < vs.length := by rw [h.len]; exact (List.getElem?_eq_some_iff.mp hj).1
    obtain ⟨z', e, x⟩ := h.get (List.getElem?_eq_getElem hl)
    rw [hj] at e
    cases e
    exact x.good hk
  rw [List.length_map] at g
  exact g
theorem Good.fits {d : PyData} {w n : Nat} (g : Good d w n) (hw : w ≤ 1048576) : d.shown.length ≤ sizeLine := PyData.shown_fits (by decide) (by decide) g.l (by have e : (2 : Nat) ^ 20 = 1048576 := (by decide); have := g.w; omega)
/-! ### the wish of examples -/
def wishP (n : Nat) (zs : List (List V × V)) : Pg := allP (zs.map fun z => caseP z.1 (thingP n z.2))
theorem case_wk {z : List V × V} {x : Pg} {l : List Bool} (hl : Kvs l z.1) (hx : Wk l x ∧ own l x = true) : Wk l (caseP z.1 x) ∧ own l (caseP z.1 x) = true := by
  obtain ⟨a, b⟩ := at_wk hl
  exact ⟨⟨⟨a, b⟩, hx.1, rfl, hx.2⟩, rfl⟩
end
end Lm

set_option Elab.async false
set_option linter.all false
set_option maxRecDepth 100000
set_option maxHeartbeats 4000000
set_option pp.maxSteps 2000
set_option pp.deepTerms.threshold 12
namespace Lm
open PySem PySem.Spec PyProof.Rows L2 LmR RZ
theorem pval_more (us r : List V) : ∀ p : Pg, Low us.length p → pval (us ++ r) p = pval us p
  | .inp k, h => by
    show (us ++ r).getD k .non = us.getD k .non
    rw [List.getD_eq_getElem?_getD, List.getElem?_append_left h, List.getD_eq_getElem?_getD]
  | .num _, _ => rfl
  | .tr _, _ => rfl
  | .plus c a, h => by show V.int (iv (pval _ a) + c) = V.int (iv (pval _ a) + c); rw [pval_more us r a h]
  | .bin w a b, h => by show bval w (pval _ a) (pval _ b) = bval w (pval _ a) (pval _ b); rw [pval_more us r a h.1, pval_more us r b h.2]
  | .neg a, h => by show V.bl (!bv (pval _ a)) = V.bl (!bv (pval _ a)); rw [pval_more us r a h]
  | .ite p a b, h => by
    show (if bv (pval _ p) = true then pval _ a else pval _ b) = (if bv (pval _ p) = true then pval _ a else pval _ b)
    rw [pval_more us r p h.1, pval_more us r a h.2.1, pval_more us r b h.2.2]
/-- examples of these kinds -/
def ExsK (ks : List Bool) (κ : Bool) (zs : List (List V × V)) : Prop := ∀ z ∈ zs, Kvs ks z.1 ∧ Kv κ z.2
theorem Exs.kinds {K : PySem.W.Frag} {H : Hp} {ks : List Bool} {κ : Bool} {vs : List V} {zs : List (List V × V)} (h : Exs K H ks κ vs zs) : ExsK ks κ zs := by
  induction h with
  | nil => exact fun z hz => nomatch hz
  | cons a _ ih =>
    intro z hz
    rcases List.mem_cons.mp hz with e | hz
    · rw [e]
      obtain ⟨_, _, _, _, _, h4, h5, _⟩ := a
      exact ⟨h4, h5⟩
    · exact ih z hz
section
variable {ks : List Bool} {κ : Bool} {zs : List (List V × V)} {q : Pg}
theorem ans_at : (ks ++ [κ])[ks.length]? = some κ := by rw [List.getElem?_append_right (Nat.le_refl _), Nat.sub_self]; rfl
theorem wish_wk (h : ExsK ks κ zs) : Wk (ks ++ [κ]) (wishP ks.length zs) ∧ own (ks ++ [κ]) (wishP ks.length zs) = true := by
  refine all_wk fun p hp => ?_
  obtain ⟨z, hz, rfl⟩ := List.mem_map.mp hp
  obtain ⟨a, b⟩ := at_wk (h z hz).1
  obtain ⟨c, d⟩ := wk_more (k := κ) _ a
  obtain ⟨e, f⟩ := thing_wk (ans_at (ks := ks) (κ := κ)) (h z hz).2
  exact ⟨⟨⟨c, d.trans b⟩, e, rfl, f⟩, rfl⟩
/-- what the wish says of an answer -/
def saysP (zs : List (List V × V)) (us : List V) (a : V) : Bool := zs.all fun z => !decide (us = z.1) || decide (a = z.2)
theorem wish_val (h : ExsK ks κ zs) {us : List V} {a : V} (hu : Kvs ks us) (ha : Kv κ a) : pval (us ++ [a]) (wishP ks.length zs) = .bl (saysP zs us a) := by
  unfold wishP saysP
  have e : (zs.map fun z => caseP z.1 (thingP ks.length z.2)).map (pval (us ++ [a])) = (zs.map fun z => !decide (us = z.1) || decide (a = z.2)).map V.bl := by
    rw [List.map_map, List.map_map]
    refine List.map_congr_left fun z hz => ?_
    have e1 : pval (us ++ [a]) (atP z.1) = .bl (decide (us = z.1)) := by
      rw [pval_more us [a] _ (by rw [hu.1]; exact wk_low _ (at_wk (h z hz).1).1)]
      exact at_val (h z hz).1 hu
    have e2 : pval (us ++ [a]) (thingP ks.length z.2) = .bl (decide (a = z.2)) := thing_val (by rw [← hu.1, List.getElem?_append_right (Nat.le_refl _), Nat.sub_self]; rfl) ha (h z hz).2
    show V.bl (bv (V.bl (!bv (pval (us ++ [a]) (atP z.1)))) || bv (pval (us ++ [a]) (thingP ks.length z.2))) = _
    rw [e1, e2]
    rfl
  rw [all_val e]
  congr 1
  rw [List.all_map]
  rfl
theorem psub_all (ss : List Pg) : ∀ ps : List Pg, psub ss (allP ps) = allP (ps.map (psub ss))
  | [] => rfl
  | [p] => rfl
  | p :: q :: ps => by
    show Pg.bin .both (psub ss p) (psub ss (allP (q :: ps))) = .bin .both (psub ss p) (allP ((q :: ps).map (psub ss)))
    rw [psub_all ss (q :: ps)]
theorem psub_at {n : Nat} (hz : ∀ {us : List V}, us.length ≤ n → psub (inps n ++ [q]) (atP us) = atP us) : True := trivial
theorem psub_thing {n k : Nat} (hk : k < n) (v : V) : psub (inps n ++ [q]) (thingP k v) = thingP k v := by
  have e : psub (inps n ++ [q]) (.inp k) = .inp k := by
    show (inps n ++ [q]).getD k (.inp k) = .inp k
    rw [inps_get q (by omega), if_neg (by omega)]
  cases v with
  | bl b => cases b with
    | true => exact e
    | false => show Pg.neg (psub _ (.inp k)) = _; rw [e]; rfl
  | int c =>
    show Pg.bin .both (.bin .atmost (psub _ (.inp k)) (.num c)) (.bin .atmost (.num c) (psub _ (.inp k))) = _
    rw [e]
    rfl
  | _ => rfl
theorem psub_atP {n : Nat} {us : List V} (h : us.length ≤ n) : psub (inps n ++ [q]) (atP us) = atP us := by
  unfold atP
  rw [psub_all]
  congr 1
  refine List.map_congr_left (g := id) (fun p hp => ?_) |>.trans (List.map_id _)
  obtain ⟨j, v, e, rfl⟩ := things_mem hp
  exact psub_thing (by have := (List.getElem?_eq_some_iff.mp e).1; omega) v
theorem psub_wish {n : Nat} (h : ∀ z ∈ zs, z.1.length ≤ n) : psub (inps n ++ [q]) (wishP n zs) = allP ((zs.map fun z => (z.1, psub (inps n ++ [q]) (thingP n z.2))).map fun z => caseP z.1 z.2) := by
  unfold wishP
  rw [psub_all]
  congr 1
  rw [List.map_map, List.map_map]
  refine List.map_congr_left fun z hz => ?_
  show Pg.bin .either (.neg (psub _ (atP z.1))) (psub _ (thingP n z.2)) = _
  rw [psub_atP (h z hz)]
  rfl
/-- few cases -/
theorem wish_few (h : ExsK ks κ zs) (hk : ks.length ≤ 3) (hl : zs.length ≤ 6) (wq : Wk ks q) (oq : own ks q = κ) : FewT ks (psub (inps ks.length ++ [q]) (wishP ks.length zs)) := by
  obtain ⟨w, _⟩ := wish_wk h
  obtain ⟨mw, _⟩ := met_wk w wq oq
  rw [psub_wish fun z hz => by rw [(h z hz).1.1]; exact Nat.le_refl _] at mw ⊢
  refine few_cases hk (by rw [List.length_map]; exact hl) (fun z hz => ?_) mw
  obtain ⟨y, hy, rfl⟩ := List.mem_map.mp hz
  exact (h y hy).1
theorem wish_met (h : ExsK ks κ zs) (wq : Wk ks q) (oq : own ks q = κ) {us : List V} (hu : Kvs ks us) : pval us (psub (inps ks.length ++ [q]) (wishP ks.length zs)) = .bl (saysP zs us (pval us q)) := by
  have low : Low (inps ks.length ++ [q]).length (wishP ks.length zs) := by
    have z := wk_low _ (wish_wk h).1
    have il : (inps ks.length).length = ks.length := by unfold inps; rw [List.length_map, List.length_range]
    rw [List.length_append, il]
    rw [List.length_append] at z
    exact z
  have ka : Kv κ (pval us q) := by rw [← oq]; exact pval_kv hu q wq
  rw [pval_psub us _ _ low, List.map_append, ← hu.1, inps_pval, hu.1]
  exact wish_val h hu ka
theorem wish_sz (h : ExsK ks κ zs) (hk : ks.length ≤ 3) (hl : zs.length ≤ 6) : psz (wishP ks.length zs) ≤ 300 ∧ dep (wishP ks.length zs) ≤ 20 := by
  have z := all_sz (m := 34) (d := 8) (by decide) (by decide) (ps := zs.map fun z => caseP z.1 (thingP ks.length z.2)) fun p hp => by
    obtain ⟨y, hy, rfl⟩ := List.mem_map.mp hp
    obtain ⟨a, b⟩ := at_sz y.1
    obtain ⟨c, d⟩ := thing_sz (k := ks.length) (v := y.2)
    have := (h y hy).1.1
    refine ⟨?_, ?_⟩
    · show psz (atP y.1) + 1 + psz (thingP ks.length y.2) + 1 ≤ 34; omega
    · show max (dep (atP y.1) + 1) (dep (thingP ks.length y.2)) + 1 ≤ 8; omega
  rw [List.length_map] at z
  show psz (allP _) ≤ 300 ∧ dep (allP _) ≤ 20
  have e : (34 + 1) * zs.length ≤ 35 * 6 := Nat.mul_le_mul_left _ hl
  omega
end
section
variable {P : Program} {w : World} {K : PySem.W.Frag} {mg : Str → Option Value} {base : Heap}
abbrev s_is_thing : Stmt := topS 62
theorem sc_is_thing : FnScope ["k", "thing"] ["k", "thing"] (defScope s_is_thing) := ⟨rfl, rfl, rfl, by decide +kernel, rfl, by decide +kernel, by decide +kernel⟩
def spThing (K : PySem.W.Frag) : Sp := fun vs H Q _ => ∃ (k : Nat) (v : V) (κ : Bool), vs = [.int k, v] ∧ Kv κ v ∧ ∀ (u : V) (H' : Hp), Same H H' → At K H' u (thingP k v) → Q u H'
theorem ok_is_thing (B : Bt mg) (D : DefAt K mg "is_thing" s_is_thing ["k", "thing"]) : Cal P w K mg base 1 "is_thing" ["k", "thing"] (spThing K) := by
  refine cal_of D sc_is_thing (fun vs H Q E h => ?_) (fun f cdv A outer s H vs Q E hr h => ?_)
  · obtain ⟨k, v, κ, rfl, _⟩ := h
    rfl
  obtain ⟨k, v, κ, rfl, hv, q⟩ := h
  refine ⟨_, (pss_cons (ps_if (pt_val (pe_callB call_isi (by rfl) B.isinstance (by decide +kernel) (pa_cons (pv 1) (pa_cons (pe_bltn (v := .ty "bool") (by rfl) B.bool PyProof.Rows.boot_bool rfl) pa_nil))))
        (pss_one (ps_ret (pe_ifExp (pt_val (pv 1)) (pe_tup (pa_cons pe_str (pa_cons (pv 0) pa_nil))) (pe_tup (pa_cons pe_str (pa_cons (pe_tup (pa_cons pe_str (pa_cons (pv 0) pa_nil))) pa_nil))))))
        pss_nil)
      (pss_one (ps_ret (pe_tup (pa_cons pe_str (pa_cons (pe_tup (pa_cons pe_str (pa_cons (pe_tup (pa_cons pe_str (pa_cons (pv 0) pa_nil))) (pa_cons (pe_tup (pa_cons pe_str (pa_cons (pv 1) pa_nil))) pa_nil)))) (pa_cons (pe_tup (pa_cons pe_str (pa_cons (pe_tup (pa_cons pe_str (pa_cons (pv 1) pa_nil))) (pa_cons (pe_tup (pa_cons pe_str (pa_cons (pv 0) pa_nil))) pa_nil)))) pa_nil))))))), ?_⟩
  cases κ with
  | true =>
    obtain ⟨b, rfl⟩ := hv
    refine ⟨_, rfl, .bl b, _, _, _, _, rfl, .ty _, (fd_b (K := K) (H := H) b).ty, kit_bl (.bool b) rfl, _, rfl, iteT ⟨_, rfl, ?_⟩⟩
    cases b with
    | true => exact ⟨true, rfl, iteT ⟨_, rfl, len2, fun a1 h1 => alT (K := K) h1 fun H1 s1 e1 => q _ H1 s1 (At.make (p := .inp k) (vs := []) e1 .nil)⟩⟩
    | false =>
      refine ⟨false, rfl, iteF ⟨_, rfl, len2, fun a1 h1 => alT (K := K) h1 fun H1 s1 e1 => ⟨len2, fun a2 h2 => alT (K := K) h2 fun H2 s2 e2 => ?_⟩⟩⟩
      exact q _ H2 (s1.trans s2) (At.make (p := .neg (.inp k)) (vs := [V.ref a1]) e2 (.cons ((At.make (p := .inp k) (vs := []) e1 .nil).keep (Tp.same s2)) .nil))
  | false =>
    obtain ⟨c, rfl⟩ := hv
    refine ⟨_, rfl, .int c, _, _, _, _, rfl, .ty _, (fd_i (K := K) (H := H) c).ty, kit_bl (.int c) rfl, _, rfl, iteF ?_⟩
    refine ⟨_, rfl, len2, fun a1 h1 => alT (K := K) h1 fun H1 s1 e1 => ⟨_, rfl, len2, fun a2 h2 => alT (K := K) h2 fun H2 s2 e2 => ⟨len3, fun a3 h3 => alT (K := K) h3 fun H3 s3 e3 => ?_⟩⟩⟩
    refine ⟨_, rfl, len2, fun a4 h4 => alT (K := K) h4 fun H4 s4 e4 => ⟨_, rfl, len2, fun a5 h5 => alT (K := K) h5 fun H5 s5 e5 => ⟨len3, fun a6 h6 => alT (K := K) h6 fun H6 s6 e6 => ⟨len3, fun a7 h7 => alT (K := K) h7 fun H7 s7 e7 => ?_⟩⟩⟩⟩
    have b1 : At K H1 (.ref a1) (.inp k) := At.make (p := .inp k) (vs := []) e1 .nil
    have b2 : At K H2 (.ref a2) (.num c) := At.make (p := .num c) (vs := []) e2 .nil
    have b3 : At K H3 (.ref a3) (.bin .atmost (.inp k) (.num c)) := At.make (p := .bin .atmost (.inp k) (.num c)) (vs := [V.ref a1, V.ref a2]) e3 (.cons (b1.keep (Tp.same (s2.trans s3))) (.cons (b2.keep (Tp.same s3)) .nil))
    have b4 : At K H4 (.ref a4) (.num c) := At.make (p := .num c) (vs := []) e4 .nil
    have b5 : At K H5 (.ref a5) (.inp k) := At.make (p := .inp k) (vs := []) e5 .nil
    have b6 : At K H6 (.ref a6) (.bin .atmost (.num c) (.inp k)) := At.make (p := .bin .atmost (.num c) (.inp k)) (vs := [V.ref a4, V.ref a5]) e6 (.cons (b4.keep (Tp.same (s5.trans s6))) (.cons (b5.keep (Tp.same s6)) .nil))
    exact q _ _ (s1.trans (s2.trans (s3.trans (s4.trans (s5.trans (s6.trans s7)))))) (At.make (p := .bin .both _ _) (vs := [V.ref a3, V.ref a6]) e7 (.cons (b3.keep (Tp.same (s4.trans (s5.trans (s6.trans s7))))) (.cons (b6.keep (Tp.same s7)) .nil)))
abbrev s_all_of : Stmt := topS 63
theorem sc_all_of : FnScope ["some", "whole", "program"] ["some"] (defScope s_all_of) := ⟨rfl, rfl, rfl, by decide +kernel, rfl, by decide +kernel, by decide +kernel⟩
def spAllOf (K : PySem.W.Frag) : Sp := fun vs H Q _ => ∃ (l : Addr) (ws : List V) (ps : List Pg), vs = [.ref l] ∧ H l = some (.lst ws) ∧ Ats K H ws ps ∧ ws.length ≤ 1000 ∧ ∀ (u : V) (H' : Hp), Same H H' → At K H' u (allP ps) → Q u H'
theorem ok_all_of (B : Bt mg) (D : DefAt K mg "all_of" s_all_of ["some"]) : Cal P w K mg base 1 "all_of" ["some"] (spAllOf K) := by
  refine cal_of D sc_all_of (fun vs H Q E h => ?_) (fun f cdv A outer s H vs Q E hr h => ?_)
  · obtain ⟨l, ws, ps, rfl, _⟩ := h
    rfl
  obtain ⟨l, ws, ps, rfl, hl, hws, wl, q⟩ := h
  refine ⟨_, (pss_cons (ps_if (pt_cmpR op_eq (pe_callB call_len_seq (by rfl) B.len PySem.boot_len (pa_cons (pv 0) pa_nil)) pe_int (nomark _))
        (pss_one (ps_ret (pe_tup (pa_cons pe_str pa_nil))))
        pss_nil)
      (pss_cons (ps_set (i := 1) sc_all_of.nd rfl (.inl rfl) (pe_ix ix_list (pv 0) (pe_un un_neg pe_int) (fun _ _ => rfl)))
      (pss_cons (ps_for PassesOwn.never rfl (pi_reversed (by rfl) B.reversed (pa_cons (pe_slice sl_list (pv 0) po_none (po_some (pe_un un_neg pe_int))) pa_nil)) (pg_name (i := 2) sc_all_of.nd rfl (.inl rfl))
        (pss_one (ps_set (i := 1) sc_all_of.nd rfl (.inl rfl) (pe_tup (pa_cons pe_str (pa_cons (pv 2) (pa_cons (pv 1) pa_nil)))))))
      (pss_one (ps_ret (pv 1)))))), ?_⟩
  have lps : ws.length = ps.length := hws.len
  refine ⟨_, rfl, l, _, rfl, .inl (SqL.of hl), rfl, _, rfl, ite2 (fun c => ?_) (fun c => ?_)⟩
  · obtain rfl : ws = [] := by
      cases ws with
      | nil => rfl
      | cons a b => exact absurd (V.int.inj (of_decide_eq_true c)) (by show ((b.length + 1 : Nat) : Int) ≠ 0; omega)
    obtain rfl : ps = [] := by
      cases ps with
      | nil => rfl
      | cons a b => cases lps
    exact ⟨len1, fun a1 h1 => alT (K := K) h1 fun H1 s1 e1 => q _ H1 s1 (At.make (p := .tr true) (vs := []) e1 .nil)⟩
  have n1 : 1 ≤ ws.length := by
    cases ws with
    | nil => exact absurd rfl c
    | cons a b => exact Nat.succ_pos _
  obtain ⟨wl0, ew⟩ : ∃ v, ws[ws.length - 1]? = some v := ⟨_, List.getElem?_eq_getElem (by omega)⟩
  obtain ⟨pl0, ep, al0⟩ := hws.get _ _ ew
  refine ⟨_, rfl, _, rfl, l, ws, -1, wl0, rfl, rfl, SqL.of hl, ?_, ?_⟩
  · exact at_lastQ n1 ew
  have hal : (ws.take (ws.length - 1)).length = ws.length - 1 := by rw [List.length_take]; omega
  refine ⟨_, rfl, ?_⟩
  delta tNoPart
  refine ⟨_, rfl, _, rfl, l, ws, rfl, SqL.of hl, ?_⟩
  intro p hp
  rw [cut_last n1]
  refine alLf hp fun H1 s1 e1 => ?_
  obtain ⟨m, em⟩ : ∃ m, ws.length = m + 1 := ⟨ws.length - 1, by omega⟩
  rw [em, Nat.add_sub_cancel] at ew ep
  rw [show ws.length - 1 = m by omega] at e1 hal
  refine ⟨p, _, rfl, SqL.of e1, for_it (walk_rev (K := K) (a := p) (xs := ws.take m)) (fun i σ' H' => ∃ (wv : V) (y2 : Option V), σ' = [some (.ref l), some wv, y2] ∧ Same H1 H' ∧ At K H' wv (allP (ps.drop (m - i)))) ?_ ?_ ?_ ?_⟩
  · refine ⟨wl0, none, rfl, Same.refl _, ?_⟩
    have e2 : ps.drop (m - 0) = [pl0] := by
      rw [Nat.sub_zero]
      have h1 : m < ps.length := by omega
      rw [List.drop_eq_getElem_cons h1, List.drop_eq_nil_of_le (by omega)]
      rw [List.getElem?_eq_getElem h1] at ep
      rw [Option.some.inj ep]
    rw [e2]
    exact al0.keep (Tp.same s1)
  · rintro i σ' H' _ ⟨_, _, _, sm, _⟩
    exact SqL.of (sm _ _ e1)
  · rintro i x σ' H' H2 hi ⟨wv, y2, rfl, sm, aw⟩ ⟨rfl, hx⟩
    rw [hal] at hi hx
    have ex : ws[m - 1 - i]? = some x := by
      rw [← hx, List.getElem?_take_of_lt (by omega)]
    obtain ⟨px, epx, ax⟩ := hws.get _ _ ex
    have h1 : m - 1 - i < ps.length := by omega
    have e2 : ps.drop (m - (i + 1)) = px :: ps.drop (m - i) := by
      rw [show m - (i + 1) = m - 1 - i by omega, List.drop_eq_getElem_cons h1, show m - 1 - i + 1 = m - i by omega]
      rw [List.getElem?_eq_getElem h1] at epx
      rw [Option.some.inj epx]
    have e3 : allP (px :: ps.drop (m - i)) = .bin .both px (allP (ps.drop (m - i))) := allP_cons fun z => by
      have := congrArg List.length z
      rw [List.length_drop] at this
      have : ps.length - (m - i) = 0 := this
      omega
    refine ⟨_, rfl, _, rfl, len3, fun p3 hp3 => alT (K := K) hp3 fun H3 s3 h3 => ⟨_, _, rfl, sm.trans s3, ?_⟩⟩
    rw [e2, e3]
    exact At.make (p := .bin .both px (allP (ps.drop (m - i)))) (vs := [x, wv]) h3 (.cons (ax.keep (Tp.same (s1.trans (sm.trans s3)))) (.cons (aw.keep (Tp.same s3)) .nil))
  · rintro σ' H' ⟨wv, y2, rfl, sm, aw⟩
    rw [hal, Nat.sub_self, List.drop_zero] at aw
    exact ⟨_, rfl, q wv H' (s1.trans sm) aw⟩
abbrev s_is_at : Stmt := topS 61
theorem sc_is_at : FnScope ["inputs", "k", "thing"] ["inputs"] (defScope s_is_at) := ⟨rfl, rfl, rfl, by decide +kernel, rfl, by decide +kernel, by decide +kernel⟩
def spIsAt (K : PySem.W.Frag) : Sp := fun vs H Q _ => ∃ (t : Addr) (us : List V) (ks : List Bool), vs = [.ref t] ∧ SqT K H t us ∧ Kvs ks us ∧ ks.length ≤ 100 ∧ ∀ (u : V) (H' : Hp), Same H H' → At K H' u (atP us) → Q u H'
theorem ok_is_at (B : Bt mg) (C_is_thing : Cal P w K mg base 1 "is_thing" ["k", "thing"] (spThing K)) (C_all_of : Cal P w K mg base 1 "all_of" ["some"] (spAllOf K)) (D : DefAt K mg "is_at" s_is_at ["inputs"]) : Cal P w K mg base 2 "is_at" ["inputs"] (spIsAt K) := by
  refine cal_of D sc_is_at (fun vs H Q E h => ?_) (fun f cdv A outer s H vs Q E hr h => ?_)
  · obtain ⟨t, us, ks, rfl, _⟩ := h
    rfl
  obtain ⟨t, us, ks, rfl, ht, hu, hkl, q⟩ := h
  have hr' : Room 1 _ := hr
  refine ⟨_, (pss_one (ps_ret (pe_cal C_all_of hr' (by rfl) (pa_cons (pe_lc (own := [("k", 1), ("thing", 2)]) (g := gTup K 2 (gCons (gName 1) (gCons (gName 2) gNil))) rfl sc_is_at.nd (pi_enumT (by rfl) B.enumerate (pa_cons (pv 0) pa_nil)) (blkOk_by (own := [("k", 1), ("thing", 2)]) (N := ["inputs", "k", "thing"]) (sc := defScope s_is_at) (by decide +kernel)) (fun _ _ _ _ _ => (pg_tupK (K := K) rfl rfl (pgs_cons (pg_name (i := 1) sc_is_at.nd rfl (.inl rfl)) (pgs_cons (pg_name (i := 2) sc_is_at.nd rfl (.inl rfl)) pgs_nil)))) (fun _ _ _ _ _ => pts_nil) (fun _ _ _ _ _ => (pe_cal C_is_thing hr' (by rfl) (pa_cons (pv 1) (pa_cons (pv 2) pa_nil))))) pa_nil)))), ?_⟩
  refine ⟨_, rfl, t, us, rfl, ht, ?_⟩
  have ul : us.length ≤ 100 := by rw [hu.1]; exact hkl
  refine fun D hD => lc_it (walk_enumT (K := K) (a := t) (xs := us)) (fun i H' => Same H H' ∧ ∃ ws, H' D = some (.lst ws) ∧ Ats K H' ws (thingsP 0 (us.take i)) ∧ ws.length = i) ?_ ?_ ?_ ?_
  · exact ⟨same_new hD, [], upd_same, .nil, rfl⟩
  · rintro i H' _ ⟨sm, _⟩
    exact Tp.same sm _ _ ht
  · rintro i x H' H2 hi ⟨sm, ws, eD, hws, wl⟩ ⟨T, p, y, rfl, hT, rfl, hp, hy⟩
    have hp' := Option.some.inj hp
    subst hp'
    have sm2 := same_new (o := .tup [.int (i : Nat), y]) hT
    have eT : (upd H' T (.tup [.int (i : Nat), y])) T = some (.tup [.int (i : Nat), y]) := upd_same
    generalize upd H' T (.tup [.int (i : Nat), y]) = H2 at sm2 eT
    have hi' : i < us.length := hi
    have hk : i < ks.length := by rw [← hu.1]; exact hi'
    have ky : Kv ks[i] y := hu.2 i _ y (List.getElem?_eq_getElem hk) hy
    refine ⟨T, _, rfl, .inl (.inl eT), rfl, _, _, rfl, _, _, rfl, rfl, rfl, ?_⟩
    refine ⟨_, rfl, _, rfl, i, y, ks[i], rfl, ky, fun u H3 s3 hu3 => ?_⟩
    have eD3 := s3 _ _ (sm2 _ _ eD)
    have tl : Tp K H3 (upd H3 D (.lst (ws ++ [u]))) := Tp.lst eD3
    refine ⟨ws, eD3, smallL (by omega), fun b o z => ?_, ws ++ [u], upd_same, ?_, by rw [List.length_append, wl]; rfl⟩
    · rw [upd_ne (ne_of_none z hD)]
      exact s3 _ _ (sm2 _ _ (sm _ _ z))
    · rw [List.take_add_one, show us[i]?.toList = [y] by rw [show us[i]? = some y from hy]; rfl, things_app, List.length_take, Nat.min_eq_left (by omega), Nat.zero_add]
      exact ((hws.keep (Tp.same (sm2.trans s3))).keep tl).app (Ats.cons (hu3.keep tl) .nil)
  rintro H1 ⟨s1, ws, eD, hws, wl⟩
  rw [List.take_length] at hws
  exact ⟨D, ws, _, rfl, eD, hws, by omega, fun u H2 s2 hu2 => q u H2 (s1.trans s2) hu2⟩
abbrev s_wish_of : Stmt := topS 59
theorem sc_wish_of : FnScope ["head", "examples", "many", "inputs", "answer"] ["head", "examples"] (defScope s_wish_of) := ⟨rfl, rfl, rfl, by decide +kernel, rfl, by decide +kernel, by decide +kernel⟩
def spWishOf (K : PySem.W.Frag) : Sp := fun vs H Q _ => ∃ (h ka ea : Addr) (ks : List Bool) (κ : Bool) (evs : List V) (zs : List (List V × V)), vs = [.ref h, .ref ea] ∧ SqT K H h [.ref ka, .str (kS κ)] ∧ SqT K H ka (kVs ks) ∧ ks.length ≤ 100 ∧ (SqL K H ea evs ∨ SqT K H ea evs) ∧ Exs K H ks κ evs zs ∧ evs.length ≤ 100 ∧ ∀ (u : V) (H' : Hp), Same H H' → At K H' u (wishP ks.length zs) → Q u H'
theorem ok_wish_of (B : Bt mg) (C_is_thing : Cal P w K mg base 1 "is_thing" ["k", "thing"] (spThing K)) (C_all_of : Cal P w K mg base 1 "all_of" ["some"] (spAllOf K)) (C_is_at : Cal P w K mg base 2 "is_at" ["inputs"] (spIsAt K)) (D : DefAt K mg "wish_of" s_wish_of ["head", "examples"]) : Cal P w K mg base 3 "wish_of" ["head", "examples"] (spWishOf K) := by
  refine cal_of D sc_wish_of (fun vs H Q E h => ?_) (fun f cdv A outer s H vs Q E hr h => ?_)
  · obtain ⟨h, ka, ea, ks, κ, evs, zs, rfl, _⟩ := h
    rfl
  obtain ⟨h, ka, ea, ks, κ, evs, zs, rfl, hh, hk, hkl, he, hx, hl, q⟩ := h
  have hr' : Room 2 _ := hr
  have C_is_thing := C_is_thing.mono (k := 2) (by decide)
  have C_all_of := C_all_of.mono (k := 2) (by decide)
  refine ⟨_, (pss_cons (ps_set (i := 2) sc_wish_of.nd rfl (.inr rfl) (pe_callB call_len_seq (by rfl) B.len PySem.boot_len (pa_cons (pe_ix ix_tup (pv 0) pe_int (fun _ _ => rfl)) pa_nil)))
      (pss_one (ps_ret (pe_cal C_all_of hr' (by rfl) (pa_cons (pe_lc (own := [("inputs", 3), ("answer", 4)]) (g := gTup K 2 (gCons (gName 3) (gCons (gName 4) gNil))) rfl sc_wish_of.nd (pi_lt (pv 1)) (blkOk_by (own := [("inputs", 3), ("answer", 4)]) (N := ["head", "examples", "many", "inputs", "answer"]) (sc := defScope s_wish_of) (by decide +kernel)) (fun _ _ _ _ _ => (pg_tupK (K := K) rfl rfl (pgs_cons (pg_name (i := 3) sc_wish_of.nd rfl (.inl rfl)) (pgs_cons (pg_name (i := 4) sc_wish_of.nd rfl (.inl rfl)) pgs_nil)))) (fun _ _ _ _ _ => pts_nil) (fun _ _ _ _ _ => (pe_tup (pa_cons pe_str (pa_cons (pe_tup (pa_cons pe_str (pa_cons (pe_cal C_is_at hr' (by rfl) (pa_cons (pv 3) pa_nil)) pa_nil))) (pa_cons (pe_cal C_is_thing hr' (by rfl) (pa_cons (pv 2) (pa_cons (pv 4) pa_nil))) pa_nil)))))) pa_nil))))), ?_⟩
  have kvl : (kVs ks).length = ks.length := List.length_map _
  refine ⟨_, rfl, h, _, 0, _, rfl, rfl, hh, at_of (j := 0) rfl rfl, ka, _, rfl, .inr hk, ?_⟩
  rw [kvl]
  rcases he with he | he
  · refine ⟨_, rfl, ea, rfl, .inl ⟨⟨_, he⟩, fun D hD => lc_it (walk_list (K := K) (a := ea) (xs := evs)) (fun i H' => Same H H' ∧ ∃ ws, H' D = some (.lst ws) ∧ Ats K H' ws ((zs.take i).map fun z => caseP z.1 (thingP ks.length z.2)) ∧ ws.length = i) ?_ ?_ ?_ ?_⟩⟩
    · exact ⟨same_new hD, [], upd_same, .nil, rfl⟩
    · rintro i H' _ ⟨sm, _⟩
      exact sm.seq he
    · rintro i x H' H2 hi ⟨sm, ws, eD, hws, wl⟩ ⟨rfl, hx'⟩
      obtain ⟨z, hz, e, t, rfl, h1, h2, h3, h4, _⟩ := hx.get hx'
      have hi' : i < evs.length := hi
      refine ⟨e, _, rfl, Tp.same sm _ _ h1, rfl, _, _, rfl, _, _, rfl, rfl, rfl, ?_⟩
      refine ⟨_, rfl, t, z.1, ks, rfl, Tp.same sm _ _ h2, h3, hkl, fun u3 H3 s3 hu3 => ⟨len2, fun a1 ha1 => alT (K := K) ha1 fun H4 s4 h4' => ⟨_, rfl, _, rfl, ks.length, z.2, κ, rfl, h4, fun u5 H5 s5 hu5 => ⟨len3, fun a2 ha2 => alT (K := K) ha2 fun H6 s6 h6 => ?_⟩⟩⟩⟩
      have n1 : At K H4 (.ref a1) (.neg (atP z.1)) := At.make (p := .neg (atP z.1)) (vs := [u3]) h4' (.cons (hu3.keep (Tp.same s4)) .nil)
      have n2 : At K H6 (.ref a2) (caseP z.1 (thingP ks.length z.2)) := At.make (p := .bin .either (.neg (atP z.1)) (thingP ks.length z.2)) (vs := [V.ref a1, u5]) h6 (.cons (n1.keep (Tp.same (s5.trans s6))) (.cons (hu5.keep (Tp.same s6)) .nil))
      have s36 := s3.trans (s4.trans (s5.trans s6))
      have eD6 := s36 _ _ eD
      have tl : Tp K H6 (upd H6 D (.lst (ws ++ [.ref a2]))) := Tp.lst eD6
      refine ⟨ws, eD6, smallL (by omega), fun b o z => ?_, ws ++ [.ref a2], upd_same, ?_, by rw [List.length_append, wl]; rfl⟩
      · rw [upd_ne (ne_of_none z hD)]
        exact s36 _ _ (sm _ _ z)
      · rw [List.take_add_one, show zs[i]?.toList = [z] by rw [hz]; rfl, List.map_append]
        exact ((hws.keep (Tp.same s36)).keep tl).app (Ats.cons (n2.keep tl) .nil)
    rintro H1 ⟨s1, ws, eD, hws, wl⟩
    rw [hx.len, List.take_length] at hws
    exact ⟨D, ws, _, rfl, eD, hws, by omega, fun u H2 s2 hu2 => q u H2 (s1.trans s2) hu2⟩
  · refine ⟨_, rfl, ea, rfl, .inr ⟨⟨_, he⟩, fun D hD => lc_it (walk_tup (K := K) (a := ea) (xs := evs)) (fun i H' => Same H H' ∧ ∃ ws, H' D = some (.lst ws) ∧ Ats K H' ws ((zs.take i).map fun z => caseP z.1 (thingP ks.length z.2)) ∧ ws.length = i) ?_ ?_ ?_ ?_⟩⟩
    · exact ⟨same_new hD, [], upd_same, .nil, rfl⟩
    · rintro i H' _ ⟨sm, _⟩
      exact Tp.same sm _ _ he
    · rintro i x H' H2 hi ⟨sm, ws, eD, hws, wl⟩ ⟨rfl, hx'⟩
      obtain ⟨z, hz, e, t, rfl, h1, h2, h3, h4, _⟩ := hx.get hx'
      have hi' : i < evs.length := hi
      refine ⟨e, _, rfl, Tp.same sm _ _ h1, rfl, _, _, rfl, _, _, rfl, rfl, rfl, ?_⟩
      refine ⟨_, rfl, t, z.1, ks, rfl, Tp.same sm _ _ h2, h3, hkl, fun u3 H3 s3 hu3 => ⟨len2, fun a1 ha1 => alT (K := K) ha1 fun H4 s4 h4' => ⟨_, rfl, _, rfl, ks.length, z.2, κ, rfl, h4, fun u5 H5 s5 hu5 => ⟨len3, fun a2 ha2 => alT (K := K) ha2 fun H6 s6 h6 => ?_⟩⟩⟩⟩
      have n1 : At K H4 (.ref a1) (.neg (atP z.1)) := At.make (p := .neg (atP z.1)) (vs := [u3]) h4' (.cons (hu3.keep (Tp.same s4)) .nil)
      have n2 : At K H6 (.ref a2) (caseP z.1 (thingP ks.length z.2)) := At.make (p := .bin .either (.neg (atP z.1)) (thingP ks.length z.2)) (vs := [V.ref a1, u5]) h6 (.cons (n1.keep (Tp.same (s5.trans s6))) (.cons (hu5.keep (Tp.same s6)) .nil))
      have s36 := s3.trans (s4.trans (s5.trans s6))
      have eD6 := s36 _ _ eD
      have tl : Tp K H6 (upd H6 D (.lst (ws ++ [.ref a2]))) := Tp.lst eD6
      refine ⟨ws, eD6, smallL (by omega), fun b o z => ?_, ws ++ [.ref a2], upd_same, ?_, by rw [List.length_append, wl]; rfl⟩
      · rw [upd_ne (ne_of_none z hD)]
        exact s36 _ _ (sm _ _ z)
      · rw [List.take_add_one, show zs[i]?.toList = [z] by rw [hz]; rfl, List.map_append]
        exact ((hws.keep (Tp.same s36)).keep tl).app (Ats.cons (n2.keep tl) .nil)
    rintro H1 ⟨s1, ws, eD, hws, wl⟩
    rw [hx.len, List.take_length] at hws
    exact ⟨D, ws, _, rfl, eD, hws, by omega, fun u H2 s2 hu2 => q u H2 (s1.trans s2) hu2⟩
end
end Lm

set_option Elab.async false
set_option linter.all false
set_option maxRecDepth 100000
set_option maxHeartbeats 4000000
set_option pp.maxSteps 2000
set_option pp.deepTerms.threshold 12
namespace Lm
open PySem PySem.Spec PyProof.Rows L2 LmR RZ
/-- a bound on a number -/
def Bn (n : Nat) (v : V) : Prop := (iv v).natAbs ≤ n
theorem Bn.q {n : Nat} {v : V} (h : Bn n v) (l : n < 1073741824) : Bq v := fun i e => by
  have h : (iv v).natAbs ≤ n := h
  rw [e] at h
  exact Nat.lt_of_le_of_lt h l
theorem pval_bn {us : List V} {n : Nat} (hu : ∀ v ∈ us, Bn n v) : ∀ p : Pg, Nb p → Bn (n + 1000 * psz p) (pval us p)
  | .inp k, _ => by
    show (iv (us.getD k .non)).natAbs ≤ _
    rw [List.getD_eq_getElem?_getD]
    cases e : us[k]? with
    | none => show (0 : Int).natAbs ≤ _; simp
    | some v => have h : (iv v).natAbs ≤ n := hu v (List.mem_of_getElem? e); show (iv v).natAbs ≤ _; omega
  | .num c, h => by have h : -1000 ≤ c ∧ c ≤ 1000 := h; show c.natAbs ≤ n + 1000 * 1; omega
  | .tr b, _ => by show (0 : Int).natAbs ≤ _; simp
  | .plus c a, h => by
    have i : (iv (pval us a)).natAbs ≤ n + 1000 * psz a := pval_bn hu a h.2
    have h := h.1
    show (iv (pval us a) + c).natAbs ≤ n + 1000 * (psz a + 1)
    omega
  | .bin w a b, h => by
    have i : (iv (pval us a)).natAbs ≤ n + 1000 * psz a := pval_bn hu a h.1
    have j : (iv (pval us b)).natAbs ≤ n + 1000 * psz b := pval_bn hu b h.2
    show (iv (bval w (pval us a) (pval us b))).natAbs ≤ n + 1000 * (psz a + psz b + 1)
    cases w with
    | least => show (if iv (pval us b) < iv (pval us a) then iv (pval us b) else iv (pval us a)).natAbs ≤ _; split <;> omega
    | most => show (if iv (pval us b) > iv (pval us a) then iv (pval us b) else iv (pval us a)).natAbs ≤ _; split <;> omega
    | _ => show (0 : Int).natAbs ≤ _; simp
  | .neg a, _ => by show (0 : Int).natAbs ≤ _; simp
  | .ite p a b, h => by
    have i : (iv (pval us a)).natAbs ≤ n + 1000 * psz a := pval_bn hu a h.2.1
    have j : (iv (pval us b)).natAbs ≤ n + 1000 * psz b := pval_bn hu b h.2.2
    show (iv (if bv (pval us p) = true then pval us a else pval us b)).natAbs ≤ n + 1000 * (psz p + psz a + psz b + 1)
    split <;> omega
theorem gr_put {f : Addr} {H H' : Hp} {p : Addr} {o : HO} (g : Gr [] f H H') (h : H p = none) (n : p ≠ f) : Gr [] f H (upd H' p o) := by
  refine ⟨fun b ob z nb => ?_, ?_⟩
  · rw [upd_ne (ne_of_none z h)]
    exact g.ex b ob z nb
  · obtain ⟨a, b, c, e, r⟩ := g.fl
    exact ⟨a, b, c, by rw [upd_ne (fun z => n z.symm)]; exact e, r⟩
theorem gr_none {f : Addr} {H H' : Hp} {p : Addr} (g : Gr [] f H H') (h : H' p = none) : H p = none ∧ p ≠ f := by
  have n : p ≠ f := fun z => by
    obtain ⟨a, b, c, e, r⟩ := g.fl
    rw [z, e] at h
    cases h
  refine ⟨?_, n⟩
  cases e : H p with
  | none => rfl
  | some o => rw [g.lst e n] at h; cases h
theorem exs_ofP {K : PySem.W.Frag} {H : Hp} {ks : List Bool} {κ : Bool} {p : List V × V → Prop} : ∀ {vs : List V}, (∀ v ∈ vs, ∃ z, Ex1 K H ks κ v z ∧ p z) → ∃ zs, Exs K H ks κ vs zs ∧ ∀ z ∈ zs, p z
  | [], _ => ⟨[], .nil, fun z hz => nomatch hz⟩
  | v :: vs, h => by
    obtain ⟨z, hz, pz⟩ := h v List.mem_cons_self
    obtain ⟨zs, hs, ps⟩ := exs_ofP (vs := vs) fun w hw => h w (List.mem_cons_of_mem _ hw)
    exact ⟨z :: zs, .cons hz hs, fun y hy => (List.mem_cons.mp hy).elim (fun e => e ▸ pz) (ps y)⟩
theorem kvs_take {ks : List Bool} {acc : List V} {j : Nat} {v : V} (hj : j < ks.length) (h : Kvs (ks.take j) acc) (hv : Kv ks[j] v) : Kvs (ks.take (j + 1)) (acc ++ [v]) := by
  rw [List.take_add_one, List.getElem?_eq_getElem hj]
  exact kvs_snocF h hv
theorem cut_end {xs : List V} {m : Int} (h : 1 ≤ m) : (∀ v ∈ cutV xs (some (-m)) none, v ∈ xs) ∧ ((cutV xs (some (-m)) none).length : Int) ≤ m := by
  unfold cutV
  refine ⟨fun v hv => List.mem_of_mem_drop (List.mem_of_mem_take hv), ?_⟩
  rw [List.length_take, List.length_drop, HT.sIx_none]
  have e : HT.sIx xs.length 0 (some (-m)) = ((-m) + ((xs.length : Nat) : Int)).toNat := by
    show (if (-m : Int) < 0 then ((-m) + ((xs.length : Nat) : Int)).toNat else min (-m).toNat xs.length) = _
    rw [if_pos (by omega)]
  rw [e]
  omega
section
variable {P : Program} {w : World} {K : PySem.W.Frag} {mg : Str → Option Value} {base : Heap}
abbrev s_l_answer : Stmt := topS 74
theorem sc_l_answer : FnScope ["_law_flow_here", "_law_kind"] ["_law_flow_here", "_law_kind"] (defScope s_l_answer) := ⟨rfl, rfl, rfl, by decide +kernel, rfl, by decide +kernel, by decide +kernel⟩
def spAnsw : Sp := fun vs H Q _ => ∃ (f : Addr) (κ : Bool), vs = [.ref f, .str (kS κ)] ∧ Flow H f ∧ ∀ (v : V) (H' : Hp), Gr [] f H H' → Kv κ v → Bn 1000000 v → Q v H'
theorem ok_l_answer (B : Bt mg) (C_l_draw : Cal P w K mg base 1 "_law_draw" ["_law_flow_here", "_law_wide"] (spDraw)) (D : DefAt K mg "_law_answer" s_l_answer ["_law_flow_here", "_law_kind"]) : Cal P w K mg base 2 "_law_answer" ["_law_flow_here", "_law_kind"] (spAnsw) := by
  refine cal_of D sc_l_answer (fun vs H Q E h => ?_) (fun f' cdv A outer s H vs Q E hr h => ?_)
  · obtain ⟨f, κ, rfl, _⟩ := h
    rfl
  obtain ⟨f, κ, rfl, fl, q⟩ := h
  have hr' : Room 1 _ := hr
  refine ⟨_, (pss_cons (ps_if (pt_cmpR op_eq (pv 1) pe_str (nomark _))
        (pss_one (ps_ret (pe_cmpR op_eq (pe_cal C_l_draw hr' (by rfl) (pa_cons (pv 0) (pa_cons pe_int pa_nil))) pe_int (nomark _))))
        pss_nil)
      (pss_one (ps_ret (pe_ix ix_list (pe_lst (pa_cons (pe_op op_sub (pe_cal C_l_draw hr' (by rfl) (pa_cons (pv 0) (pa_cons pe_int pa_nil))) pe_int) (pa_cons (pe_op op_sub (pe_cal C_l_draw hr' (by rfl) (pa_cons (pv 0) (pa_cons pe_int pa_nil))) pe_int) (pa_cons (pe_op op_sub (pe_cal C_l_draw hr' (by rfl) (pa_cons (pv 0) (pa_cons pe_int pa_nil))) pe_int) pa_nil)))) (pe_cal C_l_draw hr' (by rfl) (pa_cons (pv 0) (pa_cons pe_int pa_nil))) (fun _ _ => rfl))))), ?_⟩
  refine ⟨_, rfl, rfl, _, rfl, ?_⟩
  cases κ with
  | true => exact wt rfl ⟨_, rfl, f, 2, rfl, fl, by decide, by decide, fun d H1 _ _ r1 => ⟨rfl, q _ _ r1.g ⟨_, rfl⟩ (by show (0 : Int).natAbs ≤ _; simp)⟩⟩
  | false =>
    refine wf (by decide +kernel) ⟨_, rfl, f, 5, rfl, fl, by decide, by decide, fun d1 H1 a1 b1 r1 => ⟨_, _, rfl, rfl, _, rfl, f, 5, rfl, r1.fl, by decide, by decide, fun d2 H2 a2 b2 r2 => ⟨_, _, rfl, rfl, _, rfl, f, 1998001, rfl, r2.fl, by decide, by decide, fun d3 H3 a3 b3 r3 => ⟨_, _, rfl, rfl, len3, fun l hl => alLf hl fun H4 s4 e4 => ?_⟩⟩⟩⟩
    have g3 := (r1.g.trans r2.g).trans r3.g
    have g4 := g3.trans (gr_same' g3.fl s4)
    have nl := fl_ne g3.fl hl
    refine ⟨_, rfl, f, 3, rfl, g4.fl, by decide, by decide, fun d5 H5 a5 b5 r5 => ?_⟩
    obtain ⟨n, en, bn⟩ : ∃ n : Int, atI [V.int (d1 - 2), V.int (d2 - 2), V.int (d3 - 999000)] d5 = some (.int n) ∧ n.natAbs ≤ 1000000 := by
      rcases (show d5 = 0 ∨ d5 = 1 ∨ d5 = 2 by omega) with z | z | z <;> subst z
      · exact ⟨_, rfl, by omega⟩
      · exact ⟨_, rfl, by omega⟩
      · exact ⟨_, rfl, by omega⟩
    exact ⟨l, _, d5, .int n, rfl, rfl, SqL.of ((r5.off l nl).trans e4), en, q _ _ (g4.trans r5.g) ⟨_, rfl⟩ bn⟩
abbrev s_l_unlike : Stmt := topS 75
theorem sc_l_unlike : FnScope ["_law_flow_here", "_law_answer_here"] ["_law_flow_here", "_law_answer_here"] (defScope s_l_unlike) := ⟨rfl, rfl, rfl, by decide +kernel, rfl, by decide +kernel, by decide +kernel⟩
def spUnl : Sp := fun vs H Q _ => ∃ (f : Addr) (κ : Bool) (a : V), vs = [.ref f, a] ∧ Flow H f ∧ Kv κ a ∧ ∀ (v : V) (H' : Hp), Gr [] f H H' → Kv κ v → v ≠ a → (∀ n, Bn n a → Bn (n + 7) v) → Q v H'
theorem ok_l_unlike (B : Bt mg) (C_l_draw : Cal P w K mg base 1 "_law_draw" ["_law_flow_here", "_law_wide"] (spDraw)) (D : DefAt K mg "_law_unlike" s_l_unlike ["_law_flow_here", "_law_answer_here"]) : Cal P w K mg base 2 "_law_unlike" ["_law_flow_here", "_law_answer_here"] (spUnl) := by
  refine cal_of D sc_l_unlike (fun vs H Q E h => ?_) (fun f' cdv A outer s H vs Q E hr h => ?_)
  · obtain ⟨f, κ, a, rfl, _⟩ := h
    rfl
  obtain ⟨f, κ, a, rfl, fl, ka, q⟩ := h
  have hr' : Room 1 _ := hr
  refine ⟨_, (pss_cons (ps_if (pt_val (pe_callB call_isi (by rfl) B.isinstance (by decide +kernel) (pa_cons (pv 1) (pa_cons (pe_bltn (v := .ty "bool") (by rfl) B.bool PyProof.Rows.boot_bool rfl) pa_nil))))
        (pss_one (ps_ret (pe_not (pv 1))))
        pss_nil)
      (pss_one (ps_ret (pe_op op_add (pv 1) (pe_op op_mul (pe_ix ix_list (pe_lst (pa_cons pe_int (pa_cons (pe_op op_sub pe_int pe_int) (pa_cons pe_int pa_nil)))) (pe_cal C_l_draw hr' (by rfl) (pa_cons (pv 0) (pa_cons pe_int pa_nil))) (fun _ _ => rfl)) (pe_op op_sub pe_int (pe_op op_mul pe_int (pe_callTy call_int1 (by rfl) B.int PyProof.Rows.boot_int (pa_cons (pe_cmpR op_gt (pv 1) pe_int (nomark _)) pa_nil))))))))), ?_⟩
  cases κ with
  | true =>
    obtain ⟨b, rfl⟩ := ka
    refine ⟨_, rfl, .bl b, _, _, _, _, rfl, .ty _, (fd_b (K := K) (H := H) b).ty, kit_bl (.bool b) rfl, _, rfl, iteT ⟨_, rfl, b, rfl, ?_⟩⟩
    exact q _ _ (gr_same' fl (Same.refl _)) ⟨_, rfl⟩ (fun z => by injection z with z; cases b <;> cases z) (fun n _ => by show (0 : Int).natAbs ≤ _; simp)
  | false =>
    obtain ⟨c, rfl⟩ := ka
    refine ⟨_, rfl, .int c, _, _, _, _, rfl, .ty _, (fd_i (K := K) (H := H) c).ty, kit_bl (.int c) rfl, _, rfl, iteF ⟨_, rfl, _, _, rfl, rfl, len3, fun l hl => alLf hl fun H4 s4 e4 => ?_⟩⟩
    have g4 := gr_same' fl s4
    have nl := fl_ne fl hl
    refine ⟨_, rfl, f, 3, rfl, g4.fl, by decide, by decide, fun d5 H5 a5 b5 r5 => ?_⟩
    obtain ⟨n, en, bn⟩ : ∃ n : Int, atI [V.int 1, V.int (0 - 1), V.int 7] d5 = some (.int n) ∧ (n = 1 ∨ n = -1 ∨ n = 7) := by
      rcases (show d5 = 0 ∨ d5 = 1 ∨ d5 = 2 by omega) with z | z | z <;> subst z
      · exact ⟨_, rfl, .inl rfl⟩
      · exact ⟨_, rfl, .inr (.inl rfl)⟩
      · exact ⟨_, rfl, .inr (.inr rfl)⟩
    have g5 := g4.trans r5.g
    refine ⟨l, _, d5, .int n, rfl, rfl, SqL.of ((r5.off l nl).trans e4), en, _, rfl, _, _, rfl, rfl, .inr ⟨_, rfl, ?_⟩⟩
    obtain ⟨g, eg, bg⟩ : ∃ g : Int, (if decide (1000 < c) = true then (1 : Int) else 0) = g ∧ (g = 0 ∨ g = 1) := by
      by_cases z : 1000 < c
      · exact ⟨1, by rw [decide_eq_true z]; rfl, .inr rfl⟩
      · exact ⟨0, by rw [decide_eq_false z]; rfl, .inl rfl⟩
    rw [eg]
    refine ⟨_, _, rfl, rfl, .inl ⟨by decide, by decide⟩, _, _, rfl, rfl, _, _, rfl, rfl, .inl ⟨by omega, by omega⟩, _, _, rfl, rfl, ?_⟩
    obtain ⟨s, es, bs⟩ : ∃ s : Int, n * (1 - 2 * g) = s ∧ s ≠ 0 ∧ s.natAbs ≤ 7 := by
      refine ⟨_, rfl, ?_⟩
      rcases bg with z | z <;> rcases bn with y | y | y <;> subst z <;> subst y <;> exact ⟨by decide, by decide⟩
    have q' := q (.int (c + n * (1 - 2 * g))) H5 g5 ⟨_, rfl⟩
    rw [es] at q' ⊢
    refine q' (fun z => bs.1 (by injection z with z; omega)) fun m hm => ?_
    have hm : c.natAbs ≤ m := hm
    show (c + s).natAbs ≤ m + 7
    have := bs.2
    omega
abbrev s_l_examples : Stmt := topS 76
theorem sc_l_examples : FnScope ["_law_flow_here", "_law_head", "_law_plan_here", "_law_most", "_law_kinds_here", "_law_kind", "_law_found", "_law_form", "_law_turn", "_law_inputs", "_law_known", "_law_answer_here", "_law_one"] ["_law_flow_here", "_law_head", "_law_plan_here", "_law_most"] (defScope s_l_examples) := ⟨rfl, rfl, rfl, by decide +kernel, rfl, by decide +kernel, by decide +kernel⟩
/-- answers bounded -/
def ExB (n : Nat) (zs : List (List V × V)) : Prop := ∀ z ∈ zs, Bn n z.2
def spExa (K : PySem.W.Frag) : Sp := fun vs H Q _ => ∃ (f h ka : Addr) (vp : V) (ks : List Bool) (κ : Bool) (p : Pg) (most : Int), vs = [.ref f, .ref h, vp, .int most] ∧ Flow H f ∧ SqT K H h [.ref ka, .str (kS κ)] ∧ SqT K H ka (kVs ks) ∧ ks.length ≤ 3 ∧ At K H vp p ∧ Wn ks p ∧ own ks p = κ ∧ psz p ≤ 6 ∧ 1 ≤ most ∧ most ≤ 6 ∧
  ∀ (l : Addr) (us : List V) (zs : List (List V × V)) (H' : Hp), Gr [] f H H' → H l = none → l ≠ f → H' l = some (.lst us) → Exs K H' ks κ us zs → ExB 1006007 zs → (us.length : Int) ≤ most → Q (.ref l) H'
theorem ok_l_examples (B : Bt mg) (C_l_draw : Cal P w K mg base 1 "_law_draw" ["_law_flow_here", "_law_wide"] (spDraw)) (C_l_answer : Cal P w K mg base 2 "_law_answer" ["_law_flow_here", "_law_kind"] (spAnsw)) (C_l_unlike : Cal P w K mg base 2 "_law_unlike" ["_law_flow_here", "_law_answer_here"] (spUnl)) (C_l_worth : Cal P w K mg base 21 "_law_worth" ["_law_plan_here", "_law_inputs"] (spWorth K 20)) (D : DefAt K mg "_law_examples" s_l_examples ["_law_flow_here", "_law_head", "_law_plan_here", "_law_most"]) : Cal P w K mg base 22 "_law_examples" ["_law_flow_here", "_law_head", "_law_plan_here", "_law_most"] (spExa K) := by
  refine cal_of D sc_l_examples (fun vs H Q E h => ?_) (fun f' cdv A outer s H vs Q E hr h => ?_)
  · obtain ⟨f, h, ka, vp, ks, κ, p, most, rfl, _⟩ := h
    rfl
  obtain ⟨f, h, ka, vp, ks, κ, p, most, rfl, fl, hh, hk, hkl, hp, wn, op, zp, m1, m6, q⟩ := h
  have hr' : Room 21 _ := hr
  have C_l_draw := C_l_draw.mono (k := 21) (by decide)
  have C_l_answer := C_l_answer.mono (k := 21) (by decide)
  have C_l_unlike := C_l_unlike.mono (k := 21) (by decide)
  refine ⟨_, (pss_cons (ps_asg (pv 1) (pg_tup rfl (pgs_cons (pg_name (i := 4) sc_l_examples.nd rfl (.inl rfl)) (pgs_cons (pg_name (i := 5) sc_l_examples.nd rfl (.inl rfl)) pgs_nil))))
      (pss_cons (ps_par (i := 6) (j := 7) rfl sc_l_examples.nd rfl rfl (by decide) rfl rfl (pa_cons (pe_lst pa_nil) (pa_cons (pe_cal C_l_draw hr' (by rfl) (pa_cons (pv 0) (pa_cons pe_int pa_nil))) pa_nil)) rfl)
      (pss_cons (ps_for PassesOwn.never rfl (pi_range1 (by rfl) B.range (pa_cons (pe_cal C_l_draw hr' (by rfl) (pa_cons (pv 0) (pa_cons (pe_op op_add (pv 3) pe_int) pa_nil))) pa_nil)) (pg_name (i := 8) sc_l_examples.nd rfl (.inl rfl))
        (pss_cons (ps_set (i := 9) sc_l_examples.nd rfl (.inr rfl) (pe_callTy call_tuple_of (by rfl) B.tuple PyProof.Rows.boot_tuple (pa_cons (pe_lc (own := [("_law_one", 12)]) (g := gName 12) rfl sc_l_examples.nd (pi_tup (pv 4)) (blkOk_by (own := [("_law_one", 12)]) (N := ["_law_flow_here", "_law_head", "_law_plan_here", "_law_most", "_law_kinds_here", "_law_kind", "_law_found", "_law_form", "_law_turn", "_law_inputs", "_law_known", "_law_answer_here", "_law_one"]) (sc := defScope s_l_examples) (by decide +kernel)) (fun _ _ _ _ _ => (pg_name (i := 12) sc_l_examples.nd rfl (.inl rfl))) (fun _ _ _ _ _ => pts_nil) (fun _ _ _ _ _ => (pe_cal C_l_answer hr' (by rfl) (pa_cons (pv 0) (pa_cons (pv 12) pa_nil))))) pa_nil)))
      (pss_cons (ps_setLc (i := 10) (own := [("_law_one", 12)]) (g := gName 12) rfl sc_l_examples.nd rfl rfl (sw_true rfl rfl rfl (by decide +kernel)) (pi_list (pv 6)) (blkOk_by (own := [("_law_one", 12)]) (N := ["_law_flow_here", "_law_head", "_law_plan_here", "_law_most", "_law_kinds_here", "_law_kind", "_law_found", "_law_form", "_law_turn", "_law_inputs", "_law_known", "_law_answer_here", "_law_one"]) (sc := defScope s_l_examples) (by decide +kernel)) (fun _ _ _ _ _ => (pg_name (i := 12) sc_l_examples.nd rfl (.inl rfl))) (fun _ _ _ _ _ => (pts_one (pt_cmpR (op_eqPK rfl hr.units) (pe_ix (ix_tupK (K := K) rfl) (pv 12) pe_int (fun _ _ => rfl)) (pv 9) (nomark _)))) (fun _ _ _ _ _ => (pv 12)))
      (pss_cons (ps_set (i := 11) sc_l_examples.nd rfl (.inl rfl) (pe_ix ix_list (pe_lst (pa_cons (pe_cal C_l_worth hr' (by rfl) (pa_cons (pv 2) (pa_cons (pv 9) pa_nil))) (pa_cons (pe_cal C_l_answer hr' (by rfl) (pa_cons (pv 0) (pa_cons (pv 5) pa_nil))) pa_nil))) (pe_callTy call_int1 (by rfl) B.int PyProof.Rows.boot_int (pa_cons (pe_cmpR op_eq (pv 7) pe_int (nomark _)) pa_nil)) (fun _ _ => rfl)))
      (C8.pss_cut (ps_expr (pe_bm PySem.F.plainAttrs_list PySem.F.slot_list_append PySem.F.type_list_append mt_append (pv 6) (pa_cons (pe_ifExp (pt_cmpR (op_neP hr.units) (pv 10) (pe_lst pa_nil) (nomark _)) (pe_ix ix_list (pv 10) pe_int (fun _ _ => rfl)) (pe_tup (pa_cons (pv 9) (pa_cons (pv 11) pa_nil)))) pa_nil)))
      (pss_one (ps_if (pt_cmpR op_eq (pe_cal C_l_draw hr' (by rfl) (pa_cons (pv 0) (pa_cons pe_int pa_nil))) pe_int (nomark _))
        (pss_one (ps_expr (pe_bm PySem.F.plainAttrs_list PySem.F.slot_list_append PySem.F.type_list_append mt_append (pv 6) (pa_cons (pe_ix ix_list (pv 6) (pe_cal C_l_draw hr' (by rfl) (pa_cons (pv 0) (pa_cons (pe_callB call_len_seq (by rfl) B.len PySem.boot_len (pa_cons (pv 6) pa_nil)) pa_nil))) (fun _ _ => rfl)) pa_nil))))
        pss_nil)))))))
      (C8.pss_cut (ps_if (PW.pt (pw_and (pt_cmpR op_eq (pv 7) pe_int (nomark _)) (pw_and1 (pt_cmpR (op_neP hr.units) (pv 6) (pe_lst pa_nil) (nomark _)))))
        (pss_cons (ps_asg (pe_ix ix_list (pv 6) (pe_cal C_l_draw hr' (by rfl) (pa_cons (pv 0) (pa_cons (pe_callB call_len_seq (by rfl) B.len PySem.boot_len (pa_cons (pv 6) pa_nil)) pa_nil))) (fun _ _ => rfl)) (pg_tup rfl (pgs_cons (pg_name (i := 9) sc_l_examples.nd rfl (.inr rfl)) (pgs_cons (pg_name (i := 11) sc_l_examples.nd rfl (.inl rfl)) pgs_nil))))
      (pss_one (ps_set (i := 6) sc_l_examples.nd rfl (.inl rfl) (pe_op op_cat (pe_lc (own := [("_law_one", 12)]) (g := gName 12) rfl sc_l_examples.nd (pi_list (pv 6)) (blkOk_by (own := [("_law_one", 12)]) (N := ["_law_flow_here", "_law_head", "_law_plan_here", "_law_most", "_law_kinds_here", "_law_kind", "_law_found", "_law_form", "_law_turn", "_law_inputs", "_law_known", "_law_answer_here", "_law_one"]) (sc := defScope s_l_examples) (by decide +kernel)) (fun _ _ _ _ _ => (pg_name (i := 12) sc_l_examples.nd rfl (.inl rfl))) (fun _ _ _ _ _ => (pts_one (pt_cmpR (op_nePK rfl hr.units) (pe_ix (ix_tupK (K := K) rfl) (pv 12) pe_int (fun _ _ => rfl)) (pv 9) (nomark _)))) (fun _ _ _ _ _ => (pv 12))) (pe_lst (pa_cons (pe_tup (pa_cons (pv 9) (pa_cons (pe_cal C_l_unlike hr' (by rfl) (pa_cons (pv 0) (pa_cons (pv 11) pa_nil))) pa_nil))) pa_nil))))))
        pss_nil)
      (pss_one (ps_ret (pe_slice sl_list (pv 6) (po_some (pe_un un_neg (pv 3))) po_none))))))), ?_⟩
  have kvl : (kVs ks).length = ks.length := List.length_map _
  refine ⟨_, rfl, h, _, rfl, hh, rfl, _, _, rfl, _, _, rfl, rfl, ?_⟩
  have kl3 : (kVs ks).length ≤ 3 := by rw [kvl]; exact hkl
  refine ⟨Nat.zero_le _, fun L hL => alLf hL fun H1 s1 e1 => ?_⟩
  have nL := fl_ne fl hL
  have g1 := gr_same' fl s1
  refine ⟨_, rfl, f, 3, rfl, g1.fl, by decide, by decide, fun fm H2 f0 f1 r2 => ⟨_, _, rfl, ?_⟩⟩
  have g2 := g1.trans r2.g
  have eL2 : H2 L = some (.lst []) := (r2.off L nL).trans e1
  refine ⟨_, rfl, _, rfl, _, _, rfl, rfl, f, most + 1, rfl, g2.fl, by omega, by omega, fun dn H3 n0 n1 r3 => ⟨_, rfl, by omega, by omega, for_range (lo := 0) (n := dn.toNat) (fun i σ' H' => (∃ y8 y9 y10 y11 y12 : Option V, σ' = [some (.ref f), some (.ref h), some vp, some (.int most), some (.ref ka), some (.str (kS κ)), some (.ref L), some (.int fm), y8, y9, y10, y11, y12]) ∧ Gr [] f H H' ∧ ∃ us zs, H' L = some (.lst us) ∧ Exs K H' ks κ us zs ∧ ExB 1006000 zs ∧ us.length ≤ 2 * i) ⟨⟨_, _, _, _, _, rfl⟩, g2.trans r3.g, [], [], (r3.off L nL).trans eL2, .nil, (fun z hz => nomatch hz), Nat.le_refl _⟩ ?_ ?_⟩⟩
  · rintro i σ' H4 hi ⟨⟨y8, y9, y10, y11, y12, rfl⟩, g4, us, zs, eL4, hus, hbz, ul⟩
    have hi' : i < 7 := by omega
    have t4 := g4.tp (K := K) fl
    refine ⟨_, rfl, ka, rfl, ⟨_, t4 _ _ hk⟩, fun D hD => lc_it (walk_tup (K := K) (a := ka) (xs := kVs ks)) (fun j H' => Gr [] f H4 H' ∧ ∃ acc, H' D = some (.lst acc) ∧ Kvs (ks.take j) acc ∧ ∀ v ∈ acc, Bn 1000000 v) ?_ ?_ ?_ ?_⟩
    · exact ⟨gr_same' g4.fl (same_new hD), [], upd_same, ⟨rfl, fun j k v a => by cases a⟩, fun v hv => nomatch hv⟩
    · rintro j H' _ ⟨gm, _⟩
      exact (t4.trans (gm.tp g4.fl)) _ _ hk
    · rintro j x H' H5 hj ⟨gm, acc, eD, hacc, hb⟩ ⟨rfl, hx⟩
      have nD := fl_ne g4.fl hD
      have hj' : j < ks.length := by rw [← kvl]; exact hj
      have ek : (kVs ks)[j]? = some (.str (kS ks[j])) := by
        unfold kVs
        rw [List.getElem?_map, List.getElem?_eq_getElem hj']
        rfl
      have hx : (kVs ks)[j]? = some x := hx
      rw [ek] at hx
      cases hx
      refine ⟨rfl, _, rfl, _, rfl, f, ks[j], rfl, gm.fl, fun v H6 g6 kv bv6 => ?_⟩
      have eD6 : H6 D = some (.lst acc) := g6.lst eD nD
      refine ⟨acc, eD6, smallL (by have := hacc.1; rw [List.length_take] at this; omega), gr_put (gm.trans g6) hD nD, acc ++ [v], upd_same, kvs_take hj' hacc kv, fun w hw => ?_⟩
      rcases List.mem_append.mp hw with z | z
      · exact hb w z
      · rw [List.mem_singleton.mp z]; exact bv6
    rintro H5 ⟨g5, ins, eD5, hins, hinb⟩
    have el : (kVs ks).length = ks.length := kvl
    rw [kvl, List.take_length] at hins
    refine ⟨D, ins, rfl, .inl ⟨SqL.of eD5, fun t ht => alT (K := K) ht fun H6 s6 h6 => ?_⟩⟩
    have g46 := g5.trans (gr_same' g5.fl s6)
    have eL6 : H6 L = some (.lst us) := g46.lst eL4 nL
    have hus6 := hus.keep (g46.tp (K := K) g4.fl)
    have tin : PyData.plain (.tuple (ins.map xPD)) = true ∧ PyData.depth (.tuple (ins.map xPD)) ≤ 1 := by
      have g := good_us (us := ins) fun v hv => (hinb v hv).q (by decide)
      exact ⟨g.p, g.t⟩
    -- those known
    refine ⟨_, rfl, L, rfl, ⟨_, SqL.of eL6⟩, fun D2 hD2 => lc_it (walk_list (K := K) (a := L) (xs := us)) (fun j H' => Same H6 H' ∧ ∃ acc, H' D2 = some (.lst acc) ∧ acc.length ≤ j ∧ ∀ v ∈ acc, v ∈ us) ?_ ?_ ?_ ?_⟩
    · exact ⟨same_new hD2, [], upd_same, Nat.le_refl _, fun v hv => nomatch hv⟩
    · rintro j H' _ ⟨sm, _⟩
      exact SqL.of (sm _ _ eL6)
    · rintro j x H' H7 hj ⟨sm, acc, eD, al, hacc⟩ ⟨rfl, hx⟩
      have hj' : j < us.length := hj
      obtain ⟨z, hz, ex1⟩ := (hus6.keep (Tp.same sm)).get hx
      have gx := ex1.good (by omega)
      obtain ⟨e, t2, rfl, h1, h2, h3, h4, h5, h6'⟩ := ex1
      have gz := good_us h5
      refine ⟨rfl, _, rfl, e, _, 0, _, rfl, rfl, h1, at_of (j := 0) rfl rfl, _, rfl, .tuple (z.1.map xPD), .tuple (ins.map xPD), .tup h2 (us_dpX h3), .tup (Tp.same sm _ _ h6) (us_dpX hins), gz.p, tin.1, Nat.le_trans gz.t (by decide), _, rfl, ite2 (fun c => ?_) (fun c => ?_)⟩
      · refine ⟨_, rfl, acc, eD, smallL (by omega), fun b o z => ?_, acc ++ [.ref e], upd_same, by rw [List.length_append]; exact Nat.succ_le_succ al, fun v hv => ?_⟩
        · rw [upd_ne (ne_of_none z hD2)]
          exact sm _ _ z
        · rcases List.mem_append.mp hv with z | z
          · exact hacc v z
          · rw [List.mem_singleton.mp z]; exact List.mem_of_getElem? hx
      · exact ⟨sm, acc, eD, Nat.le_succ_of_le al, hacc⟩
    rintro H7 ⟨s7, kn, eD7, kl, hkn⟩
    have t47 := (g46.tp (K := K) g4.fl).trans (Tp.same s7)
    have g47 := g46.trans (gr_same' g46.fl s7)
    have hus7 := hus6.keep (Tp.same (K := K) s7)
    -- the answer
    refine ⟨_, rfl, _, rfl, vp, p, t, ins, ks, rfl, hp.keep (t4.trans t47), Tp.same s7 _ _ h6, hins, wn.1, by have := dep_le p; omega, fun H8 s8 => ⟨_, rfl, _, rfl, f, κ, rfl, (gr_same' g47.fl s8).fl, fun v9 H9 g9 k9 b9 => ⟨len2, fun l2 hl2 => alLf hl2 fun H10 s10 e10 => ⟨_, rfl, rfl, .inr ⟨_, rfl, ?_⟩⟩⟩⟩⟩
    have wk9 : Kv κ (pval ins p) := by rw [← op]; exact pval_kv hins p wn.1
    have wb9 := pval_bn hinb p wn.2
    obtain ⟨xv, ex, kx, bx⟩ : ∃ xv, atI [pval ins p, v9] (if decide (V.int fm = V.int 2) = true then 1 else 0) = some xv ∧ Kv κ xv ∧ Bn 1006000 xv := by
      by_cases c : V.int fm = V.int 2
      · rw [if_pos (decide_eq_true c)]
        exact ⟨v9, rfl, k9, Nat.le_trans b9 (by decide)⟩
      · rw [if_neg (fun z => c (of_decide_eq_true z))]
        exact ⟨_, rfl, wk9, Nat.le_trans wb9 (by omega)⟩
    have g9' := (gr_same' g47.fl s8).trans g9
    have g49 := g47.trans g9'
    have g410 := g49.trans (gr_same' g49.fl s10)
    have t710 : Tp K H7 H10 := ((Tp.same s8).trans (g9.tp (gr_same' g47.fl s8).fl)).trans (Tp.same s10)
    refine ⟨l2, _, _, xv, rfl, rfl, SqL.of e10, ex, ?_⟩
    have eL7 := s7 _ _ eL6
    have nD2 := fl_ne g46.fl hD2
    have eL10 : H10 L = some (.lst us) := s10 _ _ (g9.lst (s8 _ _ eL7) nL)
    have eD10 : H10 D2 = some (.lst kn) := s10 _ _ (g9.lst (s8 _ _ eD7) nD2)
    have ht10 : SqT K H10 t ins := t710 _ _ (Tp.same s7 _ _ h6)
    have hus10 := hus7.keep t710
    obtain ⟨kz, hkz, bkz⟩ := exs_ofP (p := fun z => Bn 1006000 z.2) (vs := kn) fun v hv => by
      obtain ⟨z, hz, e⟩ := hus10.mem (hkn v hv)
      exact ⟨z, e, hbz z hz⟩
    have gk := hkz.good (by omega)
    refine ⟨fun σ' H' => (∃ y9 y10 y11 y12 : Option V, σ' = [some (.ref f), some (.ref h), some vp, some (.int most), some (.ref ka), some (.str (kS κ)), some (.ref L), some (.int fm), some (.int (0 + (i : Int))), y9, y10, y11, y12]) ∧ Gr [] f H H' ∧ ∃ us zs, H' L = some (.lst us) ∧ Exs K H' ks κ us zs ∧ ExB 1006000 zs ∧ us.length ≤ 2 * i + 1 ∧ 1 ≤ us.length, ?_, ?_⟩
    · have g10 := g4.trans g410
      have add : ∀ (H' : Hp) (x : V) (z : List V × V), Same H10 H' → Ex1 K H' ks κ x z → Bn 1006000 z.2 → H' L = some (.lst us) ∧ us.length < sizeLine ∧ Gr [] f H (upd H' L (.lst (us ++ [x]))) ∧ ∃ us' zs', (upd H' L (.lst (us ++ [x]))) L = some (.lst us') ∧ Exs K (upd H' L (.lst (us ++ [x]))) ks κ us' zs' ∧ ExB 1006000 zs' ∧ us'.length ≤ 2 * i + 1 ∧ 1 ≤ us'.length := fun H' x z s' hx bx' => by
        have eL' := s' _ _ eL10
        have tl : Tp K H' (upd H' L (.lst (us ++ [x]))) := Tp.lst eL'
        refine ⟨eL', smallL (by omega), gr_put (g10.trans (gr_same' g10.fl s')) hL nL, us ++ [x], zs ++ [z], upd_same, ((hus10.keep (Tp.same s')).keep tl).app (.cons (hx.keep tl) .nil), fun y hy => ?_, by rw [List.length_append]; show us.length + 1 ≤ _; omega, by rw [List.length_append]; show 1 ≤ us.length + 1; omega⟩
        rcases List.mem_append.mp hy with w | w
        · exact hbz y w
        · rw [List.mem_singleton.mp w]; exact bx'
      refine ⟨_, rfl, .inl ⟨rfl, _, SqL.of eL10⟩, _, rfl, Nat.zero_le _, fun l0 hl0 => alLf hl0 fun H11 s11 e11 => ⟨.list (kz.map exPD), .list [], .lst (SqL.of (s11 _ _ eD10)) (hkz.keep (Tp.same s11)).dp, .lst (SqL.of e11) .nil, gk.lst.p, rfl, Nat.le_trans gk.lst.t (by decide), _, rfl, ?_⟩⟩
      rw [list_none]
      refine ite2 (fun c => ?_) (fun c => ?_)
      · obtain ⟨k0, kr, rfl⟩ : ∃ k0 kr, kn = k0 :: kr := by
          cases kn with
          | nil => cases hkz; simp at c
          | cons a b => exact ⟨a, b, rfl⟩
        obtain ⟨z, hz, ez⟩ := hus10.mem (hkn k0 List.mem_cons_self)
        obtain ⟨a1, a2, a3, a4⟩ := add H11 k0 z s11 (ez.keep (Tp.same s11)) (hbz z hz)
        exact ⟨_, rfl, D2, _, 0, k0, rfl, rfl, SqL.of (s11 _ _ eD10), at_of (j := 0) rfl rfl, L, us, k0, rfl, rfl, a1, a2, ⟨_, _, _, _, rfl⟩, a3, a4⟩
      · refine ⟨_, rfl, _, rfl, len2, fun e he => alT (K := K) he fun H12 s12 h12 => ?_⟩
        have s1012 := s11.trans s12
        obtain ⟨a1, a2, a3, a4⟩ := add H12 (.ref e) (ins, xv) s1012 ⟨e, t, rfl, h12, Tp.same s1012 _ _ ht10, hins, kx, (fun v hv => (hinb v hv).q (by decide)), bx.q (by decide)⟩ bx
        exact ⟨L, us, _, rfl, rfl, a1, a2, ⟨_, _, _, _, rfl⟩, a3, a4⟩
    rintro σ' H13 ⟨⟨y9, y10, y11, y12, rfl⟩, g13, us, zs, eL13, hus, hbz, ul, u1⟩
    refine ⟨_, rfl, f, 4, rfl, g13.fl, by decide, by decide, fun d14 H14 d0 d1 r14 => ⟨rfl, _, rfl, ?_⟩⟩
    have eL14 : H14 L = some (.lst us) := (r14.off L nL).trans eL13
    have hus14 := hus.keep (r14.tp (K := K) g13.fl)
    have g14 := g13.trans r14.g
    refine ite2 (fun c => ?_) (fun c => ⟨⟨_, _, _, _, _, rfl⟩, g14, us, zs, eL14, hus14, hbz, by omega⟩)
    refine ⟨_, rfl, .inl ⟨rfl, _, SqL.of eL14⟩, _, rfl, _, rfl, _, rfl, L, _, rfl, .inl (SqL.of eL14), f, _, rfl, g14.fl, by omega, by omega, fun d15 H15 e0 e1 r15 => ?_⟩
    have eL15 : H15 L = some (.lst us) := (r15.off L nL).trans eL14
    have hus15 := hus14.keep (r15.tp (K := K) g14.fl)
    have g15 := g14.trans r15.g
    have hlt : d15.toNat < us.length := by omega
    obtain ⟨z, hz, ez⟩ := hus15.mem (List.getElem_mem hlt)
    have tl : Tp K H15 (upd H15 L (.lst (us ++ [us[d15.toNat]]))) := Tp.lst eL15
    refine ⟨L, us, d15, us[d15.toNat], rfl, rfl, SqL.of eL15, at_of (j := d15.toNat) (by omega) (List.getElem?_eq_getElem hlt), L, us, _, rfl, rfl, eL15, smallL (by omega), ⟨_, _, _, _, _, rfl⟩, gr_put g15 hL nL, _, zs ++ [z], upd_same, (hus15.keep tl).app (.cons (ez.keep tl) .nil), fun y hy => ?_, by rw [List.length_append]; show us.length + 1 ≤ _; omega⟩
    rcases List.mem_append.mp hy with w | w
    · exact hbz y w
    · rw [List.mem_singleton.mp w]; exact hbz z hz
  rintro σ' H4 ⟨⟨y8, y9, y10, y11, y12, rfl⟩, g4, us, zs, eL4, hus, hbz, ul⟩
  have ul : us.length ≤ 12 := by omega
  have gz := hus.good (by omega)
  have t4 := g4.tp (K := K) fl
  refine ⟨fun σ' H' => ∃ (L2 : Addr) (y8 y9 y10 y11 y12 : Option V), σ' = [some (.ref f), some (.ref h), some vp, some (.int most), some (.ref ka), some (.str (kS κ)), some (.ref L2), some (.int fm), y8, y9, y10, y11, y12] ∧ Gr [] f H H' ∧ ∃ us zs, H' L2 = some (.lst us) ∧ Exs K H' ks κ us zs ∧ ExB 1006007 zs ∧ us.length ≤ 100, ?_, ?_⟩
  · have none' : ∀ H', Same H4 H' → Gr [] f H H' ∧ ∃ us zs, H' L = some (.lst us) ∧ Exs K H' ks κ us zs ∧ ExB 1006007 zs ∧ us.length ≤ 100 := fun H' s' => ⟨g4.trans (gr_same' g4.fl s'), us, zs, s' _ _ eL4, hus.keep (Tp.same s'), fun z hz => Nat.le_trans (hbz z hz) (by decide), by omega⟩
    refine ⟨_, rfl, rfl, _, rfl, ite2 (fun c => ?_) (fun c => iteF ⟨L, _, _, _, _, _, rfl, none' H4 (Same.refl _)⟩)⟩
    refine ⟨_, rfl, Nat.zero_le _, fun l0 hl0 => alLf hl0 fun H5 s5 e5 => ⟨.list (zs.map exPD), .list [], .lst (SqL.of (s5 _ _ eL4)) (hus.keep (Tp.same s5)).dp, .lst (SqL.of e5) .nil, gz.lst.p, rfl, Nat.le_trans gz.lst.t (by decide), _, rfl, ?_⟩⟩
    rw [list_none]
    refine ite2 (fun c2 => ?_) (fun c2 => ⟨L, _, _, _, _, _, rfl, none' H5 s5⟩)
    have u1 : 1 ≤ us.length := by
      cases us with
      | nil => cases hus; simp at c2
      | cons a b => exact Nat.succ_pos _
    have g5 := g4.trans (gr_same' g4.fl s5)
    have eL5 := s5 _ _ eL4
    refine ⟨_, rfl, _, rfl, _, rfl, L, _, rfl, .inl (SqL.of eL5), f, _, rfl, g5.fl, by omega, by omega, fun d6 H6 d0 d1 r6 => ?_⟩
    have eL6 : H6 L = some (.lst us) := (r6.off L nL).trans eL5
    have t46 : Tp K H4 H6 := (Tp.same s5).trans (r6.tp g5.fl)
    have hus6 := hus.keep t46
    have g6 := g5.trans r6.g
    have hlt : d6.toNat < us.length := by omega
    obtain ⟨z, hz, ez⟩ := hus6.mem (List.getElem_mem hlt)
    have bz := hbz z hz
    obtain ⟨e, ti, ee, h1, h2, h3, h4, h5, h6'⟩ := ez
    refine ⟨L, us, d6, _, rfl, rfl, SqL.of eL6, at_of (j := d6.toNat) (by omega) (List.getElem?_eq_getElem hlt), e, _, ee, h1, rfl, _, _, rfl, _, _, rfl, rfl, ?_⟩
    have gi := good_us h5
    refine ⟨_, rfl, L, rfl, ⟨_, SqL.of eL6⟩, fun D hD => lc_it (walk_list (K := K) (a := L) (xs := us)) (fun j H' => Same H6 H' ∧ ∃ acc, H' D = some (.lst acc) ∧ acc.length ≤ j ∧ ∀ v ∈ acc, v ∈ us) ?_ ?_ ?_ ?_⟩
    · exact ⟨same_new hD, [], upd_same, Nat.le_refl _, fun v hv => nomatch hv⟩
    · rintro j H' _ ⟨sm, _⟩
      exact SqL.of (sm _ _ eL6)
    · rintro j x H' H7 hj ⟨sm, acc, eD, al, hacc⟩ ⟨rfl, hx⟩
      have hj' : j < us.length := hj
      obtain ⟨y, hy, e1, t2, rfl, k1, k2, k3, k4, k5, k6⟩ := (hus6.keep (Tp.same sm)).get hx
      have gy := good_us k5
      refine ⟨rfl, _, rfl, e1, _, 0, _, rfl, rfl, k1, at_of (j := 0) rfl rfl, _, rfl, .tuple (y.1.map xPD), .tuple (z.1.map xPD), .tup k2 (us_dpX k3), .tup (Tp.same sm _ _ h2) (us_dpX h3), gy.p, gi.p, Nat.le_trans gy.t (by decide), _, rfl, ite2 (fun c => ?_) (fun c => ?_)⟩
      · refine ⟨_, rfl, acc, eD, smallL (by omega), fun b o z => ?_, acc ++ [.ref e1], upd_same, by rw [List.length_append]; exact Nat.succ_le_succ al, fun v hv => ?_⟩
        · rw [upd_ne (ne_of_none z hD)]
          exact sm _ _ z
        · rcases List.mem_append.mp hv with z | z
          · exact hacc v z
          · rw [List.mem_singleton.mp z]; exact List.mem_of_getElem? hx
      · exact ⟨sm, acc, eD, Nat.le_succ_of_le al, hacc⟩
    rintro H7 ⟨s7, acc, eD7, al, hacc⟩
    have g7 := g6.trans (gr_same' g6.fl s7)
    have nD := fl_ne g6.fl hD
    refine ⟨_, rfl, _, rfl, _, rfl, f, κ, z.2, rfl, g7.fl, h4, fun v8 H8 g8 k8 ne8 b8 => ⟨len2, fun e2 he2 => alT (K := K) he2 fun H9 s9 h9 => ⟨len1, fun l9 hl9 => alLf hl9 fun H10 s10 e10 => ?_⟩⟩⟩
    have t68 : Tp K H6 H8 := (Tp.same s7).trans (g8.tp g7.fl)
    have s810 := s9.trans s10
    have t610 := t68.trans (Tp.same (K := K) s810)
    have g10 := (g7.trans g8).trans (gr_same' (g7.trans g8).fl s810)
    have eD10 : H10 D = some (.lst acc) := s810 _ _ (g8.lst eD7 nD)
    refine ⟨D, l9, acc, _, rfl, rfl, eD10, e10, by show acc.length + 1 ≤ _; exact small (by omega), fun l11 hl11 => alLf hl11 fun H11 s11 e11 => ?_⟩
    obtain ⟨az, haz, baz⟩ := exs_ofP (p := fun z => Bn 1006000 z.2) (vs := acc) fun v hv => by
      obtain ⟨y, hy, ey⟩ := (hus6.keep (t610.trans (Tp.same s11))).mem (hacc v hv)
      exact ⟨y, ey, hbz y hy⟩
    have bv8 := b8 _ bz
    refine ⟨l11, _, _, _, _, _, rfl, g10.trans (gr_same' g10.fl s11), _, az ++ [(z.1, v8)], e11, haz.app (.cons ⟨e2, ti, rfl, Tp.same (s10.trans s11) _ _ h9, (t610.trans (Tp.same s11)) _ _ h2, h3, k8, h5, bv8.q (by decide)⟩ .nil), fun y hy => ?_, by rw [List.length_append]; show acc.length + 1 ≤ 100; omega⟩
    rcases List.mem_append.mp hy with w | w
    · exact Nat.le_trans (baz y w) (by decide)
    · rw [List.mem_singleton.mp w]; exact bv8
  rintro σ' H5 ⟨L2, y8, y9, y10, y11, y12, rfl, g5, us, zs, eL5, hus, hbz, ul⟩
  refine ⟨_, rfl, ?_⟩
  delta tNoPart
  refine ⟨_, rfl, _, rfl, _, rfl, L2, us, rfl, SqL.of eL5, fun p hp => alLf hp fun H6 s6 e6 => ?_⟩
  obtain ⟨c1, c2⟩ := cut_end (xs := us) m1
  obtain ⟨az, haz, baz⟩ := exs_ofP (p := fun z => Bn 1006007 z.2) (vs := cutV us (some (-most)) none) fun v hv => by
    obtain ⟨y, hy, ey⟩ := (hus.keep (Tp.same s6)).mem (c1 v hv)
    exact ⟨y, ey, hbz y hy⟩
  exact q p _ az H6 (g5.trans (gr_same' g5.fl s6)) (gr_none g5 hp).1 (gr_none g5 hp).2 e6 haz baz c2
end
end Lm

set_option Elab.async false
set_option linter.all false
set_option maxRecDepth 100000
set_option maxHeartbeats 4000000
set_option pp.maxSteps 2000
set_option pp.deepTerms.threshold 12
namespace Lm
open PySem PySem.Spec PyProof.Rows L2 LmR RZ
theorem plain_us (us : List V) : PyData.plain (.tuple (us.map xPD)) = true ∧ PyData.depth (.tuple (us.map xPD)) ≤ 1 := by
  have h : ∀ us : List V, PyData.plainAll (us.map xPD) = true ∧ PyData.depthAll (us.map xPD) ≤ 0 := fun us => by
    induction us with
    | nil => exact ⟨rfl, Nat.le_refl _⟩
    | cons u us ih =>
      obtain ⟨a, b, _⟩ := xpd_plain u
      refine ⟨?_, ?_⟩
      · show ((xPD u).plain && PyData.plainAll (us.map xPD)) = true
        rw [a, ih.1]
        rfl
      · show max (xPD u).depth (PyData.depthAll (us.map xPD)) ≤ 0
        have := ih.2
        omega
  exact ⟨(h us).1, Nat.succ_le_succ (h us).2⟩
/-- no two of one place with unlike answers -/
def NoClash (zs : List (List V × V)) : Prop := ∀ z ∈ zs, ∀ y ∈ zs, z.1 = y.1 → z.2 = y.2
def dueL (zs : List (List V × V)) (us : List V) : List V := (zs.filter fun z => decide (z.1 = us)).map (·.2)
theorem due_none {zs : List (List V × V)} {us : List V} {a : V} (h : (dueL zs us).take 1 = []) : saysP zs us a = true := by
  have h : dueL zs us = [] := by
    cases e : dueL zs us with
    | nil => rfl
    | cons x y => rw [e] at h; cases h
  unfold saysP
  rw [List.all_eq_true]
  intro z hz
  have : ¬ us = z.1 := fun e => by
    have m : z.2 ∈ dueL zs us := List.mem_map.mpr ⟨z, List.mem_filter.mpr ⟨hz, decide_eq_true e.symm⟩, rfl⟩
    rw [h] at m
    cases m
  rw [decide_eq_false this]
  rfl
theorem due_mem {zs : List (List V × V)} {us : List V} {x : V} (h : x ∈ dueL zs us) : ∃ z ∈ zs, z.1 = us ∧ z.2 = x := by
  obtain ⟨z, hz, e⟩ := List.mem_map.mp h
  obtain ⟨h1, h2⟩ := List.mem_filter.mp hz
  exact ⟨z, h1, of_decide_eq_true h2, e⟩
theorem due_one {zs : List (List V × V)} {us : List V} {a x : V} (nc : NoClash zs) (h : (dueL zs us).take 1 = [x]) : saysP zs us a = decide (a = x) := by
  have hx : x ∈ dueL zs us := List.mem_of_mem_take (i := 1) (by rw [h]; exact List.mem_cons_self)
  obtain ⟨z, hz, e1, e2⟩ := due_mem hx
  unfold saysP
  rw [Bool.eq_iff_iff, List.all_eq_true, decide_eq_true_iff]
  constructor
  · intro hall
    have := hall z hz
    rw [decide_eq_true e1.symm, Bool.not_true, Bool.false_or, decide_eq_true_iff] at this
    rw [this, e2]
  · intro ea y hy
    by_cases c : us = y.1
    · rw [decide_eq_true (show a = y.2 by rw [ea, ← e2]; exact nc z hz y hy (e1.trans c))]
      simp
    · rw [decide_eq_false c]
      rfl
theorem due_step {zs : List (List V × V)} {us : List V} {j : Nat} {z : List V × V} (h : zs[j]? = some z) : dueL (zs.take (j + 1)) us = dueL (zs.take j) us ++ (if z.1 = us then [z.2] else []) := by
  unfold dueL
  rw [List.take_add_one, h, List.filter_append, List.map_append]
  congr 1
  show (List.filter (fun z => decide (z.1 = us)) [z]).map (·.2) = _
  by_cases c : z.1 = us
  · simp [List.filter_cons, c]
  · simp [List.filter_cons, c]
theorem cut_one (xs : List V) : cutV xs none (some 1) = xs.take 1 := by
  unfold cutV
  rw [HT.sIx_none, show HT.sIx xs.length xs.length (some 1) = min 1 xs.length from HT.sIx_nat _ _ 1, List.drop_zero, Nat.sub_zero]
  cases xs with
  | nil => rfl
  | cons a b => rw [List.length_cons, Nat.min_eq_left (by omega)]
theorem dps_x {K : PySem.W.Frag} {H : Hp} {κ : Bool} : ∀ {l : List V}, (∀ v ∈ l, Kv κ v) → DpAll K H l (l.map xPD)
  | [], _ => .nil
  | v :: l, h => .cons (kv_dpX (h v List.mem_cons_self)) (dps_x fun w hw => h w (List.mem_cons_of_mem _ hw))
def WaysE (K : PySem.W.Frag) (H : Hp) (ks : List Bool) (W : List V) : Prop := ∀ v ∈ W, ∃ t us, v = .ref t ∧ SqT K H t us ∧ Kvs ks us
theorem WaysE.tp {K : PySem.W.Frag} {H H' : Hp} {ks : List Bool} {W : List V} (h : WaysE K H ks W) (t : Tp K H H') : WaysE K H' ks W := fun v hv => by
  obtain ⟨a, us, e, x, y⟩ := h v hv
  exact ⟨a, us, e, t _ _ x, y⟩
theorem WaysE.app {K : PySem.W.Frag} {H : Hp} {ks : List Bool} {W W' : List V} (h : WaysE K H ks W) (h' : WaysE K H ks W') : WaysE K H ks (W ++ W') := fun v hv => (List.mem_append.mp hv).elim (h v) (h' v)
section
variable {P : Program} {w : World} {K : PySem.W.Frag} {mg : Str → Option Value} {base : Heap}
abbrev s_l_lets : Stmt := topS 77
theorem sc_l_lets : FnScope ["_law_flow_here", "_law_head", "_law_wish", "_law_examples_here", "_law_kinds_here", "_law_kind", "_law_some", "_law_inputs", "_law_due", "_law_answer_here", "_law_one", "_law_turn"] ["_law_flow_here", "_law_head", "_law_wish", "_law_examples_here"] (defScope s_l_lets) := ⟨rfl, rfl, rfl, by decide +kernel, rfl, by decide +kernel, by decide +kernel⟩
def spLets (K : PySem.W.Frag) : Sp := fun vs H Q _ => ∃ (f h ka ea : Addr) (vw : V) (ks : List Bool) (κ : Bool) (evs : List V) (zs : List (List V × V)), vs = [.ref f, .ref h, vw, .ref ea] ∧ Flow H f ∧ SqT K H h [.ref ka, .str (kS κ)] ∧ SqT K H ka (kVs ks) ∧ ks.length ≤ 3 ∧ At K H vw (wishP ks.length zs) ∧ H ea = some (.lst evs) ∧ ea ≠ f ∧ Exs K H ks κ evs zs ∧ evs.length ≤ 6 ∧ NoClash zs ∧ ∀ H', Gr [] f H H' → Q (.bl true) H'
theorem ok_l_lets (B : Bt mg) (C_l_answer : Cal P w K mg base 2 "_law_answer" ["_law_flow_here", "_law_kind"] (spAnsw)) (C_l_unlike : Cal P w K mg base 2 "_law_unlike" ["_law_flow_here", "_law_answer_here"] (spUnl)) (C_l_worth : Cal P w K mg base 21 "_law_worth" ["_law_plan_here", "_law_inputs"] (spWorth K 20)) (D : DefAt K mg "_law_lets" s_l_lets ["_law_flow_here", "_law_head", "_law_wish", "_law_examples_here"]) : Cal P w K mg base 22 "_law_lets" ["_law_flow_here", "_law_head", "_law_wish", "_law_examples_here"] (spLets K) := by
  refine cal_of D sc_l_lets (fun vs H Q E h => ?_) (fun f' cdv A outer s H vs Q E hr h => ?_)
  · obtain ⟨f, h, ka, ea, vw, ks, κ, evs, zs, rfl, _⟩ := h
    rfl
  obtain ⟨f, h, ka, ea, vw, ks, κ, evs, zs, rfl, fl, hh, hk, hkl, hw, he, ne, hx, xl, nc, q⟩ := h
  have hr' : Room 21 _ := hr
  have C_l_answer := C_l_answer.mono (k := 21) (by decide)
  have C_l_unlike := C_l_unlike.mono (k := 21) (by decide)
  refine ⟨_, (pss_cons (ps_asg (pv 1) (pg_tup rfl (pgs_cons (pg_name (i := 4) sc_l_lets.nd rfl (.inr rfl)) (pgs_cons (pg_name (i := 5) sc_l_lets.nd rfl (.inr rfl)) pgs_nil))))
      (pss_cons (ps_set (i := 6) sc_l_lets.nd rfl (.inl rfl) (pe_op op_cat (pe_lc (own := [("_law_one", 10)]) (g := gName 10) rfl sc_l_lets.nd (pi_list (pv 3)) (blkOk_by (own := [("_law_one", 10)]) (N := ["_law_flow_here", "_law_head", "_law_wish", "_law_examples_here", "_law_kinds_here", "_law_kind", "_law_some", "_law_inputs", "_law_due", "_law_answer_here", "_law_one", "_law_turn"]) (sc := defScope s_l_lets) (by decide +kernel)) (fun _ _ _ _ _ => (pg_name (i := 10) sc_l_lets.nd rfl (.inl rfl))) (fun _ _ _ _ _ => pts_nil) (fun _ _ _ _ _ => (pe_ix (ix_tupK (K := K) rfl) (pv 10) pe_int (fun _ _ => rfl)))) (pe_lc (own := [("_law_turn", 11)]) (g := gName 11) rfl sc_l_lets.nd (pi_range1 (by rfl) B.range (pa_cons pe_int pa_nil)) (blkOk_by (own := [("_law_turn", 11)]) (N := ["_law_flow_here", "_law_head", "_law_wish", "_law_examples_here", "_law_kinds_here", "_law_kind", "_law_some", "_law_inputs", "_law_due", "_law_answer_here", "_law_one", "_law_turn"]) (sc := defScope s_l_lets) (by decide +kernel)) (fun _ _ _ _ _ => (pg_name (i := 11) sc_l_lets.nd rfl (.inl rfl))) (fun _ _ _ _ _ => pts_nil) (fun _ _ _ _ _ => (pe_callTy (call_tuple_ofK (K := K) rfl) (by rfl) B.tuple PyProof.Rows.boot_tuple (pa_cons (pe_lc (own := [("_law_one", 10)]) (g := gName 10) rfl sc_l_lets.nd (pi_tupK (K := K) rfl (pv 4)) (blkOk_by (own := [("_law_one", 10)]) (N := ["_law_flow_here", "_law_head", "_law_wish", "_law_examples_here", "_law_kinds_here", "_law_kind", "_law_some", "_law_inputs", "_law_due", "_law_answer_here", "_law_one", "_law_turn"]) (by rfl)) (fun _ _ _ _ _ => (pg_name (i := 10) sc_l_lets.nd rfl (.inl rfl))) (fun _ _ _ _ _ => pts_nil) (fun _ _ _ _ _ => (pe_cal C_l_answer hr' (by rfl) (pa_cons (pv 0) (pa_cons (pv 10) pa_nil))))) pa_nil))))))
      (pss_cons (ps_for PassesOwn.never rfl (pi_list (pv 6)) (pg_name (i := 7) sc_l_lets.nd rfl (.inr rfl))
        (pss_cons (ps_set (i := 8) sc_l_lets.nd rfl (.inl rfl) (pe_slice sl_list (pe_lc (own := [("_law_one", 10)]) (g := gName 10) rfl sc_l_lets.nd (pi_list (pv 3)) (blkOk_by (own := [("_law_one", 10)]) (N := ["_law_flow_here", "_law_head", "_law_wish", "_law_examples_here", "_law_kinds_here", "_law_kind", "_law_some", "_law_inputs", "_law_due", "_law_answer_here", "_law_one", "_law_turn"]) (sc := defScope s_l_lets) (by decide +kernel)) (fun _ _ _ _ _ => (pg_name (i := 10) sc_l_lets.nd rfl (.inl rfl))) (fun _ _ _ _ _ => (pts_one (pt_cmpR (op_eqPK rfl hr.units) (pe_ix (ix_tupK (K := K) rfl) (pv 10) pe_int (fun _ _ => rfl)) (pv 7) (nomark _)))) (fun _ _ _ _ _ => (pe_ix (ix_tupK (K := K) rfl) (pv 10) pe_int (fun _ _ => rfl)))) po_none (po_some pe_int)))
      (pss_one (ps_for PassesOwn.never rfl (pi_list (pe_op op_cat (pe_op op_cat (pv 8) (pe_lc (own := [("_law_one", 10)]) (g := gName 10) rfl sc_l_lets.nd (pi_list (pv 8)) (blkOk_by (own := [("_law_one", 10)]) (N := ["_law_flow_here", "_law_head", "_law_wish", "_law_examples_here", "_law_kinds_here", "_law_kind", "_law_some", "_law_inputs", "_law_due", "_law_answer_here", "_law_one", "_law_turn"]) (sc := defScope s_l_lets) (by decide +kernel)) (fun _ _ _ _ _ => (pg_name (i := 10) sc_l_lets.nd rfl (.inl rfl))) (fun _ _ _ _ _ => pts_nil) (fun _ _ _ _ _ => (pe_cal C_l_unlike hr' (by rfl) (pa_cons (pv 0) (pa_cons (pv 10) pa_nil)))))) (pe_lc (own := [("_law_turn", 11)]) (g := gName 11) rfl sc_l_lets.nd (pi_range1 (by rfl) B.range (pa_cons pe_int pa_nil)) (blkOk_by (own := [("_law_turn", 11)]) (N := ["_law_flow_here", "_law_head", "_law_wish", "_law_examples_here", "_law_kinds_here", "_law_kind", "_law_some", "_law_inputs", "_law_due", "_law_answer_here", "_law_one", "_law_turn"]) (sc := defScope s_l_lets) (by decide +kernel)) (fun _ _ _ _ _ => (pg_name (i := 11) sc_l_lets.nd rfl (.inl rfl))) (fun _ _ _ _ _ => pts_nil) (fun _ _ _ _ _ => (pe_cal C_l_answer hr' (by rfl) (pa_cons (pv 0) (pa_cons (pv 5) pa_nil))))))) (pg_name (i := 9) sc_l_lets.nd rfl (.inl rfl))
        (pss_one (ps_if (pt_cmpR op_ne (pe_cal C_l_worth hr' (by rfl) (pa_cons (pv 2) (pa_cons (pe_op op_catA (pv 7) (pe_tup (pa_cons (pv 9) pa_nil))) pa_nil))) (pe_or (pe_cmpR (op_eqP hr.units) (pv 8) (pe_lst pa_nil) (nomark _)) (pe_one (pe_cmpR op_eq (pv 9) (pe_ix ix_list (pv 8) pe_int (fun _ _ => rfl)) (nomark _)))) (nomark _))
        (pss_one (ps_ret pe_bl))
        pss_nil))))))
      (pss_one (ps_ret pe_bl))))), ?_⟩
  have kvl : (kVs ks).length = ks.length := List.length_map _
  refine ⟨_, rfl, h, _, rfl, hh, rfl, _, _, rfl, _, _, rfl, rfl, ?_⟩
  have kl3 : (kVs ks).length ≤ 3 := by rw [kvl]; exact hkl
  -- inputs of examples
  refine ⟨_, rfl, ea, rfl, ⟨_, SqL.of he⟩, fun D hD => lc_it (walk_list (K := K) (a := ea) (xs := evs)) (fun j H' => Same H H' ∧ ∃ acc, H' D = some (.lst acc) ∧ acc.length = j ∧ WaysE K H' ks acc) ?_ ?_ ?_ ?_⟩
  · exact ⟨same_new hD, [], upd_same, rfl, fun v hv => nomatch hv⟩
  · rintro j H' _ ⟨sm, _⟩
    exact SqL.of (sm _ _ he)
  · rintro j x H' H2 hj ⟨sm, acc, eD, al, hacc⟩ ⟨rfl, hx'⟩
    have hj' : j < evs.length := hj
    obtain ⟨z, hz, e1, t2, rfl, k1, k2, k3, k4, k5, k6⟩ := (hx.keep (Tp.same sm)).get hx'
    have tl : Tp K H2 (upd H2 D (.lst (acc ++ [.ref t2]))) := Tp.lst eD
    refine ⟨rfl, _, rfl, e1, _, 0, _, rfl, rfl, k1, at_of (j := 0) rfl rfl, acc, eD, smallL (by omega), fun b o z => ?_, acc ++ [.ref t2], upd_same, by rw [List.length_append, al]; rfl, ?_⟩
    · rw [upd_ne (ne_of_none z hD)]
      exact sm _ _ z
    · exact (hacc.tp tl).app fun v hv => by rw [List.mem_singleton.mp hv]; exact ⟨t2, z.1, rfl, tl _ _ k2, k3⟩
  rintro H1 ⟨s1, W1, eD1, wl1, hW1⟩
  have g1 := gr_same' fl s1
  have nD := fl_ne fl hD
  -- others
  refine ⟨4, rfl, by decide, by decide, fun D2 hD2 => lc_range (lo := 0) (n := 4) (fun i H' => Gr [] f H1 H' ∧ ∃ acc, H' D2 = some (.lst acc) ∧ acc.length = i ∧ WaysE K H' ks acc) ?_ ?_ ?_⟩
  · exact ⟨gr_same' g1.fl (same_new hD2), [], upd_same, rfl, fun v hv => nomatch hv⟩
  · rintro i H' hi ⟨gm, acc, eD2, al, hacc⟩
    have nD2 := fl_ne g1.fl hD2
    have t0 := (g1.trans gm).tp (K := K) fl
    refine ⟨rfl, _, rfl, ka, rfl, ⟨_, t0 _ _ hk⟩, fun D3 hD3 => lc_it (walk_tup (K := K) (a := ka) (xs := kVs ks)) (fun j H'' => Gr [] f H' H'' ∧ ∃ ac, H'' D3 = some (.lst ac) ∧ Kvs (ks.take j) ac) ?_ ?_ ?_ ?_⟩
    · exact ⟨gr_same' gm.fl (same_new hD3), [], upd_same, rfl, fun j k v a => by cases a⟩
    · rintro j H'' _ ⟨g3, _⟩
      exact (t0.trans (g3.tp gm.fl)) _ _ hk
    · rintro j x H'' H5 hj ⟨g3, ac, eD3, hac⟩ ⟨rfl, hx⟩
      have nD3 := fl_ne gm.fl hD3
      have hj' : j < ks.length := by rw [← kvl]; exact hj
      have ek : (kVs ks)[j]? = some (.str (kS ks[j])) := by
        unfold kVs
        rw [List.getElem?_map, List.getElem?_eq_getElem hj']
        rfl
      have hx : (kVs ks)[j]? = some x := hx
      rw [ek] at hx
      cases hx
      refine ⟨rfl, _, rfl, _, rfl, f, ks[j], rfl, g3.fl, fun v H6 g6 kv bv6 => ?_⟩
      have eD6 : H6 D3 = some (.lst ac) := g6.lst eD3 nD3
      exact ⟨ac, eD6, smallL (by have := hac.1; rw [List.length_take] at this; omega), gr_put (g3.trans g6) hD3 nD3, ac ++ [v], upd_same, kvs_take hj' hac kv⟩
    rintro H5 ⟨g5, ins, eD5, hins⟩
    rw [kvl, List.take_length] at hins
    refine ⟨D3, ins, rfl, .inl ⟨SqL.of eD5, fun t ht => alT (K := K) ht fun H6 s6 h6 => ?_⟩⟩
    have g6 := gm.trans (g5.trans (gr_same' g5.fl s6))
    have eD26 : H6 D2 = some (.lst acc) := s6 _ _ (g5.lst eD2 nD2)
    have tl : Tp K H6 (upd H6 D2 (.lst (acc ++ [.ref t]))) := Tp.lst eD26
    refine ⟨acc, eD26, smallL (by omega), gr_put g6 hD2 nD2, acc ++ [.ref t], upd_same, by rw [List.length_append, al]; rfl, ?_⟩
    exact ((hacc.tp ((g5.tp gm.fl).trans (Tp.same s6))).tp tl).app fun v hv => by rw [List.mem_singleton.mp hv]; exact ⟨t, ins, rfl, tl _ _ h6, hins⟩
  rintro H2 ⟨g2, W2, eD2, wl2, hW2⟩
  have eD12 : H2 D = some (.lst W1) := g2.lst eD1 nD
  have g02 := g1.trans g2
  refine ⟨D, D2, W1, W2, rfl, rfl, eD12, eD2, small (by omega), fun l6 hl6 => alLf hl6 fun H6 s6 e6 => ?_⟩
  have g06 := g02.trans (gr_same' g02.fl s6)
  have nl6 := fl_ne g02.fl hl6
  have hW6 : WaysE K H6 ks (W1 ++ W2) := ((hW1.tp (g2.tp g1.fl)).app hW2).tp (Tp.same s6)
  have wl6 : (W1 ++ W2).length ≤ 100 := by rw [List.length_append]; omega
  generalize W1 ++ W2 = W at e6 hW6 wl6
  have t06 := g06.tp (K := K) fl
  have he6 : H6 ea = some (.lst evs) := g06.lst he ne
  have hx6 := hx.keep t06
  have hw6 := hw.keep t06
  have kz := hx.kinds
  obtain ⟨ww, _⟩ := wish_wk kz
  obtain ⟨wz, wd⟩ := wish_sz kz hkl (by rw [← hx.len]; exact xl)
  refine ⟨_, rfl, l6, rfl, ⟨_, SqL.of e6⟩, for_list (K := K) (a := l6) (xs := W) (fun i σ' H' => (∃ y7 y8 y9 y10 y11 : Option V, σ' = [some (.ref f), some (.ref h), some vw, some (.ref ea), some (.ref ka), some (.str (kS κ)), some (.ref l6), y7, y8, y9, y10, y11]) ∧ Gr [] f H6 H') ⟨⟨_, _, _, _, _, rfl⟩, gr_same' g06.fl (Same.refl _)⟩ ?_ ?_ ?_⟩
  · rintro i σ' H' _ ⟨_, g'⟩
    exact SqL.of (g'.lst e6 nl6)
  · rintro i y σ' H7 hy ⟨⟨y7, y8, y9, y10, y11, rfl⟩, g7⟩
    have t67 := g7.tp (K := K) g06.fl
    obtain ⟨t, us, rfl, ht, hus⟩ := (hW6.tp t67) y (List.mem_of_getElem? hy)
    have he7 : H7 ea = some (.lst evs) := g7.lst he6 ne
    have hx7 := hx6.keep t67
    have ul : us.length = ks.length := hus.1
    refine ⟨_, rfl, ea, rfl, ⟨_, SqL.of he7⟩, fun D hD => lc_it (walk_list (K := K) (a := ea) (xs := evs)) (fun j H' => Same H7 H' ∧ H' D = some (.lst (dueL (zs.take j) us))) ?_ ?_ ?_ ?_⟩
    · exact ⟨same_new hD, upd_same⟩
    · rintro j H' _ ⟨sm, _⟩
      exact SqL.of (sm _ _ he7)
    · rintro j x H' H8 hj ⟨sm, eD⟩ ⟨rfl, hx'⟩
      have hj' : j < evs.length := hj
      obtain ⟨z, hz, e1, t2, rfl, k1, k2, k3, k4, k5, k6⟩ := (hx7.keep (Tp.same sm)).get hx'
      refine ⟨rfl, _, rfl, e1, _, 0, _, rfl, rfl, k1, at_of (j := 0) rfl rfl, _, rfl, .tuple (z.1.map xPD), .tuple (us.map xPD), .tup k2 (us_dpX k3), .tup (Tp.same sm _ _ ht) (us_dpX hus), (plain_us _).1, (plain_us _).1, Nat.le_trans (plain_us _).2 (by decide), _, rfl, ?_⟩
      rw [tup_eqv k3 hus]
      have dl : (dueL (zs.take j) us).length < sizeLine := by
        unfold dueL
        rw [List.length_map]
        refine smallL (Nat.le_trans (List.length_filter_le _ _) ?_)
        rw [List.length_take]
        omega
      refine ite2 (fun c => ?_) (fun c => ?_)
      · refine ⟨_, rfl, e1, _, 1, _, rfl, rfl, k1, at_of (j := 1) rfl rfl, _, eD, dl, fun b o z => ?_, ?_⟩
        · rw [upd_ne (ne_of_none z hD)]
          exact sm _ _ z
        · rw [upd_same, due_step hz, if_pos (of_decide_eq_true c)]
      · refine ⟨sm, ?_⟩
        rw [due_step hz, if_neg (fun z => c (decide_eq_true z)), List.append_nil]
        exact eD
    rintro H8 ⟨s8, eD8⟩
    rw [hx.len, List.take_length] at eD8
    delta tNoPart
    refine ⟨_, rfl, D, _, rfl, SqL.of eD8, fun p hp => ?_⟩
    rw [cut_one]
    refine alLf hp fun H9 s9 e9 => ?_
    have s79 := s8.trans s9
    have g9 := g7.trans (gr_same' g7.fl s79)
    have np := fl_ne (g7.trans (gr_same' g7.fl s8)).fl hp
    obtain ⟨dl, edl⟩ : ∃ dl, (dueL zs us).take 1 = dl := ⟨_, rfl⟩
    have kd : ∀ v ∈ dl, Kv κ v := fun v hv => by
      rw [← edl] at hv
      obtain ⟨z, hz, _, e⟩ := due_mem (List.mem_of_mem_take hv)
      rw [← e]
      exact (kz z hz).2
    have ld : dl.length ≤ 1 := by rw [← edl, List.length_take]; omega
    rw [edl] at e9
    refine ⟨_, rfl, _, rfl, p, rfl, ⟨_, SqL.of e9⟩, fun D4 hD4 => lc_it (walk_list (K := K) (a := p) (xs := dl)) (fun j H' => Gr [] f H9 H' ∧ ∃ acc, H' D4 = some (.lst acc) ∧ acc.length = j ∧ ∀ v ∈ acc, Kv κ v) ?_ ?_ ?_ ?_⟩
    · exact ⟨gr_same' g9.fl (same_new hD4), [], upd_same, rfl, fun v hv => nomatch hv⟩
    · rintro j H' _ ⟨gm, _⟩
      exact SqL.of (gm.lst e9 np)
    · rintro j x H' H10 hj ⟨gm, acc, eD, al, hacc⟩ ⟨rfl, hx'⟩
      have hj' : j < dl.length := hj
      have nD4 := fl_ne g9.fl hD4
      refine ⟨rfl, _, rfl, _, rfl, f, κ, x, rfl, gm.fl, kd x (List.mem_of_getElem? hx'), fun v H11 g11 kv _ _ => ?_⟩
      have eD11 : H11 D4 = some (.lst acc) := g11.lst eD nD4
      refine ⟨acc, eD11, smallL (by omega), gr_put (gm.trans g11) hD4 nD4, acc ++ [v], upd_same, by rw [List.length_append, al]; rfl, fun w hw => ?_⟩
      rcases List.mem_append.mp hw with z | z
      · exact hacc w z
      · rw [List.mem_singleton.mp z]; exact kv
    rintro H10 ⟨g10, a4, eD4, al4, ka4⟩
    have nD4 := fl_ne g9.fl hD4
    have g010 := g9.trans g10
    refine ⟨p, D4, dl, a4, rfl, rfl, g10.lst e9 np, eD4, small (by omega), fun l7 hl7 => alLf hl7 fun H11 s11 e11 => ?_⟩
    have g11 := g010.trans (gr_same' g010.fl s11)
    have nl7 := fl_ne g010.fl hl7
    refine ⟨3, rfl, by decide, by decide, fun D5 hD5 => lc_range (lo := 0) (n := 3) (fun i H' => Gr [] f H11 H' ∧ ∃ acc, H' D5 = some (.lst acc) ∧ acc.length = i ∧ ∀ v ∈ acc, Kv κ v) ?_ ?_ ?_⟩
    · exact ⟨gr_same' g11.fl (same_new hD5), [], upd_same, rfl, fun v hv => nomatch hv⟩
    · rintro i' H' hi' ⟨gm, acc, eD5, al, hacc⟩
      have nD5 := fl_ne g11.fl hD5
      refine ⟨rfl, _, rfl, _, rfl, f, κ, rfl, gm.fl, fun v H12 g12 kv _ => ?_⟩
      have eD12 : H12 D5 = some (.lst acc) := g12.lst eD5 nD5
      refine ⟨acc, eD12, smallL (by omega), gr_put (gm.trans g12) hD5 nD5, acc ++ [v], upd_same, by rw [List.length_append, al]; rfl, fun w hw => ?_⟩
      rcases List.mem_append.mp hw with z | z
      · exact hacc w z
      · rw [List.mem_singleton.mp z]; exact kv
    rintro H12 ⟨g12, a5, eD5, al5, ka5⟩
    have g012 := g11.trans g12
    refine ⟨l7, D5, dl ++ a4, a5, rfl, rfl, g12.lst e11 nl7, eD5, small (by rw [List.length_append]; omega), fun l8 hl8 => alLf hl8 fun H13 s13 e13 => ?_⟩
    have g13 := g012.trans (gr_same' g012.fl s13)
    have nl8 := fl_ne g012.fl hl8
    have kall : ∀ v ∈ dl ++ a4 ++ a5, Kv κ v := fun v hv => by
      rcases List.mem_append.mp hv with z | z
      · rcases List.mem_append.mp z with y | y
        · exact kd v y
        · exact ka4 v y
      · exact ka5 v z
    generalize dl ++ a4 ++ a5 = Z at e13 kall
    have ep13 : H13 p = some (.lst dl) := s13 _ _ (g12.lst (s11 _ _ (g10.lst e9 np)) np)
    have t613 := g13.tp (K := K) g06.fl
    have t713 : Tp K H7 H13 := (Tp.same s79).trans (((g10.trans (gr_same' g10.fl s11)).trans (g12.trans (gr_same' g12.fl s13))).tp g9.fl)
    have hw13 := hw6.keep t613
    have ht13 := t713 _ _ ht
    refine ⟨l8, rfl, ⟨_, SqL.of e13⟩, for_list (K := K) (a := l8) (xs := Z) (fun i' σ' H' => (∃ y9 y10 y11 : Option V, σ' = [some (.ref f), some (.ref h), some vw, some (.ref ea), some (.ref ka), some (.str (kS κ)), some (.ref l6), some (.ref t), some (.ref p), y9, y10, y11]) ∧ Same H13 H') ⟨⟨_, _, _, rfl⟩, Same.refl _⟩ ?_ ?_ ?_⟩
    · rintro j σ' H' _ ⟨_, s'⟩
      exact SqL.of (s' _ _ e13)
    · rintro j a σ' H14 ha ⟨⟨y9, y10, y11, rfl⟩, s14⟩
      have ka := kall a (List.mem_of_getElem? ha)
      refine ⟨_, rfl, _, rfl, _, rfl, len1, fun t9 ht9 => alT (K := K) ht9 fun H15 s15 h15 => ?_⟩
      have s1315 := s14.trans s15
      refine catA_anyW (Tp.same s1315 _ _ ht13) h15 (by rw [ul]; exact small (by show ks.length + 1 ≤ _; omega)) fun kd' H16 s16 hkd => ?_
      have s1316 := s1315.trans s16
      refine ⟨vw, wishP ks.length zs, kd', us ++ [a], ks ++ [κ], rfl, hw13.keep (Tp.same s1316), hkd, kvs_snocF hus ka, ww, wd, fun H17 s17 => ?_⟩
      have s1317 := s1316.trans s17
      rw [wish_val kz hus ka]
      have ep17 := s1317 _ _ ep13
      refine ⟨_, rfl, Nat.zero_le _, fun l0 hl0 => alLf hl0 fun H18 s18 e18 => ⟨.list (dl.map xPD), .list [], .lst (SqL.of (s18 _ _ ep17)) (dps_x kd), .lst (SqL.of e18) .nil, (plain_us _).1, rfl, Nat.le_trans (plain_us dl).2 (by decide), _, rfl, ?_⟩⟩
      rw [list_none]
      cases dl with
      | nil =>
        rw [show decide (List.map xPD [] = []) = true from rfl]
        refine iteT ⟨rfl, _, rfl, ?_⟩
        rw [due_none edl]
        exact ite_f (by decide) ⟨⟨_, _, _, rfl⟩, s1317.trans s18⟩
      | cons x0 r0 =>
        obtain rfl : r0 = [] := by
          cases r0 with
          | nil => rfl
          | cons _ _ => simp at ld
        rw [show decide (List.map xPD [x0] = []) = false from rfl]
        have kx0 := kd x0 List.mem_cons_self
        have sc : scal a x0 = true := by
          cases κ with
          | true => obtain ⟨_, rfl⟩ := ka; obtain ⟨_, rfl⟩ := kx0; rfl
          | false => obtain ⟨_, rfl⟩ := ka; obtain ⟨_, rfl⟩ := kx0; rfl
        refine iteF ⟨_, rfl, _, rfl, p, _, 0, x0, rfl, rfl, SqL.of (s18 _ _ ep17), at_of (j := 0) rfl rfl, sc, rfl, _, rfl, ?_⟩
        rw [due_one nc edl]
        exact ite_f (by simp) ⟨⟨_, _, _, rfl⟩, s1317.trans s18⟩
    · rintro σ' H14 ⟨⟨y9, y10, y11, rfl⟩, s14⟩
      exact ⟨⟨_, _, _, _, _, rfl⟩, g13.trans (gr_same' g13.fl s14)⟩
  · rintro σ' H' ⟨⟨y7, y8, y9, y10, y11, rfl⟩, g'⟩
    exact q _ (g06.trans g')
end
end Lm

set_option Elab.async false
set_option linter.all false
set_option maxRecDepth 100000
set_option maxHeartbeats 2000000
namespace Lm
open PySem PySem.Spec PyProof.Rows L2 LmR
/-- its numbers are short -/
def Sm6 : Pg → Prop
  | .inp k => (k : Int).natAbs < 1000000
  | .num c => c.natAbs < 1000000
  | .tr _ => True
  | .plus c a => c.natAbs < 1000000 ∧ Sm6 a
  | .bin _ a b => Sm6 a ∧ Sm6 b
  | .neg a => Sm6 a
  | .ite p a b => Sm6 p ∧ Sm6 a ∧ Sm6 b
theorem sm_wn {ks : List Bool} (hk : ks.length ≤ 1000) : ∀ p : Pg, Wn ks p → Sm6 p
  | .inp k, h => by have : k < ks.length := h.1; show (k : Int).natAbs < 1000000; omega
  | .num c, h => by have : -1000 ≤ c ∧ c ≤ 1000 := h.2; show c.natAbs < 1000000; omega
  | .tr _, _ => True.intro
  | .plus c a, h => ⟨by have : -1000 ≤ c ∧ c ≤ 1000 := h.2.1; omega, sm_wn hk a ⟨h.1.1, h.2.2⟩⟩
  | .bin _ a b, h => ⟨sm_wn hk a ⟨h.1.1, h.2.1⟩, sm_wn hk b ⟨h.1.2.1, h.2.2⟩⟩
  | .neg a, h => sm_wn hk a ⟨h.1.1, h.2⟩
  | .ite p a b, h => ⟨sm_wn hk p ⟨h.1.1, h.2.1⟩, sm_wn hk a ⟨h.1.2.1, h.2.2.1⟩, sm_wn hk b ⟨h.1.2.2.1, h.2.2.2⟩⟩
theorem sm_psub (ss : List Pg) (h : ∀ s ∈ ss, Sm6 s) : ∀ p : Pg, Sm6 p → Sm6 (psub ss p)
  | .inp k, b => by
    show Sm6 (ss.getD k _)
    rw [List.getD_eq_getElem?_getD]
    cases e : ss[k]? with
    | none => exact b
    | some s => exact h s (List.mem_of_getElem? e)
  | .num _, b => b
  | .tr _, b => b
  | .plus c a, b => ⟨b.1, sm_psub ss h a b.2⟩
  | .bin _ a c, b => ⟨sm_psub ss h a b.1, sm_psub ss h c b.2⟩
  | .neg a, b => sm_psub ss h a b
  | .ite p a c, b => ⟨sm_psub ss h p b.1, sm_psub ss h a b.2.1, sm_psub ss h c b.2.2⟩
theorem depth_enc : ∀ p : Pg, (enc p).depth ≤ dep p
  | .inp k => by show max 0 (max 0 0) + 1 ≤ 1; decide
  | .num c => by show max 0 (max 0 0) + 1 ≤ 1; decide
  | .tr b => by show max 0 0 + 1 ≤ 1; decide
  | .plus c a => by
    have := depth_enc a
    show max 0 (max 0 (max (enc a).depth 0)) + 1 ≤ dep a + 1
    omega
  | .bin w a b => by
    have := depth_enc a; have := depth_enc b
    show max 0 (max (enc a).depth (max (enc b).depth 0)) + 1 ≤ max (dep a) (dep b) + 1
    omega
  | .neg a => by
    have := depth_enc a
    show max 0 (max (enc a).depth 0) + 1 ≤ dep a + 1
    omega
  | .ite p a b => by
    have := depth_enc a; have := depth_enc b; have := depth_enc p
    show max 0 (max (enc p).depth (max (enc a).depth (max (enc b).depth 0))) + 1 ≤ max (dep p) (max (dep a) (dep b)) + 1
    omega
theorem word_len (p : Pg) : (word p).length ≤ 6 := by
  cases p with
  | tr b => show (trS b).length ≤ 6; cases b <;> decide +kernel
  | bin bw a b => show bw.str.length ≤ 6; cases bw <;> decide +kernel
  | inp k => show ("in" : Str).length ≤ 6; decide +kernel
  | num k => show ("num" : Str).length ≤ 6; decide +kernel
  | plus k a => show ("plus" : Str).length ≤ 6; decide +kernel
  | neg a => show ("not" : Str).length ≤ 6; decide +kernel
  | ite a b c => show ("if" : Str).length ≤ 6; decide +kernel
theorem six_log {c : Int} (h : c.natAbs < 1000000) : c.natAbs.log2 < 20 := by
  by_cases z : c.natAbs = 0
  · rw [z]; decide
  · exact (Nat.log2_lt z).mpr (by omega)
theorem rep_int {c : Int} (h : c.natAbs < 1000000) : (PyData.int c).showable = true ∧ (PyData.int c).leavesShort 13 = true ∧ (PyData.int c).weight ≤ 20 := by
  have l := six_log h
  refine ⟨decide_eq_true (by omega), decide_eq_true (PyData.shown_int_le (by omega)), ?_⟩
  show (if c == 0 then 0 else c.natAbs.log2 + 1) ≤ 20
  split <;> omega
theorem rep_word (p : Pg) : (PyData.str (word p)).leavesShort 13 = true ∧ (PyData.str (word p)).weight ≤ 6 := by
  refine ⟨?_, word_len p⟩
  cases p with
  | tr b => show (PyData.str (trS b)).leavesShort 13 = true; cases b <;> decide +kernel
  | bin bw a b => show (PyData.str bw.str).leavesShort 13 = true; cases bw <;> decide +kernel
  | inp k => show (PyData.str "in").leavesShort 13 = true; decide +kernel
  | num k => show (PyData.str "num").leavesShort 13 = true; decide +kernel
  | plus k a => show (PyData.str "plus").leavesShort 13 = true; decide +kernel
  | neg a => show (PyData.str "not").leavesShort 13 = true; decide +kernel
  | ite a b c => show (PyData.str "if").leavesShort 13 = true; decide +kernel
/-- of a program's data: it can be shown, has no dicts, isn't too long -/
def RepOk (p : Pg) : Prop := (enc p).showable = true ∧ (enc p).hasDict = false ∧ (enc p).leavesShort 13 = true ∧ (enc p).weight ≤ 31 * psz p
theorem rep_ok : ∀ p : Pg, Sm6 p → RepOk p
  | .inp k, h => by
    obtain ⟨a, b, c⟩ := rep_int (show (k : Int).natAbs < 1000000 from h)
    obtain ⟨d, e⟩ := rep_word (.inp k)
    refine ⟨?_, rfl, ?_, ?_⟩
    · show (true && ((PyData.int (k : Int)).showable && true)) = true; rw [a]; rfl
    · show ((PyData.str "in").leavesShort 13 && ((PyData.int (k : Int)).leavesShort 13 && true)) = true; rw [b]; exact (by rw [show (PyData.str "in").leavesShort 13 = true from d]; rfl)
    · show (PyData.str "in").weight + 1 + ((PyData.int (k : Int)).weight + 1 + 0) ≤ 31 * 1
      have : (PyData.str "in").weight ≤ 6 := e
      omega
  | .num k, h => by
    obtain ⟨a, b, c⟩ := rep_int (show k.natAbs < 1000000 from h)
    obtain ⟨d, e⟩ := rep_word (.num k)
    refine ⟨?_, rfl, ?_, ?_⟩
    · show (true && ((PyData.int k).showable && true)) = true; rw [a]; rfl
    · show ((PyData.str "num").leavesShort 13 && ((PyData.int k).leavesShort 13 && true)) = true; rw [b]; exact (by rw [show (PyData.str "num").leavesShort 13 = true from d]; rfl)
    · show (PyData.str "num").weight + 1 + ((PyData.int k).weight + 1 + 0) ≤ 31 * 1
      have : (PyData.str "num").weight ≤ 6 := e
      omega
  | .tr b, h => by
    obtain ⟨d, e⟩ := rep_word (.tr b)
    refine ⟨rfl, rfl, ?_, ?_⟩
    · show ((PyData.str (trS b)).leavesShort 13 && true) = true; rw [show (PyData.str (trS b)).leavesShort 13 = true from d]; rfl
    · show (PyData.str (trS b)).weight + 1 + 0 ≤ 31 * 1
      have : (PyData.str (trS b)).weight ≤ 6 := e
      omega
  | .plus k x, h => by
    obtain ⟨a, b, c⟩ := rep_int (show k.natAbs < 1000000 from h.1)
    obtain ⟨d, e⟩ := rep_word (.plus k x)
    obtain ⟨x1, x2, x3, x4⟩ := rep_ok x h.2
    refine ⟨?_, ?_, ?_, ?_⟩
    · show (true && ((PyData.int k).showable && ((enc x).showable && true))) = true; rw [a, x1]; rfl
    · show (false || (false || ((enc x).hasDict || false))) = false; rw [x2]; rfl
    · show ((PyData.str "plus").leavesShort 13 && ((PyData.int k).leavesShort 13 && ((enc x).leavesShort 13 && true))) = true; rw [b, x3, show (PyData.str "plus").leavesShort 13 = true from d]; rfl
    · show (PyData.str "plus").weight + 1 + ((PyData.int k).weight + 1 + ((enc x).weight + 1 + 0)) ≤ 31 * (psz x + 1)
      have : (PyData.str "plus").weight ≤ 6 := e
      omega
  | .bin bw x y, h => by
    obtain ⟨d, e⟩ := rep_word (.bin bw x y)
    obtain ⟨x1, x2, x3, x4⟩ := rep_ok x h.1
    obtain ⟨y1, y2, y3, y4⟩ := rep_ok y h.2
    refine ⟨?_, ?_, ?_, ?_⟩
    · show (true && ((enc x).showable && ((enc y).showable && true))) = true; rw [x1, y1]; rfl
    · show (false || ((enc x).hasDict || ((enc y).hasDict || false))) = false; rw [x2, y2]; rfl
    · show ((PyData.str bw.str).leavesShort 13 && ((enc x).leavesShort 13 && ((enc y).leavesShort 13 && true))) = true; rw [x3, y3, show (PyData.str bw.str).leavesShort 13 = true from d]; rfl
    · show (PyData.str bw.str).weight + 1 + ((enc x).weight + 1 + ((enc y).weight + 1 + 0)) ≤ 31 * (psz x + psz y + 1)
      have : (PyData.str bw.str).weight ≤ 6 := e
      omega
  | .neg x, h => by
    obtain ⟨d, e⟩ := rep_word (.neg x)
    obtain ⟨x1, x2, x3, x4⟩ := rep_ok x h
    refine ⟨?_, ?_, ?_, ?_⟩
    · show (true && ((enc x).showable && true)) = true; rw [x1]; rfl
    · show (false || ((enc x).hasDict || false)) = false; rw [x2]; rfl
    · show ((PyData.str "not").leavesShort 13 && ((enc x).leavesShort 13 && true)) = true; rw [x3, show (PyData.str "not").leavesShort 13 = true from d]; rfl
    · show (PyData.str "not").weight + 1 + ((enc x).weight + 1 + 0) ≤ 31 * (psz x + 1)
      have : (PyData.str "not").weight ≤ 6 := e
      omega
  | .ite p x y, h => by
    obtain ⟨d, e⟩ := rep_word (.ite p x y)
    obtain ⟨p1, p2, p3, p4⟩ := rep_ok p h.1
    obtain ⟨x1, x2, x3, x4⟩ := rep_ok x h.2.1
    obtain ⟨y1, y2, y3, y4⟩ := rep_ok y h.2.2
    refine ⟨?_, ?_, ?_, ?_⟩
    · show (true && ((enc p).showable && ((enc x).showable && ((enc y).showable && true)))) = true; rw [p1, x1, y1]; rfl
    · show (false || ((enc p).hasDict || ((enc x).hasDict || ((enc y).hasDict || false)))) = false; rw [p2, x2, y2]; rfl
    · show ((PyData.str "if").leavesShort 13 && ((enc p).leavesShort 13 && ((enc x).leavesShort 13 && ((enc y).leavesShort 13 && true)))) = true; rw [p3, x3, y3, show (PyData.str "if").leavesShort 13 = true from d]; rfl
    · show (PyData.str "if").weight + 1 + ((enc p).weight + 1 + ((enc x).weight + 1 + ((enc y).weight + 1 + 0))) ≤ 31 * (psz p + psz x + psz y + 1)
      have : (PyData.str "if").weight ≤ 6 := e
      omega
theorem rep_len {p : Pg} (h : Sm6 p) (hz : psz p ≤ 10000) : (enc p).shown.length ≤ sizeLine := by
  obtain ⟨_, _, c, d⟩ := rep_ok p h
  exact PyData.shown_fits (by decide) (by decide) c (by have e : (2 : Nat) ^ 20 = 1048576 := (by decide); omega)
section
variable {X : Cx}
/-- repr of a tuple's data, of a number or a truth -/
theorem call_repr3 {k : Nat} (hr : Room k X.A) (hgu : X.A.guards = some []) : CallR X (.builtin "repr") (fun xs H Q => rRepr X xs H Q ∨ (∃ i, xs = [.int i] ∧ i.natAbs.log2 < 1920 ∧ Q (.str (toString i)) H) ∨ ∃ b, xs = [.bl b] ∧ Q (.str (if b then "True" else "False")) H) := by
  intro pins s σ H xs us Q I r h
  rcases h with h | h | ⟨b, rfl, q⟩
  · exact call_reprD hr hgu pins s σ H xs us Q I r h
  · exact SkE.call_repr_int pins s σ H xs us Q I r h
  · obtain ⟨u, rfl, t⟩ := vals1 r
    cases t
    exact PySem.P.repr_of_bool ⟨.str _, H, I.tok _, ⟨_, rfl⟩, q⟩
theorem At.repr {H : Hp} {v : V} {p : Pg} {Q : VK} (h : At X.K H v p) (h6 : Sm6 p) (hz : psz p ≤ 10000) (hd : dep p ≤ 60) (q : Q (.str (enc p).shown) H) : rRepr X [v] H Q := by
  obtain ⟨a, vs, rfl, _, _⟩ := h.open
  obtain ⟨a1, a2, _, _⟩ := rep_ok p h6
  exact ⟨a, enc p, rfl, h, a1, a2, Nat.le_trans (depth_enc p) hd, rep_len h6 hz, q⟩
end
end Lm

set_option Elab.async false
set_option linter.all false
namespace Lm
open PySem PySem.Spec PyProof.Rows L2 LmR
/-- a < b of data of a Lean type -/
def rLtDat (α : Type) [DecidableEq α] [PySem.W.DatumOrd α] (K : PySem.W.Frag) : R2 := fun x y H Q => ∃ a b : α, Dp K H x (PySem.W.Datum.toD a) ∧ Dp K H y (PySem.W.Datum.toD b) ∧ Q (.bl (PySem.W.DatumOrd.lt a b)) H
theorem op_ltDat {X : Cx} {α : Type} [DecidableEq α] [PySem.W.DatumOrd α] (hu : X.A.units + PySem.W.Datum.depth α < cLine) : OpR X (compareOp .Lt) (rLtDat α X.K) := by
  intro pins s σ H x y v u Q I rx ry h
  obtain ⟨a, b, ha, hb, q⟩ := h
  exact PySem.W.lt_datum (x := a) (y := b) (Dp.reads I _ x v ha rx) (Dp.reads I _ y u hb ry) hu ⟨.bl _, H, I, rfl, q⟩
end Lm

set_option Elab.async false
set_option linter.all false
set_option maxRecDepth 100000
namespace Lm
open PySem PySem.Spec PyProof.Rows L2 LmR
mutual
theorem dp_same {K : PySem.W.Frag} {H H' : Hp} (s : Same H H') : ∀ (d : PyData) (v : V), Dp K H v d → Dp K H' v d
  | .none, _, h => by cases h; exact .non
  | .bool b, _, h => by cases h; exact .bl b
  | .int i, _, h => by cases h; exact .int i
  | .str x, _, h => by cases h; exact .str x
  | .list ds, _, h => by
    cases h with
    | lst q r => exact .lst (s.seq q) (dps_same s ds _ r)
  | .tuple ds, _, h => by
    cases h with
    | tup q r => exact .tup (Tp.same s _ _ q) (dps_same s ds _ r)
  | .dict ds, _, h => by cases h
theorem dps_same {K : PySem.W.Frag} {H H' : Hp} (s : Same H H') : ∀ (ds : List PyData) (vs : List V), DpAll K H vs ds → DpAll K H' vs ds
  | [], _, h => by cases h; exact .nil
  | d :: ds, _, h => by
    cases h with
    | cons a b => exact .cons (dp_same s d _ a) (dps_same s ds _ b)
end
theorem defkw_mk2 {K : PySem.W.Frag} {h : Heap} {mg : Str → Option Value} {x y1 y2 z : Str} {st : Stmt} {f D : Addr} {oc : Value} {od an : Option Addr} {osl : Array (Option Value)} {doc pm cdv ct u : Value} {v : V} (X : K.In h) (G : h.Ns mainGlobals mg)
    (a : PySem.W.nsIn K mainGlobals x = some (some (.ref f))) (l : K.lookup f = some ⟨oc, od, .func (PySem.W.fnOf x x (defArgs st) (defBody st) (defScope st) .none (.ref D) doc pm an cdv ct), osl⟩) (c : PySem.W.codeIn K cdv x = true) (k : PySem.W.keepIn K (.ref f) = true)
    (d : PySem.W.nsIn K D z = some (some u)) (r : RelV v u)
    (hb : ∀ (doc pm : Value) (an : Option Addr) (cdv ct u1 u2 w : Value), bindArgs (PySem.W.fnOf x x (defArgs st) (defBody st) (defScope st) .none (.ref D) doc pm an cdv ct) ⟨[u1, u2], [(z, w)]⟩ = pure [(y1, u1), (y2, u2), (z, w)])
    (hd : ∀ (doc pm : Value) (an : Option Addr) (cdv ct u1 u2 w : Value), KwChain D [(z, w)] (bindArgs (PySem.W.fnOf x x (defArgs st) (defBody st) (defScope st) .none (.ref D) doc pm an cdv ct) ⟨[u1, u2], []⟩) [(y1, u1), (y2, u2), (z, w)]) : DefKw K mg x st [y1, y2, z] 2 [z] [v] := by
  refine ⟨f, _, fun_mk l c k, PySem.W.mg_of X G a, ⟨fun s us ws _ l1 l2 => ?_, fun r1 r2 => r1.append r2⟩, [u], .cons r .nil, fun s us X' hl => ?_⟩
  · match us, ws, l1, l2 with
    | [u1, u2], [w'], _, _ => exact .of_eq (hb _ _ _ _ _ u1 u2 w')
  · have l1 : us.length = 2 := by simpa using hl
    match us, l1 with
    | [u1, u2], _ => exact BindsTo.of_looks fun M => KwChain.looks X' (fun q hq => by rw [List.mem_singleton.mp hq]; exact d) (hd _ _ _ _ _ u1 u2 u)
end Lm

set_option Elab.async false
set_option linter.all false
set_option maxRecDepth 100000
set_option maxHeartbeats 4000000
set_option pp.maxSteps 20000
set_option pp.deepTerms true
namespace Lm
open PySem PySem.Spec PyProof.Rows L2 LmR RZ
/-- a drawn program, as it is asked -/
def PlanX (K : PySem.W.Frag) (H : Hp) (ks : List Bool) (κ : Bool) (v : V) : Prop := ∃ p, At K H v p ∧ Wk ks p ∧ own ks p = κ ∧ psz p ≤ 11
theorem niT' {a b : Prop} {x y : V} (h : x = y) (q : b) : if (!decide (x = y)) = true then a else b := by rw [decide_eq_true h]; exact iteF q
/-- told by a program: all of the examples -/
def tellsP (zs : List (List V × V)) (p : Pg) : List Bool := zs.map fun z => decide (pval z.1 p = z.2)
theorem tells_all {zs : List (List V × V)} {p : Pg} (h : ∀ us, (∃ z ∈ zs, z.1 = us) → saysP zs us (pval us p) = true) : (tellsP zs p).all id = true := by
  rw [List.all_eq_true]
  intro b hb
  obtain ⟨z, hz, rfl⟩ := List.mem_map.mp hb
  have a := h z.1 ⟨z, hz, rfl⟩
  unfold saysP at a
  have a' := List.all_eq_true.mp a z hz
  rw [decide_eq_true rfl, Bool.not_true, Bool.false_or] at a'
  exact a'
theorem tells_not {zs : List (List V × V)} {p : Pg} {us : List V} (h : saysP zs us (pval us p) = false) : (tellsP zs p).all id = false := by
  cases e : (tellsP zs p).all id with
  | false => rfl
  | true =>
    have : saysP zs us (pval us p) = true := by
      unfold saysP
      rw [List.all_eq_true]
      intro z hz
      by_cases c : us = z.1
      · have a := List.all_eq_true.mp e (decide (pval z.1 p = z.2)) (List.mem_map.mpr ⟨z, hz, rfl⟩)
        have a : decide (pval z.1 p = z.2) = true := a
        rw [c, a]
        simp
      · rw [decide_eq_false c]
        rfl
    rw [h] at this
    cases this
/-- those walked clash with none -/
def NoC (zs : List (List V × V)) (j : Nat) : Prop := ∀ i z, i < j → zs[i]? = some z → ∀ y ∈ zs, y.1 = z.1 → y.2 = z.2
section
variable {P : Program} {w : World} {K : PySem.W.Frag} {mg : Str → Option Value} {base : Heap}
abbrev s_l_right : Stmt := topS 78
theorem sc_l_right : FnScope ["_law_flow_here", "_law_head", "_law_examples_here", "_law_plans", "_law_kinds_here", "_law_kind", "_law_handed", "_law_kept", "_law_wish", "_law_clash", "_law_inputs", "_law_answer_here", "_law_plan_here", "_law_tells", "_law_one"] ["_law_flow_here", "_law_head", "_law_examples_here", "_law_plans"] (defScope s_l_right) := ⟨rfl, rfl, rfl, by decide +kernel, rfl, by decide +kernel, by decide +kernel⟩
def spRight41 (K : PySem.W.Frag) : Sp := fun vs H Q _ => ∃ (f h ka ea pa : Addr) (ks : List Bool) (κ : Bool) (evs : List V) (zs : List (List V × V)) (pvs : List V), vs = [.ref f, .ref h, .ref ea, .ref pa] ∧ Flow H f ∧ SqT K H h [.ref ka, .str (kS κ)] ∧ SqT K H ka (kVs ks) ∧ ks.length ≤ 3 ∧ H ea = some (.lst evs) ∧ ea ≠ f ∧ Exs K H ks κ evs zs ∧ evs.length ≤ 6 ∧ H pa = some (.lst pvs) ∧ pa ≠ f ∧ (∀ v ∈ pvs, PlanX K H ks κ v) ∧
  ∀ (H' : Hp), Gr [] f H H' → Q (.bl true) H'
theorem ok_l_right41 (B : Bt mg) (C_l_draw : Cal P w K mg base 1 "_law_draw" ["_law_flow_here", "_law_wide"] (spDraw)) (C_wish_of : Cal P w K mg base 3 "wish_of" ["head", "examples"] (spWishOf K)) (C_kind_of : Cal P w K mg base 4 "kind_of" ["kinds", "program"] (spKO K)) (C_meets : Cal P w K mg base 8 "meets" ["head", "wish", "program"] (spMeets K)) (C_l_worth : Cal P w K mg base 21 "_law_worth" ["_law_plan_here", "_law_inputs"] (spWorth K 20)) (C_l_lets : Cal P w K mg base 22 "_law_lets" ["_law_flow_here", "_law_head", "_law_wish", "_law_examples_here"] (spLets K)) (D : DefAt K mg "_law_right" s_l_right ["_law_flow_here", "_law_head", "_law_examples_here", "_law_plans"]) : CalG P w K mg base 24 "_law_right" ["_law_flow_here", "_law_head", "_law_examples_here", "_law_plans"] (spRight41 K) := by
  refine calg_of D sc_l_right (fun vs H Q E h => ?_) (fun f' cdv A outer s H vs Q E hgu hr h => ?_)
  · obtain ⟨f, h, ka, ea, pa, ks, κ, evs, zs, pvs, rfl, _⟩ := h
    rfl
  obtain ⟨f, h, ka, ea, pa, ks, κ, evs, zs, pvs, rfl, fl, hh, hk, hkl, he, nef, hex, el, hp, npf, hpl, Qq⟩ := h
  have hr' : Room 23 _ := hr
  have C_l_draw := C_l_draw.mono (k := 23) (by decide)
  have C_wish_of := C_wish_of.mono (k := 23) (by decide)
  have C_kind_of := C_kind_of.mono (k := 23) (by decide)
  have C_meets := C_meets.mono (k := 23) (by decide)
  have C_l_worth := C_l_worth.mono (k := 23) (by decide)
  have C_l_lets := C_l_lets.mono (k := 23) (by decide)
  refine ⟨_, (pss_cons (ps_asg (pv 1) (pg_tup rfl (pgs_cons (pg_name (i := 4) sc_l_right.nd rfl (.inl rfl)) (pgs_cons (pg_name (i := 5) sc_l_right.nd rfl (.inl rfl)) pgs_nil))))
      (pss_cons (ps_set (i := 6) sc_l_right.nd rfl (.inl rfl) (pe_ix ix_list (pe_lst (pa_cons (pe_callTy call_list_of (by rfl) B.list PyProof.Rows.boot_list (pa_cons (pv 2) pa_nil)) (pa_cons (pe_callTy call_tuple_of (by rfl) B.tuple PyProof.Rows.boot_tuple (pa_cons (pv 2) pa_nil)) pa_nil))) (pe_cal C_l_draw hr' (by rfl) (pa_cons (pv 0) (pa_cons pe_int pa_nil))) (fun _ _ => rfl)))
      (pss_cons (ps_set (i := 7) sc_l_right.nd rfl (.inl rfl) (pe_callB (call_reprD hr' hgu) (by rfl) B.repr (by decide +kernel) (pa_cons (pv 6) pa_nil)))
      (pss_cons (ps_set (i := 8) sc_l_right.nd rfl (.inl rfl) (pe_cal C_wish_of hr' (by rfl) (pa_cons (pv 1) (pa_cons (pv 6) pa_nil))))
      (pss_cons (ps_if (PW.pt (pw_or (pt_cmpR op_ne (pe_cal C_kind_of hr' (by rfl) (pa_cons (pe_op op_catA (pv 4) (pe_tup (pa_cons (pv 5) pa_nil))) (pa_cons (pv 8) pa_nil))) pe_str (nomark _)) (pw_or1 (pt_cmpR op_ne (pe_callB (call_reprD hr' hgu) (by rfl) B.repr (by decide +kernel) (pa_cons (pv 6) pa_nil)) (pv 7) (nomark _)))))
        (pss_one (ps_ret pe_bl))
        pss_nil)
      (pss_cons (ps_set (i := 9) sc_l_right.nd rfl (.inl rfl) (pe_lst pa_nil))
      (pss_cons (ps_for PassesOwn.never rfl (pi_list (pv 2)) (pg_tup rfl (pgs_cons (pg_name (i := 10) sc_l_right.nd rfl (.inr rfl)) (pgs_cons (pg_name (i := 11) sc_l_right.nd rfl (.inr rfl)) pgs_nil)))
        (pss_one (ps_expr (pe_bm PySem.F.plainAttrs_list PySem.F.slot_list_extend PySem.F.type_list_extend mt_extend (pv 9) (pa_cons (pe_lc (own := [("_law_one", 14)]) (g := gName 14) rfl sc_l_right.nd (pi_list (pv 2)) (blkOk_by (own := [("_law_one", 14)]) (N := ["_law_flow_here", "_law_head", "_law_examples_here", "_law_plans", "_law_kinds_here", "_law_kind", "_law_handed", "_law_kept", "_law_wish", "_law_clash", "_law_inputs", "_law_answer_here", "_law_plan_here", "_law_tells", "_law_one"]) (sc := defScope s_l_right) (by decide +kernel)) (fun _ _ _ _ _ => (pg_name (i := 14) sc_l_right.nd rfl (.inl rfl))) (fun _ _ _ _ _ => (pts_one (PW.pt (pw_and (pt_cmpR (op_eqPK rfl hr.units) (pe_ix (ix_tupK (K := K) rfl) (pv 14) pe_int (fun _ _ => rfl)) (pv 10) (nomark _)) (pw_and1 (pt_cmpR op_ne (pe_ix (ix_tupK (K := K) rfl) (pv 14) pe_int (fun _ _ => rfl)) (pv 11) (nomark _))))))) (fun _ _ _ _ _ => (pv 14))) pa_nil)))))
      (pss_cons (ps_for PassesOwn.never rfl (pi_list (pv 3)) (pg_name (i := 12) sc_l_right.nd rfl (.inr rfl))
        (pss_cons (ps_set (i := 13) sc_l_right.nd rfl (.inl rfl) (pe_callB (cr_all rfl) (by rfl) B.all PyProof.Rows.boot_all (pa_cons (pe_lc (own := [("_law_inputs", 10), ("_law_answer_here", 11)]) (g := gTup K 2 (gCons (gName 10) (gCons (gName 11) gNil))) rfl sc_l_right.nd (pi_list (pv 2)) (blkOk_by (own := [("_law_inputs", 10), ("_law_answer_here", 11)]) (N := ["_law_flow_here", "_law_head", "_law_examples_here", "_law_plans", "_law_kinds_here", "_law_kind", "_law_handed", "_law_kept", "_law_wish", "_law_clash", "_law_inputs", "_law_answer_here", "_law_plan_here", "_law_tells", "_law_one"]) (sc := defScope s_l_right) (by decide +kernel)) (fun _ _ _ _ _ => (pg_tupK (K := K) rfl rfl (pgs_cons (pg_name (i := 10) sc_l_right.nd rfl (.inl rfl)) (pgs_cons (pg_name (i := 11) sc_l_right.nd rfl (.inl rfl)) pgs_nil)))) (fun _ _ _ _ _ => pts_nil) (fun _ _ _ _ _ => (pe_cmpR op_eq (pe_cal C_l_worth hr' (by rfl) (pa_cons (pv 12) (pa_cons (pv 10) pa_nil))) (pv 11) (nomark _)))) pa_nil)))
      (pss_one (ps_if (pt_cmpR op_ne (pe_ix ix_tup (pe_cal C_meets hr' (by rfl) (pa_cons (pv 1) (pa_cons (pv 8) (pa_cons (pv 12) pa_nil)))) pe_int (fun _ _ => rfl)) (pe_ix ix_list (pe_lst (pa_cons pe_str (pa_cons pe_str pa_nil))) (pe_callTy call_int1 (by rfl) B.int PyProof.Rows.boot_int (pa_cons (pv 13) pa_nil)) (fun _ _ => rfl)) (nomark _))
        (pss_one (ps_ret pe_bl))
        pss_nil))))
      (pss_one (ps_ret (pe_or (pe_cmpR (op_neP hr.units) (pv 9) (pe_lst pa_nil) (nomark _)) (pe_one (pe_cal C_l_lets hr' (by rfl) (pa_cons (pv 0) (pa_cons (pv 1) (pa_cons (pv 8) (pa_cons (pv 2) pa_nil))))))))))))))))), ?_⟩
  have kvl : (kVs ks).length = ks.length := List.length_map _
  refine ⟨_, rfl, h, _, rfl, hh, rfl, _, _, rfl, _, _, rfl, rfl, ?_⟩
  have gex := hex.good (by omega)
  have zl : zs.length ≤ 6 := by rw [← hex.len]; exact el
  have hK := hex.kinds
  obtain ⟨ww, wo⟩ := wish_wk hK
  obtain ⟨wz, wd⟩ := wish_sz hK hkl zl
  refine ⟨_, rfl, ea, evs, rfl, .inl (SqL.of he), fun l1 hl1 => alLf hl1 fun H1 s1 e1 => ⟨_, rfl, ea, evs, rfl, .inl ⟨SqL.of (s1 _ _ he), fun t1 ht1 => alT (K := K) ht1 fun H2 s2 h2 => ⟨len2, fun l2 hl2 => alLf hl2 fun H3 s3 e3 => ?_⟩⟩⟩⟩
  have s03 := s1.trans (s2.trans s3)
  have g3 := gr_same' fl s03
  have n2f : l2 ≠ f := fl_ne (gr_same' fl (s1.trans s2)).fl hl2
  have n1f : l1 ≠ f := fl_ne fl hl1
  refine ⟨_, rfl, f, 2, rfl, g3.fl, by decide, by decide, fun d H4 d0 d1 r4 => ?_⟩
  have g4 := g3.trans r4.g
  have t34 := r4.tp (K := K) g3.fl
  have t04 := g4.tp (K := K) fl
  have hex4 := hex.keep t04
  obtain ⟨hd, dd, eat, hsq, hdp, gd⟩ : ∃ (hd : Addr) (dd : PyData), atI [V.ref l1, V.ref t1] d = some (.ref hd) ∧ ((SqL K H4 hd evs ∧ hd ≠ f) ∨ SqT K H4 hd evs) ∧ Dp K H4 (.ref hd) dd ∧ Good dd (7001 * zs.length) 3 := by
    have ed := hex4.dp
    rcases (show d = 0 ∨ d = 1 by omega) with z | z <;> subst z
    · have e4 : H4 l1 = some (.lst evs) := (r4.off l1 n1f).trans (s3 _ _ (s2 _ _ e1))
      exact ⟨l1, _, rfl, .inl ⟨SqL.of e4, n1f⟩, .lst (SqL.of e4) ed, gex.lst⟩
    · have h4 := t34 _ _ (Tp.same s3 _ _ h2)
      exact ⟨t1, _, rfl, .inr h4, .tup h4 ed, gex.tup⟩
  refine ⟨l2, _, d, _, rfl, rfl, SqL.of ((r4.off l2 n2f).trans e3), eat, ?_⟩
  have hh4 := t04 _ _ hh
  have hk4 := t04 _ _ hk
  refine ⟨_, rfl, hd, dd, rfl, hdp, gd.s, gd.h, Nat.le_trans gd.t (by decide), gd.fits (by omega), ?_⟩
  refine ⟨_, rfl, _, rfl, h, ka, hd, ks, κ, evs, zs, rfl, hh4, hk4, by omega, hsq.imp (·.1) id, hex4, by omega, fun u H5 s5 hu => ?_⟩
  refine ⟨_, rfl, _, rfl, len1, fun t6 ht6 => alT (K := K) ht6 fun H6 s6 h6 => ?_⟩
  refine catA_anyW (Tp.same (s5.trans s6) _ _ hk4) h6 (by rw [kvl]; exact small (by show ks.length + 1 ≤ _; omega)) fun kd H7 s7 hkd => ?_
  have s47 := s5.trans (s6.trans s7)
  have ekb : kVs ks ++ [V.str (kS κ)] = kVs (ks ++ [κ]) := by unfold kVs; rw [List.map_append]; rfl
  rw [ekb] at hkd
  refine ⟨_, rfl, kd, ks ++ [κ], u, _, rfl, hkd, hu.keep (Tp.same (s6.trans s7)), ww, by omega, fun H8 s8 => ?_⟩
  rw [wo]
  have s48 := s47.trans s8
  refine ⟨rfl, _, rfl, niT' rfl ?_⟩
  refine ⟨_, rfl, hd, dd, rfl, dp_same s48 _ _ hdp, gd.s, gd.h, Nat.le_trans gd.t (by decide), gd.fits (by omega), ?_⟩
  generalize dd.shown = sx
  refine ⟨_, rfl, rfl, _, rfl, niT' rfl ?_⟩
  have g8 := g4.trans (gr_same' g4.fl s48)
  have hu8 := hu.keep (Tp.same (K := K) (s6.trans (s7.trans s8)))
  have he8 : H8 ea = some (.lst evs) := g8.lst he nef
  have hp8 : H8 pa = some (.lst pvs) := g8.lst hp npf
  have t08 := g8.tp (K := K) fl
  have hex8 := hex.keep t08
  refine ⟨Nat.zero_le _, fun lc hlc => ?_⟩
  have nlc := fl_ne g8.fl hlc
  refine ⟨_, rfl, ea, rfl, ⟨_, SqL.of (same_new hlc _ _ he8)⟩, for_list (K := K) (a := ea) (xs := evs) (fun j σ' H' => (∃ y10 y11 y12 y13 y14 : Option V, σ' = [some (.ref f), some (.ref h), some (.ref ea), some (.ref pa), some (.ref ka), some (.str (kS κ)), some (.ref hd), some (.str sx), some u, some (.ref lc), y10, y11, y12, y13, y14]) ∧ Same H8 H' ∧ ∃ acc, H' lc = some (.lst acc) ∧ acc.length ≤ 6 * j ∧ (∀ v ∈ acc, v ∈ evs) ∧ (acc = [] → NoC zs j)) ⟨⟨_, _, _, _, _, rfl⟩, same_new hlc, [], upd_same, Nat.zero_le _, (fun v hv => nomatch hv), fun _ i z hi => absurd hi (Nat.not_lt_zero i)⟩ ?_ ?_ ?_⟩
  · rintro j σ' H' _ ⟨_, s', _⟩
    exact SqL.of (s' _ _ he8)
  · rintro j v σ' H9 hj ⟨⟨y10, y11, y12, y13, y14, rfl⟩, s9, acc, eA, al, hacc, hno⟩
    obtain ⟨z, hz, e, t, rfl, h1, h2, h3, h4, h5, h6'⟩ := (hex8.keep (Tp.same s9)).get hj
    have jl : j < evs.length := (List.getElem?_eq_some_iff.mp hj).1
    have gz := good_us h5
    refine ⟨e, _, rfl, h1, rfl, _, _, rfl, _, _, rfl, rfl, ?_⟩
    refine ⟨_, rfl, .inl ⟨rfl, _, SqL.of eA⟩, _, rfl, ea, rfl, ⟨_, SqL.of (s9 _ _ he8)⟩, fun D hD => lc_it (walk_list (K := K) (a := ea) (xs := evs)) (fun i H' => Same H9 H' ∧ ∃ more, H' D = some (.lst more) ∧ more.length ≤ i ∧ (∀ v ∈ more, v ∈ evs) ∧ (more = [] → ∀ i' y, i' < i → zs[i']? = some y → y.1 = z.1 → y.2 = z.2)) ?_ ?_ ?_ ?_⟩
    · exact ⟨same_new hD, [], upd_same, Nat.le_refl _, (fun v hv => nomatch hv), fun _ i' y hi => absurd hi (Nat.not_lt_zero _)⟩
    · rintro i H' _ ⟨sm, _⟩
      exact SqL.of (sm _ _ (s9 _ _ he8))
    · rintro i x H' H10 hi ⟨sm, more, eD, ml, hmore, hmn⟩ ⟨rfl, hx⟩
      obtain ⟨y, hy, e1, t2, rfl, k1, k2, k3, k4, k5, k6⟩ := (hex8.keep (Tp.same (s9.trans sm))).get hx
      have gy := good_us k5
      have sc : scal y.2 z.2 = true := by
        cases κ with
        | true => obtain ⟨_, a⟩ := k4; obtain ⟨_, b⟩ := h4; rw [a, b]; rfl
        | false => obtain ⟨_, a⟩ := k4; obtain ⟨_, b⟩ := h4; rw [a, b]; rfl
      have skip : (y.1 = z.1 → y.2 = z.2) → more = [] → ∀ i' y', i' < i + 1 → zs[i']? = some y' → y'.1 = z.1 → y'.2 = z.2 := fun hyz me i' y' hi' hy' e' => by
        by_cases c : i' = i
        · rw [c, hy] at hy'
          cases hy'
          exact hyz e'
        · exact hmn me i' y' (by omega) hy' e'
      refine ⟨rfl, _, rfl, e1, _, 0, _, rfl, rfl, k1, at_of (j := 0) rfl rfl, _, rfl, .tuple (y.1.map xPD), .tuple (z.1.map xPD), .tup k2 (us_dpX k3), .tup (Tp.same sm _ _ h2) (us_dpX h3), gy.p, gz.p, Nat.le_trans gy.t (by decide), _, rfl, ite2 (fun c => ?_) (fun c => ?_)⟩
      · rw [tup_eqv k3 h3] at c
        refine ⟨_, rfl, e1, _, 1, _, rfl, rfl, k1, at_of (j := 1) rfl rfl, _, rfl, sc, _, rfl, ite2 (fun c2 => ?_) (fun c2 => ?_)⟩
        · refine ⟨_, rfl, more, eD, smallL (by have := hi; omega), fun b o zb => ?_, more ++ [.ref e1], upd_same, by rw [List.length_append]; exact Nat.succ_le_succ ml, fun v hv => ?_, fun e => by simp at e⟩
          · rw [upd_ne (ne_of_none zb hD)]
            exact sm _ _ zb
          · rcases List.mem_append.mp hv with w | w
            · exact hmore v w
            · rw [List.mem_singleton.mp w]; exact List.mem_of_getElem? hx
        · refine ⟨sm, more, eD, Nat.le_succ_of_le ml, hmore, skip fun _ => ?_⟩
          by_cases c3 : y.2 = z.2
          · exact c3
          · rw [decide_eq_false c3] at c2
            exact absurd rfl c2
      · rw [tup_eqv k3 h3] at c
        exact iteF ⟨sm, more, eD, Nat.le_succ_of_le ml, hmore, skip fun e => absurd (decide_eq_true e) c⟩
    rintro H10 ⟨s10, more, eD, ml, hmore, hmn⟩
    refine ⟨lc, D, acc, more, rfl, rfl, s10 _ _ eA, eD, small (by omega), ⟨_, _, _, _, _, rfl⟩, fun b o zb => ?_, acc ++ more, upd_same, by rw [List.length_append]; omega, fun v hv => ?_, fun e i y hi hy => ?_⟩
    · rw [upd_ne (ne_of_none zb hlc)]
      exact s10 _ _ (s9 _ _ zb)
    · rcases List.mem_append.mp hv with w | w
      · exact hacc v w
      · exact hmore v w
    · obtain ⟨e1, e2⟩ := List.append_eq_nil_iff.mp e
      by_cases c : i = j
      · rw [c, hz] at hy
        cases hy
        intro y' hy' ey
        obtain ⟨i', hi', hg⟩ := List.mem_iff_getElem.mp hy'
        exact hmn e2 i' y' (by rw [hex.len]; exact hi') (by rw [List.getElem?_eq_getElem hi', hg]) ey
      · exact hno e1 i y (by omega) hy
  rintro σ' H9 ⟨⟨y10, y11, y12, y13, y14, rfl⟩, s9, acc, eA, al, hacc, hno⟩
  refine ⟨_, rfl, pa, rfl, ⟨_, SqL.of (s9 _ _ hp8)⟩, for_list (K := K) (a := pa) (xs := pvs) (fun j σ' H' => (∃ y10 y11 y12 y13 y14 : Option V, σ' = [some (.ref f), some (.ref h), some (.ref ea), some (.ref pa), some (.ref ka), some (.str (kS κ)), some (.ref hd), some (.str sx), some u, some (.ref lc), y10, y11, y12, y13, y14]) ∧ Same H9 H') ⟨⟨_, _, _, _, _, rfl⟩, Same.refl _⟩ ?_ ?_ ?_⟩
  · rintro j σ' H' _ ⟨_, s'⟩
    exact SqL.of (s' _ _ (s9 _ _ hp8))
  · rintro j v σ' H10 hj ⟨⟨y10, y11, y12, y13, y14, rfl⟩, s10⟩
    obtain ⟨p, hpv, wp, op, zp⟩ := hpl v (List.mem_of_getElem? hj)
    have dp := dep_le p
    have s810 := s9.trans s10
    have t010 := t08.trans (Tp.same (K := K) s810)
    have he10 := s810 _ _ he8
    refine ⟨_, rfl, ea, rfl, ⟨_, SqL.of he10⟩, fun D hD => lc_it (walk_list (K := K) (a := ea) (xs := evs)) (fun i H' => Same H10 H' ∧ H' D = some (.lst (((tellsP zs p).take i).map V.bl))) ?_ ?_ ?_ ?_⟩
    · exact ⟨same_new hD, upd_same⟩
    · rintro i H' _ ⟨sm, _⟩
      exact SqL.of (sm _ _ he10)
    · rintro i x H' H11 hi ⟨sm, eD⟩ ⟨rfl, hx⟩
      have ti := t010.trans (Tp.same (K := K) sm)
      obtain ⟨z, hz, e, t, rfl, h1, h2, h3, h4, h5, h6'⟩ := (hex.keep ti).get hx
      have kp : Kv κ (pval z.1 p) := by rw [← op]; exact pval_kv h3 p wp
      have sc : scal (pval z.1 p) z.2 = true := by
        revert kp
        generalize pval z.1 p = a
        intro kp
        cases κ with
        | true => obtain ⟨_, a⟩ := kp; obtain ⟨_, b⟩ := h4; rw [a, b]; rfl
        | false => obtain ⟨_, a⟩ := kp; obtain ⟨_, b⟩ := h4; rw [a, b]; rfl
      refine ⟨e, _, rfl, h1, rfl, _, _, rfl, _, _, rfl, rfl, rfl, _, rfl, _, rfl, v, p, t, z.1, ks, rfl, hpv.keep ti, h2, h3, wp, by omega, fun H12 s12 => ⟨_, rfl, sc, _, s12 _ _ eD, ?_, fun b o zb => ?_, ?_⟩⟩
      · rw [List.length_map, List.length_take]
        exact smallL (by have := hi; omega)
      · rw [upd_ne (ne_of_none zb hD)]
        exact s12 _ _ (sm _ _ zb)
      · rw [upd_same, List.take_add_one]
        have eg : (tellsP zs p)[i]? = some (decide (pval z.1 p = z.2)) := by
          unfold tellsP
          rw [List.getElem?_map, hz]
          rfl
        rw [eg, List.map_append]
        rfl
    rintro H11 ⟨s11, eD⟩
    have tl : (tellsP zs p).length ≤ evs.length := by unfold tellsP; rw [List.length_map, hex.len]; exact Nat.le_refl _
    rw [List.take_of_length_le tl] at eD
    refine ⟨D, tellsP zs p, rfl, SqL.of eD, ?_⟩
    have s811 := s810.trans s11
    have t011 := t08.trans (Tp.same (K := K) s811)
    refine ⟨_, rfl, _, rfl, _, rfl, h, ka, u, v, ks, κ, wishP ks.length zs, p, rfl, t011 _ _ hh, t011 _ _ hk, by omega, hu8.keep (Tp.same s811), hpv.keep t011, ww, wo, wp, op, by omega, wish_few hK hkl zl wp op, fun a x H12 d s12 ha hf hx one hv => ?_, fun a t us H12 s12 ha ht hus hf => ?_⟩
    · have tt : (tellsP zs p).all id = true := tells_all fun us ⟨z, hz, ez⟩ => by
        have ku : Kvs ks us := ez ▸ (hK z hz).1
        have a := (wish_met hK wp op ku).symm.trans (one us ku)
        exact V.bl.inj a
      rw [tt]
      refine ⟨a, _, 0, _, rfl, rfl, .inl (.inl ha), at_of (j := 0) rfl rfl, len2, fun l9 hl9 => alLf hl9 fun H13 s13 e13 => ⟨_, rfl, .inr ⟨_, rfl, l9, _, 1, _, rfl, rfl, SqL.of e13, rfl, rfl, _, rfl, niT' rfl ⟨⟨_, _, _, _, _, rfl⟩, s10.trans (s11.trans (s12.trans s13))⟩⟩⟩⟩
    · have tt : (tellsP zs p).all id = false := tells_not (us := us) (V.bl.inj ((wish_met hK wp op hus).symm.trans hf))
      rw [tt]
      refine ⟨a, _, 0, _, rfl, rfl, .inl (.inl ha), at_of (j := 0) rfl rfl, len2, fun l9 hl9 => alLf hl9 fun H13 s13 e13 => ⟨_, rfl, .inr ⟨_, rfl, l9, _, 0, _, rfl, rfl, SqL.of e13, rfl, rfl, _, rfl, niT' rfl ⟨⟨_, _, _, _, _, rfl⟩, s10.trans (s11.trans (s12.trans s13))⟩⟩⟩⟩
  · rintro σ' H10 ⟨⟨y10, y11, y12, y13, y14, rfl⟩, s10⟩
    have s810 := s9.trans s10
    have t010 := t08.trans (Tp.same (K := K) s810)
    obtain ⟨cs, hcs⟩ := exs_of (K := K) (H := H10) (ks := ks) (κ := κ) (vs := acc) fun v hv => by
      obtain ⟨y, _, ey⟩ := (hex.keep t010).mem (hacc v hv)
      exact ⟨y, ey⟩
    have gc := hcs.good (by omega)
    refine ⟨_, rfl, Nat.zero_le _, fun l0 hl0 => alLf hl0 fun H11 s11 e11 => ⟨.list (cs.map exPD), .list [], .lst (SqL.of (s11 _ _ (s10 _ _ eA))) (hcs.keep (Tp.same s11)).dp, .lst (SqL.of e11) .nil, gc.lst.p, rfl, Nat.le_trans gc.lst.t (by decide), _, rfl, ?_⟩⟩
    have s811 := s810.trans s11
    have g11 := g8.trans (gr_same' g8.fl s811)
    rw [list_none]
    cases cs with
    | cons a b => exact iteT (Qq _ g11)
    | nil =>
      have ae : acc = [] := by cases hcs; rfl
      have no := hno ae
      have t011 := t010.trans (Tp.same (K := K) s11)
      refine iteF ⟨_, rfl, _, rfl, _, rfl, _, rfl, f, h, ka, ea, u, ks, κ, evs, zs, rfl, g11.fl, t011 _ _ hh, t011 _ _ hk, hkl, hu8.keep (Tp.same s811), s811 _ _ he8, nef, hex.keep t011, el, fun z hz y hy e => ?_, fun H' g' => Qq _ (g11.trans g')⟩
      obtain ⟨i, hi, hg⟩ := List.mem_iff_getElem.mp hz
      exact (no i z (by rw [hex.len]; exact hi) (by rw [List.getElem?_eq_getElem hi, hg]) y hy e.symm).symm
end
end Lm

set_option Elab.async false
set_option linter.all false
set_option maxRecDepth 100000
set_option maxHeartbeats 4000000
set_option pp.maxSteps 20000
set_option pp.deepTerms true
namespace Lm
open PySem PySem.Spec PyProof.Rows L2 LmR RZ LmG
/-- one thing that is asked: a head, examples, programs; its lists are none of these -/
def Askd (K : PySem.W.Frag) (H : Hp) (no : Addr) (y : V) : Prop := ∃ (t h ka ea pa : Addr) (ks : List Bool) (κ : Bool) (evs : List V) (zs : List (List V × V)) (pvs : List V), y = .ref t ∧ SqT K H t [.ref h, .ref ea, .ref pa] ∧ SqT K H h [.ref ka, .str (kS κ)] ∧ SqT K H ka (kVs ks) ∧ ks.length ≤ 3 ∧ H ea = some (.lst evs) ∧ ea ≠ no ∧ Exs K H ks κ evs zs ∧ evs.length ≤ 6 ∧ H pa = some (.lst pvs) ∧ pa ≠ no ∧ (∀ v ∈ pvs, PlanX K H ks κ v)
theorem PlanX.keep {K : PySem.W.Frag} {H H' : Hp} {ks : List Bool} {κ : Bool} {v : V} (h : PlanX K H ks κ v) (tp : Tp K H H') : PlanX K H' ks κ v := by
  obtain ⟨p, a, b⟩ := h
  exact ⟨p, a.keep tp, b⟩
theorem Askd.keep {K : PySem.W.Frag} {H H' : Hp} {no : Addr} {y : V} (h : Askd K H no y) (tp : Tp K H H') (x : ∀ b xs, H b = some (.lst xs) → b ≠ no → H' b = some (.lst xs)) : Askd K H' no y := by
  obtain ⟨t, h, ka, ea, pa, ks, κ, evs, zs, pvs, rfl, h1, h2, h3, h4, h5, h6, h7, h8, h9, h10, h11⟩ := h
  exact ⟨t, h, ka, ea, pa, ks, κ, evs, zs, pvs, rfl, tp _ _ h1, tp _ _ h2, tp _ _ h3, h4, x _ _ h5 h6, h6, h7.keep tp, h8, x _ _ h9 h10, h10, fun v hv => (h11 v hv).keep tp⟩
theorem Askd.off {K : PySem.W.Frag} {H : Hp} {no f : Addr} {y : V} (h : Askd K H no y) (hf : H f = none) : Askd K H f y := by
  obtain ⟨t, h, ka, ea, pa, ks, κ, evs, zs, pvs, rfl, h1, h2, h3, h4, h5, h6, h7, h8, h9, h10, h11⟩ := h
  exact ⟨t, h, ka, ea, pa, ks, κ, evs, zs, pvs, rfl, h1, h2, h3, h4, h5, ne_of_none h5 hf, h7, h8, h9, ne_of_none h9 hf, h11⟩
def PlanN (K : PySem.W.Frag) (H : Hp) (ks : List Bool) (κ : Bool) (v : V) : Prop := ∃ p, At K H v p ∧ Wn ks p ∧ own ks p = κ ∧ psz p ≤ 6
theorem PlanN.keep {K : PySem.W.Frag} {H H' : Hp} {ks : List Bool} {κ : Bool} {v : V} (h : PlanN K H ks κ v) (tp : Tp K H H') : PlanN K H' ks κ v := by
  obtain ⟨p, a, b⟩ := h
  exact ⟨p, a.keep tp, b⟩
section
variable {P : Program} {w : World} {K : PySem.W.Frag} {mg : Str → Option Value} {base : Heap}
abbrev s_law : Stmt := topS 79
theorem sc_law : FnScope ["_law_script", "_law_asked", "_law_k", "_law_flow_here", "_law_kinds_here", "_law_head", "_law_plans", "_law_examples_here", "_law_inputs", "_law_answer_here", "_law_size"] ["_law_script"] (defScope s_law) := ⟨rfl, rfl, rfl, by decide +kernel, rfl, by decide +kernel, by decide +kernel⟩
def spLaw (K : PySem.W.Frag) : Sp := fun vs H Q _ => ∃ (a : Addr) (ns : List Int), vs = [.ref a] ∧ SqL K H a (ns.map V.int) ∧ ns.length ≤ 63 ∧ ∀ H', Q (.bl true) H'
theorem ok_law (B : Bt mg) (C_l_flow : Cal P w K mg base 2 "_law_flow" ["_law_script", "_law_k"] (spFlow K)) (C_l_draw : Cal P w K mg base 1 "_law_draw" ["_law_flow_here", "_law_wide"] (spDraw)) (C_l_kinds : Cal P w K mg base 2 "_law_kinds" ["_law_flow_here", "_law_top"] (spKinds2 K)) (C_l_plan : Cal P w K mg base 14 "_law_plan" ["_law_flow_here", "_law_kinds_here", "_law_kind", "_law_room"] (spPlan K 11)) (C_l_unlike : Cal P w K mg base 2 "_law_unlike" ["_law_flow_here", "_law_answer_here"] (spUnl)) (C_l_examples : Cal P w K mg base 22 "_law_examples" ["_law_flow_here", "_law_head", "_law_plan_here", "_law_most"] (spExa K)) (C_l_right : CalG P w K mg base 24 "_law_right" ["_law_flow_here", "_law_head", "_law_examples_here", "_law_plans"] (spRight41 K)) {f : Addr} {fd : FuncData} (F : Fun K "law" "law" s_law f fd) : FnG P w K mg base 25 f fd ["_law_script"] (spLaw K) := by
  refine fnG_of F sc_law (fun vs H Q E h => ?_) (fun cdv A outer s H vs Q E hgu hr h => ?_)
  · obtain ⟨a, ns, rfl, _⟩ := h
    rfl
  obtain ⟨a, ns, rfl, hS, h63, q⟩ := h
  have hr' : Room 24 _ := hr
  have C_l_flow := C_l_flow.mono (k := 24) (by decide)
  have C_l_draw := C_l_draw.mono (k := 24) (by decide)
  have C_l_kinds := C_l_kinds.mono (k := 24) (by decide)
  have C_l_plan := C_l_plan.mono (k := 24) (by decide)
  have C_l_unlike := C_l_unlike.mono (k := 24) (by decide)
  have C_l_examples := C_l_examples.mono (k := 24) (by decide)
  refine ⟨_, (pss_cons (ps_set (i := 1) sc_law.nd rfl (.inl rfl) (pe_lst pa_nil))
      (pss_cons (ps_for PassesOwn.never rfl (pi_range1 (by rfl) B.range (pa_cons (pe_callB (call_max2 rfl) (by rfl) B.max PyProof.Rows.boot_max (pa_cons pe_int (pa_cons (pe_callB (call_min2 rfl) (by rfl) B.min PyProof.Rows.boot_min (pa_cons pe_int (pa_cons (pe_callB call_len_seq (by rfl) B.len PySem.boot_len (pa_cons (pv 0) pa_nil)) pa_nil))) pa_nil))) pa_nil)) (pg_name (i := 2) sc_law.nd rfl (.inl rfl))
        (pss_cons (ps_set (i := 3) sc_law.nd rfl (.inr rfl) (pe_cal C_l_flow hr' (by rfl) (pa_cons (pv 0) (pa_cons (pv 2) pa_nil))))
      (pss_cons (ps_set (i := 4) sc_law.nd rfl (.inr rfl) (pe_cal C_l_kinds hr' (by rfl) (pa_cons (pv 3) (pa_cons (pe_ix ix_list (pe_lst (pa_cons pe_int (pa_cons pe_int (pa_cons pe_int (pa_cons pe_int pa_nil))))) (pe_cal C_l_draw hr' (by rfl) (pa_cons (pv 3) (pa_cons pe_int pa_nil))) (fun _ _ => rfl)) pa_nil))))
      (pss_cons (ps_set (i := 5) sc_law.nd rfl (.inr rfl) (pe_tup (pa_cons (pv 4) (pa_cons (pe_ix ix_list (pe_lst (pa_cons pe_str (pa_cons pe_str (pa_cons pe_str pa_nil)))) (pe_cal C_l_draw hr' (by rfl) (pa_cons (pv 3) (pa_cons pe_int pa_nil))) (fun _ _ => rfl)) pa_nil))))
      (pss_cons (ps_setLc (i := 6) (own := [("_law_size", 10)]) (g := gName 10) rfl sc_law.nd rfl rfl (sw_true rfl rfl rfl (by decide +kernel)) (pi_tup (pe_tup (pa_cons pe_int (pa_cons pe_int pa_nil)))) (blkOk_by (own := [("_law_size", 10)]) (N := ["_law_script", "_law_asked", "_law_k", "_law_flow_here", "_law_kinds_here", "_law_head", "_law_plans", "_law_examples_here", "_law_inputs", "_law_answer_here", "_law_size"]) (sc := defScope s_law) (by decide +kernel)) (fun _ _ _ _ _ => (pg_name (i := 10) sc_law.nd rfl (.inl rfl))) (fun _ _ _ _ _ => pts_nil) (fun _ _ _ _ _ => (pe_cal C_l_plan hr' (by rfl) (pa_cons (pv 3) (pa_cons (pv 4) (pa_cons (pe_ix (ix_tupK (K := K) rfl) (pv 5) pe_int (fun _ _ => rfl)) (pa_cons (pe_op op_add pe_int (pe_cal C_l_draw hr' (by rfl) (pa_cons (pv 3) (pa_cons (pv 10) pa_nil)))) pa_nil)))))))
      (pss_cons (ps_set (i := 7) sc_law.nd rfl (.inl rfl) (pe_cal C_l_examples hr' (by rfl) (pa_cons (pv 3) (pa_cons (pv 5) (pa_cons (pe_ix ix_list (pv 6) pe_int (fun _ _ => rfl)) (pa_cons (pe_ix ix_list (pe_lst (pa_cons pe_int (pa_cons pe_int pa_nil))) (pe_callTy call_int1 (by rfl) B.int PyProof.Rows.boot_int (pa_cons (pe_cmpR op_eq (pe_callB call_len_seq (by rfl) B.len PySem.boot_len (pa_cons (pv 4) pa_nil)) pe_int (nomark _)) pa_nil)) (fun _ _ => rfl)) pa_nil))))))
      (C8.pss_cut (ps_if (PW.pt (pw_and (pt_cmpR op_eq (pe_cal C_l_draw hr' (by rfl) (pa_cons (pv 3) (pa_cons pe_int pa_nil))) pe_int (nomark _)) (pw_and1 (pt_cmpR (op_neP hr.units) (pv 7) (pe_lst pa_nil) (nomark _)))))
        (pss_cons (ps_asg (pe_ix ix_list (pv 7) (pe_cal C_l_draw hr' (by rfl) (pa_cons (pv 3) (pa_cons (pe_callB call_len_seq (by rfl) B.len PySem.boot_len (pa_cons (pv 7) pa_nil)) pa_nil))) (fun _ _ => rfl)) (pg_tup rfl (pgs_cons (pg_name (i := 8) sc_law.nd rfl (.inl rfl)) (pgs_cons (pg_name (i := 9) sc_law.nd rfl (.inl rfl)) pgs_nil))))
      (pss_one (ps_set (i := 7) sc_law.nd rfl (.inl rfl) (pe_slice sl_list (pe_op op_cat (pv 7) (pe_lst (pa_cons (pe_tup (pa_cons (pv 8) (pa_cons (pe_cal C_l_unlike hr' (by rfl) (pa_cons (pv 3) (pa_cons (pv 9) pa_nil))) pa_nil))) pa_nil))) (po_some (pe_un un_neg pe_int)) po_none))))
        pss_nil)
      (pss_one (ps_expr (pe_bm PySem.F.plainAttrs_list PySem.F.slot_list_append PySem.F.type_list_append mt_append (pv 1) (pa_cons (pe_tup (pa_cons (pv 5) (pa_cons (pv 7) (pa_cons (pv 6) pa_nil)))) pa_nil)))))))))))
      (pss_cons (ps_set (i := 3) sc_law.nd rfl (.inr rfl) (pe_cal C_l_flow hr' (by rfl) (pa_cons (pv 0) (pa_cons pe_int pa_nil))))
      (pss_one (ps_ret (pe_callB (cr_all rfl) (by rfl) B.all PyProof.Rows.boot_all (pa_cons (pe_lc (own := [("_law_head", 5), ("_law_examples_here", 7), ("_law_plans", 6)]) (g := gTup K 3 (gCons (gName 5) (gCons (gName 7) (gCons (gName 6) gNil)))) rfl sc_law.nd (pi_list (pe_op op_cat (pv 1) (pe_slice sl_list (pv 1) po_none (po_some pe_int)))) (blkOk_by (own := [("_law_head", 5), ("_law_examples_here", 7), ("_law_plans", 6)]) (N := ["_law_script", "_law_asked", "_law_k", "_law_flow_here", "_law_kinds_here", "_law_head", "_law_plans", "_law_examples_here", "_law_inputs", "_law_answer_here", "_law_size"]) (sc := defScope s_law) (by decide +kernel)) (fun _ _ _ _ _ => (pg_tupK (K := K) rfl rfl (pgs_cons (pg_name (i := 5) sc_law.nd rfl (.inl rfl)) (pgs_cons (pg_name (i := 7) sc_law.nd rfl (.inl rfl)) (pgs_cons (pg_name (i := 6) sc_law.nd rfl (.inl rfl)) pgs_nil))))) (fun _ _ _ _ _ => pts_nil) (fun _ _ _ _ _ => (pe_calG C_l_right hgu hr' (by rfl) (pa_cons (pv 3) (pa_cons (pv 5) (pa_cons (pv 7) (pa_cons (pv 6) pa_nil))))))) pa_nil))))))), ?_⟩
  refine ⟨(by show 0 ≤ sizeLine; decide), fun L hL => ?_⟩
  have sL := same_new (o := .lst []) hL
  have eL : (upd H L (.lst [])) L = some (.lst []) := upd_same
  generalize upd H L (.lst []) = H0 at sL eL
  refine ⟨_, rfl, a, _, rfl, .inl (sL.seq hS), 3, _, rfl, 1, _, rfl, ?_⟩
  obtain ⟨m, em, m0, m63⟩ : ∃ m : Int, (if (if (((ns.map V.int).length : Nat) : Int) < 3 then (((ns.map V.int).length : Nat) : Int) else 3) > 1 then (if (((ns.map V.int).length : Nat) : Int) < 3 then (((ns.map V.int).length : Nat) : Int) else 3) else 1) = m ∧ 0 ≤ m ∧ m ≤ 63 := by
    refine ⟨_, rfl, ?_, ?_⟩
    · split <;> split <;> omega
    · split <;> split <;> omega
  show ∃ n : Int, [V.int (if (if (((ns.map V.int).length : Nat) : Int) < 3 then (((ns.map V.int).length : Nat) : Int) else 3) > 1 then (if (((ns.map V.int).length : Nat) : Int) < 3 then (((ns.map V.int).length : Nat) : Int) else 3) else 1)] = [V.int n] ∧ _
  rw [em]
  refine ⟨m, rfl, by omega, by omega, for_range (lo := 0) (n := m.toNat) (fun i σ' H' => (∃ y2 y3 y4 y5 y6 y7 y8 y9 y10 : Option V, σ' = [some (.ref a), some (.ref L), y2, y3, y4, y5, y6, y7, y8, y9, y10]) ∧ Ex [L] H H' ∧ ∃ ys : List V, H' L = some (.lst ys) ∧ ys.length = i ∧ ∀ y ∈ ys, Askd K H' L y) ⟨⟨_, _, _, _, _, _, _, _, _, rfl⟩, Ex.of_same sL, [], eL, rfl, fun y h => nomatch h⟩ ?_ ?_⟩
  · rintro i σ' H' hi ⟨⟨y2, y3, y4, y5, y6, y7, y8, y9, y10, rfl⟩, hE, ys, eL', ly, hys⟩
    have hS' := ex_seqW hL hE hS
    refine ⟨_, rfl, _, rfl, a, ns, _, rfl, hS', by omega, by omega, fun f o hf fl => ?_⟩
    have s1 : Same H' (upd H' f o) := same_new hf
    generalize upd H' f o = H2 at s1 fl
    have nLf : L ≠ f := ne_of_none eL' hf
    refine ⟨_, rfl, len4, fun l0 hl0 => alLf hl0 fun H2' s2' e2' => ?_⟩
    have n0f := fl_ne fl hl0
    have g2' := gr_same' fl s2'
    refine ⟨_, rfl, f, 4, rfl, g2'.fl, by decide, by decide, fun d0 H2'' d00 d01 r0 => ?_⟩
    have g2'' := g2'.trans r0.g
    obtain ⟨top, etop, tp0, tp1⟩ : ∃ top : Int, atI [V.int 2, V.int 2, V.int 2, V.int 3] d0 = some (.int top) ∧ 0 ≤ top ∧ top ≤ 3 := by
      rcases (show d0 = 0 ∨ d0 = 1 ∨ d0 = 2 ∨ d0 = 3 by omega) with z | z | z | z <;> subst z
      · exact ⟨2, rfl, by decide, by decide⟩
      · exact ⟨2, rfl, by decide, by decide⟩
      · exact ⟨2, rfl, by decide, by decide⟩
      · exact ⟨3, rfl, by decide, by decide⟩
    refine ⟨l0, _, d0, _, rfl, rfl, SqL.of ((r0.off l0 n0f).trans e2'), etop, ?_⟩
    refine ⟨f, top, rfl, g2''.fl, by omega, by omega, fun ka ks H3 g3' kl hka => ?_⟩
    have g3 := g2''.trans g3'
    have kl3 : ks.length ≤ 3 := by omega
    refine ⟨_, rfl, len3, fun l2 hl2 => alLf hl2 fun H4 s4 e4 => ?_⟩
    have n2f := fl_ne g3.fl hl2
    have g4 := g3.trans (gr_same' g3.fl s4)
    refine ⟨_, rfl, f, 3, rfl, g4.fl, by decide, by decide, fun d H5 d0 d1 r5 => ?_⟩
    have g5 := g4.trans r5.g
    have tp35 : Tp K H3 H5 := (Tp.same s4).trans (r5.tp g4.fl)
    obtain ⟨κ, ev⟩ : ∃ k : Bool, atI [V.str "num", V.str "num", V.str "truth"] d = some (.str (kS k)) := by
      rcases (show d = 0 ∨ d = 1 ∨ d = 2 by omega) with z | z | z <;> subst z
      · exact ⟨false, rfl⟩
      · exact ⟨false, rfl⟩
      · exact ⟨true, rfl⟩
    refine ⟨l2, _, d, _, rfl, rfl, SqL.of ((r5.off l2 n2f).trans e4), ev, ?_⟩
    refine ⟨len2, fun th hth => alT (K := K) hth fun H6 s6 h6 => ?_⟩
    have g6 := g5.trans (gr_same' g5.fl s6)
    have hka6 : SqT K H6 ka (kVs ks) := (tp35.trans (Tp.same s6)) _ _ (.inl (.inl hka))
    have kvl : (kVs ks).length = ks.length := List.length_map _
    refine ⟨len2, fun tt htt => alT (K := K) htt fun H7 s7 h7 => ⟨tt, rfl, ⟨_, h7⟩, fun D hD => lc_it (walk_tup (K := K) (a := tt) (xs := [V.int 6, V.int 3])) (fun j H' => Gr [] f H7 H' ∧ ∃ acc, H' D = some (.lst acc) ∧ acc.length = j ∧ ∀ v ∈ acc, PlanN K H' ks κ v) ?_ ?_ ?_ ?_⟩⟩
    · exact ⟨gr_same' (g6.trans (gr_same' g6.fl s7)).fl (same_new hD), [], upd_same, rfl, fun v hv => nomatch hv⟩
    · rintro j H' _ ⟨gm, _⟩
      exact gm.tp (g6.trans (gr_same' g6.fl s7)).fl _ _ h7
    · rintro j x H8' H8 hj ⟨gm, acc, eD, al, hacc⟩ ⟨rfl, hx⟩
      have g7 := g6.trans (gr_same' g6.fl s7)
      have nD := fl_ne g7.fl hD
      have hj' : j < 2 := hj
      obtain ⟨sz, rfl, z0, z6⟩ : ∃ sz : Int, x = .int sz ∧ 0 < sz ∧ sz ≤ 6 := by
        rcases (show j = 0 ∨ j = 1 by omega) with z | z <;> subst z <;> cases hx
        · exact ⟨6, rfl, by decide, by decide⟩
        · exact ⟨3, rfl, by decide, by decide⟩
      have t78 := gm.tp (K := K) g7.fl
      refine ⟨rfl, _, rfl, _, rfl, _, rfl, th, _, 1, _, rfl, rfl, t78 _ _ (Tp.same s7 _ _ h6), at_of (j := 1) rfl rfl, _, rfl, _, rfl, f, sz, rfl, gm.fl, by omega, by omega, fun d9 H9 d90 d91 r9 => ⟨_, _, rfl, rfl, ?_⟩⟩
      have g89 := gm.trans r9.g
      have t79 := g89.tp (K := K) g7.fl
      refine ⟨f, ka, ks, κ, 1 + d9, rfl, g89.fl, (Tp.same s7).trans t79 _ _ hka6, by omega, by omega, by omega, by omega, fun v p H10 g10 ap wnp owp szp => ?_⟩
      have eD10 : H10 D = some (.lst acc) := g10.lst ((r9.off D nD).trans eD) nD
      have t810 : Tp K H8 H10 := (r9.tp gm.fl).trans (g10.tp g89.fl)
      refine ⟨acc, eD10, smallL (by omega), gr_put (g89.trans g10) hD nD, acc ++ [v], upd_same, by rw [List.length_append, al]; rfl, fun w hw => ?_⟩
      rcases List.mem_append.mp hw with z | z
      · exact (hacc w z).keep (t810.trans (Tp.lst eD10))
      · rw [List.mem_singleton.mp z]
        exact PlanN.keep ⟨p, ap, wnp, owp, by omega⟩ (Tp.lst eD10)
    rintro H8 ⟨g78, pvs, eD, pl, hpl⟩
    have g7 := g6.trans (gr_same' g6.fl s7)
    have nD := fl_ne g7.fl hD
    have g8 := g7.trans g78
    have t68 : Tp K H6 H8 := (Tp.same s7).trans (g78.tp g7.fl)
    obtain ⟨v0, v1, rfl⟩ : ∃ v0 v1, pvs = [v0, v1] := by
      match pvs, pl with
      | [v0, v1], _ => exact ⟨v0, v1, rfl⟩
    obtain ⟨p0, ap0, wn0, op0, zp0⟩ := hpl v0 List.mem_cons_self
    obtain ⟨most, em', m1, m6⟩ : ∃ most : Int, atI [V.int 6, V.int 3] (if decide (V.int (((kVs ks).length : Nat) : Int) = V.int 3) = true then 1 else 0) = some (.int most) ∧ 1 ≤ most ∧ most ≤ 6 := by
      by_cases c : decide (V.int (((kVs ks).length : Nat) : Int) = V.int 3) = true
      · rw [if_pos c]; exact ⟨3, rfl, by decide, by decide⟩
      · rw [if_neg c]; exact ⟨6, rfl, by decide, by decide⟩
    refine ⟨_, rfl, _, rfl, _, rfl, D, _, 0, v0, rfl, rfl, SqL.of eD, rfl, len2, fun l3 hl3 => alLf hl3 fun H9 s9 e9 => ?_⟩
    have t69 : Tp K H6 H9 := t68.trans (Tp.same s9)
    have g9 := g8.trans (gr_same' g8.fl s9)
    refine ⟨_, rfl, ka, _, rfl, .inr (t69 _ _ hka6), rfl, .inr ⟨_, rfl, l3, _, _, _, rfl, rfl, SqL.of e9, em', ?_⟩⟩
    refine ⟨f, th, ka, v0, ks, κ, p0, most, rfl, g9.fl, t69 _ _ h6, t69 _ _ hka6, kl3, ap0.keep (Tp.same s9), wn0, op0, zp0, m1, m6, fun le us zs H10 g10 lnone lnf el hex hb ul => ?_⟩
    have eL9 : H9 L = some (.lst ys) := g9.lst (s1 _ _ eL') nLf
    have nle : le ≠ L := fun z => by rw [z, eL9] at lnone; cases lnone
    have nDL : D ≠ L := fun z => by rw [z, g7.lst (s1 _ _ eL') nLf] at hD; cases hD
    have eD9 := s9 _ _ eD
    have gz := hex.good (by omega)
    refine ⟨fun σ' H' => ∃ (le : Addr) (us : List V) (zs : List (List V × V)) (y8 y9 : Option V), σ' = [some (.ref a), some (.ref L), some (.int (0 + (i : Int))), some (.ref f), some (.ref ka), some (.ref th), some (.ref D), some (.ref le), y8, y9, y10] ∧ Gr [] f H9 H' ∧ le ≠ L ∧ H' le = some (.lst us) ∧ Exs K H' ks κ us zs ∧ us.length ≤ 6, ?_, ?_⟩
    · refine ⟨_, rfl, f, 6, rfl, g10.fl, by decide, by decide, fun dr H11 dr0 dr1 r11 => ⟨rfl, _, rfl, ite2 (fun c => ?_) (fun c => iteF ⟨le, us, zs, _, _, rfl, g10.trans r11.g, nle, (r11.off le lnf).trans el, hex.keep (r11.tp g10.fl), by omega⟩)⟩⟩
      have g11 := g10.trans r11.g
      have el11 := (r11.off le lnf).trans el
      have hex11 := hex.keep (r11.tp (K := K) g10.fl)
      refine ⟨_, rfl, Nat.zero_le _, fun l4 hl4 => alLf hl4 fun H12 s12 e12 => ⟨.list (zs.map exPD), .list [], .lst (SqL.of (s12 _ _ el11)) (hex11.keep (Tp.same s12)).dp, .lst (SqL.of e12) .nil, gz.lst.p, rfl, Nat.le_trans gz.lst.t (by decide), _, rfl, ?_⟩⟩
      have g12 := g11.trans (gr_same' g11.fl s12)
      have el12 := s12 _ _ el11
      have hex12 := hex11.keep (Tp.same (K := K) s12)
      rw [list_none]
      refine ite2 (fun c2 => ?_) (fun c2 => ⟨le, us, zs, _, _, rfl, g12, nle, el12, hex12, by omega⟩)
      have u1 : 1 ≤ us.length := by
        cases us with
        | nil => cases hex; simp at c2
        | cons a b => exact Nat.succ_pos _
      refine ⟨_, rfl, _, rfl, _, rfl, le, _, rfl, .inl (SqL.of el12), f, _, rfl, g12.fl, by omega, by omega, fun d6 H13 d0 d1 r13 => ?_⟩
      have el13 := (r13.off le lnf).trans el12
      have hex13 := hex12.keep (r13.tp (K := K) g12.fl)
      have g13 := g12.trans r13.g
      have hlt : d6.toNat < us.length := by omega
      obtain ⟨z, hz, ez⟩ := hex13.mem (List.getElem_mem hlt)
      have bz := hb z hz
      obtain ⟨e, ti, ee, h1, h2, h3, h4, h5, h6'⟩ := ez
      refine ⟨le, us, d6, _, rfl, rfl, SqL.of el13, at_of (j := d6.toNat) (by omega) (List.getElem?_eq_getElem hlt), e, _, ee, h1, rfl, _, _, rfl, _, _, rfl, rfl, ?_⟩
      refine ⟨_, rfl, _, rfl, _, rfl, _, rfl, f, κ, z.2, rfl, g13.fl, h4, fun v8 H14 g14 k8 ne8 b8 => ⟨len2, fun e2 he2 => alT (K := K) he2 fun H15 s15 h15 => ⟨len1, fun l9 hl9 => alLf hl9 fun H16 s16 e16 => ?_⟩⟩⟩
      have t1416 := Tp.same (K := K) (s15.trans s16)
      have t1316 := (g14.tp (K := K) g13.fl).trans t1416
      have el14 := g14.lst el13 lnf
      have g16 := (g13.trans g14).trans (gr_same' (g13.trans g14).fl (s15.trans s16))
      refine ⟨le, l9, us, _, rfl, rfl, (s15.trans s16) _ _ el14, e16, by show us.length + 1 ≤ _; exact small (by omega), fun l11 hl11 => alLf hl11 fun H17 s17 e17 => ?_⟩
      delta tNoPart
      refine ⟨_, rfl, _, rfl, l11, _, rfl, SqL.of e17, fun p hp => alLf hp fun H18 s18 e18 => ?_⟩
      have s1618 := s17.trans s18
      have t1318 := t1316.trans (Tp.same (K := K) s1618)
      have e2' : SqT K H18 e2 [V.ref ti, v8] := Tp.same (s16.trans s1618) _ _ h15
      obtain ⟨c1, cl⟩ := cut_end (xs := us ++ [V.ref e2]) (m := 6) (by decide)
      obtain ⟨az, haz, _⟩ := exs_ofP (K := K) (H := H18) (ks := ks) (κ := κ) (p := fun _ => True) (vs := cutV (us ++ [V.ref e2]) (some (-6)) none) fun v hv => by
        rcases List.mem_append.mp (c1 v hv) with w | w
        · obtain ⟨y, hy, ey⟩ := (hex13.keep t1318).mem w
          exact ⟨y, ey, trivial⟩
        · rw [List.mem_singleton.mp w]
          exact ⟨(z.1, v8), ⟨e2, ti, rfl, e2', t1318 _ _ h2, h3, k8, h5, (b8 _ bz).q (by decide)⟩, trivial⟩
      have nL16 := (g9.trans (g10.trans (gr_same' g10.fl (Same.refl _))))
      have eLp : H17 L = some (.lst ys) := s17 _ _ ((g9.trans g16).lst (s1 _ _ eL') nLf)
      have npL : p ≠ L := fun z => by rw [z, eLp] at hp; cases hp
      exact ⟨p, _, az, _, _, rfl, g16.trans (gr_same' g16.fl s1618), npL, e18, haz, by omega⟩
    rintro _ H19 ⟨le, us, zs, y8, y9, rfl, g19, nle, el, hex, ul⟩
    have g2_19 := g9.trans g19
    have t619 : Tp K H6 H19 := t69.trans (g19.tp g9.fl)
    have eD19 := g19.lst eD9 nD
    have eL19 : H19 L = some (.lst ys) := g2_19.lst (s1 _ _ eL') nLf
    refine ⟨_, rfl, .inl ⟨rfl, _, SqL.of eL19⟩, _, rfl, _, rfl, _, rfl, len3, fun t ht => alT (K := K) ht fun H20 s20 h20 => ?_⟩
    have g20 := g2_19.trans (gr_same' g2_19.fl s20)
    have eL20 := s20 _ _ eL19
    refine ⟨L, ys, _, rfl, rfl, eL20, smallL (by omega), ?_⟩
    have tL : Tp K H20 (upd H20 L (.lst (ys ++ [V.ref t]))) := Tp.lst eL20
    refine ⟨⟨_, _, _, _, _, _, _, _, _, rfl⟩, fun b o z nb => ?_, ys ++ [V.ref t], upd_same, by rw [List.length_append, ly]; rfl, fun y hy => ?_⟩
    · have nb' : b ≠ L := by simpa using nb
      have z' := hE b o z nb
      rw [upd_ne nb']
      exact g20.lst (s1 _ _ z') (ne_of_none z' hf)
    · rcases List.mem_append.mp hy with z | z
      · exact (hys y z).keep (((Tp.same s1).trans (g20.tp fl)).trans tL) fun b xs e n => by
          rw [upd_ne n]
          exact g20.lst (s1 _ _ e) (ne_of_none e hf)
      · rw [List.mem_singleton.mp z]
        have t620 := t619.trans (Tp.same (K := K) s20)
        have hA : Askd K H20 L (.ref t) := ⟨t, th, ka, le, D, ks, κ, us, zs, _, rfl, h20, t620 _ _ h6, t620 _ _ hka6, kl3, s20 _ _ el, nle, hex.keep (Tp.same s20), ul, s20 _ _ eD19, nDL, fun v hv => by
          obtain ⟨p, ap, wn, op, zp⟩ := (hpl v hv).keep (((Tp.same (K := K) s9).trans (g19.tp g9.fl)).trans (Tp.same s20))
          exact ⟨p, ap, wn.1, op, by omega⟩⟩
        exact hA.keep tL fun b xs e n => by rw [upd_ne n]; exact e
  · rintro σ' H1 ⟨⟨y2, y3, y4, y5, y6, y7, y8, y9, y10, rfl⟩, hE, ys, eL', ly, hys⟩
    have ml : ys.length ≤ 63 := by omega
    refine ⟨_, rfl, a, ns, _, rfl, ex_seqW hL hE hS, by decide, by decide, fun f o hf fl => ?_⟩
    have s0 : Same H1 (upd H1 f o) := same_new hf
    generalize upd H1 f o = H1' at s0 fl
    have nLf : L ≠ f := ne_of_none eL' hf
    have eL1 := s0 _ _ eL'
    refine ⟨_, rfl, _, rfl, _, rfl, L, ys, rfl, SqL.of eL1, fun l1 hl1 => alLf hl1 fun H2 s1 e1 => ?_⟩
    have cl : (cutV ys none (some 1)).length ≤ 63 := by
      unfold cutV
      rw [List.length_take, List.length_drop]
      omega
    have cm : ∀ y ∈ cutV ys none (some 1), y ∈ ys := fun y h => by
      unfold cutV at h
      exact List.mem_of_mem_drop (List.mem_of_mem_take h)
    refine ⟨L, l1, ys, _, rfl, rfl, s1 _ _ eL1, e1, small (by omega), fun l2 hl2 => alLf hl2 fun H3 s2 e2 => ?_⟩
    have s03 := s0.trans (s1.trans s2)
    have g3 := gr_same' fl (s1.trans s2)
    have nl2 := fl_ne (gr_same' fl s1).fl hl2
    have hall : ∀ y ∈ ys ++ cutV ys none (some 1), Askd K H3 f y := fun y h => by
      have z : y ∈ ys := (List.mem_append.mp h).elim id (cm y)
      exact ((hys y z).off hf).keep (Tp.same s03) fun b xs e n => s03 _ _ e
    have zl : (ys ++ cutV ys none (some 1)).length ≤ 126 := by rw [List.length_append]; omega
    generalize ys ++ cutV ys none (some 1) = zs at e2 hall zl
    refine ⟨l2, rfl, ⟨_, SqL.of e2⟩, fun D hD => lc_it (walk_list (K := K) (a := l2) (xs := zs)) (fun i H' => Gr [] f H3 H' ∧ ∃ bs : List Bool, H' D = some (.lst (bs.map V.bl)) ∧ bs.length = i ∧ ∀ b ∈ bs, b = true) ?_ ?_ ?_ ?_⟩
    · exact ⟨gr_same' g3.fl (same_new hD), [], upd_same, rfl, fun b hb => nomatch hb⟩
    · rintro j H' _ ⟨gm, _⟩
      exact SqL.of (gm.lst e2 nl2)
    · rintro j y H4' H4 hj ⟨gm, bs, hB, bl, hb⟩ ⟨rfl, hy⟩
      have hj : j < zs.length := hj
      have nD := fl_ne g3.fl hD
      obtain ⟨t, h, ka, ea, pa, ks, κ, evs, zs', pvs, rfl, h1, h2, h3, h4, h5, h6, h7, h8, h9, h10, h11⟩ := (hall y (List.mem_of_getElem? hy)).keep (gm.tp g3.fl) fun b xs e n => gm.lst e n
      refine ⟨t, _, rfl, h1, rfl, _, _, rfl, _, _, rfl, _, _, rfl, rfl, rfl, _, rfl, _, rfl, _, rfl, _, rfl, f, h, ka, ea, pa, ks, κ, evs, zs', pvs, rfl, gm.fl, h2, h3, h4, h5, h6, h7, h8, h9, h10, h11, fun H6 g6 => ?_⟩
      refine ⟨_, g6.lst hB nD, by rw [List.length_map, bl]; exact smallL (by omega), gr_put (gm.trans g6) hD nD, bs ++ [true], by rw [upd_same, List.map_append]; rfl, by rw [List.length_append, bl]; rfl, fun b hb' => ?_⟩
      rcases List.mem_append.mp hb' with z | z
      · exact hb b z
      · exact List.mem_singleton.mp z
    rintro H4 ⟨s4, bs, hB, bl, hb⟩
    have ea : bs.all id = true := List.all_eq_true.mpr fun b h => hb b h
    refine ⟨D, bs, rfl, SqL.of hB, ?_⟩
    rw [ea]
    exact q _
end
end Lm

set_option Elab.async false
set_option linter.all false
set_option maxRecDepth 100000
set_option maxHeartbeats 2000000
namespace Lm
open PySem PySem.Spec PyProof.Rows L2 LmR
theorem defAt_mk {K : PySem.W.Frag} {h : Heap} {mg : Str → Option Value} {x : Str} {st : Stmt} {ps : List Str} {f : Addr} {oc : Value} {od an : Option Addr} {osl : Array (Option Value)} {kV doc pm cdv ct : Value} (X : K.In h) (G : h.Ns mainGlobals mg)
    (a : PySem.W.nsIn K mainGlobals x = some (some (.ref f))) (l : K.lookup f = some ⟨oc, od, .func (PySem.W.fnOf x x (defArgs st) (defBody st) (defScope st) .none kV doc pm an cdv ct), osl⟩) (c : PySem.W.codeIn K cdv x = true) (k : PySem.W.keepIn K (.ref f) = true)
    (hb : ∀ (kV doc pm : Value) (an : Option Addr) (cdv ct : Value) (us : List Value), us.length = ps.length → bindArgs (PySem.W.fnOf x x (defArgs st) (defBody st) (defScope st) .none kV doc pm an cdv ct) ⟨us, []⟩ = pure (ps.zip us)) : DefAt K mg x st ps :=
  ⟨f, _, fun_mk l c k, (fun_mk l c k).binds hb, PySem.W.mg_of X G a⟩
theorem all_mk {l : PySem.W.OpenLaw} {w : World} {K : PySem.W.Frag} {h : Heap} {mg : Str → Option Value} {fa : Addr} (X : K.In h) (G : h.Ns mainGlobals mg) (hfa : mg "law" = some (.ref fa))
    {f0 : Addr} {od0 an0 : Option Addr} {sl0 : Array (Option Value)} {oc0 kV0 dc0 pm0 cd0 ct0 : Value} {f1 : Addr} {od1 an1 : Option Addr} {sl1 : Array (Option Value)} {oc1 kV1 dc1 pm1 cd1 ct1 : Value} {f2 : Addr} {od2 an2 : Option Addr} {sl2 : Array (Option Value)} {oc2 kV2 dc2 pm2 cd2 ct2 : Value} {f3 : Addr} {od3 an3 : Option Addr} {sl3 : Array (Option Value)} {oc3 kV3 dc3 pm3 cd3 ct3 : Value} {f4 : Addr} {od4 an4 : Option Addr} {sl4 : Array (Option Value)} {oc4 kV4 dc4 pm4 cd4 ct4 : Value} {f5 : Addr} {od5 an5 : Option Addr} {sl5 : Array (Option Value)} {oc5 kV5 dc5 pm5 cd5 ct5 : Value} {f6 : Addr} {od6 an6 : Option Addr} {sl6 : Array (Option Value)} {oc6 kV6 dc6 pm6 cd6 ct6 : Value} {f7 : Addr} {od7 an7 : Option Addr} {sl7 : Array (Option Value)} {oc7 kV7 dc7 pm7 cd7 ct7 : Value} {f8 : Addr} {od8 an8 : Option Addr} {sl8 : Array (Option Value)} {oc8 kV8 dc8 pm8 cd8 ct8 : Value} {f9 : Addr} {od9 an9 : Option Addr} {sl9 : Array (Option Value)} {oc9 kV9 dc9 pm9 cd9 ct9 : Value} {f10 : Addr} {od10 an10 : Option Addr} {sl10 : Array (Option Value)} {oc10 kV10 dc10 pm10 cd10 ct10 : Value} {f11 : Addr} {od11 an11 : Option Addr} {sl11 : Array (Option Value)} {oc11 kV11 dc11 pm11 cd11 ct11 : Value} {f12 : Addr} {od12 an12 : Option Addr} {sl12 : Array (Option Value)} {oc12 kV12 dc12 pm12 cd12 ct12 : Value} {f13 : Addr} {od13 an13 : Option Addr} {sl13 : Array (Option Value)} {oc13 kV13 dc13 pm13 cd13 ct13 : Value} {f14 : Addr} {od14 an14 : Option Addr} {sl14 : Array (Option Value)} {oc14 kV14 dc14 pm14 cd14 ct14 : Value} {f15 : Addr} {od15 an15 : Option Addr} {sl15 : Array (Option Value)} {oc15 kV15 dc15 pm15 cd15 ct15 : Value} {f16 : Addr} {od16 an16 : Option Addr} {sl16 : Array (Option Value)} {oc16 kV16 dc16 pm16 cd16 ct16 : Value} {f17 : Addr} {od17 an17 : Option Addr} {sl17 : Array (Option Value)} {oc17 kV17 dc17 pm17 cd17 ct17 : Value} {f18 : Addr} {od18 an18 : Option Addr} {sl18 : Array (Option Value)} {oc18 kV18 dc18 pm18 cd18 ct18 : Value} {f19 : Addr} {od19 an19 : Option Addr} {sl19 : Array (Option Value)} {oc19 kV19 dc19 pm19 cd19 ct19 : Value} {f20 : Addr} {od20 an20 : Option Addr} {sl20 : Array (Option Value)} {oc20 kV20 dc20 pm20 cd20 ct20 : Value} {f21 : Addr} {od21 an21 : Option Addr} {sl21 : Array (Option Value)} {oc21 kV21 dc21 pm21 cd21 ct21 : Value} {f22 : Addr} {od22 an22 : Option Addr} {sl22 : Array (Option Value)} {oc22 kV22 dc22 pm22 cd22 ct22 : Value} {f23 : Addr} {od23 an23 : Option Addr} {sl23 : Array (Option Value)} {oc23 kV23 dc23 pm23 cd23 ct23 : Value} {f24 : Addr} {od24 an24 : Option Addr} {sl24 : Array (Option Value)} {oc24 kV24 dc24 pm24 cd24 ct24 : Value} {f25 : Addr} {od25 an25 : Option Addr} {sl25 : Array (Option Value)} {oc25 kV25 dc25 pm25 cd25 ct25 : Value} {f26 : Addr} {od26 an26 : Option Addr} {sl26 : Array (Option Value)} {oc26 kV26 dc26 pm26 cd26 ct26 : Value} {f27 : Addr} {od27 an27 : Option Addr} {sl27 : Array (Option Value)} {oc27 kV27 dc27 pm27 cd27 ct27 : Value} {f28 : Addr} {od28 an28 : Option Addr} {sl28 : Array (Option Value)} {oc28 kV28 dc28 pm28 cd28 ct28 : Value} {f29 : Addr} {od29 an29 : Option Addr} {sl29 : Array (Option Value)} {oc29 kV29 dc29 pm29 cd29 ct29 : Value} {f30 : Addr} {od30 an30 : Option Addr} {sl30 : Array (Option Value)} {oc30 kV30 dc30 pm30 cd30 ct30 : Value} {f31 : Addr} {od31 an31 : Option Addr} {sl31 : Array (Option Value)} {oc31 kV31 dc31 pm31 cd31 ct31 : Value} {f32 : Addr} {od32 an32 : Option Addr} {sl32 : Array (Option Value)} {oc32 kV32 dc32 pm32 cd32 ct32 : Value} {f33 : Addr} {od33 an33 : Option Addr} {sl33 : Array (Option Value)} {oc33 kV33 dc33 pm33 cd33 ct33 : Value} {f34 : Addr} {od34 an34 : Option Addr} {sl34 : Array (Option Value)} {oc34 kV34 dc34 pm34 cd34 ct34 : Value} {f35 : Addr} {od35 an35 : Option Addr} {sl35 : Array (Option Value)} {oc35 kV35 dc35 pm35 cd35 ct35 : Value} {f36 : Addr} {od36 an36 : Option Addr} {sl36 : Array (Option Value)} {oc36 kV36 dc36 pm36 cd36 ct36 : Value} {f37 : Addr} {od37 an37 : Option Addr} {sl37 : Array (Option Value)} {oc37 kV37 dc37 pm37 cd37 ct37 : Value} {f38 : Addr} {od38 an38 : Option Addr} {sl38 : Array (Option Value)} {oc38 kV38 dc38 pm38 cd38 ct38 : Value} {f39 : Addr} {od39 an39 : Option Addr} {sl39 : Array (Option Value)} {oc39 kV39 dc39 pm39 cd39 ct39 : Value} {f40 : Addr} {od40 an40 : Option Addr} {sl40 : Array (Option Value)} {oc40 kV40 dc40 pm40 cd40 ct40 : Value} {f41 : Addr} {od41 an41 : Option Addr} {sl41 : Array (Option Value)} {oc41 kV41 dc41 pm41 cd41 ct41 : Value} {f42 : Addr} {od42 an42 : Option Addr} {sl42 : Array (Option Value)} {oc42 kV42 dc42 pm42 cd42 ct42 : Value} {f43 : Addr} {od43 an43 : Option Addr} {sl43 : Array (Option Value)} {oc43 kV43 dc43 pm43 cd43 ct43 : Value} {f44 : Addr} {od44 an44 : Option Addr} {sl44 : Array (Option Value)} {oc44 kV44 dc44 pm44 cd44 ct44 : Value} {f45 : Addr} {od45 an45 : Option Addr} {sl45 : Array (Option Value)} {oc45 kV45 dc45 pm45 cd45 ct45 : Value} {f46 : Addr} {od46 an46 : Option Addr} {sl46 : Array (Option Value)} {oc46 kV46 dc46 pm46 cd46 ct46 : Value} {f47 : Addr} {od47 an47 : Option Addr} {sl47 : Array (Option Value)} {oc47 kV47 dc47 pm47 cd47 ct47 : Value} {f48 : Addr} {od48 an48 : Option Addr} {sl48 : Array (Option Value)} {oc48 kV48 dc48 pm48 cd48 ct48 : Value} {f49 : Addr} {od49 an49 : Option Addr} {sl49 : Array (Option Value)} {oc49 kV49 dc49 pm49 cd49 ct49 : Value} {f50 : Addr} {od50 an50 : Option Addr} {sl50 : Array (Option Value)} {oc50 kV50 dc50 pm50 cd50 ct50 : Value} {f51 : Addr} {od51 an51 : Option Addr} {sl51 : Array (Option Value)} {oc51 kV51 dc51 pm51 cd51 ct51 : Value} {f52 : Addr} {od52 an52 : Option Addr} {sl52 : Array (Option Value)} {oc52 kV52 dc52 pm52 cd52 ct52 : Value} {f53 : Addr} {od53 an53 : Option Addr} {sl53 : Array (Option Value)} {oc53 kV53 dc53 pm53 cd53 ct53 : Value} {f54 : Addr} {od54 an54 : Option Addr} {sl54 : Array (Option Value)} {oc54 kV54 dc54 pm54 cd54 ct54 : Value} {f55 : Addr} {od55 an55 : Option Addr} {sl55 : Array (Option Value)} {oc55 kV55 dc55 pm55 cd55 ct55 : Value} {f56 : Addr} {od56 an56 : Option Addr} {sl56 : Array (Option Value)} {oc56 kV56 dc56 pm56 cd56 ct56 : Value} {f57 : Addr} {od57 an57 : Option Addr} {sl57 : Array (Option Value)} {oc57 kV57 dc57 pm57 cd57 ct57 : Value} {f58 : Addr} {od58 an58 : Option Addr} {sl58 : Array (Option Value)} {oc58 kV58 dc58 pm58 cd58 ct58 : Value} {f59 : Addr} {od59 an59 : Option Addr} {sl59 : Array (Option Value)} {oc59 kV59 dc59 pm59 cd59 ct59 : Value} {f60 : Addr} {od60 an60 : Option Addr} {sl60 : Array (Option Value)} {oc60 kV60 dc60 pm60 cd60 ct60 : Value} {f61 : Addr} {od61 an61 : Option Addr} {sl61 : Array (Option Value)} {oc61 kV61 dc61 pm61 cd61 ct61 : Value} {f62 : Addr} {od62 an62 : Option Addr} {sl62 : Array (Option Value)} {oc62 kV62 dc62 pm62 cd62 ct62 : Value} {f63 : Addr} {od63 an63 : Option Addr} {sl63 : Array (Option Value)} {oc63 kV63 dc63 pm63 cd63 ct63 : Value} {dF : Addr} {esF : Array DictEntry} {nF : Nat} {t0 u0 : Addr} {dt0 du0 : Option Addr} {st0 su0 : Array (Option Value)} {nt0 nu0 : Nat} {q0_0 : Tok} {t1 u1 : Addr} {dt1 du1 : Option Addr} {st1 su1 : Array (Option Value)} {nt1 nu1 : Nat} {q0_1 q1_1 : Tok} {t2 u2 : Addr} {dt2 du2 : Option Addr} {st2 su2 : Array (Option Value)} {nt2 nu2 : Nat} {q0_2 q1_2 : Tok} {t3 u3 : Addr} {dt3 du3 : Option Addr} {st3 su3 : Array (Option Value)} {nt3 nu3 : Nat} {q0_3 q1_3 : Tok} {t4 u4 : Addr} {dt4 du4 : Option Addr} {st4 su4 : Array (Option Value)} {nt4 nu4 : Nat} {q0_4 q1_4 q2_4 : Tok} {t5 u5 : Addr} {dt5 du5 : Option Addr} {st5 su5 : Array (Option Value)} {nt5 nu5 : Nat} {q0_5 q1_5 q2_5 q3_5 : Tok} {t6 u6 : Addr} {dt6 du6 : Option Addr} {st6 su6 : Array (Option Value)} {nt6 nu6 : Nat} {q0_6 q1_6 q2_6 q3_6 : Tok} {t7 u7 : Addr} {dt7 du7 : Option Addr} {st7 su7 : Array (Option Value)} {nt7 nu7 : Nat} {q0_7 q1_7 q2_7 q3_7 : Tok} {t8 u8 : Addr} {dt8 du8 : Option Addr} {st8 su8 : Array (Option Value)} {nt8 nu8 : Nat} {q0_8 q1_8 q2_8 : Tok} {t9 u9 : Addr} {dt9 du9 : Option Addr} {st9 su9 : Array (Option Value)} {nt9 nu9 : Nat} {q0_9 q1_9 q2_9 q3_9 : Tok} {t10 u10 : Addr} {dt10 du10 : Option Addr} {st10 su10 : Array (Option Value)} {nt10 nu10 : Nat} {q0_10 q1_10 q2_10 q3_10 : Tok} {t11 u11 : Addr} {dt11 du11 : Option Addr} {st11 su11 : Array (Option Value)} {nt11 nu11 : Nat} {q0_11 q2_11 : Tok} {dSt : Addr} {esSt : Array DictEntry} {nSt : Nat} {aFK0 : Addr} {aFKd0 : Option Addr} {aFKn0 : Nat} {aFKs0 : Array (Option Value)} {aFKt0_0 aFKt0_1 aFKt0_2 : Tok} {aYS0 : Addr} {aYSd0 : Option Addr} {aYSn0 : Nat} {aYSs0 : Array (Option Value)} {aYSt0_0 : Tok} {aNO0 : Addr} {aNOd0 : Option Addr} {aNOn0 : Nat} {aNOs0 : Array (Option Value)} {aNOt0_0 : Tok}
    (a0 : PySem.W.nsIn K mainGlobals "kind_of" = some (some (.ref f0))) (l0 : K.lookup f0 = some ⟨oc0, od0, .func (PySem.W.fnOf "kind_of" "kind_of" (defArgs s_kind_of) (defBody s_kind_of) (defScope s_kind_of) .none kV0 dc0 pm0 an0 cd0 ct0), sl0⟩) (c0 : PySem.W.codeIn K cd0 "kind_of" = true) (k0 : PySem.W.keepIn K (.ref f0) = true)
    (a1 : PySem.W.nsIn K mainGlobals "knots" = some (some (.ref f1))) (l1 : K.lookup f1 = some ⟨oc1, od1, .func (PySem.W.fnOf "knots" "knots" (defArgs s_knots) (defBody s_knots) (defScope s_knots) .none kV1 dc1 pm1 an1 cd1 ct1), sl1⟩) (c1 : PySem.W.codeIn K cd1 "knots" = true) (k1 : PySem.W.keepIn K (.ref f1) = true)
    (a2 : PySem.W.nsIn K mainGlobals "put" = some (some (.ref f2))) (l2 : K.lookup f2 = some ⟨oc2, od2, .func (PySem.W.fnOf "put" "put" (defArgs s_put) (defBody s_put) (defScope s_put) .none kV2 dc2 pm2 an2 cd2 ct2), sl2⟩) (c2 : PySem.W.codeIn K cd2 "put" = true) (k2 : PySem.W.keepIn K (.ref f2) = true)
    (a3 : PySem.W.nsIn K mainGlobals "is_whole" = some (some (.ref f3))) (l3 : K.lookup f3 = some ⟨oc3, od3, .func (PySem.W.fnOf "is_whole" "is_whole" (defArgs s_is_whole) (defBody s_is_whole) (defScope s_is_whole) .none kV3 dc3 pm3 an3 cd3 ct3), sl3⟩) (c3 : PySem.W.codeIn K cd3 "is_whole" = true) (k3 : PySem.W.keepIn K (.ref f3) = true)
    (a4 : PySem.W.nsIn K mainGlobals "has_form" = some (some (.ref f4))) (l4 : K.lookup f4 = some ⟨oc4, od4, .func (PySem.W.fnOf "has_form" "has_form" (defArgs s_has_form) (defBody s_has_form) (defScope s_has_form) .none kV4 dc4 pm4 an4 cd4 ct4), sl4⟩) (c4 : PySem.W.codeIn K cd4 "has_form" = true) (k4 : PySem.W.keepIn K (.ref f4) = true)
    (a5 : PySem.W.nsIn K mainGlobals "many_numbers" = some (some (.ref f5))) (l5 : K.lookup f5 = some ⟨oc5, od5, .func (PySem.W.fnOf "many_numbers" "many_numbers" (defArgs s_many_numbers) (defBody s_many_numbers) (defScope s_many_numbers) .none kV5 dc5 pm5 an5 cd5 ct5), sl5⟩) (c5 : PySem.W.codeIn K cd5 "many_numbers" = true) (k5 : PySem.W.keepIn K (.ref f5) = true)
    (a6 : PySem.W.nsIn K mainGlobals "many_parts" = some (some (.ref f6))) (l6 : K.lookup f6 = some ⟨oc6, od6, .func (PySem.W.fnOf "many_parts" "many_parts" (defArgs s_many_parts) (defBody s_many_parts) (defScope s_many_parts) .none kV6 dc6 pm6 an6 cd6 ct6), sl6⟩) (c6 : PySem.W.codeIn K cd6 "many_parts" = true) (k6 : PySem.W.keepIn K (.ref f6) = true)
    (a7 : PySem.W.nsIn K mainGlobals "front_of" = some (some (.ref f7))) (l7 : K.lookup f7 = some ⟨oc7, od7, .func (PySem.W.fnOf "front_of" "front_of" (defArgs s_front_of) (defBody s_front_of) (defScope s_front_of) .none kV7 dc7 pm7 an7 cd7 ct7), sl7⟩) (c7 : PySem.W.codeIn K cd7 "front_of" = true) (k7 : PySem.W.keepIn K (.ref f7) = true)
    (a8 : PySem.W.nsIn K mainGlobals "parts_of" = some (some (.ref f8))) (l8 : K.lookup f8 = some ⟨oc8, od8, .func (PySem.W.fnOf "parts_of" "parts_of" (defArgs s_parts_of) (defBody s_parts_of) (defScope s_parts_of) .none kV8 dc8 pm8 an8 cd8 ct8), sl8⟩) (c8 : PySem.W.codeIn K cd8 "parts_of" = true) (k8 : PySem.W.keepIn K (.ref f8) = true)
    (a9 : PySem.W.nsIn K mainGlobals "taken" = some (some (.ref f9))) (l9 : K.lookup f9 = some ⟨oc9, od9, .func (PySem.W.fnOf "taken" "taken" (defArgs s_taken) (defBody s_taken) (defScope s_taken) .none kV9 dc9 pm9 an9 cd9 ct9), sl9⟩) (c9 : PySem.W.codeIn K cd9 "taken" = true) (k9 : PySem.W.keepIn K (.ref f9) = true)
    (a10 : PySem.W.nsIn K mainGlobals "refuse_forms" = some (some (.ref f10))) (l10 : K.lookup f10 = some ⟨oc10, od10, .func (PySem.W.fnOf "refuse_forms" "refuse_forms" (defArgs s_refuse_forms) (defBody s_refuse_forms) (defScope s_refuse_forms) .none kV10 dc10 pm10 an10 cd10 ct10), sl10⟩) (c10 : PySem.W.codeIn K cd10 "refuse_forms" = true) (k10 : PySem.W.keepIn K (.ref f10) = true)
    (a11 : PySem.W.nsIn K mainGlobals "refuse_inputs" = some (some (.ref f11))) (l11 : K.lookup f11 = some ⟨oc11, od11, .func (PySem.W.fnOf "refuse_inputs" "refuse_inputs" (defArgs s_refuse_inputs) (defBody s_refuse_inputs) (defScope s_refuse_inputs) .none kV11 dc11 pm11 an11 cd11 ct11), sl11⟩) (c11 : PySem.W.codeIn K cd11 "refuse_inputs" = true) (k11 : PySem.W.keepIn K (.ref f11) = true)
    (a12 : PySem.W.nsIn K mainGlobals "parts_fit" = some (some (.ref f12))) (l12 : K.lookup f12 = some ⟨oc12, od12, .func (PySem.W.fnOf "parts_fit" "parts_fit" (defArgs s_parts_fit) (defBody s_parts_fit) (defScope s_parts_fit) .none kV12 dc12 pm12 an12 cd12 ct12), sl12⟩) (c12 : PySem.W.codeIn K cd12 "parts_fit" = true) (k12 : PySem.W.keepIn K (.ref f12) = true)
    (a13 : PySem.W.nsIn K mainGlobals "own_kind" = some (some (.ref f13))) (l13 : K.lookup f13 = some ⟨oc13, od13, .func (PySem.W.fnOf "own_kind" "own_kind" (defArgs s_own_kind) (defBody s_own_kind) (defScope s_own_kind) .none kV13 dc13 pm13 an13 cd13 ct13), sl13⟩) (c13 : PySem.W.codeIn K cd13 "own_kind" = true) (k13 : PySem.W.keepIn K (.ref f13) = true)
    (a14 : PySem.W.nsIn K mainGlobals "open_bounds" = some (some (.ref f14))) (l14 : K.lookup f14 = some ⟨oc14, od14, .func (PySem.W.fnOf "open_bounds" "open_bounds" (defArgs s_open_bounds) (defBody s_open_bounds) (defScope s_open_bounds) .none kV14 dc14 pm14 an14 cd14 ct14), sl14⟩) (c14 : PySem.W.codeIn K cd14 "open_bounds" = true) (k14 : PySem.W.keepIn K (.ref f14) = true)
    (a15 : PySem.W.nsIn K mainGlobals "tightened" = some (some (.ref f15))) (l15 : K.lookup f15 = some ⟨oc15, od15, .func (PySem.W.fnOf "tightened" "tightened" (defArgs s_tightened) (defBody s_tightened) (defScope s_tightened) .none kV15 dc15 pm15 an15 cd15 ct15), sl15⟩) (c15 : PySem.W.codeIn K cd15 "tightened" = true) (k15 : PySem.W.keepIn K (.ref f15) = true)
    (a16 : PySem.W.nsIn K mainGlobals "known" = some (some (.ref f16))) (l16 : K.lookup f16 = some ⟨oc16, od16, .func (PySem.W.fnOf "known" "known" (defArgs s_known) (defBody s_known) (defScope s_known) .none kV16 dc16 pm16 an16 cd16 ct16), sl16⟩) (c16 : PySem.W.codeIn K cd16 "known" = true) (k16 : PySem.W.keepIn K (.ref f16) = true)
    (a17 : PySem.W.nsIn K mainGlobals "row_through" = some (some (.ref f17))) (l17 : K.lookup f17 = some ⟨oc17, od17, .func (PySem.W.fnOf "row_through" "row_through" (defArgs s_row_through) (defBody s_row_through) (defScope s_row_through) .none kV17 dc17 pm17 an17 cd17 ct17), sl17⟩) (c17 : PySem.W.codeIn K cd17 "row_through" = true) (k17 : PySem.W.keepIn K (.ref f17) = true)
    (a18 : PySem.W.nsIn K mainGlobals "lesser" = some (some (.ref f18))) (l18 : K.lookup f18 = some ⟨oc18, od18, .func (PySem.W.fnOf "lesser" "lesser" (defArgs s_lesser) (defBody s_lesser) (defScope s_lesser) .none kV18 dc18 pm18 an18 cd18 ct18), sl18⟩) (c18 : PySem.W.codeIn K cd18 "lesser" = true) (k18 : PySem.W.keepIn K (.ref f18) = true)
    (a19 : PySem.W.nsIn K mainGlobals "point_in" = some (some (.ref f19))) (l19 : K.lookup f19 = some ⟨oc19, od19, .func (PySem.W.fnOf "point_in" "point_in" (defArgs s_point_in) (defBody s_point_in) (defScope s_point_in) .none kV19 dc19 pm19 an19 cd19 ct19), sl19⟩) (c19 : PySem.W.codeIn K cd19 "point_in" = true) (k19 : PySem.W.keepIn K (.ref f19) = true)
    (a20 : PySem.W.nsIn K mainGlobals "open_region" = some (some (.ref f20))) (l20 : K.lookup f20 = some ⟨oc20, od20, .func (PySem.W.fnOf "open_region" "open_region" (defArgs s_open_region) (defBody s_open_region) (defScope s_open_region) .none kV20 dc20 pm20 an20 cd20 ct20), sl20⟩) (c20 : PySem.W.codeIn K cd20 "open_region" = true) (k20 : PySem.W.keepIn K (.ref f20) = true)
    (a21 : PySem.W.nsIn K mainGlobals "answer_in" = some (some (.ref f21))) (l21 : K.lookup f21 = some ⟨oc21, od21, .func (PySem.W.fnOf "answer_in" "answer_in" (defArgs s_answer_in) (defBody s_answer_in) (defScope s_answer_in) .none kV21 dc21 pm21 an21 cd21 ct21), sl21⟩) (c21 : PySem.W.codeIn K cd21 "answer_in" = true) (k21 : PySem.W.keepIn K (.ref f21) = true)
    (a22 : PySem.W.nsIn K mainGlobals "narrowed" = some (some (.ref f22))) (l22 : K.lookup f22 = some ⟨oc22, od22, .func (PySem.W.fnOf "narrowed" "narrowed" (defArgs s_narrowed) (defBody s_narrowed) (defScope s_narrowed) .none kV22 dc22 pm22 an22 cd22 ct22), sl22⟩) (c22 : PySem.W.codeIn K cd22 "narrowed" = true) (k22 : PySem.W.keepIn K (.ref f22) = true)
    (a23 : PySem.W.nsIn K mainGlobals "inputs_in" = some (some (.ref f23))) (l23 : K.lookup f23 = some ⟨oc23, od23, .func (PySem.W.fnOf "inputs_in" "inputs_in" (defArgs s_inputs_in) (defBody s_inputs_in) (defScope s_inputs_in) .none kV23 dc23 pm23 an23 cd23 ct23), sl23⟩) (c23 : PySem.W.codeIn K cd23 "inputs_in" = true) (k23 : PySem.W.keepIn K (.ref f23) = true)
    (a24 : PySem.W.nsIn K mainGlobals "step_in" = some (some (.ref f24))) (l24 : K.lookup f24 = some ⟨oc24, od24, .func (PySem.W.fnOf "step_in" "step_in" (defArgs s_step_in) (defBody s_step_in) (defScope s_step_in) .none kV24 dc24 pm24 an24 cd24 ct24), sl24⟩) (c24 : PySem.W.codeIn K cd24 "step_in" = true) (k24 : PySem.W.keepIn K (.ref f24) = true)
    (a25 : PySem.W.nsIn K mainGlobals "step_num" = some (some (.ref f25))) (l25 : K.lookup f25 = some ⟨oc25, od25, .func (PySem.W.fnOf "step_num" "step_num" (defArgs s_step_num) (defBody s_step_num) (defScope s_step_num) .none kV25 dc25 pm25 an25 cd25 ct25), sl25⟩) (c25 : PySem.W.codeIn K cd25 "step_num" = true) (k25 : PySem.W.keepIn K (.ref f25) = true)
    (a26 : PySem.W.nsIn K mainGlobals "step_yes" = some (some (.ref f26))) (l26 : K.lookup f26 = some ⟨oc26, od26, .func (PySem.W.fnOf "step_yes" "step_yes" (defArgs s_step_yes) (defBody s_step_yes) (defScope s_step_yes) .none kV26 dc26 pm26 an26 cd26 ct26), sl26⟩) (c26 : PySem.W.codeIn K cd26 "step_yes" = true) (k26 : PySem.W.keepIn K (.ref f26) = true)
    (a27 : PySem.W.nsIn K mainGlobals "step_no" = some (some (.ref f27))) (l27 : K.lookup f27 = some ⟨oc27, od27, .func (PySem.W.fnOf "step_no" "step_no" (defArgs s_step_no) (defBody s_step_no) (defScope s_step_no) .none kV27 dc27 pm27 an27 cd27 ct27), sl27⟩) (c27 : PySem.W.codeIn K cd27 "step_no" = true) (k27 : PySem.W.keepIn K (.ref f27) = true)
    (a28 : PySem.W.nsIn K mainGlobals "step_plus" = some (some (.ref f28))) (l28 : K.lookup f28 = some ⟨oc28, od28, .func (PySem.W.fnOf "step_plus" "step_plus" (defArgs s_step_plus) (defBody s_step_plus) (defScope s_step_plus) .none kV28 dc28 pm28 an28 cd28 ct28), sl28⟩) (c28 : PySem.W.codeIn K cd28 "step_plus" = true) (k28 : PySem.W.keepIn K (.ref f28) = true)
    (a29 : PySem.W.nsIn K mainGlobals "step_add" = some (some (.ref f29))) (l29 : K.lookup f29 = some ⟨oc29, od29, .func (PySem.W.fnOf "step_add" "step_add" (defArgs s_step_add) (defBody s_step_add) (defScope s_step_add) .none kV29 dc29 pm29 an29 cd29 ct29), sl29⟩) (c29 : PySem.W.codeIn K cd29 "step_add" = true) (k29 : PySem.W.keepIn K (.ref f29) = true)
    (a30 : PySem.W.nsIn K mainGlobals "step_two" = some (some (.ref f30))) (l30 : K.lookup f30 = some ⟨oc30, od30, .func (PySem.W.fnOf "step_two" "step_two" (defArgs s_step_two) (defBody s_step_two) (defScope s_step_two) .none kV30 dc30 pm30 an30 cd30 ct30), sl30⟩) (c30 : PySem.W.codeIn K cd30 "step_two" = true) (k30 : PySem.W.keepIn K (.ref f30) = true)
    (a31 : PySem.W.nsIn K mainGlobals "step_meet" = some (some (.ref f31))) (l31 : K.lookup f31 = some ⟨oc31, od31, .func (PySem.W.fnOf "step_meet" "step_meet" (defArgs s_step_meet) (defBody s_step_meet) (defScope s_step_meet) .none kV31 dc31 pm31 an31 cd31 ct31), sl31⟩) (c31 : PySem.W.codeIn K cd31 "step_meet" = true) (k31 : PySem.W.keepIn K (.ref f31) = true)
    (a32 : PySem.W.nsIn K mainGlobals "met" = some (some (.ref f32))) (l32 : K.lookup f32 = some ⟨oc32, od32, .func (PySem.W.fnOf "met" "met" (defArgs s_met) (defBody s_met) (defScope s_met) .none kV32 dc32 pm32 an32 cd32 ct32), sl32⟩) (c32 : PySem.W.codeIn K cd32 "met" = true) (k32 : PySem.W.keepIn K (.ref f32) = true)
    (a33 : PySem.W.nsIn K mainGlobals "step_not" = some (some (.ref f33))) (l33 : K.lookup f33 = some ⟨oc33, od33, .func (PySem.W.fnOf "step_not" "step_not" (defArgs s_step_not) (defBody s_step_not) (defScope s_step_not) .none kV33 dc33 pm33 an33 cd33 ct33), sl33⟩) (c33 : PySem.W.codeIn K cd33 "step_not" = true) (k33 : PySem.W.keepIn K (.ref f33) = true)
    (a34 : PySem.W.nsIn K mainGlobals "step_both" = some (some (.ref f34))) (l34 : K.lookup f34 = some ⟨oc34, od34, .func (PySem.W.fnOf "step_both" "step_both" (defArgs s_step_both) (defBody s_step_both) (defScope s_step_both) .none kV34 dc34 pm34 an34 cd34 ct34), sl34⟩) (c34 : PySem.W.codeIn K cd34 "step_both" = true) (k34 : PySem.W.keepIn K (.ref f34) = true)
    (a35 : PySem.W.nsIn K mainGlobals "step_either" = some (some (.ref f35))) (l35 : K.lookup f35 = some ⟨oc35, od35, .func (PySem.W.fnOf "step_either" "step_either" (defArgs s_step_either) (defBody s_step_either) (defScope s_step_either) .none kV35 dc35 pm35 an35 cd35 ct35), sl35⟩) (c35 : PySem.W.codeIn K cd35 "step_either" = true) (k35 : PySem.W.keepIn K (.ref f35) = true)
    (a36 : PySem.W.nsIn K mainGlobals "step_if" = some (some (.ref f36))) (l36 : K.lookup f36 = some ⟨oc36, od36, .func (PySem.W.fnOf "step_if" "step_if" (defArgs s_step_if) (defBody s_step_if) (defScope s_step_if) .none kV36 dc36 pm36 an36 cd36 ct36), sl36⟩) (c36 : PySem.W.codeIn K cd36 "step_if" = true) (k36 : PySem.W.keepIn K (.ref f36) = true)
    (a37 : PySem.W.nsIn K mainGlobals "step_pick" = some (some (.ref f37))) (l37 : K.lookup f37 = some ⟨oc37, od37, .func (PySem.W.fnOf "step_pick" "step_pick" (defArgs s_step_pick) (defBody s_step_pick) (defScope s_step_pick) .none kV37 dc37 pm37 an37 cd37 ct37), sl37⟩) (c37 : PySem.W.codeIn K cd37 "step_pick" = true) (k37 : PySem.W.keepIn K (.ref f37) = true)
    (a38 : PySem.W.nsIn K mainGlobals "walked" = some (some (.ref f38))) (l38 : K.lookup f38 = some ⟨oc38, od38, .func (PySem.W.fnOf "walked" "walked" (defArgs s_walked) (defBody s_walked) (defScope s_walked) .none kV38 dc38 pm38 an38 cd38 ct38), sl38⟩) (c38 : PySem.W.codeIn K cd38 "walked" = true) (k38 : PySem.W.keepIn K (.ref f38) = true)
    (a39 : PySem.W.nsIn K mainGlobals "cases_of" = some (some (.ref f39))) (l39 : K.lookup f39 = some ⟨oc39, od39, .func (PySem.W.fnOf "cases_of" "cases_of" (defArgs s_cases_of) (defBody s_cases_of) (defScope s_cases_of) .none kV39 dc39 pm39 an39 cd39 ct39), sl39⟩) (c39 : PySem.W.codeIn K cd39 "cases_of" = true) (k39 : PySem.W.keepIn K (.ref f39) = true)
    (a40 : PySem.W.nsIn K mainGlobals "grown" = some (some (.ref f40))) (l40 : K.lookup f40 = some ⟨oc40, od40, .func (PySem.W.fnOf "grown" "grown" (defArgs s_grown) (defBody s_grown) (defScope s_grown) .none kV40 dc40 pm40 an40 cd40 ct40), sl40⟩) (c40 : PySem.W.codeIn K cd40 "grown" = true) (k40 : PySem.W.keepIn K (.ref f40) = true)
    (a41 : PySem.W.nsIn K mainGlobals "always" = some (some (.ref f41))) (l41 : K.lookup f41 = some ⟨oc41, od41, .func (PySem.W.fnOf "always" "always" (defArgs s_always) (defBody s_always) (defScope s_always) .none kV41 dc41 pm41 an41 cd41 ct41), sl41⟩) (c41 : PySem.W.codeIn K cd41 "always" = true) (k41 : PySem.W.keepIn K (.ref f41) = true)
    (a42 : PySem.W.nsIn K mainGlobals "met_by" = some (some (.ref f42))) (l42 : K.lookup f42 = some ⟨oc42, od42, .func (PySem.W.fnOf "met_by" "met_by" (defArgs s_met_by) (defBody s_met_by) (defScope s_met_by) .none kV42 dc42 pm42 an42 cd42 ct42), sl42⟩) (c42 : PySem.W.codeIn K cd42 "met_by" = true) (k42 : PySem.W.keepIn K (.ref f42) = true)
    (a43 : PySem.W.nsIn K mainGlobals "meets" = some (some (.ref f43))) (l43 : K.lookup f43 = some ⟨oc43, od43, .func (PySem.W.fnOf "meets" "meets" (defArgs s_meets) (defBody s_meets) (defScope s_meets) .none kV43 dc43 pm43 an43 cd43 ct43), sl43⟩) (c43 : PySem.W.codeIn K cd43 "meets" = true) (k43 : PySem.W.keepIn K (.ref f43) = true)
    (a44 : PySem.W.nsIn K mainGlobals "wish_of" = some (some (.ref f44))) (l44 : K.lookup f44 = some ⟨oc44, od44, .func (PySem.W.fnOf "wish_of" "wish_of" (defArgs s_wish_of) (defBody s_wish_of) (defScope s_wish_of) .none kV44 dc44 pm44 an44 cd44 ct44), sl44⟩) (c44 : PySem.W.codeIn K cd44 "wish_of" = true) (k44 : PySem.W.keepIn K (.ref f44) = true)
    (a45 : PySem.W.nsIn K mainGlobals "plain_inputs" = some (some (.ref f45))) (l45 : K.lookup f45 = some ⟨oc45, od45, .func (PySem.W.fnOf "plain_inputs" "plain_inputs" (defArgs s_plain_inputs) (defBody s_plain_inputs) (defScope s_plain_inputs) .none kV45 dc45 pm45 an45 cd45 ct45), sl45⟩) (c45 : PySem.W.codeIn K cd45 "plain_inputs" = true) (k45 : PySem.W.keepIn K (.ref f45) = true)
    (a46 : PySem.W.nsIn K mainGlobals "is_at" = some (some (.ref f46))) (l46 : K.lookup f46 = some ⟨oc46, od46, .func (PySem.W.fnOf "is_at" "is_at" (defArgs s_is_at) (defBody s_is_at) (defScope s_is_at) .none kV46 dc46 pm46 an46 cd46 ct46), sl46⟩) (c46 : PySem.W.codeIn K cd46 "is_at" = true) (k46 : PySem.W.keepIn K (.ref f46) = true)
    (a47 : PySem.W.nsIn K mainGlobals "is_thing" = some (some (.ref f47))) (l47 : K.lookup f47 = some ⟨oc47, od47, .func (PySem.W.fnOf "is_thing" "is_thing" (defArgs s_is_thing) (defBody s_is_thing) (defScope s_is_thing) .none kV47 dc47 pm47 an47 cd47 ct47), sl47⟩) (c47 : PySem.W.codeIn K cd47 "is_thing" = true) (k47 : PySem.W.keepIn K (.ref f47) = true)
    (a48 : PySem.W.nsIn K mainGlobals "all_of" = some (some (.ref f48))) (l48 : K.lookup f48 = some ⟨oc48, od48, .func (PySem.W.fnOf "all_of" "all_of" (defArgs s_all_of) (defBody s_all_of) (defScope s_all_of) .none kV48 dc48 pm48 an48 cd48 ct48), sl48⟩) (c48 : PySem.W.codeIn K cd48 "all_of" = true) (k48 : PySem.W.keepIn K (.ref f48) = true)
    (a49 : PySem.W.nsIn K mainGlobals "_law_cell" = some (some (.ref f49))) (l49 : K.lookup f49 = some ⟨oc49, od49, .func (PySem.W.fnOf "_law_cell" "_law_cell" (defArgs s_l_cell) (defBody s_l_cell) (defScope s_l_cell) .none kV49 dc49 pm49 an49 cd49 ct49), sl49⟩) (c49 : PySem.W.codeIn K cd49 "_law_cell" = true) (k49 : PySem.W.keepIn K (.ref f49) = true)
    (a50 : PySem.W.nsIn K mainGlobals "_law_flow" = some (some (.ref f50))) (l50 : K.lookup f50 = some ⟨oc50, od50, .func (PySem.W.fnOf "_law_flow" "_law_flow" (defArgs s_l_flow) (defBody s_l_flow) (defScope s_l_flow) .none kV50 dc50 pm50 an50 cd50 ct50), sl50⟩) (c50 : PySem.W.codeIn K cd50 "_law_flow" = true) (k50 : PySem.W.keepIn K (.ref f50) = true)
    (a51 : PySem.W.nsIn K mainGlobals "_law_draw" = some (some (.ref f51))) (l51 : K.lookup f51 = some ⟨oc51, od51, .func (PySem.W.fnOf "_law_draw" "_law_draw" (defArgs s_l_draw) (defBody s_l_draw) (defScope s_l_draw) .none kV51 dc51 pm51 an51 cd51 ct51), sl51⟩) (c51 : PySem.W.codeIn K cd51 "_law_draw" = true) (k51 : PySem.W.keepIn K (.ref f51) = true)
    (a52 : PySem.W.nsIn K mainGlobals "_law_kinds" = some (some (.ref f52))) (l52 : K.lookup f52 = some ⟨oc52, od52, .func (PySem.W.fnOf "_law_kinds" "_law_kinds" (defArgs s_l_kinds) (defBody s_l_kinds) (defScope s_l_kinds) .none kV52 dc52 pm52 an52 cd52 ct52), sl52⟩) (c52 : PySem.W.codeIn K cd52 "_law_kinds" = true) (k52 : PySem.W.keepIn K (.ref f52) = true)
    (a53 : PySem.W.nsIn K mainGlobals "_law_little" = some (some (.ref f53))) (l53 : K.lookup f53 = some ⟨oc53, od53, .func (PySem.W.fnOf "_law_little" "_law_little" (defArgs s_l_little) (defBody s_l_little) (defScope s_l_little) .none kV53 dc53 pm53 an53 cd53 ct53), sl53⟩) (c53 : PySem.W.codeIn K cd53 "_law_little" = true) (k53 : PySem.W.keepIn K (.ref f53) = true)
    (a54 : PySem.W.nsIn K mainGlobals "_law_leaf" = some (some (.ref f54))) (l54 : K.lookup f54 = some ⟨oc54, od54, .func (PySem.W.fnOf "_law_leaf" "_law_leaf" (defArgs s_l_leaf) (defBody s_l_leaf) (defScope s_l_leaf) .none kV54 dc54 pm54 an54 cd54 ct54), sl54⟩) (c54 : PySem.W.codeIn K cd54 "_law_leaf" = true) (k54 : PySem.W.keepIn K (.ref f54) = true)
    (a55 : PySem.W.nsIn K mainGlobals "_law_plan" = some (some (.ref f55))) (l55 : K.lookup f55 = some ⟨oc55, od55, .func (PySem.W.fnOf "_law_plan" "_law_plan" (defArgs s_l_plan) (defBody s_l_plan) (defScope s_l_plan) .none kV55 dc55 pm55 an55 cd55 ct55), sl55⟩) (c55 : PySem.W.codeIn K cd55 "_law_plan" = true) (k55 : PySem.W.keepIn K (.ref f55) = true)
    (a56 : PySem.W.nsIn K mainGlobals "_law_inner" = some (some (.ref f56))) (l56 : K.lookup f56 = some ⟨oc56, od56, .func (PySem.W.fnOf "_law_inner" "_law_inner" (defArgs s_l_inner) (defBody s_l_inner) (defScope s_l_inner) .none kV56 dc56 pm56 an56 cd56 ct56), sl56⟩) (c56 : PySem.W.codeIn K cd56 "_law_inner" = true) (k56 : PySem.W.keepIn K (.ref f56) = true)
    (a57 : PySem.W.nsIn K mainGlobals "_law_worth" = some (some (.ref f57))) (l57 : K.lookup f57 = some ⟨oc57, od57, .func (PySem.W.fnOf "_law_worth" "_law_worth" (defArgs s_l_worth) (defBody s_l_worth) (defScope s_l_worth) .none kV57 dc57 pm57 an57 cd57 ct57), sl57⟩) (c57 : PySem.W.codeIn K cd57 "_law_worth" = true) (k57 : PySem.W.keepIn K (.ref f57) = true)
    (a58 : PySem.W.nsIn K mainGlobals "_law_answer" = some (some (.ref f58))) (l58 : K.lookup f58 = some ⟨oc58, od58, .func (PySem.W.fnOf "_law_answer" "_law_answer" (defArgs s_l_answer) (defBody s_l_answer) (defScope s_l_answer) .none kV58 dc58 pm58 an58 cd58 ct58), sl58⟩) (c58 : PySem.W.codeIn K cd58 "_law_answer" = true) (k58 : PySem.W.keepIn K (.ref f58) = true)
    (a59 : PySem.W.nsIn K mainGlobals "_law_unlike" = some (some (.ref f59))) (l59 : K.lookup f59 = some ⟨oc59, od59, .func (PySem.W.fnOf "_law_unlike" "_law_unlike" (defArgs s_l_unlike) (defBody s_l_unlike) (defScope s_l_unlike) .none kV59 dc59 pm59 an59 cd59 ct59), sl59⟩) (c59 : PySem.W.codeIn K cd59 "_law_unlike" = true) (k59 : PySem.W.keepIn K (.ref f59) = true)
    (a60 : PySem.W.nsIn K mainGlobals "_law_examples" = some (some (.ref f60))) (l60 : K.lookup f60 = some ⟨oc60, od60, .func (PySem.W.fnOf "_law_examples" "_law_examples" (defArgs s_l_examples) (defBody s_l_examples) (defScope s_l_examples) .none kV60 dc60 pm60 an60 cd60 ct60), sl60⟩) (c60 : PySem.W.codeIn K cd60 "_law_examples" = true) (k60 : PySem.W.keepIn K (.ref f60) = true)
    (a61 : PySem.W.nsIn K mainGlobals "_law_lets" = some (some (.ref f61))) (l61 : K.lookup f61 = some ⟨oc61, od61, .func (PySem.W.fnOf "_law_lets" "_law_lets" (defArgs s_l_lets) (defBody s_l_lets) (defScope s_l_lets) .none kV61 dc61 pm61 an61 cd61 ct61), sl61⟩) (c61 : PySem.W.codeIn K cd61 "_law_lets" = true) (k61 : PySem.W.keepIn K (.ref f61) = true)
    (a62 : PySem.W.nsIn K mainGlobals "_law_right" = some (some (.ref f62))) (l62 : K.lookup f62 = some ⟨oc62, od62, .func (PySem.W.fnOf "_law_right" "_law_right" (defArgs s_l_right) (defBody s_l_right) (defScope s_l_right) .none kV62 dc62 pm62 an62 cd62 ct62), sl62⟩) (c62 : PySem.W.codeIn K cd62 "_law_right" = true) (k62 : PySem.W.keepIn K (.ref f62) = true)
    (a63 : PySem.W.nsIn K mainGlobals "law" = some (some (.ref f63))) (l63 : K.lookup f63 = some ⟨oc63, od63, .func (PySem.W.fnOf "law" "law" (defArgs s_law) (defBody s_law) (defScope s_law) .none kV63 dc63 pm63 an63 cd63 ct63), sl63⟩) (c63 : PySem.W.codeIn K cd63 "law" = true) (k63 : PySem.W.keepIn K (.ref f63) = true)
    (z0 : PySem.W.nsIn K mainGlobals "len" = some none)
    (z1 : PySem.W.nsIn K mainGlobals "isinstance" = some none)
    (z2 : PySem.W.nsIn K mainGlobals "tuple" = some none)
    (z3 : PySem.W.nsIn K mainGlobals "list" = some none)
    (z4 : PySem.W.nsIn K mainGlobals "str" = some none)
    (z5 : PySem.W.nsIn K mainGlobals "int" = some none)
    (z6 : PySem.W.nsIn K mainGlobals "bool" = some none)
    (z7 : PySem.W.nsIn K mainGlobals "range" = some none)
    (z8 : PySem.W.nsIn K mainGlobals "zip" = some none)
    (z9 : PySem.W.nsIn K mainGlobals "enumerate" = some none)
    (z10 : PySem.W.nsIn K mainGlobals "reversed" = some none)
    (z11 : PySem.W.nsIn K mainGlobals "max" = some none)
    (z12 : PySem.W.nsIn K mainGlobals "all" = some none)
    (z13 : PySem.W.nsIn K mainGlobals "min" = some none)
    (z14 : PySem.W.nsIn K mainGlobals "sum" = some none)
    (z15 : PySem.W.nsIn K mainGlobals "any" = some none)
    (z16 : PySem.W.nsIn K mainGlobals "sorted" = some none)
    (z17 : PySem.W.nsIn K mainGlobals "set" = some none)
    (z18 : PySem.W.nsIn K mainGlobals "repr" = some none)
    (z19 : PySem.W.nsIn K mainGlobals "abs" = some none)
    (aF : PySem.W.nsIn K mainGlobals "FORMS" = some (some (.ref dF))) (lF : K.lookup dF = some ⟨.type "dict", none, .dict esF nF, #[]⟩) (kF : PySem.W.KeysLit w.params esF.toList) (wF : (dF == sysModules) = false)
    (e0 : PySem.W.nsIn K dF "in" = some (some (.ref t0))) (m0 : K.lookup t0 = some ⟨.type "tuple", dt0, .seq #[.int 1 q0_0, .ref u0, .none] nt0, st0⟩) (v0 : K.lookup u0 = some ⟨.type "tuple", du0, .seq #[] nu0, su0⟩)
    (e1 : PySem.W.nsIn K dF "num" = some (some (.ref t1))) (m1 : K.lookup t1 = some ⟨.type "tuple", dt1, .seq #[.int 1 q0_1, .ref u1, .str "num" q1_1] nt1, st1⟩) (v1 : K.lookup u1 = some ⟨.type "tuple", du1, .seq #[] nu1, su1⟩)
    (e2 : PySem.W.nsIn K dF "yes" = some (some (.ref t2))) (m2 : K.lookup t2 = some ⟨.type "tuple", dt2, .seq #[.int 0 q0_2, .ref u2, .str "truth" q1_2] nt2, st2⟩) (v2 : K.lookup u2 = some ⟨.type "tuple", du2, .seq #[] nu2, su2⟩)
    (e3 : PySem.W.nsIn K dF "no" = some (some (.ref t3))) (m3 : K.lookup t3 = some ⟨.type "tuple", dt3, .seq #[.int 0 q0_3, .ref u3, .str "truth" q1_3] nt3, st3⟩) (v3 : K.lookup u3 = some ⟨.type "tuple", du3, .seq #[] nu3, su3⟩)
    (e4 : PySem.W.nsIn K dF "plus" = some (some (.ref t4))) (m4 : K.lookup t4 = some ⟨.type "tuple", dt4, .seq #[.int 1 q0_4, .ref u4, .str "num" q1_4] nt4, st4⟩) (v4 : K.lookup u4 = some ⟨.type "tuple", du4, .seq #[.str "num" q2_4] nu4, su4⟩)
    (e5 : PySem.W.nsIn K dF "least" = some (some (.ref t5))) (m5 : K.lookup t5 = some ⟨.type "tuple", dt5, .seq #[.int 0 q0_5, .ref u5, .str "num" q1_5] nt5, st5⟩) (v5 : K.lookup u5 = some ⟨.type "tuple", du5, .seq #[.str "num" q2_5, .str "num" q3_5] nu5, su5⟩)
    (e6 : PySem.W.nsIn K dF "most" = some (some (.ref t6))) (m6 : K.lookup t6 = some ⟨.type "tuple", dt6, .seq #[.int 0 q0_6, .ref u6, .str "num" q1_6] nt6, st6⟩) (v6 : K.lookup u6 = some ⟨.type "tuple", du6, .seq #[.str "num" q2_6, .str "num" q3_6] nu6, su6⟩)
    (e7 : PySem.W.nsIn K dF "atmost" = some (some (.ref t7))) (m7 : K.lookup t7 = some ⟨.type "tuple", dt7, .seq #[.int 0 q0_7, .ref u7, .str "truth" q1_7] nt7, st7⟩) (v7 : K.lookup u7 = some ⟨.type "tuple", du7, .seq #[.str "num" q2_7, .str "num" q3_7] nu7, su7⟩)
    (e8 : PySem.W.nsIn K dF "not" = some (some (.ref t8))) (m8 : K.lookup t8 = some ⟨.type "tuple", dt8, .seq #[.int 0 q0_8, .ref u8, .str "truth" q1_8] nt8, st8⟩) (v8 : K.lookup u8 = some ⟨.type "tuple", du8, .seq #[.str "truth" q2_8] nu8, su8⟩)
    (e9 : PySem.W.nsIn K dF "both" = some (some (.ref t9))) (m9 : K.lookup t9 = some ⟨.type "tuple", dt9, .seq #[.int 0 q0_9, .ref u9, .str "truth" q1_9] nt9, st9⟩) (v9 : K.lookup u9 = some ⟨.type "tuple", du9, .seq #[.str "truth" q2_9, .str "truth" q3_9] nu9, su9⟩)
    (e10 : PySem.W.nsIn K dF "either" = some (some (.ref t10))) (m10 : K.lookup t10 = some ⟨.type "tuple", dt10, .seq #[.int 0 q0_10, .ref u10, .str "truth" q1_10] nt10, st10⟩) (v10 : K.lookup u10 = some ⟨.type "tuple", du10, .seq #[.str "truth" q2_10, .str "truth" q3_10] nu10, su10⟩)
    (e11 : PySem.W.nsIn K dF "if" = some (some (.ref t11))) (m11 : K.lookup t11 = some ⟨.type "tuple", dt11, .seq #[.int 0 q0_11, .ref u11, .none] nt11, st11⟩) (v11 : K.lookup u11 = some ⟨.type "tuple", du11, .seq #[.str "truth" q2_11, .none, .none] nu11, su11⟩)
    (aSt : PySem.W.nsIn K mainGlobals "STEPS" = some (some (.ref dSt))) (lSt : K.lookup dSt = some ⟨.type "dict", none, .dict esSt nSt, #[]⟩) (kSt : PySem.W.KeysLit w.params esSt.toList)
    (st0 : PySem.W.nsIn K dSt "in" = some (some (.ref f24)))
    (st1 : PySem.W.nsIn K dSt "num" = some (some (.ref f25)))
    (st2 : PySem.W.nsIn K dSt "yes" = some (some (.ref f26)))
    (st3 : PySem.W.nsIn K dSt "no" = some (some (.ref f27)))
    (st4 : PySem.W.nsIn K dSt "plus" = some (some (.ref f28)))
    (st5 : PySem.W.nsIn K dSt "add" = some (some (.ref f29)))
    (st6 : PySem.W.nsIn K dSt "least" = some (some (.ref f30)))
    (st7 : PySem.W.nsIn K dSt "most" = some (some (.ref f30)))
    (st8 : PySem.W.nsIn K dSt "atmost" = some (some (.ref f30)))
    (st9 : PySem.W.nsIn K dSt "meet" = some (some (.ref f31)))
    (st10 : PySem.W.nsIn K dSt "not" = some (some (.ref f33)))
    (st11 : PySem.W.nsIn K dSt "both" = some (some (.ref f34)))
    (st12 : PySem.W.nsIn K dSt "either" = some (some (.ref f35)))
    (st13 : PySem.W.nsIn K dSt "if" = some (some (.ref f36)))
    (st14 : PySem.W.nsIn K dSt "pick" = some (some (.ref f37)))
    (aFKa : PySem.W.nsIn K mainGlobals "FORKS" = some (some (.ref aFK0)))
    (aFKl0 : K.lookup aFK0 = some ⟨.type "tuple", aFKd0, .seq #[.str "row" aFKt0_0, .str "truth" aFKt0_1, .str "if" aFKt0_2] aFKn0, aFKs0⟩)
    (aYSa : PySem.W.nsIn K mainGlobals "YES" = some (some (.ref aYS0)))
    (aYSl0 : K.lookup aYS0 = some ⟨.type "tuple", aYSd0, .seq #[.str "yes" aYSt0_0] aYSn0, aYSs0⟩)
    (aNOa : PySem.W.nsIn K mainGlobals "NO" = some (some (.ref aNO0)))
    (aNOl0 : K.lookup aNO0 = some ⟨.type "tuple", aNOd0, .seq #[.str "no" aNOt0_0] aNOn0, aNOs0⟩)
    : ∃ fd : FuncData, (∀ (s : Shared) (v : Value), BindsTo s fd ⟨[v], []⟩ [("_law_script", v)]) ∧ ∀ base : Heap, K.In base → base.Ns mainGlobals mg → FnG l.prog w K mg base 25 fa fd ["_law_script"] (spLaw K) := by
  have e := hfa.symm.trans (PySem.W.mg_of X G a63)
  cases e
  have D_kind_of : DefAt K mg "kind_of" s_kind_of ["kinds", "program"] := defAt_mk X G a0 l0 c0 k0 fun _ _ _ _ _ _ us hl => match us, hl with | [_, _], _ => rfl
  have D_knots : DefAt K mg "knots" s_knots ["program"] := defAt_mk X G a1 l1 c1 k1 fun _ _ _ _ _ _ us hl => match us, hl with | [_], _ => rfl
  have D_put : DefAt K mg "put" s_put ["program", "some"] := defAt_mk X G a2 l2 c2 k2 fun _ _ _ _ _ _ us hl => match us, hl with | [_, _], _ => rfl
  have D_is_whole : DefAt K mg "is_whole" s_is_whole ["thing"] := defAt_mk X G a3 l3 c3 k3 fun _ _ _ _ _ _ us hl => match us, hl with | [_], _ => rfl
  have D_has_form : DefAt K mg "has_form" s_has_form ["thing"] := defAt_mk X G a4 l4 c4 k4 fun _ _ _ _ _ _ us hl => match us, hl with | [_], _ => rfl
  have D_many_numbers : DefAt K mg "many_numbers" s_many_numbers ["word"] := defAt_mk X G a5 l5 c5 k5 fun _ _ _ _ _ _ us hl => match us, hl with | [_], _ => rfl
  have D_many_parts : DefAt K mg "many_parts" s_many_parts ["word"] := defAt_mk X G a6 l6 c6 k6 fun _ _ _ _ _ _ us hl => match us, hl with | [_], _ => rfl
  have D_front_of : DefAt K mg "front_of" s_front_of ["knot"] := defAt_mk X G a7 l7 c7 k7 fun _ _ _ _ _ _ us hl => match us, hl with | [_], _ => rfl
  have D_parts_of : DefAt K mg "parts_of" s_parts_of ["knot"] := defAt_mk X G a8 l8 c8 k8 fun _ _ _ _ _ _ us hl => match us, hl with | [_], _ => rfl
  have D_taken : DefAt K mg "taken" s_taken ["pile", "many"] := defAt_mk X G a9 l9 c9 k9 fun _ _ _ _ _ _ us hl => match us, hl with | [_, _], _ => rfl
  have D_refuse_forms : DefAt K mg "refuse_forms" s_refuse_forms ["every"] := defAt_mk X G a10 l10 c10 k10 fun _ _ _ _ _ _ us hl => match us, hl with | [_], _ => rfl
  have D_refuse_inputs : DefAt K mg "refuse_inputs" s_refuse_inputs ["every", "many"] := defAt_mk X G a11 l11 c11 k11 fun _ _ _ _ _ _ us hl => match us, hl with | [_, _], _ => rfl
  have D_parts_fit : DefAt K mg "parts_fit" s_parts_fit ["word", "told"] := defAt_mk X G a12 l12 c12 k12 fun _ _ _ _ _ _ us hl => match us, hl with | [_, _], _ => rfl
  have D_own_kind : DefAt K mg "own_kind" s_own_kind ["kinds", "knot", "told"] := defAt_mk X G a13 l13 c13 k13 fun _ _ _ _ _ _ us hl => match us, hl with | [_, _, _], _ => rfl
  have D_open_bounds : DefAt K mg "open_bounds" s_open_bounds ["many"] := defAt_mk X G a14 l14 c14 k14 fun _ _ _ _ _ _ us hl => match us, hl with | [_], _ => rfl
  have D_tightened : DefAt K mg "tightened" s_tightened ["closed", "i", "j", "c"] := defAt_mk X G a15 l15 c15 k15 fun _ _ _ _ _ _ us hl => match us, hl with | [_, _, _, _], _ => rfl
  have D_known : DefAt K mg "known" s_known ["closed", "i", "j", "c"] := defAt_mk X G a16 l16 c16 k16 fun _ _ _ _ _ _ us hl => match us, hl with | [_, _, _, _], _ => rfl
  have D_row_through : DefAt K mg "row_through" s_row_through ["row", "way", "onward"] := defAt_mk X G a17 l17 c17 k17 fun _ _ _ _ _ _ us hl => match us, hl with | [_, _, _], _ => rfl
  have D_lesser : DefAt K mg "lesser" s_lesser ["old", "way", "more"] := defAt_mk X G a18 l18 c18 k18 fun _ _ _ _ _ _ us hl => match us, hl with | [_, _, _], _ => rfl
  have D_point_in : DefAt K mg "point_in" s_point_in ["closed"] := defAt_mk X G a19 l19 c19 k19 fun _ _ _ _ _ _ us hl => match us, hl with | [_], _ => rfl
  have D_open_region : DefAt K mg "open_region" s_open_region ["kinds"] := defAt_mk X G a20 l20 c20 k20 fun _ _ _ _ _ _ us hl => match us, hl with | [_], _ => rfl
  have D_answer_in : DefAt K mg "answer_in" s_answer_in ["region", "question"] := defAt_mk X G a21 l21 c21 k21 fun _ _ _ _ _ _ us hl => match us, hl with | [_, _], _ => rfl
  have D_narrowed : DefAt K mg "narrowed" s_narrowed ["region", "question", "answer"] := defAt_mk X G a22 l22 c22 k22 fun _ _ _ _ _ _ us hl => match us, hl with | [_, _, _], _ => rfl
  have D_inputs_in : DefAt K mg "inputs_in" s_inputs_in ["region"] := defAt_mk X G a23 l23 c23 k23 fun _ _ _ _ _ _ us hl => match us, hl with | [_], _ => rfl
  have D_step_in : DefAt K mg "step_in" s_step_in ["region", "task", "rest", "ready"] := defAt_mk X G a24 l24 c24 k24 fun _ _ _ _ _ _ us hl => match us, hl with | [_, _, _, _], _ => rfl
  have D_step_num : DefAt K mg "step_num" s_step_num ["region", "task", "rest", "ready"] := defAt_mk X G a25 l25 c25 k25 fun _ _ _ _ _ _ us hl => match us, hl with | [_, _, _, _], _ => rfl
  have D_step_yes : DefAt K mg "step_yes" s_step_yes ["region", "task", "rest", "ready"] := defAt_mk X G a26 l26 c26 k26 fun _ _ _ _ _ _ us hl => match us, hl with | [_, _, _, _], _ => rfl
  have D_step_no : DefAt K mg "step_no" s_step_no ["region", "task", "rest", "ready"] := defAt_mk X G a27 l27 c27 k27 fun _ _ _ _ _ _ us hl => match us, hl with | [_, _, _, _], _ => rfl
  have D_step_plus : DefAt K mg "step_plus" s_step_plus ["region", "task", "rest", "ready"] := defAt_mk X G a28 l28 c28 k28 fun _ _ _ _ _ _ us hl => match us, hl with | [_, _, _, _], _ => rfl
  have D_step_add : DefAt K mg "step_add" s_step_add ["region", "task", "rest", "ready"] := defAt_mk X G a29 l29 c29 k29 fun _ _ _ _ _ _ us hl => match us, hl with | [_, _, _, _], _ => rfl
  have D_step_two : DefAt K mg "step_two" s_step_two ["region", "task", "rest", "ready"] := defAt_mk X G a30 l30 c30 k30 fun _ _ _ _ _ _ us hl => match us, hl with | [_, _, _, _], _ => rfl
  have D_step_meet : DefAt K mg "step_meet" s_step_meet ["region", "task", "rest", "ready"] := defAt_mk X G a31 l31 c31 k31 fun _ _ _ _ _ _ us hl => match us, hl with | [_, _, _, _], _ => rfl
  have D_met : DefAt K mg "met" s_met ["word", "answer", "first", "second"] := defAt_mk X G a32 l32 c32 k32 fun _ _ _ _ _ _ us hl => match us, hl with | [_, _, _, _], _ => rfl
  have D_step_not : DefAt K mg "step_not" s_step_not ["region", "task", "rest", "ready"] := defAt_mk X G a33 l33 c33 k33 fun _ _ _ _ _ _ us hl => match us, hl with | [_, _, _, _], _ => rfl
  have D_step_both : DefAt K mg "step_both" s_step_both ["region", "task", "rest", "ready"] := defAt_mk X G a34 l34 c34 k34 fun _ _ _ _ _ _ us hl => match us, hl with | [_, _, _, _], _ => rfl
  have D_step_either : DefAt K mg "step_either" s_step_either ["region", "task", "rest", "ready"] := defAt_mk X G a35 l35 c35 k35 fun _ _ _ _ _ _ us hl => match us, hl with | [_, _, _, _], _ => rfl
  have D_step_if : DefAt K mg "step_if" s_step_if ["region", "task", "rest", "ready"] := defAt_mk X G a36 l36 c36 k36 fun _ _ _ _ _ _ us hl => match us, hl with | [_, _, _, _], _ => rfl
  have D_step_pick : DefAt K mg "step_pick" s_step_pick ["region", "task", "rest", "ready"] := defAt_mk X G a37 l37 c37 k37 fun _ _ _ _ _ _ us hl => match us, hl with | [_, _, _, _], _ => rfl
  have D_walked : DefAt K mg "walked" s_walked ["region", "todo", "ready"] := defAt_mk X G a38 l38 c38 k38 fun _ _ _ _ _ _ us hl => match us, hl with | [_, _, _], _ => rfl
  have D_cases_of : DefAt K mg "cases_of" s_cases_of ["program", "region"] := defAt_mk X G a39 l39 c39 k39 fun _ _ _ _ _ _ us hl => match us, hl with | [_, _], _ => rfl
  have D_grown : DefAt K mg "grown" s_grown ["fronts"] := defAt_mk X G a40 l40 c40 k40 fun _ _ _ _ _ _ us hl => match us, hl with | [_], _ => rfl
  have D_always : DefAt K mg "always" s_always ["kinds", "program"] := defAt_mk X G a41 l41 c41 k41 fun _ _ _ _ _ _ us hl => match us, hl with | [_, _], _ => rfl
  have D_met_by : DefK0 K mg "met_by" s_met_by ["wish", "program", "many"] 2 ["many"] := defk0_mk3 X G a42 l42 c42 k42 (fun _ _ _ _ _ _ _ _  => rfl)
  have D_meets : DefAt K mg "meets" s_meets ["head", "wish", "program"] := defAt_mk X G a43 l43 c43 k43 fun _ _ _ _ _ _ us hl => match us, hl with | [_, _, _], _ => rfl
  have D_wish_of : DefAt K mg "wish_of" s_wish_of ["head", "examples"] := defAt_mk X G a44 l44 c44 k44 fun _ _ _ _ _ _ us hl => match us, hl with | [_, _], _ => rfl
  have D_plain_inputs : DefAt K mg "plain_inputs" s_plain_inputs ["many"] := defAt_mk X G a45 l45 c45 k45 fun _ _ _ _ _ _ us hl => match us, hl with | [_], _ => rfl
  have D_is_at : DefAt K mg "is_at" s_is_at ["inputs"] := defAt_mk X G a46 l46 c46 k46 fun _ _ _ _ _ _ us hl => match us, hl with | [_], _ => rfl
  have D_is_thing : DefAt K mg "is_thing" s_is_thing ["k", "thing"] := defAt_mk X G a47 l47 c47 k47 fun _ _ _ _ _ _ us hl => match us, hl with | [_, _], _ => rfl
  have D_all_of : DefAt K mg "all_of" s_all_of ["some"] := defAt_mk X G a48 l48 c48 k48 fun _ _ _ _ _ _ us hl => match us, hl with | [_], _ => rfl
  have D_l_cell : DefAt K mg "_law_cell" s_l_cell ["_law_script", "_law_k"] := defAt_mk X G a49 l49 c49 k49 fun _ _ _ _ _ _ us hl => match us, hl with | [_, _], _ => rfl
  have D_l_flow : DefAt K mg "_law_flow" s_l_flow ["_law_script", "_law_k"] := defAt_mk X G a50 l50 c50 k50 fun _ _ _ _ _ _ us hl => match us, hl with | [_, _], _ => rfl
  have D_l_draw : DefAt K mg "_law_draw" s_l_draw ["_law_flow_here", "_law_wide"] := defAt_mk X G a51 l51 c51 k51 fun _ _ _ _ _ _ us hl => match us, hl with | [_, _], _ => rfl
  have D_l_kinds : DefAt K mg "_law_kinds" s_l_kinds ["_law_flow_here", "_law_top"] := defAt_mk X G a52 l52 c52 k52 fun _ _ _ _ _ _ us hl => match us, hl with | [_, _], _ => rfl
  have D_l_little : DefAt K mg "_law_little" s_l_little ["_law_flow_here"] := defAt_mk X G a53 l53 c53 k53 fun _ _ _ _ _ _ us hl => match us, hl with | [_], _ => rfl
  have D_l_leaf : DefAt K mg "_law_leaf" s_l_leaf ["_law_flow_here", "_law_kinds_here", "_law_kind"] := defAt_mk X G a54 l54 c54 k54 fun _ _ _ _ _ _ us hl => match us, hl with | [_, _, _], _ => rfl
  have D_l_plan : DefAt K mg "_law_plan" s_l_plan ["_law_flow_here", "_law_kinds_here", "_law_kind", "_law_room"] := defAt_mk X G a55 l55 c55 k55 fun _ _ _ _ _ _ us hl => match us, hl with | [_, _, _, _], _ => rfl
  have D_l_inner : DefAt K mg "_law_inner" s_l_inner ["_law_knot"] := defAt_mk X G a56 l56 c56 k56 fun _ _ _ _ _ _ us hl => match us, hl with | [_], _ => rfl
  have D_l_worth : DefAt K mg "_law_worth" s_l_worth ["_law_plan_here", "_law_inputs"] := defAt_mk X G a57 l57 c57 k57 fun _ _ _ _ _ _ us hl => match us, hl with | [_, _], _ => rfl
  have D_l_answer : DefAt K mg "_law_answer" s_l_answer ["_law_flow_here", "_law_kind"] := defAt_mk X G a58 l58 c58 k58 fun _ _ _ _ _ _ us hl => match us, hl with | [_, _], _ => rfl
  have D_l_unlike : DefAt K mg "_law_unlike" s_l_unlike ["_law_flow_here", "_law_answer_here"] := defAt_mk X G a59 l59 c59 k59 fun _ _ _ _ _ _ us hl => match us, hl with | [_, _], _ => rfl
  have D_l_examples : DefAt K mg "_law_examples" s_l_examples ["_law_flow_here", "_law_head", "_law_plan_here", "_law_most"] := defAt_mk X G a60 l60 c60 k60 fun _ _ _ _ _ _ us hl => match us, hl with | [_, _, _, _], _ => rfl
  have D_l_lets : DefAt K mg "_law_lets" s_l_lets ["_law_flow_here", "_law_head", "_law_wish", "_law_examples_here"] := defAt_mk X G a61 l61 c61 k61 fun _ _ _ _ _ _ us hl => match us, hl with | [_, _, _, _], _ => rfl
  have D_l_right : DefAt K mg "_law_right" s_l_right ["_law_flow_here", "_law_head", "_law_examples_here", "_law_plans"] := defAt_mk X G a62 l62 c62 k62 fun _ _ _ _ _ _ us hl => match us, hl with | [_, _, _, _], _ => rfl
  have D_law : DefAt K mg "law" s_law ["_law_script"] := defAt_mk X G a63 l63 c63 k63 fun _ _ _ _ _ _ us hl => match us, hl with | [_], _ => rfl
  have STG_ : StepsG K w mg dSt := ⟨PySem.W.mg_of X G aSt, fun k => by
    cases k with
    | add c => exact ⟨_, ⟨esSt, nSt, _, lSt, kSt, st5, rfl⟩, PySem.W.mg_of X G a29⟩
    | meet c => exact ⟨_, ⟨esSt, nSt, _, lSt, kSt, st9, rfl⟩, PySem.W.mg_of X G a31⟩
    | pick p q => exact ⟨_, ⟨esSt, nSt, _, lSt, kSt, st14, rfl⟩, PySem.W.mg_of X G a37⟩
    | pg p =>
      cases p with
      | inp n => exact ⟨_, ⟨esSt, nSt, _, lSt, kSt, st0, rfl⟩, PySem.W.mg_of X G a24⟩
      | num n => exact ⟨_, ⟨esSt, nSt, _, lSt, kSt, st1, rfl⟩, PySem.W.mg_of X G a25⟩
      | tr b =>
        cases b with
        | true => exact ⟨_, ⟨esSt, nSt, _, lSt, kSt, st2, rfl⟩, PySem.W.mg_of X G a26⟩
        | false => exact ⟨_, ⟨esSt, nSt, _, lSt, kSt, st3, rfl⟩, PySem.W.mg_of X G a27⟩
      | plus c a => exact ⟨_, ⟨esSt, nSt, _, lSt, kSt, st4, rfl⟩, PySem.W.mg_of X G a28⟩
      | bin w a b =>
        cases w with
        | least => exact ⟨_, ⟨esSt, nSt, _, lSt, kSt, st6, rfl⟩, PySem.W.mg_of X G a30⟩
        | most => exact ⟨_, ⟨esSt, nSt, _, lSt, kSt, st7, rfl⟩, PySem.W.mg_of X G a30⟩
        | atmost => exact ⟨_, ⟨esSt, nSt, _, lSt, kSt, st8, rfl⟩, PySem.W.mg_of X G a30⟩
        | both => exact ⟨_, ⟨esSt, nSt, _, lSt, kSt, st11, rfl⟩, PySem.W.mg_of X G a34⟩
        | either => exact ⟨_, ⟨esSt, nSt, _, lSt, kSt, st12, rfl⟩, PySem.W.mg_of X G a35⟩
      | neg a => exact ⟨_, ⟨esSt, nSt, _, lSt, kSt, st10, rfl⟩, PySem.W.mg_of X G a33⟩
      | ite p a b => exact ⟨_, ⟨esSt, nSt, _, lSt, kSt, st13, rfl⟩, PySem.W.mg_of X G a36⟩⟩
  have hFORKS := PySem.W.mg_of X G aFKa
  have hFK := fun H : Hp => (show L2.SqT K H aFK0 [.str "row", .str "truth", .str "if"] from .inr ⟨_, _, _, aFKl0, rfl, rfl, (by show 3 ≤ sizeLine; decide), (.cons ⟨_, rfl⟩ (.cons ⟨_, rfl⟩ (.cons ⟨_, rfl⟩ .nil)))⟩)
  have hYES := PySem.W.mg_of X G aYSa
  have hY : ∀ H : Hp, Fd K H (.ref aYS0) (enc (.tr true)) := fun H => ⟨rfl, (.tup (show L2.SqT K H aYS0 [.str "yes"] from .inr ⟨_, _, _, aYSl0, rfl, rfl, (by show 1 ≤ sizeLine; decide), (.cons ⟨_, rfl⟩ .nil)⟩) (.cons (.str _) .nil))⟩
  have hNO := PySem.W.mg_of X G aNOa
  have hN : ∀ H : Hp, Fd K H (.ref aNO0) (enc (.tr false)) := fun H => ⟨rfl, (.tup (show L2.SqT K H aNO0 [.str "no"] from .inr ⟨_, _, _, aNOl0, rfl, rfl, (by show 1 ≤ sizeLine; decide), (.cons ⟨_, rfl⟩ .nil)⟩) (.cons (.str _) .nil))⟩
  have B : Bt mg := ⟨PySem.W.mg_none_of X G z0, PySem.W.mg_none_of X G z1, PySem.W.mg_none_of X G z2, PySem.W.mg_none_of X G z3, PySem.W.mg_none_of X G z4, PySem.W.mg_none_of X G z5, PySem.W.mg_none_of X G z6, PySem.W.mg_none_of X G z7, PySem.W.mg_none_of X G z8, PySem.W.mg_none_of X G z9, PySem.W.mg_none_of X G z10, PySem.W.mg_none_of X G z11, PySem.W.mg_none_of X G z12, PySem.W.mg_none_of X G z13, PySem.W.mg_none_of X G z14, PySem.W.mg_none_of X G z15, PySem.W.mg_none_of X G z16, PySem.W.mg_none_of X G z17, PySem.W.mg_none_of X G z18, PySem.W.mg_none_of X G z19⟩
  have F : Forms K w mg dF := by
    refine ⟨PySem.W.mg_of X G aF, ⟨esF, nF, lF, kF, wF⟩, fun p => ?_⟩
    cases p with
    | inp k => exact ⟨t0, u0, e0, ⟨_, _, _, m0, rfl, rfl, (by show 3 ≤ sizeLine; decide), (.cons ⟨_, rfl⟩ (.cons rfl (.cons rfl .nil)))⟩, ⟨_, _, _, v0, rfl, rfl, (by show 0 ≤ sizeLine; decide), .nil⟩⟩
    | num c => exact ⟨t1, u1, e1, ⟨_, _, _, m1, rfl, rfl, (by show 3 ≤ sizeLine; decide), (.cons ⟨_, rfl⟩ (.cons rfl (.cons ⟨_, rfl⟩ .nil)))⟩, ⟨_, _, _, v1, rfl, rfl, (by show 0 ≤ sizeLine; decide), .nil⟩⟩
    | tr b =>
      cases b with
      | true => exact ⟨t2, u2, e2, ⟨_, _, _, m2, rfl, rfl, (by show 3 ≤ sizeLine; decide), (.cons ⟨_, rfl⟩ (.cons rfl (.cons ⟨_, rfl⟩ .nil)))⟩, ⟨_, _, _, v2, rfl, rfl, (by show 0 ≤ sizeLine; decide), .nil⟩⟩
      | false => exact ⟨t3, u3, e3, ⟨_, _, _, m3, rfl, rfl, (by show 3 ≤ sizeLine; decide), (.cons ⟨_, rfl⟩ (.cons rfl (.cons ⟨_, rfl⟩ .nil)))⟩, ⟨_, _, _, v3, rfl, rfl, (by show 0 ≤ sizeLine; decide), .nil⟩⟩
    | plus c a => exact ⟨t4, u4, e4, ⟨_, _, _, m4, rfl, rfl, (by show 3 ≤ sizeLine; decide), (.cons ⟨_, rfl⟩ (.cons rfl (.cons ⟨_, rfl⟩ .nil)))⟩, ⟨_, _, _, v4, rfl, rfl, (by show 1 ≤ sizeLine; decide), (.cons ⟨_, rfl⟩ .nil)⟩⟩
    | bin w a b =>
      cases w with
      | least => exact ⟨t5, u5, e5, ⟨_, _, _, m5, rfl, rfl, (by show 3 ≤ sizeLine; decide), (.cons ⟨_, rfl⟩ (.cons rfl (.cons ⟨_, rfl⟩ .nil)))⟩, ⟨_, _, _, v5, rfl, rfl, (by show 2 ≤ sizeLine; decide), (.cons ⟨_, rfl⟩ (.cons ⟨_, rfl⟩ .nil))⟩⟩
      | most => exact ⟨t6, u6, e6, ⟨_, _, _, m6, rfl, rfl, (by show 3 ≤ sizeLine; decide), (.cons ⟨_, rfl⟩ (.cons rfl (.cons ⟨_, rfl⟩ .nil)))⟩, ⟨_, _, _, v6, rfl, rfl, (by show 2 ≤ sizeLine; decide), (.cons ⟨_, rfl⟩ (.cons ⟨_, rfl⟩ .nil))⟩⟩
      | atmost => exact ⟨t7, u7, e7, ⟨_, _, _, m7, rfl, rfl, (by show 3 ≤ sizeLine; decide), (.cons ⟨_, rfl⟩ (.cons rfl (.cons ⟨_, rfl⟩ .nil)))⟩, ⟨_, _, _, v7, rfl, rfl, (by show 2 ≤ sizeLine; decide), (.cons ⟨_, rfl⟩ (.cons ⟨_, rfl⟩ .nil))⟩⟩
      | both => exact ⟨t9, u9, e9, ⟨_, _, _, m9, rfl, rfl, (by show 3 ≤ sizeLine; decide), (.cons ⟨_, rfl⟩ (.cons rfl (.cons ⟨_, rfl⟩ .nil)))⟩, ⟨_, _, _, v9, rfl, rfl, (by show 2 ≤ sizeLine; decide), (.cons ⟨_, rfl⟩ (.cons ⟨_, rfl⟩ .nil))⟩⟩
      | either => exact ⟨t10, u10, e10, ⟨_, _, _, m10, rfl, rfl, (by show 3 ≤ sizeLine; decide), (.cons ⟨_, rfl⟩ (.cons rfl (.cons ⟨_, rfl⟩ .nil)))⟩, ⟨_, _, _, v10, rfl, rfl, (by show 2 ≤ sizeLine; decide), (.cons ⟨_, rfl⟩ (.cons ⟨_, rfl⟩ .nil))⟩⟩
    | neg a => exact ⟨t8, u8, e8, ⟨_, _, _, m8, rfl, rfl, (by show 3 ≤ sizeLine; decide), (.cons ⟨_, rfl⟩ (.cons rfl (.cons ⟨_, rfl⟩ .nil)))⟩, ⟨_, _, _, v8, rfl, rfl, (by show 1 ≤ sizeLine; decide), (.cons ⟨_, rfl⟩ .nil)⟩⟩
    | ite p a b => exact ⟨t11, u11, e11, ⟨_, _, _, m11, rfl, rfl, (by show 3 ≤ sizeLine; decide), (.cons ⟨_, rfl⟩ (.cons rfl (.cons rfl .nil)))⟩, ⟨_, _, _, v11, rfl, rfl, (by show 3 ≤ sizeLine; decide), (.cons ⟨_, rfl⟩ (.cons rfl (.cons rfl .nil)))⟩⟩
  refine ⟨PySem.W.fnOf "law" "law" (defArgs s_law) (defBody s_law) (defScope s_law) .none kV63 dc63 pm63 an63 cd63 ct63, fun s v => .of_eq rfl, fun base _ _ => ?_⟩
  have C_ob := ok_open_bounds (P := l.prog) (w := w) (base := base) (K := K) B D_open_bounds
  have C_kn := ok_known (P := l.prog) (w := w) (base := base) (K := K) B D_known
  have C_le := ok_lesser (P := l.prog) (w := w) (base := base) D_lesser
  have C_rt := ok_row_through (K := K) B C_le D_row_through
  have C_ti := ok_tightened B C_kn C_rt D_tightened
  have C_tk := ok_taken (P := l.prog) (w := w) (base := base) B D_taken
  have C_or := ok_open_region B C_ob D_open_region
  have C_ai := ok_answer_in B C_kn D_answer_in
  have C_nw := ok_narrowed B C_ti D_narrowed
  have C_met := ok_met (P := l.prog) (w := w) (base := base) D_met
  have CS := steps_ok (ok_step_in (P := l.prog) (w := w) (base := base) (K := K) D_step_in) (ok_step_num D_step_num) (ok_step_yes D_step_yes) (ok_step_no D_step_no) (ok_step_plus D_step_plus) (ok_step_add D_step_add) (ok_step_two D_step_two) (ok_step_meet C_ai C_met D_step_meet) (ok_step_not hYES hNO hY hN D_step_not) (ok_step_both hYES hNO hY hN D_step_both) (ok_step_either hYES hNO hY hN D_step_either) (ok_step_if D_step_if) (ok_step_pick D_step_pick)
  have C_wk := ok_walked CS STG_ D_walked
  have C_co := ok_cases_of B C_wk C_nw D_cases_of
  have C_gr := ok_grown hFORKS hFK B C_tk D_grown
  have C_pin := ok_point_in (P := l.prog) (w := w) (base := base) (K := K) B D_point_in
  have C_ins := ok_inputs_in B C_pin D_inputs_in
  have C_alw := ok_always B C_or C_gr C_ins C_co D_always
  have C_cell := ok_l_cell (P := l.prog) (w := w) (base := base) B D_l_cell
  have C_flow := ok_l_flow C_cell D_l_flow
  have C_draw := ok_l_draw (P := l.prog) (w := w) (base := base) D_l_draw
  have C_kinds := ok_l_kinds2 (K := K) B C_draw D_l_kinds
  have C_little := ok_l_little C_draw D_l_little
  have C_leaf := ok_l_leaf2 (K := K) B C_draw C_little D_l_leaf
  have C_plan := ok_l_plan B C_draw C_little C_leaf D_l_plan 11
  have C_inner := ok_l_inner (P := l.prog) (w := w) (base := base) (K := K) B D_l_inner
  have C_worth := ok_l_worth B C_inner D_l_worth 20
  have C_whole := ok_is_whole (P := l.prog) (w := w) (base := base) B D_is_whole
  have C_mn := ok_many_numbers (P := l.prog) (base := base) F D_many_numbers
  have C_mp := ok_many_parts (P := l.prog) (base := base) B F D_many_parts
  have C_hf := ok_has_form B F C_whole C_mn C_mp D_has_form
  have C_po := ok_parts_of (K := K) C_mn D_parts_of
  have C_fo := ok_front_of (K := K) C_mn D_front_of
  have C_kn2 := ok_knots C_hf C_po D_knots
  have C_put := ok_put B C_kn2 C_tk C_mp C_fo D_put
  have C_pl := ok_plain_inputs (P := l.prog) (w := w) (base := base) (K := K) B D_plain_inputs
  have C_metby := ok_met_by B C_put C_pl D_met_by
  have C_meets := ok_meets B C_alw C_metby D_meets
  have C_rf := ok_refuse_forms B C_hf D_refuse_forms
  have C_ri := ok_refuse_inputs (P := l.prog) (w := w) (base := base) B D_refuse_inputs
  have C_pf := ok_parts_fit (P := l.prog) (base := base) F D_parts_fit
  have C_ok := ok_own_kind (P := l.prog) (base := base) F D_own_kind
  have C_ko := ok_kind_of B C_kn2 C_rf C_ri C_tk C_mp C_pf C_ok D_kind_of
  have C_it := ok_is_thing (P := l.prog) (w := w) (base := base) (K := K) B D_is_thing
  have C_ao := ok_all_of (P := l.prog) (w := w) (base := base) (K := K) B D_all_of
  have C_isat := ok_is_at B C_it C_ao D_is_at
  have C_wof := ok_wish_of B C_it C_ao C_isat D_wish_of
  have C_answ := ok_l_answer B C_draw D_l_answer
  have C_unl := ok_l_unlike B C_draw D_l_unlike
  have C_exa := ok_l_examples B C_draw C_answ C_unl C_worth D_l_examples
  have C_lets := ok_l_lets B C_answ C_unl C_worth D_l_lets
  have C_right := ok_l_right41 B C_draw C_wof C_ko C_meets C_worth C_lets D_l_right
  exact ok_law B C_flow C_draw C_kinds C_plan C_unl C_exa C_right (fun_mk l63 c63 k63)

end Lm
open PySem PySem.W PyProof.Rows
set_option maxRecDepth 100000 in
set_option maxHeartbeats 0 in
theorem PySem.Challenge.cw_leastmaker_k41_examples_as_wishes_holds : PySem.Challenge.rw_leastmaker_k41_examples_as_wishes.Holds := by
  w_on; o_law; k_head; (case hw => w_witness2)
  k_fill
  refine Lm.walk_ofG (l := PySem.Challenge.rw_leastmaker_k41_examples_as_wishes) (n := 63) (k := 25) (x := "_law_script") (sp := fun w => Lm.spLaw _) rfl (by decide) rfl ⟨rfl, by decide, by decide⟩ (fun w h Y => PySem.W.kIn_of Y) ?F (fun _ _ a ns hl hS => ⟨a, ns, rfl, hS, hl, fun _ => rfl⟩)
  case F =>
    intro w mg fa h KX G hmg
    refine' Lm.all_mk KX G hmg ?a0 ?l0 ?c0 ?k0 ?a1 ?l1 ?c1 ?k1 ?a2 ?l2 ?c2 ?k2 ?a3 ?l3 ?c3 ?k3 ?a4 ?l4 ?c4 ?k4 ?a5 ?l5 ?c5 ?k5 ?a6 ?l6 ?c6 ?k6 ?a7 ?l7 ?c7 ?k7 ?a8 ?l8 ?c8 ?k8 ?a9 ?l9 ?c9 ?k9 ?a10 ?l10 ?c10 ?k10 ?a11 ?l11 ?c11 ?k11 ?a12 ?l12 ?c12 ?k12 ?a13 ?l13 ?c13 ?k13 ?a14 ?l14 ?c14 ?k14 ?a15 ?l15 ?c15 ?k15 ?a16 ?l16 ?c16 ?k16 ?a17 ?l17 ?c17 ?k17 ?a18 ?l18 ?c18 ?k18 ?a19 ?l19 ?c19 ?k19 ?a20 ?l20 ?c20 ?k20 ?a21 ?l21 ?c21 ?k21 ?a22 ?l22 ?c22 ?k22 ?a23 ?l23 ?c23 ?k23 ?a24 ?l24 ?c24 ?k24 ?a25 ?l25 ?c25 ?k25 ?a26 ?l26 ?c26 ?k26 ?a27 ?l27 ?c27 ?k27 ?a28 ?l28 ?c28 ?k28 ?a29 ?l29 ?c29 ?k29 ?a30 ?l30 ?c30 ?k30 ?a31 ?l31 ?c31 ?k31 ?a32 ?l32 ?c32 ?k32 ?a33 ?l33 ?c33 ?k33 ?a34 ?l34 ?c34 ?k34 ?a35 ?l35 ?c35 ?k35 ?a36 ?l36 ?c36 ?k36 ?a37 ?l37 ?c37 ?k37 ?a38 ?l38 ?c38 ?k38 ?a39 ?l39 ?c39 ?k39 ?a40 ?l40 ?c40 ?k40 ?a41 ?l41 ?c41 ?k41 ?a42 ?l42 ?c42 ?k42 ?a43 ?l43 ?c43 ?k43 ?a44 ?l44 ?c44 ?k44 ?a45 ?l45 ?c45 ?k45 ?a46 ?l46 ?c46 ?k46 ?a47 ?l47 ?c47 ?k47 ?a48 ?l48 ?c48 ?k48 ?a49 ?l49 ?c49 ?k49 ?a50 ?l50 ?c50 ?k50 ?a51 ?l51 ?c51 ?k51 ?a52 ?l52 ?c52 ?k52 ?a53 ?l53 ?c53 ?k53 ?a54 ?l54 ?c54 ?k54 ?a55 ?l55 ?c55 ?k55 ?a56 ?l56 ?c56 ?k56 ?a57 ?l57 ?c57 ?k57 ?a58 ?l58 ?c58 ?k58 ?a59 ?l59 ?c59 ?k59 ?a60 ?l60 ?c60 ?k60 ?a61 ?l61 ?c61 ?k61 ?a62 ?l62 ?c62 ?k62 ?a63 ?l63 ?c63 ?k63 ?z0 ?z1 ?z2 ?z3 ?z4 ?z5 ?z6 ?z7 ?z8 ?z9 ?z10 ?z11 ?z12 ?z13 ?z14 ?z15 ?z16 ?z17 ?z18 ?z19 ?aF ?lF ?kF ?wF ?e0 ?m0 ?v0 ?e1 ?m1 ?v1 ?e2 ?m2 ?v2 ?e3 ?m3 ?v3 ?e4 ?m4 ?v4 ?e5 ?m5 ?v5 ?e6 ?m6 ?v6 ?e7 ?m7 ?v7 ?e8 ?m8 ?v8 ?e9 ?m9 ?v9 ?e10 ?m10 ?v10 ?e11 ?m11 ?v11 ?aSt ?lSt ?kSt ?st0 ?st1 ?st2 ?st3 ?st4 ?st5 ?st6 ?st7 ?st8 ?st9 ?st10 ?st11 ?st12 ?st13 ?st14 ?aFKa ?aFKl0 ?aYSa ?aYSl0 ?aNOa ?aNOl0
    (case a0 => k_is)
    (case l0 => k_is)
    (case c0 => k_is)
    (case k0 => k_is)
    (case a1 => k_is)
    (case l1 => k_is)
    (case c1 => k_is)
    (case k1 => k_is)
    (case a2 => k_is)
    (case l2 => k_is)
    (case c2 => k_is)
    (case k2 => k_is)
    (case a3 => k_is)
    (case l3 => k_is)
    (case c3 => k_is)
    (case k3 => k_is)
    (case a4 => k_is)
    (case l4 => k_is)
    (case c4 => k_is)
    (case k4 => k_is)
    (case a5 => k_is)
    (case l5 => k_is)
    (case c5 => k_is)
    (case k5 => k_is)
    (case a6 => k_is)
    (case l6 => k_is)
    (case c6 => k_is)
    (case k6 => k_is)
    (case a7 => k_is)
    (case l7 => k_is)
    (case c7 => k_is)
    (case k7 => k_is)
    (case a8 => k_is)
    (case l8 => k_is)
    (case c8 => k_is)
    (case k8 => k_is)
    (case a9 => k_is)
    (case l9 => k_is)
    (case c9 => k_is)
    (case k9 => k_is)
    (case a10 => k_is)
    (case l10 => k_is)
    (case c10 => k_is)
    (case k10 => k_is)
    (case a11 => k_is)
    (case l11 => k_is)
    (case c11 => k_is)
    (case k11 => k_is)
    (case a12 => k_is)
    (case l12 => k_is)
    (case c12 => k_is)
    (case k12 => k_is)
    (case a13 => k_is)
    (case l13 => k_is)
    (case c13 => k_is)
    (case k13 => k_is)
    (case a14 => k_is)
    (case l14 => k_is)
    (case c14 => k_is)
    (case k14 => k_is)
    (case a15 => k_is)
    (case l15 => k_is)
    (case c15 => k_is)
    (case k15 => k_is)
    (case a16 => k_is)
    (case l16 => k_is)
    (case c16 => k_is)
    (case k16 => k_is)
    (case a17 => k_is)
    (case l17 => k_is)
    (case c17 => k_is)
    (case k17 => k_is)
    (case a18 => k_is)
    (case l18 => k_is)
    (case c18 => k_is)
    (case k18 => k_is)
    (case a19 => k_is)
    (case l19 => k_is)
    (case c19 => k_is)
    (case k19 => k_is)
    (case a20 => k_is)
    (case l20 => k_is)
    (case c20 => k_is)
    (case k20 => k_is)
    (case a21 => k_is)
    (case l21 => k_is)
    (case c21 => k_is)
    (case k21 => k_is)
    (case a22 => k_is)
    (case l22 => k_is)
    (case c22 => k_is)
    (case k22 => k_is)
    (case a23 => k_is)
    (case l23 => k_is)
    (case c23 => k_is)
    (case k23 => k_is)
    (case a24 => k_is)
    (case l24 => k_is)
    (case c24 => k_is)
    (case k24 => k_is)
    (case a25 => k_is)
    (case l25 => k_is)
    (case c25 => k_is)
    (case k25 => k_is)
    (case a26 => k_is)
    (case l26 => k_is)
    (case c26 => k_is)
    (case k26 => k_is)
    (case a27 => k_is)
    (case l27 => k_is)
    (case c27 => k_is)
    (case k27 => k_is)
    (case a28 => k_is)
    (case l28 => k_is)
    (case c28 => k_is)
    (case k28 => k_is)
    (case a29 => k_is)
    (case l29 => k_is)
    (case c29 => k_is)
    (case k29 => k_is)
    (case a30 => k_is)
    (case l30 => k_is)
    (case c30 => k_is)
    (case k30 => k_is)
    (case a31 => k_is)
    (case l31 => k_is)
    (case c31 => k_is)
    (case k31 => k_is)
    (case a32 => k_is)
    (case l32 => k_is)
    (case c32 => k_is)
    (case k32 => k_is)
    (case a33 => k_is)
    (case l33 => k_is)
    (case c33 => k_is)
    (case k33 => k_is)
    (case a34 => k_is)
    (case l34 => k_is)
    (case c34 => k_is)
    (case k34 => k_is)
    (case a35 => k_is)
    (case l35 => k_is)
    (case c35 => k_is)
    (case k35 => k_is)
    (case a36 => k_is)
    (case l36 => k_is)
    (case c36 => k_is)
    (case k36 => k_is)
    (case a37 => k_is)
    (case l37 => k_is)
    (case c37 => k_is)
    (case k37 => k_is)
    (case a38 => k_is)
    (case l38 => k_is)
    (case c38 => k_is)
    (case k38 => k_is)
    (case a39 => k_is)
    (case l39 => k_is)
    (case c39 => k_is)
    (case k39 => k_is)
    (case a40 => k_is)
    (case l40 => k_is)
    (case c40 => k_is)
    (case k40 => k_is)
    (case a41 => k_is)
    (case l41 => k_is)
    (case c41 => k_is)
    (case k41 => k_is)
    (case a42 => k_is)
    (case l42 => k_is)
    (case c42 => k_is)
    (case k42 => k_is)
    (case a43 => k_is)
    (case l43 => k_is)
    (case c43 => k_is)
    (case k43 => k_is)
    (case a44 => k_is)
    (case l44 => k_is)
    (case c44 => k_is)
    (case k44 => k_is)
    (case a45 => k_is)
    (case l45 => k_is)
    (case c45 => k_is)
    (case k45 => k_is)
    (case a46 => k_is)
    (case l46 => k_is)
    (case c46 => k_is)
    (case k46 => k_is)
    (case a47 => k_is)
    (case l47 => k_is)
    (case c47 => k_is)
    (case k47 => k_is)
    (case a48 => k_is)
    (case l48 => k_is)
    (case c48 => k_is)
    (case k48 => k_is)
    (case a49 => k_is)
    (case l49 => k_is)
    (case c49 => k_is)
    (case k49 => k_is)
    (case a50 => k_is)
    (case l50 => k_is)
    (case c50 => k_is)
    (case k50 => k_is)
    (case a51 => k_is)
    (case l51 => k_is)
    (case c51 => k_is)
    (case k51 => k_is)
    (case a52 => k_is)
    (case l52 => k_is)
    (case c52 => k_is)
    (case k52 => k_is)
    (case a53 => k_is)
    (case l53 => k_is)
    (case c53 => k_is)
    (case k53 => k_is)
    (case a54 => k_is)
    (case l54 => k_is)
    (case c54 => k_is)
    (case k54 => k_is)
    (case a55 => k_is)
    (case l55 => k_is)
    (case c55 => k_is)
    (case k55 => k_is)
    (case a56 => k_is)
    (case l56 => k_is)
    (case c56 => k_is)
    (case k56 => k_is)
    (case a57 => k_is)
    (case l57 => k_is)
    (case c57 => k_is)
    (case k57 => k_is)
    (case a58 => k_is)
    (case l58 => k_is)
    (case c58 => k_is)
    (case k58 => k_is)
    (case a59 => k_is)
    (case l59 => k_is)
    (case c59 => k_is)
    (case k59 => k_is)
    (case a60 => k_is)
    (case l60 => k_is)
    (case c60 => k_is)
    (case k60 => k_is)
    (case a61 => k_is)
    (case l61 => k_is)
    (case c61 => k_is)
    (case k61 => k_is)
    (case a62 => k_is)
    (case l62 => k_is)
    (case c62 => k_is)
    (case k62 => k_is)
    (case a63 => k_is)
    (case l63 => k_is)
    (case c63 => k_is)
    (case k63 => k_is)
    (case z0 => k_is)
    (case z1 => k_is)
    (case z2 => k_is)
    (case z3 => k_is)
    (case z4 => k_is)
    (case z5 => k_is)
    (case z6 => k_is)
    (case z7 => k_is)
    (case z8 => k_is)
    (case z9 => k_is)
    (case z10 => k_is)
    (case z11 => k_is)
    (case z12 => k_is)
    (case z13 => k_is)
    (case z14 => k_is)
    (case z15 => k_is)
    (case z16 => k_is)
    (case z17 => k_is)
    (case z18 => k_is)
    (case z19 => k_is)
    (case aF => k_is)
    (case lF => k_is)
    (case kF => k_keys)
    (case wF => first | rfl | decide | k_is)
    (case e0 => k_is)
    (case m0 => k_is)
    (case v0 => k_is)
    (case e1 => k_is)
    (case m1 => k_is)
    (case v1 => k_is)
    (case e2 => k_is)
    (case m2 => k_is)
    (case v2 => k_is)
    (case e3 => k_is)
    (case m3 => k_is)
    (case v3 => k_is)
    (case e4 => k_is)
    (case m4 => k_is)
    (case v4 => k_is)
    (case e5 => k_is)
    (case m5 => k_is)
    (case v5 => k_is)
    (case e6 => k_is)
    (case m6 => k_is)
    (case v6 => k_is)
    (case e7 => k_is)
    (case m7 => k_is)
    (case v7 => k_is)
    (case e8 => k_is)
    (case m8 => k_is)
    (case v8 => k_is)
    (case e9 => k_is)
    (case m9 => k_is)
    (case v9 => k_is)
    (case e10 => k_is)
    (case m10 => k_is)
    (case v10 => k_is)
    (case e11 => k_is)
    (case m11 => k_is)
    (case v11 => k_is)
    (case aSt => k_is)
    (case lSt => k_is)
    (case kSt => k_keys)
    (case st0 => k_is)
    (case st1 => k_is)
    (case st2 => k_is)
    (case st3 => k_is)
    (case st4 => k_is)
    (case st5 => k_is)
    (case st6 => k_is)
    (case st7 => k_is)
    (case st8 => k_is)
    (case st9 => k_is)
    (case st10 => k_is)
    (case st11 => k_is)
    (case st12 => k_is)
    (case st13 => k_is)
    (case st14 => k_is)
    (case aFKa => k_is)
    (case aFKl0 => k_is)
    (case aYSa => k_is)
    (case aYSl0 => k_is)
    (case aNOa => k_is)
    (case aNOl0 => k_is)

