import PyProof.Rows.All
import Wide.All
import OpenK.AllK
import Wide.FinOn
import HandS.ForMost
import HandS.IsInst
import HandS.TupAny
import HandS.Flow
import HandS.Style
import HandS.RevRange
import HandS.Conv
import HandS.More
import HandS.Zip
import KE.KDictZip
import KE.KDictList
import KE.KRevSl
import HandS.ForExc
import HandS.ExcInit
import HandS.ExcField
import HandS.HotCalls
import HandS.SetFor
import KE.KExcIs
import KE.GoesEnum
import KE.GoesMore
import HandS.Star
import HandS.ExcOwn
import HandS.WordsExc
import PyProof.RulesMatch
import HandS.StrMore
import HandS.Text
import KE.IntTextLaws
import KE.KIntText
import PyProof.StrLawsIn
import PyProof.StrLawsChain
import PyProof.Rows.StrItems
import HandS.Walk
import HandS.Codes
import HandS.Defaults
import HandS.Deep
import KE.DatumOrd
import KE.DataEq
import HandS.RaiseMore
import PySem.Challenge.RW_leastmaker_k18_called_by_names
set_option Elab.async false
set_option linter.all false
set_option maxRecDepth 100000
set_option maxHeartbeats 2000000
namespace LmR
open PySem PySem.Spec PyProof.Rows L2
/-! ### t[::-1] of a tuple -/
section
variable {prog : Program} {w : World} {A : Around} {E : Value → Shared → Prop} {s : Shared}
theorem pick_rev (xs : Array Value) : ((List.range xs.size).filterMap fun (m : Nat) => xs[(((xs.size : Int) - 1) + (m : Int) * (-1)).toNat]?).toArray = xs.toList.reverse.toArray := by
  congr 1
  have e : ∀ n, n ≤ xs.size → ((List.range n).filterMap fun (m : Nat) => xs[(((xs.size : Int) - 1) + (m : Int) * (-1)).toNat]?) = (xs.toList.reverse).take n := by
    intro n
    induction n with
    | zero => intro _; rfl
    | succ n ih =>
      intro h
      rw [List.range_succ, List.filterMap_append, ih (by omega), List.take_add_one]
      congr 1
      have e1 : (((xs.size : Int) - 1) + (n : Int) * (-1)).toNat = xs.size - 1 - n := by omega
      have e2 : xs.toList.reverse[n]? = xs[xs.size - 1 - n]? := by
        rw [List.getElem?_reverse (by rw [Array.length_toList]; omega), Array.length_toList, Array.getElem?_toList]
      rw [e2]
      have hlt : xs.size - 1 - n < xs.size := by omega
      simp only [List.filterMap_cons, List.filterMap_nil]
      rw [e1, Array.getElem?_eq_getElem hlt]
      rfl
  rw [e xs.size (Nat.le_refl _)]
  exact List.take_of_length_le (by rw [List.length_reverse, Array.length_toList]; exact Nat.le_refl _)
theorem rev_applied {sl : Addr} {vl vu vs : Value} {n : Nat} {Q : Int × Int × Nat → Shared → Prop} (hs : s.heap.IsSliceOf sl vl vu vs) (pl : IsPart vl none) (pu : IsPart vu none) (ps : IsPart vs (some (-1)))
    (h : Q ((n : Int) - 1, -1, n) s) : wpAny (model prog w) A (Builtin.Slice.sliceApplied (.ref sl) (pure (n : Int))) Q E s := by
  obtain ⟨os, hos, hcs, hds⟩ := id hs
  unfold Builtin.Slice.sliceApplied Builtin.Slice.sliceFields
  refine wpAny_bind (wpAny_bind (wpAny_field hos hds (x := vl) rfl (wpAny_bind (wpAny_field hos hds (x := vu) rfl (wpAny_bind (wpAny_field hos hds (x := vs) rfl (wpAny_pure ?_)))))))
  refine wpAny_bind (HT.slicePart_ ps ?_)
  show wpAny _ _ (if ((-1 : Int) == 0) = true then _ else _) _ _ s
  rw [if_neg (by decide)]
  refine wpAny_bind (HT.slicePart_ pl (wpAny_bind (HT.slicePart_ pu (wpAny_bind (wpAny_pure ?_)))))
  have e : Builtin.Slice.sliceAdjust none none (-1) (n : Int) = ((n : Int) - 1, -1) := by
    simp [Builtin.Slice.sliceAdjust]
  have e2 : Builtin.Slice.slicePlaces ((n : Int) - 1) (-1) (-1) = n := by
    unfold Builtin.Slice.slicePlaces
    simp
    omega
  show wpAny _ _ (match Builtin.Slice.sliceAdjust none none (-1) (n : Int) with | (lo, hi) => pure (lo, (-1 : Int), Builtin.Slice.slicePlaces lo hi (-1))) _ _ s
  rw [e]
  show wpAny _ _ (pure ((n : Int) - 1, (-1 : Int), Builtin.Slice.slicePlaces ((n : Int) - 1) (-1) (-1))) _ _ s
  rw [e2]
  exact wpAny_pure h
theorem getItem_tuple_rev {t sl : Addr} {items : Array Value} {vl vu vs : Value} {Q : Value → Shared → Prop} (ht : IsTup s.heap t items) (hs : s.heap.IsSliceOf sl vl vu vs) (pl : IsPart vl none) (pu : IsPart vu none) (ps : IsPart vs (some (-1)))
    (h : Q (.ref s.heap.objs.size) { s with heap := s.heap.push { cls := .type "tuple", data := .seq items.toList.reverse.toArray } })
    (hsz : items.size ≤ sizeLine) : wpAny (model prog w) A (getItem (.ref t) (.ref sl)) Q E s := by
  have htake : sizeOk (.seq items.toList.reverse.toArray) := by
    show (items.toList.reverse).toArray.size ≤ sizeLine
    rw [List.size_toArray, List.length_reverse, Array.length_toList]
    omega
  obtain ⟨os, hos, hcs, hds⟩ := id hs
  have hTs : s.TypeIs (.ref sl) "slice" := ⟨os, hos, hcs⟩
  unfold getItem
  try with_reducible refine wpAny_holding ?_
  first | refine wpAny_bind (wpAny_pure ?_) | skip
  refine wpAny_bind (wpAny_sequenceKey ht.typeIs (by decide) ?_)
  refine wpAny_bind (wpAny_callSpecial?_slot (name := Str.ofString "__getitem__") ht.typeIs PyProof.Rows.slot_tuple_getitem
    (wpAny_call_entry PyProof.Rows.slot_tuple_getitem ht.typeIs PyProof.Rows.entry_tuple_getitem ?_ (PyProof.Rows.args_tuple_getitem _ _)))
  show wpAny _ _ (Builtin.Tuple.tupleItemsOf (.ref t) >>= _) _ _ s
  refine wpAny_bind (PyProof.Rows.tupleItemsOf_ ht ?_)
  refine wpAny_bind (wpAny_typeOf hTs ?_)
  rw [if_pos (by decide)]
  refine wpAny_bind (rev_applied hs pl pu ps ?_)
  have hno : ¬ (((items.size : Int) - 1 == 0 && (-1 : Int) == 1 && items.size == items.size) = true) := by
    intro q
    rw [Bool.and_eq_true, Bool.and_eq_true] at q
    exact absurd q.1.2 (by decide)
  show wpAny _ _ (if ((items.size : Int) - 1 == 0 && (-1 : Int) == 1 && items.size == items.size) = true then _ else _) _ _ s
  rw [if_neg hno, pick_rev]
  first
    | exact wpAny_bind (m := Builtin.Tuple.tupleExact _) (wpAny_newObj_type (wpAny_pure ⟨_, rfl, wpAny_pure h⟩) htake)
    | exact wpAny_bind (m := Builtin.Tuple.tupleExact _) (wpAny_newObj_type (wpAny_bind (wpAny_pure (wpAny_pure ⟨_, rfl, wpAny_pure h⟩))) htake)
    | exact wpAny_bind (wpAny_bind (m := Builtin.Tuple.tupleExact _) (wpAny_newObj_type (wpAny_pure (wpAny_pure ⟨_, rfl, wpAny_pure h⟩)) htake))
    | exact wpAny_bind (wpAny_bind (m := Builtin.Tuple.tupleExact _) (wpAny_newObj_type (wpAny_pure ⟨_, rfl, wpAny_pure h⟩) htake))
end
def tRevT (K : PySem.W.Frag) (te : TE) : TE := fun σ H Q => te σ H fun x H1 => ∃ a xs, x = .ref a ∧ SqT K H1 a xs ∧ ∀ p, H1 p = none → Q (.ref p) (upd H1 p (.tup xs.reverse))
section
variable {X : Cx}
theorem pe_revT {e : Expr} {te : TE} {k : Nat} {p1 p2 p3 pos : Pos} (he : PE X e te) : PE X (.Subscript e (.Slice none none (some (.UnaryOp .USub (.Constant (.int 1) k p1) p2)) p3) pos) (tRevT X.K te) := by
  refine ⟨fun pins s σ H Q I h => ?_⟩
  refine Subscript_ (thn (he.run pins s σ H _ I h) fun v s1 ⟨x, H1, I1, r1, q1⟩ => ?_)
  obtain ⟨a, xs, ex, hx, q⟩ := q1
  subst ex
  cases r1
  have hst : PO X (some (.UnaryOp .USub (.Constant (.int 1) k p1) p2)) (tPart (tUn (rU fun i => .int (-i)) (tC (.int 1)))) := po_some (pe_un un_neg pe_int)
  refine wpAny_Slice (thn (po_none.run pins s1 σ H1 (fun o H2 => o = none ∧ H2 = H1) I1 ⟨rfl, rfl⟩) fun vl s2 ⟨l, H2, I2, pl, el, e2⟩ => ?_)
  subst el e2
  refine thn (po_none.run pins s2 σ H2 (fun o H3 => o = none ∧ H3 = H2) I2 ⟨rfl, rfl⟩) fun vu s3 ⟨u, H3, I3, pu, eu, e3⟩ => ?_
  subst eu e3
  refine thn (hst.run pins s3 σ H3 (fun o H4 => o = some (-1) ∧ H4 = H3) I3 ⟨1, rfl, -1, rfl, rfl, rfl⟩) fun vs s4 ⟨o, H4, I4, ps, eo, e4⟩ => ?_
  subst eo e4
  have I5 : Inv X pins σ H4 { s4 with heap := s4.heap.push { cls := .type "slice", data := .fields #[vl, vu, vs] } } := I4.kept (t' := s4.toks) fun b ob q => Heap.get?_push_of_some _ q
  obtain ⟨its, r, ht, hz⟩ := I5.tuple hx
  have hlen := r.length
  show wpAny (model X.prog X.w) X.A (subscriptTail e (.Slice none none (some (.UnaryOp .USub (.Constant (.int 1) k p1) p2)) p3) (.ref a) (.ref s4.heap.objs.size)) (EP X pins σ Q) X.xe { s4 with heap := s4.heap.push { cls := .type "slice", data := .fields #[vl, vu, vs] } }
  refine tail_any (ops := [.ref a, .ref s4.heap.objs.size]) ht.typeIs (PyProof.Rows.slot_tuple_getitem.lookup) ?_ (by with_unfolding_all rfl)
  refine getItem_tuple_rev ht (Heap.IsSliceOf.new _ vl vu vs) pl pu ps ?_ (by rw [List.size_toArray]; omega)
  refine ⟨.ref _, _, I5.laid (t' := s4.toks) (o := .tup xs.reverse) (fun b ob q => Heap.get?_push_of_some _ q) (Nat.le_refl _) ?_, rfl, q _ (I5.hok.fresh (Nat.le_refl _))⟩
  exact ⟨by rw [List.length_reverse]; exact hz, its.reverse, r.reverse, ⟨_, Heap.get?_push_size _ rfl, rfl, _, rfl⟩⟩
end
/-! ### l.extend(t), t a tuple -/
theorem extend_tuple (l : Addr) (items : Array Value) (n : Nat) (b : Addr) (items2 : Array Value) (n2 : Nat) (dd : Option Addr) (sl : Array (Option Value)) (hs0 : ¬(!items.isEmpty && Builtin.List.listTooLong (items.size + items2.size)) = true) (hs1 : items.size ≤ sizeLine) (hs2 : items.size + items2.size ≤ sizeLine + 1 := by seq_fits) :
    Meets (Builtin.«list.extend» ⟨[.ref l, .ref b], []⟩) (fun _ R s => s.heap.get? l = some { cls := .type "list", dict := none, data := .seq items n, slots := #[] } ∧ s.heap.get? b = some { cls := .type "tuple", dict := dd, data := .seq items2 n2, slots := sl } ∧ R (.ok (.ret Value.none)) { s with heap := s.heap.update l (Obj.mapSeq fun x => x ++ items2), toks := s.toks }) :=
  .of_wp fun prog w A R s h => by
    obtain ⟨hp, g, d, tk, os⟩ := s; obtain ⟨hl, hb, h⟩ := h; have f1 := AutoSeq1.idx_int; have f2 := AutoSeq1.sub_tuple_tuple; have f3 := AutoSeq1.sub_list_list; have f4 := AutoSeq1.sub_tuple_list; have f5 := AutoSeq1.sub_list_tuple;
    have hz' : (items ++ items2).size ≤ sizeLine + 1 := by rw [Array.size_append]; exact hs2
    wp_walk using (wpAny_updateSeq hl rfl (hz := hs1) (_hz' := hz')), wpAny_loadPart' hl, wpAny_loadPart' hb; exact ⟨_, rfl, h⟩
def rExtT (K : PySem.W.Frag) : V → List V → Hp → VK → Prop := fun x vs H Q => ∃ l b xs zs, x = .ref l ∧ vs = [.ref b] ∧ H l = some (.lst xs) ∧ SqT K H b zs ∧ xs.length + zs.length ≤ sizeLine ∧ Q .non (upd H l (.lst (xs ++ zs)))
theorem mt_extendT {X : Cx} : MtM X "list.extend" (rExtT X.K) := by
  intro pins s σ H x vs v us Q I rx rv h
  obtain ⟨l, b, xs, zs, rfl, rfl, hH, hB, hz, q⟩ := h
  cases rx
  obtain ⟨u, rfl, ru⟩ := rv.one
  cases ru
  obtain ⟨z, its, n, r, hl, e⟩ := I.lstM hH
  obtain ⟨its2, r2, ⟨⟨cls, dd, dt, sl⟩, ho, hc, n2, hd⟩, _⟩ := I.tuple hB
  simp only at hc hd
  subst hc hd
  have hl2 := r2.length
  have hsz : its.toArray.size + its2.toArray.size ≤ sizeLine := by rw [List.size_toArray, List.size_toArray]; omega
  have hlong : ¬ (!its.toArray.isEmpty && Builtin.List.listTooLong (its.toArray.size + its2.toArray.size)) = true := by
    rw [notLongL hsz, Bool.and_false]
    exact Bool.false_ne_true
  refine call_meets F.slot_list_extend ⟨_, e, rfl⟩ F.entry_list_extend (F.args_list_extend_2 _ _)
    (extend_tuple l its.toArray n b its2.toArray n2 dd sl hlong (by rw [List.size_toArray]; omega) (by omega)) ⟨e, ho, ?_⟩
  refine ⟨.non, _, I.lset (its' := its ++ its2) hH e (by simp) (r.append r2) ?_, rfl, q⟩
  rw [List.length_append]
  omega
end LmR

set_option Elab.async false
set_option linter.all false
set_option maxRecDepth 100000
set_option maxHeartbeats 2000000
namespace LmR
open PySem PySem.Spec PyProof.Rows L2 RZ
theorem zip_no_len : typeLookup (.type "zip") "__len__" = pure none := by rw [typeLookup_type, builtinLookup_eq_fast]; kernel_rfl
theorem zip_no_hint : typeLookup (.type "zip") "__length_hint__" = pure none := by rw [typeLookup_type, builtinLookup_eq_fast]; kernel_rfl
section
variable {prog : Program} {w : World} {A : Around} {E : Value → Shared → Prop} {s : Shared}
theorem zipT_item_held {z TI TO T i1 i2 l1 l2 : Addr} {f : Bool} {oT : Obj} {k1 k2 : Nat} {xs ys : Array Value} {x y : Value} {Q : Value → Shared → Prop} (D : ZipApart z TI TO i1 i2 l1 l2)
    (hz : IsZipHeld s.heap z TI TO T f) (hT : s.heap.get? T = some oT) (hTI : IsPair s.heap TI (.ref i1) (.ref i2))
    (h1 : s.heap.IsTupleIter i1 l1 k1) (h2 : s.heap.IsTupleIter i2 l2 k2) (hl1 : s.heap.IsTuple l1 xs) (hl2 : s.heap.IsTuple l2 ys) (hx : xs[k1]? = some x) (hy : ys[k2]? = some y)
    (hQ : ∀ h', IsZipHeld h' z TI TO T true → h'.IsTupleIter i1 l1 (k1 + 1) → h'.IsTupleIter i2 l2 (k2 + 1) → IsPair h' s.heap.objs.size x y → h'.objs.size = s.heap.objs.size + 1 →
      (∀ c o, c ≠ z → c ≠ i1 → c ≠ i2 → s.heap.get? c = some o → h'.get? c = some o) → Q (.ref s.heap.objs.size) { s with heap := h' }) :
    wpAny (model prog w) A (Builtin.«zip.__next__» ⟨[.ref z], []⟩) (fun fin s' => ∃ v, fin = .done (.ret v) ∧ Q v s') E s := by
  show wpAny _ _ (field (.ref z) 2 >>= _) _ _ _
  refine wpAny_bind (wpAny_field hz rfl (x := .bool false) rfl ?_)
  show wpAny _ _ (field (.ref z) 3 >>= _) _ _ _
  refine wpAny_bind (wpAny_field hz rfl (x := .ref TI) rfl ?_)
  refine wpAny_bind (wpAny_seqItems hTI rfl ?_)
  show wpAny _ _ (Builtin.SmallTypes.ownedTupleIsFree (.ref z) >>= _) _ _ _
  refine wpAny_bind (wpAny_tupleHeld_zip hz hT fun h₁ hz₁ hs₁ => ?_)
  simp only [Bool.false_eq_true, if_false]
  refine wpAny_bind ?_
  rw [← Array.forIn_toList]
  simp only [List.forIn_cons, List.forIn_nil]
  refine wpAny_bind (wpAny_bind (wpAny_holding ?_))
  show wpAny _ _ (Builtin.SmallTypes.nextOf (.ref i1) >>= _) _ _ _
  refine wpAny_bind (nextOf_tuple_item (s := { s with heap := h₁ }) (h1.extBut hs₁.extBut D.i1z) (hl1.extBut hs₁.extBut D.l1z) hx fun h₂ h1₂ hs₂ => wpAny_pure ?_)
  refine wpAny_pure ?_
  refine wpAny_bind (wpAny_bind (wpAny_holding ?_))
  show wpAny _ _ (Builtin.SmallTypes.nextOf (.ref i2) >>= _) _ _ _
  refine wpAny_bind (nextOf_tuple_item (s := { s with heap := h₂ }) ((h2.extBut hs₁.extBut D.i2z).extBut hs₂.extBut D.i12.symm) ((hl2.extBut hs₁.extBut D.l2z).extBut hs₂.extBut D.l2i1) hy fun h₃ h2₃ hs₃ => wpAny_pure ?_)
  refine wpAny_pure (wpAny_pure ?_)
  show wpAny _ _ (newTuple [x, y] >>= _) _ _ _
  refine wpAny_bind (wpAny_newTuple ?_)
  have hsz : h₃.objs.size = s.heap.objs.size := by rw [hs₃.1, hs₂.1, hs₁.1]
  have hz₃ : IsZipHeld h₃ z TI TO T true := hs₃.extBut _ _ D.i2z.symm (hs₂.extBut _ _ D.i1z.symm hz₁)
  have hk : ∀ c o, c ≠ z → c ≠ i1 → c ≠ i2 → s.heap.get? c = some o → h₃.get? c = some o := fun c o c1 c2 c3 e => hs₃.extBut _ _ c3 (hs₂.extBut _ _ c2 (hs₁.extBut _ _ c1 e))
  have h1₃ : h₃.IsTupleIter i1 l1 (k1 + 1) := h1₂.extBut hs₃.extBut D.i12
  refine wpAny_pure ⟨_, rfl, ?_⟩
  show Q (.ref h₃.objs.size) _
  have hp : IsPair (h₃.push { cls := .type "tuple", data := .seq #[x, y] }) h₃.objs.size x y := Heap.get?_push_size _ rfl
  have hz4 : (h₃.push { cls := .type "tuple", data := .seq #[x, y] }).objs.size = h₃.objs.size + 1 := Heap.size_push ..
  rw [hsz] at hp hz4 ⊢
  exact hQ _ (Heap.get?_push_of_some _ hz₃) (h1₃.at fun o e => Heap.get?_push_of_some _ e) (h2₃.at fun o e => Heap.get?_push_of_some _ e) hp hz4 fun c o c1 c2 c3 e => Heap.get?_push_of_some _ (hk c o c1 c2 c3 e)
theorem zipT_end_held {z TI TO T i1 i2 l1 l2 : Addr} {f : Bool} {oT : Obj} {k1 k2 : Nat} {xs ys : Array Value} {Q : Fin → Shared → Prop} (hh : A.handled = none) (D : ZipApart z TI TO i1 i2 l1 l2)
    (hz : IsZipHeld s.heap z TI TO T f) (hT : s.heap.get? T = some oT) (hTI : IsPair s.heap TI (.ref i1) (.ref i2))
    (h1 : s.heap.IsTupleIter i1 l1 k1) (h2 : s.heap.IsTupleIter i2 l2 k2) (hl1 : s.heap.IsTuple l1 xs) (hl2 : s.heap.IsTuple l2 ys) (hx : xs[k1]? = none)
    (hE : ∀ h' e, (∀ c o, c ≠ z → c ≠ i1 → c ≠ i2 → s.heap.get? c = some o → h'.get? c = some o) → (∃ o, h'.get? e = some o ∧ o.cls = .type "StopIteration") → E (.ref e) { s with heap := h' }) :
    wpAny (model prog w) A (Builtin.«zip.__next__» ⟨[.ref z], []⟩) Q E s := by
  show wpAny _ _ (field (.ref z) 2 >>= _) _ _ _
  refine wpAny_bind (wpAny_field hz rfl (x := .bool false) rfl ?_)
  show wpAny _ _ (field (.ref z) 3 >>= _) _ _ _
  refine wpAny_bind (wpAny_field hz rfl (x := .ref TI) rfl ?_)
  refine wpAny_bind (wpAny_seqItems hTI rfl ?_)
  show wpAny _ _ (Builtin.SmallTypes.ownedTupleIsFree (.ref z) >>= _) _ _ _
  refine wpAny_bind (wpAny_tupleHeld_zip hz hT fun h₁ hz₁ hs₁ => ?_)
  simp only [Bool.false_eq_true, if_false]
  refine wpAny_bind ?_
  rw [← Array.forIn_toList]
  simp only [List.forIn_cons, List.forIn_nil]
  refine wpAny_bind (wpAny_bind (wpAny_holding ?_))
  show wpAny _ _ (Builtin.SmallTypes.nextOf (.ref i1) >>= _) _ _ _
  refine wpAny_bind (nextOf_tuple_end (s := { s with heap := h₁ }) hh (h1.extBut hs₁.extBut D.i1z) (hl1.extBut hs₁.extBut D.l1z) hx fun h₂ e hs₂ he => ?_)
  exact hE h₂ e (fun c o c1 c2 _ x => hs₂ _ _ c2 (hs₁.extBut _ _ c1 x)) he
/-- a zip of two tuples between two turns of list(..) -/
structure ZSt (h : Heap) (z TI TO i1 i2 l1 l2 S lo : Addr) (xs ys : Array Value) (i : Nat) : Prop where
  zip : (i = 0 ∧ IsZip h z TI TO .none ∧ ∃ a b, IsPair h TO a b) ∨ ∃ T f oT, IsZipHeld h z TI TO T f ∧ h.get? T = some oT ∧ lo ≤ T
  ti : IsPair h TI (.ref i1) (.ref i2)
  h1 : h.IsTupleIter i1 l1 i
  h2 : h.IsTupleIter i2 l2 i
  l1' : h.IsTuple l1 xs
  l2' : h.IsTuple l2 ys
/-- the addresses that are there ahead of the pairs -/
structure ZLo (z TI TO i1 i2 l1 l2 S lo : Addr) : Prop where
  z' : z < lo
  TI' : TI < lo
  TO' : TO < lo
  i1' : i1 < lo
  i2' : i2 < lo
  l1' : l1 < lo
  l2' : l2 < lo
  S' : S < lo
  Sz : S ≠ z
  STI : S ≠ TI
  STO : S ≠ TO
  Si1 : S ≠ i1
  Si2 : S ≠ i2
  Sl1 : S ≠ l1
  Sl2 : S ≠ l2
variable {z TI TO i1 i2 l1 l2 S lo : Addr} {xs ys : Array Value}
theorem ZSt.upd {h h' : Heap} {i : Nat} (L : ZLo z TI TO i1 i2 l1 l2 S lo) (st : ZSt h z TI TO i1 i2 l1 l2 S lo xs ys i) (k : ∀ b o, b ≠ S → h.get? b = some o → h'.get? b = some o) : ZSt h' z TI TO i1 i2 l1 l2 S lo xs ys i where
  zip := by
    rcases st.zip with ⟨e, hz, a, b, ht⟩ | ⟨T, f, oT, hz, hT, hl⟩
    · exact .inl ⟨e, k _ _ L.Sz.symm hz, a, b, k _ _ L.STO.symm ht⟩
    · exact .inr ⟨T, f, oT, k _ _ L.Sz.symm hz, k _ _ (fun e => by have := L.S'; rw [e] at hl; exact absurd hl (Nat.not_le.mpr this)) hT, hl⟩
  ti := k _ _ L.STI.symm st.ti
  h1 := st.h1.at fun o e => k _ _ L.Si1.symm e
  h2 := st.h2.at fun o e => k _ _ L.Si2.symm e
  l1' := by
    obtain ⟨o, ho, r⟩ := st.l1'
    exact ⟨o, k _ _ L.Sl1.symm ho, r⟩
  l2' := by
    obtain ⟨o, ho, r⟩ := st.l2'
    exact ⟨o, k _ _ L.Sl2.symm ho, r⟩
theorem tup_keep {h h' : Heap} {l : Addr} {its : Array Value} (t : h.IsTuple l its) (k : ∀ o, h.get? l = some o → h'.get? l = some o) : h'.IsTuple l its := by
  obtain ⟨o, ho, r⟩ := t
  exact ⟨o, k o ho, r⟩
theorem zst_item {i : Nat} {x y : Value} {Q : Option Value → Shared → Prop} (D : ZipApart z TI TO i1 i2 l1 l2) (L : ZLo z TI TO i1 i2 l1 l2 S lo) (hlo : lo ≤ s.heap.objs.size) (st : ZSt s.heap z TI TO i1 i2 l1 l2 S lo xs ys i) (hx : xs[i]? = some x) (hy : ys[i]? = some y)
    (hQ : ∀ h', ZSt h' z TI TO i1 i2 l1 l2 S lo xs ys (i + 1) → IsPair h' s.heap.objs.size x y → h'.objs.size = s.heap.objs.size + 1 →
      (∀ c o, c ≠ z → c ≠ TO → c ≠ i1 → c ≠ i2 → s.heap.get? c = some o → h'.get? c = some o) → Q (some (.ref s.heap.objs.size)) { s with heap := h' }) :
    wpAny (model prog w) A (pyNext (.ref z)) Q E s := by
  rcases st.zip with ⟨e, hz, a, b, ht⟩ | ⟨T, f, oT, hz, hT, hl⟩
  · refine pyNext_zipT_item D hz st.ti ht st.h1 st.h2 st.l1' st.l2' hx hy fun h' z' to' a1 a2 pr sz k => hQ h' ⟨.inr ⟨s.heap.objs.size, false, _, z', pr, hlo⟩, ?_, a1, a2, ?_, ?_⟩ pr sz k
    · exact k _ _ D.TIz D.TITO D.TIi1 D.TIi2 st.ti
    · exact tup_keep st.l1' fun o q => k _ _ D.l1z D.l1TO D.l1i1 D.l1i2 q
    · exact tup_keep st.l2' fun o q => k _ _ D.l2z D.l2TO D.l2i1 D.l2i2 q
  · have hTy : s.TypeIs (.ref z) "zip" := ⟨_, hz, rfl⟩
    unfold pyNext
    refine wpAny_bind (wpAny_attempt (wpAny_callSpecial?_slot (name := Str.ofString "__next__") hTy F.slot_zip_next
      (wpAny_call_entry F.slot_zip_next hTy F.entry_zip_next
        (zipT_item_held D hz hT st.ti st.h1 st.h2 st.l1' st.l2' hx hy fun h' z' a1 a2 pr sz k => wpAny_pure (hQ h' ⟨.inr ⟨T, true, oT, z', ?_, hl⟩, ?_, a1, a2, ?_, ?_⟩ pr sz fun c o c1 _ c3 c4 q => k c o c1 c3 c4 q)) (F.args_zip_next_1 _))))
    · exact k _ _ (fun e => by rw [e] at hl; exact absurd hl (Nat.not_le.mpr L.z')) (fun e => by rw [e] at hl; exact absurd hl (Nat.not_le.mpr L.i1')) (fun e => by rw [e] at hl; exact absurd hl (Nat.not_le.mpr L.i2')) hT
    · exact k _ _ D.TIz D.TIi1 D.TIi2 st.ti
    · exact tup_keep st.l1' fun o q => k _ _ D.l1z D.l1i1 D.l1i2 q
    · exact tup_keep st.l2' fun o q => k _ _ D.l2z D.l2i1 D.l2i2 q
theorem zst_done {i : Nat} {Q : Option Value → Shared → Prop} (hh : A.handled = none) (D : ZipApart z TI TO i1 i2 l1 l2) (st : ZSt s.heap z TI TO i1 i2 l1 l2 S lo xs ys i) (hx : xs[i]? = none)
    (hQ : ∀ h', (∀ c o, c ≠ z → c ≠ TO → c ≠ i1 → c ≠ i2 → s.heap.get? c = some o → h'.get? c = some o) → Q none { s with heap := h' }) : wpAny (model prog w) A (pyNext (.ref z)) Q E s := by
  rcases st.zip with ⟨e, hz, a, b, ht⟩ | ⟨T, f, oT, hz, hT, hl⟩
  · exact pyNext_zipT_end hh D hz st.ti ht st.h1 st.h2 st.l1' st.l2' (.inl hx) hQ
  · have hTy : s.TypeIs (.ref z) "zip" := ⟨_, hz, rfl⟩
    unfold pyNext
    refine wpAny_bind (wpAny_attempt (wpAny_callSpecial?_slot (name := Str.ofString "__next__") hTy F.slot_zip_next
      (wpAny_call_entry F.slot_zip_next hTy F.entry_zip_next (zipT_end_held hh D hz hT st.ti st.h1 st.h2 st.l1' st.l2' hx fun h' e hk he => ?_) (F.args_zip_next_1 _))))
    obtain ⟨o, ho, hc⟩ := he
    refine wpAny_bind (wpAny_isInstance (T := "StopIteration") (b := true) ⟨o, ho, hc⟩ isSubtype_stop ?_)
    exact wpAny_pure (hQ _ fun c o c1 _ c3 c4 q => hk c o c1 c3 c4 q)
/-- the pairs made so far -/
structure ZG (xs ys : Array Value) (lo : Addr) (h : Heap) (as : List Addr) : Prop where
  rise : as.Pairwise (· < ·)
  above : ∀ a ∈ as, lo ≤ a
  pairs : ∀ (j : Nat) (a : Addr), as[j]? = some a → ∃ x y, xs[j]? = some x ∧ ys[j]? = some y ∧ IsPair h a x y
theorem ZG.there {h : Heap} {as : List Addr} (g : ZG xs ys lo h as) {a : Addr} (ha : a ∈ as) : a < h.objs.size := by
  obtain ⟨j, hj⟩ := List.mem_iff_getElem?.mp ha
  obtain ⟨_, _, _, _, e⟩ := g.pairs j a hj
  exact Heap.lt_size e
theorem zl_loop {R : Result → Shared → Prop} (hh : A.handled = none) (D : ZipApart z TI TO i1 i2 l1 l2) (L : ZLo z TI TO i1 i2 l1 l2 S lo) (hl : xs.size = ys.size) (hn : xs.size ≤ sizeLine) (res : Value) {h₁ : Heap}
    (hR : ∀ h' tk acc c as, (∀ b o, b ≠ S → b ≠ z → b ≠ TO → b ≠ i1 → b ≠ i2 → h₁.get? b = some o → h'.get? b = some o) → h'.get? S = some { cls := .type "list", dict := none, data := .seq acc c, slots := #[] } → as.length = xs.size → ZG xs ys lo h' as →
      acc.toList = as.map Value.ref → R (.ok (.ret res)) { s with heap := h', toks := tk }) :
    ∀ (k i : Nat) (h : Heap) (tk c : Nat) (acc : Array Value) (as : List Addr), xs.size - i = k → i ≤ xs.size → ZSt h z TI TO i1 i2 l1 l2 S lo xs ys i → (∀ b o, b ≠ S → b ≠ z → b ≠ TO → b ≠ i1 → b ≠ i2 → h₁.get? b = some o → h.get? b = some o) →
      h.get? S = some { cls := .type "list", dict := none, data := .seq acc c, slots := #[] } → acc.toList = as.map Value.ref → as.length = i → ZG xs ys lo h as → lo ≤ h.objs.size →
      codeAny (model prog w) A (.builtin "list.extend.loop" ⟨[.ref S, .ref z, res], []⟩) R { s with heap := h, toks := tk } := by
  intro k
  induction k with
  | zero =>
    intro i h tk c acc as hk hi st hkeep hS hacc hal hG hlo
    have hin : i = xs.size := by omega
    refine codeAny_builtin PySem.F.entry_extend_loop ?_
    rw [Around.under_plainId PySem.F.plain_extend_loop _]
    show wpAny _ A.in1 (pyNext (.ref z) >>= _) _ _ _
    refine wpAny_bind (zst_done (s := { s with heap := h, toks := tk }) (A := A.in1) hh D st (Array.getElem?_eq_none (by omega)) fun h' he => ?_)
    refine wpAny_pure (hR h' tk acc c as (fun b o h1 h2 h3 h4 h5 e => he b o h2 h3 h4 h5 (hkeep b o h1 h2 h3 h4 h5 e)) (he S _ L.Sz L.STO L.Si1 L.Si2 hS) (by omega) ⟨hG.rise, hG.above, fun j a hj => ?_⟩ hacc)
    obtain ⟨x, y, e1, e2, e3⟩ := hG.pairs j a hj
    have ha := hG.above a (List.mem_of_getElem? hj)
    exact ⟨x, y, e1, e2, he a _ (Nat.ne_of_gt (Nat.lt_of_lt_of_le L.z' ha)) (Nat.ne_of_gt (Nat.lt_of_lt_of_le L.TO' ha)) (Nat.ne_of_gt (Nat.lt_of_lt_of_le L.i1' ha)) (Nat.ne_of_gt (Nat.lt_of_lt_of_le L.i2' ha)) e3⟩
  | succ k ih =>
    intro i h tk c acc as hk hi st hkeep hS hacc hal hG hlo
    have hlt : i < xs.size := by omega
    have hx : xs[i]? = some xs[i] := Array.getElem?_eq_getElem hlt
    have hlt2 : i < ys.size := by omega
    have hy : ys[i]? = some ys[i] := Array.getElem?_eq_getElem hlt2
    have hsz : acc.size = i := by rw [← Array.length_toList, hacc, List.length_map, hal]
    refine codeAny_builtin PySem.F.entry_extend_loop ?_
    rw [Around.under_plainId PySem.F.plain_extend_loop _]
    show wpAny _ A.in1 (pyNext (.ref z) >>= _) _ _ _
    refine wpAny_bind (zst_item (s := { s with heap := h, toks := tk }) (A := A.in1) D L hlo st hx hy fun h' st' ht hz hkp => ?_)
    dsimp only at ht hz hkp ⊢
    have hS' := hkp S _ L.Sz L.STO L.Si1 L.Si2 hS
    have up : ∀ b o, b ≠ S → h'.get? b = some o → (h'.update S (Obj.mapSeq (·.push (Value.ref h.objs.size)))).get? b = some o := fun b o hb e => (Heap.get?_update_other _ _ (Ne.symm hb)).trans e
    have hSl : S < h.objs.size := Heap.lt_size hS
    show wpAny _ A.in1 (updateSeq S (·.push (Value.ref h.objs.size)) >>= _) _ _ _
    refine wpAny_bind ?_
    refine wpAny_updateSeq hS' rfl (wpAny_pure ⟨plainId_quiet PySem.F.plain_extend_loop _, ih (i + 1) _ tk _ (acc.push (Value.ref h.objs.size)) (as ++ [h.objs.size]) (by omega) hlt (st'.upd L up)
      (fun b o h1 h2 h3 h4 h5 e => up b o h1 (hkp b o h2 h3 h4 h5 (hkeep b o h1 h2 h3 h4 h5 e))) (Heap.get?_update_self _ hS' rfl) (by rw [Array.toList_push, hacc, List.map_append]; rfl) (by rw [List.length_append, hal]; rfl) ⟨?_, ?_, ?_⟩ ?_⟩) (by rw [hsz]; omega) (by show (acc.push (Value.ref h.objs.size)).size ≤ sizeLine + 1; rw [Array.size_push, hsz]; omega)
    · refine List.pairwise_append.mpr ⟨hG.rise, List.pairwise_singleton _ _, fun a ha b hb => ?_⟩
      rw [List.mem_singleton.mp hb]
      exact hG.there ha
    · intro a ha
      rcases List.mem_append.mp ha with ha | ha
      · exact hG.above a ha
      · rw [List.mem_singleton.mp ha]; exact hlo
    · intro j b hj
      rcases Nat.lt_trichotomy j as.length with h1 | h1 | h1
      · rw [List.getElem?_append_left h1] at hj
        obtain ⟨x', y', e1, e2, e3⟩ := hG.pairs j b hj
        have hb := hG.above b (List.mem_of_getElem? hj)
        exact ⟨x', y', e1, e2, up b _ (Nat.ne_of_gt (Nat.lt_of_lt_of_le L.S' hb)) (hkp b _ (Nat.ne_of_gt (Nat.lt_of_lt_of_le L.z' hb)) (Nat.ne_of_gt (Nat.lt_of_lt_of_le L.TO' hb)) (Nat.ne_of_gt (Nat.lt_of_lt_of_le L.i1' hb)) (Nat.ne_of_gt (Nat.lt_of_lt_of_le L.i2' hb)) e3)⟩
      · subst h1
        have hb : h.objs.size = b := by simpa using hj
        subst hb
        exact ⟨xs[i], ys[i], by rw [hal]; exact hx, by rw [hal]; exact hy, up _ _ (Nat.ne_of_gt hSl) ht⟩
      · have hnone : (as ++ [h.objs.size])[j]? = none := List.getElem?_eq_none (by rw [List.length_append, List.length_singleton]; omega)
        rw [hnone] at hj; cases hj
    · have e : (h'.update S (Obj.mapSeq (·.push (Value.ref h.objs.size)))).get? h.objs.size = _ := up _ _ (Nat.ne_of_gt hSl) ht
      exact Nat.le_trans hlo (Nat.le_of_lt (Heap.lt_size e))
end
end LmR

set_option Elab.async false
set_option linter.all false
set_option maxRecDepth 100000
set_option maxHeartbeats 2000000
namespace LmR
open PySem PySem.Spec PyProof.Rows L2 RZ
section
variable {prog : Program} {w : World} {A : Around} {E : Value → Shared → Prop} {s : Shared}
variable {z TI TO i1 i2 l1 l2 S lo : Addr} {xs ys : Array Value}
theorem zl_extend {R : Result → Shared → Prop} (hh : A.handled = none) (D : ZipApart z TI TO i1 i2 l1 l2) (L : ZLo z TI TO i1 i2 l1 l2 S lo) (hl : xs.size = ys.size) (hn : xs.size ≤ sizeLine) (res : Value) (c₀ : Nat) (hlo : lo ≤ s.heap.objs.size)
    (st : ZSt s.heap z TI TO i1 i2 l1 l2 S lo xs ys 0) (hz : IsZip s.heap z TI TO .none) (hS : s.heap.get? S = some { cls := .type "list", data := .seq #[] c₀ })
    (hR : ∀ h' tk acc c as, (∀ b o, b ≠ S → b ≠ z → b ≠ TO → b ≠ i1 → b ≠ i2 → s.heap.get? b = some o → h'.get? b = some o) → h'.get? S = some { cls := .type "list", dict := none, data := .seq acc c, slots := #[] } → as.length = xs.size → ZG xs ys lo h' as →
      acc.toList = as.map Value.ref → R (.ok (.ret res)) { s with heap := h', toks := tk }) :
    wpAny (model prog w) A.in1 (Builtin.List.listExtendWith (.ref S) (.ref z) res)
      (fun fin s' => match fin with | .done f => R (.ok f) s' | .again c' => c'.quiet = true ∧ codeAny (model prog w) A c' R s') (fun e s' => R (.error e) s') s := by
  have hT : s.TypeIs (.ref z) "zip" := ⟨_, hz, rfl⟩
  unfold Builtin.List.listExtendWith
  refine wpAny_bind (wpAny_typeOf hT ?_)
  have h1 : Builtin.List.listSameRef (.ref S) (.ref z) = false := by simp [Builtin.List.listSameRef, L.Sz]
  have h2 : (Value.type "zip" == Value.type "list") = false := by decide
  have h3 : (Value.type "zip" == Value.type "tuple") = false := by decide
  simp only [h1, h2, h3, Bool.or_false, Bool.false_eq_true, if_false]
  refine wpAny_bind (wpAny_pyIter_zip hz ?_)
  refine wpAny_bind (wpAny_holding ?_)
  unfold Builtin.List.listLengthHint
  refine wpAny_bind (wpAny_specialOf hT zip_no_len ?_)
  show wpAny _ A.in1 (specialOf (Value.ref z) (Str.ofString "__length_hint__") >>= _) _ _ _
  refine wpAny_bind (wpAny_specialOf hT zip_no_hint ?_)
  refine wpAny_pure ?_
  show wpAny _ A.in1 (rule "list.extend.makes-room" >>= fun _ => Builtin.List.listTouch (.ref S) >>= fun _ =>
    again (.builtin "list.extend.loop" ⟨[.ref S, .ref z, res], []⟩)) _ _ _
  refine wpAny_bind (wpAny_rule ?_)
  refine wpAny_bind ?_
  show wpAny _ A.in1 (updateSeq S (·.push .none) >>= fun _ => updateSeq S (·.pop)) _ _ _
  refine wpAny_bind (wpAny_updateSeq hS rfl ?_)
  have hS₂ := Heap.get?_update_self (Obj.mapSeq (·.push Value.none)) hS rfl
  refine wpAny_updateSeq (hz := by seq_fits) hS₂ rfl ?_
  have hS₃ := Heap.get?_update_self (Obj.mapSeq (·.pop)) hS₂ rfl
  have oth : ∀ b o, b ≠ S → s.heap.get? b = some o → ((s.heap.update S (Obj.mapSeq (·.push Value.none))).update S (Obj.mapSeq (·.pop))).get? b = some o :=
    fun b o hb e => (Heap.get?_update_other _ _ (Ne.symm hb)).trans ((Heap.get?_update_other _ _ (Ne.symm hb)).trans e)
  refine wpAny_pure ⟨plainId_quiet PySem.F.plain_extend_loop _, zl_loop (s := s) (h₁ := s.heap) hh D L hl hn res hR xs.size 0 _ s.toks _ #[] [] (Nat.sub_zero _) (Nat.zero_le _) (st.upd L oth) (fun b o h1 _ _ _ _ e => oth b o h1 e) hS₃ rfl rfl ⟨List.Pairwise.nil, (fun _ ha => nomatch ha), (fun j a hj => by simp at hj)⟩ ?_⟩
  have zz := oth z _ L.Sz.symm hz
  have e1 : ((s.heap.update S (Obj.mapSeq (·.push Value.none))).update S (Obj.mapSeq (·.pop))).objs.size = s.heap.objs.size := by
    first
      | (rw [Heap.size_update, Heap.size_update])
      | (simp [Heap.update])
  rw [e1]
  exact hlo
theorem zl_init {R : Result → Shared → Prop} (hh : A.handled = none) (D : ZipApart z TI TO i1 i2 l1 l2) (L : ZLo z TI TO i1 i2 l1 l2 S lo) (hl : xs.size = ys.size) (hn : xs.size ≤ sizeLine) (hlo : lo ≤ s.heap.objs.size)
    (st : ZSt s.heap z TI TO i1 i2 l1 l2 S lo xs ys 0) (hz : IsZip s.heap z TI TO .none) (hS : s.heap.get? S = some { cls := .type "list", data := .seq #[] })
    (hR : ∀ h' tk acc c as, (∀ b o, b ≠ S → b ≠ z → b ≠ TO → b ≠ i1 → b ≠ i2 → s.heap.get? b = some o → h'.get? b = some o) → h'.get? S = some { cls := .type "list", dict := none, data := .seq acc c, slots := #[] } → as.length = xs.size → ZG xs ys lo h' as →
      acc.toList = as.map Value.ref → R (.ok (.ret .none)) { s with heap := h', toks := tk }) :
    wpAny (model prog w) A.in1 (Builtin.«list.__init__» ⟨[.ref S, .ref z], []⟩)
      (fun fin s' => match fin with | .done f => R (.ok f) s' | .again c' => c'.quiet = true ∧ codeAny (model prog w) A c' R s') (fun e s' => R (.error e) s') s := by
  show wpAny _ _ (do let old ← Builtin.List.listItems (.ref S); Builtin.List.listUpdate (.ref S) (fun _ => #[]); letGo old.toList.reverse; Builtin.List.listExtendWith (.ref S) (.ref z) .none) _ _ s
  refine wpAny_bind ?_
  unfold Builtin.List.listItems
  refine wpAny_bind (wpAny_seqItems hS rfl (wpAny_pure ?_))
  show wpAny _ _ (updateSeq S (fun _ => #[]) >>= fun _ => letGo (#[] : Array Value).toList.reverse >>= fun _ => Builtin.List.listExtendWith (.ref S) (.ref z) .none) _ _ s
  refine wpAny_bind (wpAny_updateSeq hS rfl ?_)
  have hS₂ := Heap.get?_update_self (Obj.mapSeq (fun _ => (#[] : Array Value))) hS rfl
  have oth : ∀ b o, b ≠ S → s.heap.get? b = some o → (s.heap.update S (Obj.mapSeq (fun _ => (#[] : Array Value)))).get? b = some o :=
    fun b o hb e => (Heap.get?_update_other _ _ (Ne.symm hb)).trans e
  refine wpAny_bind (wpAny_letGo ?_)
  have e1 : (s.heap.update S (Obj.mapSeq (fun _ => (#[] : Array Value)))).objs.size = s.heap.objs.size := by
    first
      | (rw [Heap.size_update])
      | (simp [Heap.update])
  refine zl_extend hh D L hl hn .none _ (by show lo ≤ (s.heap.update S _).objs.size; rw [e1]; exact hlo) (st.upd L oth) (oth z _ L.Sz.symm hz) hS₂ (fun h' tk acc c as hk hS' hl' hG hacc => ?_)
  exact hR h' tk acc c as (fun b o h1 h2 h3 h4 h5 e => hk b o h1 h2 h3 h4 h5 (oth b o h1 e)) hS' hl' hG hacc
theorem zl_call {Q : Value → Shared → Prop} (hh : A.handled = none) (D : ZipApart z TI TO i1 i2 l1 l2) (hl : xs.size = ys.size) (hn : xs.size ≤ sizeLine)
    (hz : IsZip s.heap z TI TO .none) (hTI : IsPair s.heap TI (.ref i1) (.ref i2)) (hTO : ∃ a b, IsPair s.heap TO a b) (h1 : s.heap.IsTupleIter i1 l1 0) (h2 : s.heap.IsTupleIter i2 l2 0) (hl1 : s.heap.IsTuple l1 xs) (hl2 : s.heap.IsTuple l2 ys)
    (hQ : ∀ h' tk acc c as, (∀ b o, b ≠ z → b ≠ TO → b ≠ i1 → b ≠ i2 → s.heap.get? b = some o → h'.get? b = some o) → h'.get? s.heap.objs.size = some { cls := .type "list", dict := none, data := .seq acc c, slots := #[] } → as.length = xs.size → ZG xs ys (s.heap.objs.size + 1) h' as →
      acc.toList = as.map Value.ref → Q (.ref s.heap.objs.size) { s with heap := h', toks := tk }) :
    wpAny (model prog w) A (call (.type "list") [.ref z]) Q E s := by
  refine callType_codes (Q₁ := fun obj s₁ => obj = .ref s.heap.objs.size ∧ s₁ = { s with heap := s.heap.push { cls := .type "list", data := .seq #[] } }) PySem.F.called_list (PySem.F.typeCall_list_1 _) PySem.F.entry_list_init
    (code_list_new _ ⟨rfl, rfl⟩) fun obj s₁ h₁ => ?_
  obtain ⟨rfl, rfl⟩ := h₁
  have hS : (s.heap.push { cls := .type "list", data := .seq #[] }).get? s.heap.objs.size = some { cls := .type "list", data := .seq #[] } := Heap.get?_push_size _ rfl
  have kp : ∀ b o, s.heap.get? b = some o → (s.heap.push { cls := .type "list", data := .seq #[] }).get? b = some o := fun b o e => Heap.get?_push_of_some _ e
  have lz := Heap.lt_size hz
  have lTI := Heap.lt_size hTI
  obtain ⟨ta, tb, hTO'⟩ := hTO
  have lTO := Heap.lt_size hTO'
  have li1 : i1 < s.heap.objs.size := let ⟨_, e, _⟩ := h1; Heap.lt_size e
  have li2 : i2 < s.heap.objs.size := let ⟨_, e, _⟩ := h2; Heap.lt_size e
  have ll1 : l1 < s.heap.objs.size := let ⟨_, e, _⟩ := hl1; Heap.lt_size e
  have ll2 : l2 < s.heap.objs.size := let ⟨_, e, _⟩ := hl2; Heap.lt_size e
  have L : ZLo z TI TO i1 i2 l1 l2 s.heap.objs.size (s.heap.objs.size + 1) := ⟨Nat.lt_succ_of_lt lz, Nat.lt_succ_of_lt lTI, Nat.lt_succ_of_lt lTO, Nat.lt_succ_of_lt li1, Nat.lt_succ_of_lt li2, Nat.lt_succ_of_lt ll1, Nat.lt_succ_of_lt ll2, Nat.lt_succ_self _,
    Nat.ne_of_gt lz, Nat.ne_of_gt lTI, Nat.ne_of_gt lTO, Nat.ne_of_gt li1, Nat.ne_of_gt li2, Nat.ne_of_gt ll1, Nat.ne_of_gt ll2⟩
  have st : ZSt (s.heap.push { cls := .type "list", data := .seq #[] }) z TI TO i1 i2 l1 l2 s.heap.objs.size (s.heap.objs.size + 1) xs ys 0 :=
    ⟨.inl ⟨rfl, kp _ _ hz, ta, tb, kp _ _ hTO'⟩, kp _ _ hTI, h1.at fun o e => kp _ _ e, h2.at fun o e => kp _ _ e, tup_keep hl1 fun o e => kp _ _ e, tup_keep hl2 fun o e => kp _ _ e⟩
  refine ⟨⟨_, hS, rfl⟩, PySem.F.args_list_init_2 _ _, zl_init (A := A.in1) hh D L hl hn (by show s.heap.objs.size + 1 ≤ (s.heap.push _).objs.size; rw [Heap.size_push]; exact Nat.le_refl _) st (kp _ _ hz) hS (fun h' tk acc c as hk hS' hl' hG hacc => ?_)⟩
  exact ⟨rfl, hQ h' tk acc c as (fun b o c1 c2 c3 c4 e => hk b o (Nat.ne_of_lt (Heap.lt_size e)) c1 c2 c3 c4 (kp b o e)) hS' hl' hG hacc⟩
end
/-! ### the rule -/
/-- pairs tracked at their addresses -/
def putZ : Hp → List Addr → List (V × V) → Hp
  | H, a :: as, p :: ps => putZ (upd H a (.tup [p.1, p.2])) as ps
  | H, _, _ => H
theorem putZ_off {b : Addr} : ∀ (as : List Addr) (ps : List (V × V)) (H : Hp), b ∉ as → putZ H as ps b = H b
  | [], _, _, _ => rfl
  | _ :: _, [], _, _ => rfl
  | a :: as, p :: ps, H, h => by
    show putZ (upd H a (.tup [p.1, p.2])) as ps b = H b
    rw [putZ_off as ps _ (fun z => h (List.mem_cons_of_mem _ z)), upd_ne (fun z => h (by rw [z]; exact List.mem_cons_self))]
theorem putZ_at : ∀ (as : List Addr) (ps : List (V × V)) (H : Hp) (j : Nat) (a : Addr) (p : V × V), as.Nodup → as[j]? = some a → ps[j]? = some p → putZ H as ps a = some (.tup [p.1, p.2])
  | [], _, _, j, _, _, _, h, _ => by simp at h
  | _ :: _, [], _, j, _, _, _, _, h => by simp at h
  | a :: as, p :: ps, H, 0, b, q, nd, h1, h2 => by
    have e1 : a = b := Option.some.inj h1
    have e2 : p = q := Option.some.inj h2
    subst e1 e2
    show putZ (upd H a (.tup [p.1, p.2])) as ps a = some (.tup [p.1, p.2])
    rw [putZ_off as ps _ (List.nodup_cons.mp nd).1, upd_same]
  | a :: as, p :: ps, H, j + 1, b, q, nd, h1, h2 => putZ_at as ps _ j b q (List.nodup_cons.mp nd).2 h1 h2
/-- list(zip(t, u)) of two tuples of one length -/
def tListZip (K : PySem.W.Frag) (ta : TA) : TE := fun σ H Q => ta σ H fun vs H1 => ∃ (a b : Addr) (xs ys : List V), vs = [.ref a, .ref b] ∧ SqT K H1 a xs ∧ SqT K H1 b ys ∧ xs.length = ys.length ∧
  ∀ (H' : Hp) (p : Addr) (ts : List Addr), Same H1 H' → H1 p = none → (∀ t ∈ ts, H1 t = none) → H' p = some (.lst (ts.map V.ref)) → ts.length = xs.length →
    (∀ (j : Nat) (t : Addr), ts[j]? = some t → ∃ x y, xs[j]? = some x ∧ ys[j]? = some y ∧ H' t = some (.tup [x, y])) → Q (.ref p) H'
section
variable {X : Cx}
theorem pe_listZip {e e2 : Expr} {ta : TA} {p p2 pos pos2 : Pos} (hc : X.calm = true) (hgl : Gl X "list") (hml : X.mg "list" = none) (hgz : Gl X "zip") (hmz : X.mg "zip" = none) (ha : PA X [e, e2] ta)
    (hs : starEach [e, e2] X.env = (false, eval e X.env) :: starEach [e2] X.env := by rfl) (hpl : (backTo pos2 (starEach [e2] X.env)).any (·.1) = false := by rfl)
    (hs2 : starEach [.Call (.Name "zip" p2) [e, e2] [] pos2] X.env = (false, eval (.Call (.Name "zip" p2) [e, e2] [] pos2) X.env) :: starEach [] X.env := by rfl) :
    PE X (.Call (.Name "list" p) [.Call (.Name "zip" p2) [e, e2] [] pos2] [] pos) (tListZip X.K ta) := by
  refine ⟨fun pins s σ H Q I h => ?_⟩
  refine wpAny_Call_Name_kw (ld_blt I hgl hml PyProof.Rows.boot_list ?_)
  refine PyProof.Rows.callWith_type1 ?_ hs2 rfl
  rw [hs2]
  show wpAny _ _ (spliced ((false, eval (.Call (.Name "zip" p2) [e, e2] [] pos2) X.env) :: backTo pos (starEach [] X.env))) _ _ s
  refine Calls.spliced_cons ?_
  refine Call_ (ld_blt I hgz hmz PyProof.Rows.boot_zip (PyProof.Rows.callWith_type1 (thn (ha.run pos2 pins s σ H _ I h) fun us s1 ⟨vs, H1, I1, r1, q1⟩ => ?_) hs hpl))
  obtain ⟨a, b, xs, ys, ex, hqx, hqy, hxy, q⟩ := q1
  subst ex
  cases r1 with
  | cons r rr =>
    cases rr with
    | cons r' rr =>
      cases rr
      cases r
      cases r'
      obtain ⟨its, rv, p1, hz1⟩ := I1.tuple hqx
      obtain ⟨its2, rv2, p2', _⟩ := I1.tuple hqy
      obtain ⟨o1, ho1, _⟩ := id p1
      obtain ⟨o2, ho2, _⟩ := id p2'
      have e1 := rv.length
      have e2 := rv2.length
      refine call_zipT (show s1.heap.IsTuple a its.toArray from p1) (show s1.heap.IsTuple b its2.toArray from p2') fun h' hz hTI hTO h1 h2 hsz hk => ?_
      refine Calls.spliced_nil ?_
      have D := PySem.W.ktu_apart s1.heap.objs.size a b (Heap.lt_size ho1) (Heap.lt_size ho2)
      refine zl_call (s := { s1 with heap := h' }) (xs := its.toArray) (ys := its2.toArray) (I1.ok.hd hc) D (by rw [List.size_toArray, List.size_toArray]; omega) (by rw [List.size_toArray]; omega) hz hTI ⟨_, _, hTO⟩ h1 h2 (tup_keep p1 fun o q => hk _ _ q) (tup_keep p2' fun o q => hk _ _ q) fun h2' tk acc c as hkk hS hl hG hacc => ?_
      have lo : ∀ b o, s1.heap.get? b = some o → h2'.get? b = some o := fun b o q => by
        have lb := Heap.lt_size q
        exact hkk b o (fun z => by rw [z] at lb; exact absurd lb (Nat.not_lt.mpr (Nat.le_add_right _ _))) (fun z => by rw [z] at lb; exact absurd lb (Nat.not_lt.mpr (Nat.le_add_right _ _))) (fun z => by rw [z] at lb; exact absurd lb (Nat.lt_irrefl _)) (fun z => by rw [z] at lb; exact absurd lb (Nat.not_lt.mpr (Nat.le_add_right _ _))) (hk b o q)
      have hsz' : h'.objs.size = s1.heap.objs.size + 5 := hsz
      have hal : as.length = xs.length := by
        rw [hl, List.size_toArray]
        omega
      have nd : as.Nodup := List.Pairwise.imp (fun {a b} (h : a < b) => Nat.ne_of_lt h) hG.rise
      have big : ∀ t ∈ as, h'.objs.size < t := fun t ht => hG.above t ht
      have hSn : h'.objs.size ∉ as := fun z => Nat.lt_irrefl _ (big _ z)
      have new : ∀ t ∈ as, H1 t = none := fun t ht => I1.hok.fresh (by have := big t ht; rw [hsz'] at this; exact Nat.le_of_lt (Nat.lt_of_le_of_lt (Nat.le_add_right _ _) this))
      have newS : H1 h'.objs.size = none := I1.hok.fresh (by rw [hsz']; exact Nat.le_add_right _ _)
      have lk : ∀ b o, s1.heap.get? b = some o → b ∉ as ∧ b ≠ h'.objs.size := fun b o q => by
        have lb := Heap.lt_size q
        refine ⟨fun z => ?_, fun z => ?_⟩
        · have := big b z
          rw [hsz'] at this
          exact absurd lb (Nat.not_lt.mpr (Nat.le_trans (Nat.le_add_right _ 5) (Nat.le_of_lt this)))
        · rw [z, hsz'] at lb
          exact absurd lb (Nat.not_lt.mpr (Nat.le_add_right _ _))
      have off : ∀ b, b ∉ as → b ≠ h'.objs.size → putZ (upd H1 h'.objs.size (.lst (as.map V.ref))) as (xs.zip ys) b = H1 b := fun b h1 h2 => by rw [putZ_off as _ _ h1, upd_ne h2]
      have kp : ∀ b u, H1 b = some u → putZ (upd H1 h'.objs.size (.lst (as.map V.ref))) as (xs.zip ys) b = some u := fun b u e => by
        rw [off b (fun z => by rw [new b z] at e; cases e) (fun z => by rw [z, newS] at e; cases e)]
        exact e
      have eS : putZ (upd H1 h'.objs.size (.lst (as.map V.ref))) as (xs.zip ys) h'.objs.size = some (.lst (as.map V.ref)) := by rw [putZ_off as _ _ hSn, upd_same]
      have prs : ∀ (j : Nat) (t : Addr), as[j]? = some t → ∃ x y u1 u2, xs[j]? = some x ∧ ys[j]? = some y ∧ RelV x u1 ∧ RelV y u2 ∧ IsPair h2' t u1 u2 ∧ putZ (upd H1 h'.objs.size (.lst (as.map V.ref))) as (xs.zip ys) t = some (.tup [x, y]) := fun j t ht => by
        obtain ⟨u1, u2, f1, f2, f3⟩ := hG.pairs j t ht
        have hj : j < xs.length := by
          have := (List.getElem?_eq_some_iff.mp ht).1
          omega
        have hj2 : j < ys.length := by omega
        have g1 : xs[j]? = some xs[j] := List.getElem?_eq_getElem hj
        have g2 : ys[j]? = some ys[j] := List.getElem?_eq_getElem hj2
        obtain ⟨w1, k1, r1⟩ := rv.get g1
        obtain ⟨w2, k2, r2⟩ := rv2.get g2
        have m1 : u1 = w1 := by
          rw [List.getElem?_toArray, k1] at f1
          exact (Option.some.inj f1).symm
        have m2 : u2 = w2 := by
          rw [List.getElem?_toArray, k2] at f2
          exact (Option.some.inj f2).symm
        subst m1 m2
        refine ⟨xs[j], ys[j], u1, u2, g1, g2, r1, r2, f3, ?_⟩
        exact putZ_at as (xs.zip ys) _ j t (xs[j], ys[j]) nd ht (by rw [List.getElem?_zip_eq_some]; exact ⟨g1, g2⟩)
      refine ⟨.ref _, putZ (upd H1 h'.objs.size (.lst (as.map V.ref))) as (xs.zip ys), ?_, rfl, q _ _ as kp newS new eS hal fun j t ht => ?_⟩
      · have Ik : Inv X pins σ H1 { s1 with heap := h2', toks := tk } := I1.kept (t' := tk) lo
        refine I1.call' (ch := []) rfl ⟨fun b o q _ _ _ => lo b o q, fun b o q _ _ _ => ⟨o.slots, lo b o q⟩, fun b o q n _ => ?_, fun b o q _ => ⟨o, lo b o q⟩, fun b zs q => kp b _ q, fun b o u q => kp b _ q, fun b ps q => ⟨#[], by rw [kp b _ q]; simp⟩⟩ (fun b u q => ?_) I1.bare fun b z => by simp at z
        · obtain ⟨z1, z2⟩ := lk b o q
          rw [off b z1 z2]
          exact n
        · by_cases hb : b ∈ as
          · obtain ⟨j, hj⟩ := List.mem_iff_getElem?.mp hb
            obtain ⟨x, y, u1, u2, _, _, r1, r2, f3, e⟩ := prs j b hj
            rw [e] at q
            cases q
            exact ⟨by show 2 ≤ sizeLine; decide, [u1, u2], .cons r1 (.cons r2 .nil), ⟨_, f3, rfl, _, rfl⟩⟩
          · by_cases hb2 : b = h'.objs.size
            · rw [hb2] at q ⊢
              rw [eS] at q
              cases q
              refine ⟨by rw [List.length_map]; omega, acc.toList, c, by rw [hacc]; exact (let rec go : ∀ as : List Addr, Vals (as.map V.ref) (as.map Value.ref) | [] => .nil | _ :: as => .cons rfl (go as); go as), ?_⟩
              rw [Array.toArray_toList]
              exact hS
            · rw [off b hb hb2] at q
              exact (I1.hok b u q).stay (fun d v _ y => lo d v y) (fun d y => kp d _ y) fun d xs y => kp d _ y
      · obtain ⟨x, y, _, _, g1, g2, _, _, _, e⟩ := prs j t ht
        exact ⟨x, y, g1, g2, e⟩
end
end LmR

set_option Elab.async false
set_option linter.all false
set_option maxRecDepth 100000
set_option maxHeartbeats 2000000
namespace Lm
open PySem PySem.Spec PyProof.Rows L2 LmR
/-! ### defs of the text, callable -/
/-- the def st stands in the text under the name x -/
def DefAt (K : PySem.W.Frag) (mg : Str → Option Value) (x : Str) (st : Stmt) (ps : List Str) : Prop := ∃ f fd, Fun K x x st f fd ∧ Binds K fd ps [] ∧ mg x = some (.ref f)
/-- what stands under the name x keeps sp, by at most level k -/
def Cal (P : Program) (w : World) (K : PySem.W.Frag) (mg : Str → Option Value) (base : Heap) (k : Nat) (x : Str) (ps : List Str) (sp : Sp) : Prop :=
  ∃ f fd, FnOk P w K mg base CX0 k f fd ps sp ∧ mg x = some (.ref f) ∧ PySem.W.keepIn K (.ref f) = true ∧ Binds K fd ps [] ∧ ∃ st, Fun K x x st f fd
section
variable {P : Program} {w : World} {K : PySem.W.Frag} {mg : Str → Option Value} {base : Heap}
theorem Cal.mono {j k : Nat} {x : Str} {ps : List Str} {sp : Sp} (c : Cal P w K mg base j x ps sp) (h : j ≤ k) : Cal P w K mg base k x ps sp := by
  obtain ⟨f, fd, F, g, kp, b⟩ := c
  exact ⟨f, fd, F.mono h, g, kp, b⟩
theorem Cal.weak {k : Nat} {x : Str} {ps : List Str} {sp sp' : Sp} (c : Cal P w K mg base k x ps sp) (h : ∀ vs H Q E, sp' vs H Q E → sp vs H Q E) : Cal P w K mg base k x ps sp' := by
  obtain ⟨f, fd, F, g, kp, b⟩ := c
  exact ⟨f, fd, ⟨fun vs H Q E z => F.len vs H Q E (h vs H Q E z), fun A outer s H args us vs Q E r e b v z => F.run A outer s H args us vs Q E r e b v (h vs H Q E z)⟩, g, kp, b⟩
theorem cal_of {x : Str} {st : Stmt} {N ps : List Str} {k : Nat} {sp : Sp} (D : DefAt K mg x st ps) (S : FnScope N ps (defScope st)) (len : ∀ vs H Q E, sp vs H Q E → vs.length = ps.length)
    (hbody : ∀ (f : Addr) (cdv : Value) (A : Around) (outer : List Env) (s : Shared) (H : Hp) (vs : List V) (Q : VK) (E : XK), Room k (A.deeper (envOfC x (defScope st) s.heap.objs.size f cdv)) → sp vs H Q E →
      ∃ t, PSs (cxOf CX0 P w K mg base N x (defScope st) f cdv A outer s H E).nox (defBody st) t ∧ t { nx := fun _ H' => Q .non H', rt := Q } (start N vs) H) : Cal P w K mg base (k + 1) x ps sp := by
  obtain ⟨f, fd, F, b, g⟩ := D
  exact ⟨f, fd, F.ok S len (hbody f), g, F.kp, b, _, F⟩
/-- nothing is asked: no call is allowed -/
theorem cal_no {x : Str} {st : Stmt} {ps : List Str} {sp : Sp} (D : DefAt K mg x st ps) (no : ∀ vs H Q E, ¬ sp vs H Q E) {k : Nat} : Cal P w K mg base k x ps sp := by
  obtain ⟨f, fd, F, b, g⟩ := D
  exact ⟨f, fd, ⟨fun vs H Q E h => absurd h (no vs H Q E), fun A outer s H args us vs Q E _ _ _ _ h => absurd h (no vs H Q E)⟩, g, F.kp, b, _, F⟩
end
/-- f(e, ..) -/
theorem pe_cal {X : Cx} {k : Nat} {x : Str} {ps : List Str} {sp : Sp} {e : Expr} {es : List Expr} {t : TA} {p pos : Pos} (C : Cal X.prog X.w X.K X.mg X.base k x ps sp) (hr : Room k X.A) (hg : Gl X x) (ha : PA X (e :: es) t)
    (hdb : (x == ("__debug__" : Str)) = false := by decide) (he : starEach (e :: es) X.env = (false, eval e X.env) :: starEach es X.env := by rfl) (hpl : (backTo pos (starEach es X.env)).any (·.1) = false := by rfl) :
    PE X (.Call (.Name x p) (e :: es) [] pos) (tCall sp [] (fun _ _ _ => False) t) := by
  obtain ⟨f, fd, F, g, kp, b, _⟩ := C
  exact pe_call F hr hg g kp b .nil pass0 ha hdb he hpl
/-- the built-ins that the text names and no one has rebound -/
structure Bt (mg : Str → Option Value) : Prop where
  len : mg "len" = none
  isinstance : mg "isinstance" = none
  tuple : mg "tuple" = none
  list : mg "list" = none
  str : mg "str" = none
  int : mg "int" = none
  bool : mg "bool" = none
  range : mg "range" = none
  zip : mg "zip" = none
  enumerate : mg "enumerate" = none
  reversed : mg "reversed" = none
  max : mg "max" = none
  all : mg "all" = none
  min : mg "min" = none
  sum : mg "sum" = none
  any : mg "any" = none
  sorted : mg "sorted" = none
  set : mg "set" = none
  repr : mg "repr" = none
  abs : mg "abs" = none
/-! ### heaps -/
/-- all that was tracked is as it was, but what stands at ws -/
def Ex (ws : List Addr) (H H' : Hp) : Prop := ∀ b o, H b = some o → b ∉ ws → H' b = some o
theorem Ex.refl (ws : List Addr) (H : Hp) : Ex ws H H := fun _ _ h _ => h
theorem Ex.trans {ws : List Addr} {H H1 H2 : Hp} (a : Ex ws H H1) (b : Ex ws H1 H2) : Ex ws H H2 := fun c o h n => b c o (a c o h n) n
theorem Ex.mono {ws us : List Addr} {H H' : Hp} (a : Ex ws H H') (h : ∀ b ∈ ws, b ∈ us) : Ex us H H' := fun c o e n => a c o e fun m => n (h c m)
theorem Ex.of_same {ws : List Addr} {H H' : Hp} (a : Same H H') : Ex ws H H' := fun c o e _ => a c o e
theorem Ex.same {H H' : Hp} (a : Ex [] H H') : Same H H' := fun c o e => a c o e (by simp)
theorem Ex.new {ws : List Addr} {H : Hp} {p : Addr} {o : HO} (h : H p = none) : Ex ws H (upd H p o) := fun b u q _ => by rw [upd_ne (ne_of_none q h)]; exact q
theorem Ex.at {ws : List Addr} {H : Hp} {p : Addr} {o : HO} (h : p ∈ ws) : Ex ws H (upd H p o) := fun b u q n => by rw [upd_ne (fun z => n (by rw [z]; exact h))]; exact q
theorem same_new {H : Hp} {p : Addr} {o : HO} (h : H p = none) : Same H (upd H p o) := fun b u q => by rw [upd_ne (ne_of_none q h)]; exact q
theorem Ex.free {ws : List Addr} {H H' : Hp} (a : Ex ws H H') {p : Addr} (h : H' p = none) (n : p ∉ ws) : H p = none := by
  cases q : H p with
  | none => rfl
  | some o =>
    rw [a p o q n] at h
    cases h
theorem Ex.ne {ws : List Addr} {H H' : Hp} (a : Ex ws H H') {p q : Addr} {o : HO} (h : H q = some o) (hq : q ∉ ws) (hp : H' p = none) : q ≠ p := fun z => by
  rw [← z, a q o h hq] at hp
  cases hp
theorem small {n : Nat} (h : n ≤ 100000) : n ≤ sizeLine := Nat.le_trans h (by decide)
theorem smallL {n : Nat} (h : n ≤ 100000) : n < sizeLine := Nat.lt_of_le_of_lt h (by decide)
/-! ### data: None, truths, ints, texts, tuples of these -/
/-- without lists and dicts -/
def flat : PyData → Bool
  | .none => true
  | .bool _ => true
  | .int _ => true
  | .str _ => true
  | .list _ => false
  | .tuple xs => flats xs
  | .dict _ => false
where flats : List PyData → Bool
  | [] => true
  | d :: ds => flat d && flats ds
/-- the tuples that were there are there -/
def Tp (K : PySem.W.Frag) (H H' : Hp) : Prop := ∀ a xs, SqT K H a xs → SqT K H' a xs
theorem Ex.tp {K : PySem.W.Frag} {ws : List Addr} {H H' : Hp} (a : Ex ws H H') (h : ∀ b ∈ ws, ∀ xs, ¬ Rd H b (.tup xs)) : Tp K H H' := fun b xs q => by
  rcases q with (q | ⟨o, q⟩) | q
  · exact .inl (.inl (a b _ q fun m => h b m xs (.inl q)))
  · exact .inl (.inr ⟨o, a b _ q fun m => h b m xs (.inr ⟨o, q⟩)⟩)
  · exact .inr q
theorem Tp.refl (K : PySem.W.Frag) (H : Hp) : Tp K H H := fun _ _ h => h
theorem Tp.trans {K : PySem.W.Frag} {H H1 H2 : Hp} (a : Tp K H H1) (b : Tp K H1 H2) : Tp K H H2 := fun c xs h => b c xs (a c xs h)
theorem Tp.same {K : PySem.W.Frag} {H H' : Hp} (a : Same H H') : Tp K H H' := fun b xs q => by
  rcases q with (q | ⟨o, q⟩) | q
  · exact .inl (.inl (a b _ q))
  · exact .inl (.inr ⟨o, a b _ q⟩)
  · exact .inr q
/-- a list (or dict) that is written -/
theorem Tp.put {K : PySem.W.Frag} {H : Hp} {p : Addr} {o o' : HO} (h : H p = some o) (n1 : ∀ xs, o ≠ .tup xs) (n2 : ∀ u v, o ≠ .frz u v) : Tp K H (upd H p o') := fun b xs q => by
  rcases q with (q | ⟨u, q⟩) | q
  · have nb : b ≠ p := fun z => by
      rw [z, h] at q
      exact n1 xs (Option.some.inj q)
    exact .inl (.inl (by rw [upd_ne nb]; exact q))
  · have nb : b ≠ p := fun z => by
      rw [z, h] at q
      exact n2 _ _ (Option.some.inj q)
    exact .inl (.inr ⟨u, by rw [upd_ne nb]; exact q⟩)
  · exact .inr q
theorem Tp.lst {K : PySem.W.Frag} {H : Hp} {p : Addr} {xs : List V} {o' : HO} (h : H p = some (.lst xs)) : Tp K H (upd H p o') := Tp.put h (fun _ z => nomatch z) (fun _ _ z => nomatch z)
theorem Tp.dct {K : PySem.W.Frag} {H : Hp} {p : Addr} {xs : List (Key × V)} {o' : HO} (h : H p = some (.dK xs)) : Tp K H (upd H p o') := Tp.put h (fun _ z => nomatch z) (fun _ _ z => nomatch z)
theorem Tp.new {K : PySem.W.Frag} {H : Hp} {p : Addr} {o : HO} (h : H p = none) : Tp K H (upd H p o) := Tp.same (same_new h)
mutual
theorem dp_keep {K : PySem.W.Frag} {H H' : Hp} (t : Tp K H H') : ∀ (d : PyData) (v : V), flat d = true → Dp K H v d → Dp K H' v d
  | .none, _, _, h => by cases h; exact .non
  | .bool b, _, _, h => by cases h; exact .bl b
  | .int i, _, _, h => by cases h; exact .int i
  | .str x, _, _, h => by cases h; exact .str x
  | .list ds, _, f, _ => by simp [flat] at f
  | .tuple ds, _, f, h => by
    cases h with
    | tup q r => exact .tup (t _ _ q) (dps_keep t ds _ f r)
  | .dict ds, _, f, _ => by simp [flat] at f
theorem dps_keep {K : PySem.W.Frag} {H H' : Hp} (t : Tp K H H') : ∀ (ds : List PyData) (vs : List V), flat.flats ds = true → DpAll K H vs ds → DpAll K H' vs ds
  | [], _, _, h => by cases h; exact .nil
  | d :: ds, _, f, h => by
    rw [flat.flats, Bool.and_eq_true] at f
    cases h with
    | cons a b => exact .cons (dp_keep t d _ f.1 a) (dps_keep t ds _ f.2 b)
end
/-- flat data at v -/
def Fd (K : PySem.W.Frag) (H : Hp) (v : V) (d : PyData) : Prop := flat d = true ∧ Dp K H v d
theorem Fd.keep {K : PySem.W.Frag} {H H' : Hp} {v : V} {d : PyData} (h : Fd K H v d) (t : Tp K H H') : Fd K H' v d := ⟨h.1, dp_keep t d v h.1 h.2⟩
/-! ### rules within a comprehension: the written part by its name -/
section
variable {X : Cx} {K : PySem.W.Frag}
theorem ix_tupK (h : X.K = K) : IxR X (rIxT K) := h ▸ ix_tup
theorem ix_listK (h : X.K = K) : IxR X (rIxL K) := h ▸ ix_list
def rLenK (K : PySem.W.Frag) : List V → Hp → VK → Prop := fun xs H Q => ∃ p ys, xs = [.ref p] ∧ (SqL K H p ys ∨ SqT K H p ys) ∧ Q (.int ys.length) H
theorem call_len_seqK (h : X.K = K) : CallR X (.builtin "len") (rLenK K) := h ▸ call_len_seq
theorem pe_bm0K {T : String} {name : Str} {id : String} {r : V → List V → Hp → VK → Prop} {o : Expr} {to : TE} {apos cpos : Pos} (h : X.K = K) (pa : PlainAttrs T) (slot : Slot T name id) (hty : typeOf (.builtin id) = pure (.type "method_descriptor")) (hm : MtR X id r) (ho : PE X o to)
    (hbase : attributeBase o name X.env (eval o X.env) = eval o X.env := by rfl) (hline : (apos.endLine == cpos.line) = true := by rfl) : PE X (.Call (.Attribute o name apos) [] [] cpos) (tBM0 K T r to) := h ▸ pe_bm0 pa slot hty hm ho hbase hline
end
end Lm

set_option Elab.async false
set_option linter.all false
set_option maxRecDepth 100000
set_option maxHeartbeats 2000000
namespace Lm
open PySem PySem.Spec PyProof.Rows L2 LmR
/-! ### programs -/
inductive Bw where
  | least
  | most
  | atmost
  | both
  | either
def Bw.str : Bw → Str
  | .least => "least"
  | .most => "most"
  | .atmost => "atmost"
  | .both => "both"
  | .either => "either"
/-- the kind due to its parts; its own (true: truth) -/
def Bw.arg : Bw → Bool
  | .least => false
  | .most => false
  | .atmost => false
  | .both => true
  | .either => true
def Bw.own : Bw → Bool
  | .least => false
  | .most => false
  | .atmost => true
  | .both => true
  | .either => true
inductive Pg where
  | inp (k : Nat)
  | num (c : Int)
  | tr (b : Bool)
  | plus (c : Int) (a : Pg)
  | bin (w : Bw) (a b : Pg)
  | neg (a : Pg)
  | ite (p a b : Pg)
def trS : Bool → Str
  | true => "yes"
  | false => "no"
def kS : Bool → Str
  | true => "truth"
  | false => "num"
def word : Pg → Str
  | .inp _ => "in"
  | .num _ => "num"
  | .tr b => trS b
  | .plus _ _ => "plus"
  | .bin w _ _ => w.str
  | .neg _ => "not"
  | .ite _ _ _ => "if"
def enc : Pg → PyData
  | .inp k => .tuple [.str "in", .int k]
  | .num c => .tuple [.str "num", .int c]
  | .tr b => .tuple [.str (trS b)]
  | .plus c a => .tuple [.str "plus", .int c, enc a]
  | .bin w a b => .tuple [.str w.str, enc a, enc b]
  | .neg a => .tuple [.str "not", enc a]
  | .ite p a b => .tuple [.str "if", enc p, enc a, enc b]
theorem flat_enc : ∀ p : Pg, flat (enc p) = true
  | .inp _ => rfl
  | .num _ => rfl
  | .tr _ => rfl
  | .plus c a => by simp [enc, flat, flat.flats, flat_enc a]
  | .bin w a b => by simp [enc, flat, flat.flats, flat_enc a, flat_enc b]
  | .neg a => by simp [enc, flat, flat.flats, flat_enc a]
  | .ite p a b => by simp [enc, flat, flat.flats, flat_enc a, flat_enc b, flat_enc p]
/-- its kind by itself -/
def own (ks : List Bool) : Pg → Bool
  | .inp k => ks.getD k false
  | .num _ => false
  | .tr _ => true
  | .plus _ _ => false
  | .bin w _ _ => w.own
  | .neg _ => true
  | .ite _ a _ => own ks a
/-- it is let by -/
def Wk (ks : List Bool) : Pg → Prop
  | .inp k => k < ks.length
  | .num _ => True
  | .tr _ => True
  | .plus _ a => Wk ks a ∧ own ks a = false
  | .bin w a b => Wk ks a ∧ Wk ks b ∧ own ks a = w.arg ∧ own ks b = w.arg
  | .neg a => Wk ks a ∧ own ks a = true
  | .ite p a b => Wk ks p ∧ Wk ks a ∧ Wk ks b ∧ own ks p = true ∧ own ks b = own ks a
def parts : Pg → List Pg
  | .inp _ => []
  | .num _ => []
  | .tr _ => []
  | .plus _ a => [a]
  | .bin _ a b => [a, b]
  | .neg a => [a]
  | .ite p a b => [p, a, b]
def psz : Pg → Nat
  | .inp _ => 1
  | .num _ => 1
  | .tr _ => 1
  | .plus _ a => psz a + 1
  | .bin _ a b => psz a + psz b + 1
  | .neg a => psz a + 1
  | .ite p a b => psz p + psz a + psz b + 1
def dep : Pg → Nat
  | .inp _ => 1
  | .num _ => 1
  | .tr _ => 1
  | .plus _ a => dep a + 1
  | .bin _ a b => max (dep a) (dep b) + 1
  | .neg a => dep a + 1
  | .ite p a b => max (dep p) (max (dep a) (dep b)) + 1
def kn : Pg → List Pg
  | .inp k => [.inp k]
  | .num c => [.num c]
  | .tr b => [.tr b]
  | .plus c a => .plus c a :: kn a
  | .bin w a b => .bin w a b :: (kn a ++ kn b)
  | .neg a => .neg a :: kn a
  | .ite p a b => .ite p a b :: (kn p ++ (kn a ++ kn b))
theorem kn_len : ∀ p : Pg, (kn p).length = psz p
  | .inp _ => rfl
  | .num _ => rfl
  | .tr _ => rfl
  | .plus c a => by simp [kn, psz, kn_len a]
  | .bin w a b => by simp [kn, psz, kn_len a, kn_len b]
  | .neg a => by simp [kn, psz, kn_len a]
  | .ite p a b => by simp [kn, psz, kn_len a, kn_len b, kn_len p]; omega
theorem psz_pos (p : Pg) : 1 ≤ psz p := by cases p <;> simp [psz]
theorem dep_pos (p : Pg) : 1 ≤ dep p := by cases p <;> simp [dep]
theorem dep_le : ∀ p : Pg, dep p ≤ psz p
  | .inp _ => Nat.le_refl _
  | .num _ => Nat.le_refl _
  | .tr _ => Nat.le_refl _
  | .plus c a => by have := dep_le a; simp only [dep, psz]; omega
  | .bin w a b => by have := dep_le a; have := dep_le b; simp only [dep, psz]; omega
  | .neg a => by have := dep_le a; simp only [dep, psz]; omega
  | .ite p a b => by have := dep_le a; have := dep_le b; have := dep_le p; simp only [dep, psz]; omega
theorem kn_eq (p : Pg) : kn p = p :: (parts p).flatMap kn := by cases p <;> simp [kn, parts]
theorem psz_eq (p : Pg) : psz p = 1 + ((parts p).map psz).sum := by cases p <;> simp [psz, parts] <;> omega
/-- the things behind its word, as they stand in the tuple -/
def front : Pg → List V
  | .inp k => [.str "in", .int k]
  | .num c => [.str "num", .int c]
  | .tr b => [.str (trS b)]
  | .plus c _ => [.str "plus", .int c]
  | .bin w _ _ => [.str w.str]
  | .neg _ => [.str "not"]
  | .ite _ _ _ => [.str "if"]
/-- the program p stands at v -/
def At (K : PySem.W.Frag) (H : Hp) (v : V) (p : Pg) : Prop := Dp K H v (enc p)
def Ats (K : PySem.W.Frag) (H : Hp) (vs : List V) (ps : List Pg) : Prop := DpAll K H vs (ps.map enc)
theorem At.fd {K : PySem.W.Frag} {H : Hp} {v : V} {p : Pg} (h : At K H v p) : Fd K H v (enc p) := ⟨flat_enc p, h⟩
theorem At.keep {K : PySem.W.Frag} {H H' : Hp} {v : V} {p : Pg} (h : At K H v p) (t : Tp K H H') : At K H' v p := dp_keep t _ _ (flat_enc p) h
theorem flats_encs : ∀ ps : List Pg, flat.flats (ps.map enc) = true
  | [] => rfl
  | p :: ps => by simp [flat.flats, flat_enc p, flats_encs ps]
theorem Ats.keep {K : PySem.W.Frag} {H H' : Hp} {vs : List V} {ps : List Pg} (h : Ats K H vs ps) (t : Tp K H H') : Ats K H' vs ps := dps_keep t _ _ (flats_encs ps) h
theorem Ats.nil {K : PySem.W.Frag} {H : Hp} : Ats K H [] [] := DpAll.nil
theorem Ats.cons {K : PySem.W.Frag} {H : Hp} {v : V} {vs : List V} {p : Pg} {ps : List Pg} (h : At K H v p) (t : Ats K H vs ps) : Ats K H (v :: vs) (p :: ps) := DpAll.cons h t
theorem Ats.app {K : PySem.W.Frag} {H : Hp} : ∀ {vs us : List V} {ps qs : List Pg}, Ats K H vs ps → Ats K H us qs → Ats K H (vs ++ us) (ps ++ qs)
  | [], _, [], _, _, b => b
  | v :: vs, _, p :: ps, _, a, b => by
    cases a with
    | cons h t => exact Ats.cons h (Ats.app (vs := vs) (ps := ps) t b)
  | [], _, p :: ps, _, a, _ => by cases a
  | v :: vs, _, [], _, a, _ => by cases a
theorem Ats.len {K : PySem.W.Frag} {H : Hp} : ∀ {vs : List V} {ps : List Pg}, Ats K H vs ps → vs.length = ps.length
  | [], [], _ => rfl
  | v :: vs, p :: ps, a => by
    cases a with
    | cons h t => rw [List.length_cons, List.length_cons, Ats.len (vs := vs) (ps := ps) t]
  | [], p :: ps, a => by cases a
  | v :: vs, [], a => by cases a
theorem Ats.get {K : PySem.W.Frag} {H : Hp} : ∀ {vs : List V} {ps : List Pg}, Ats K H vs ps → ∀ (j : Nat) (v : V), vs[j]? = some v → ∃ p, ps[j]? = some p ∧ At K H v p
  | [], [], _, j, v, h => by simp at h
  | u :: vs, p :: ps, a, 0, v, h => by
    cases a with
    | cons x t =>
      have e := Option.some.inj h
      subst e
      exact ⟨p, rfl, x⟩
  | u :: vs, p :: ps, a, j + 1, v, h => by
    cases a with
    | cons x t => exact Ats.get (vs := vs) (ps := ps) t j v h
  | [], p :: ps, a, _, _, _ => by cases a
  | v :: vs, [], a, _, _, _ => by cases a
/-- the tuple that it is -/
theorem At.open {K : PySem.W.Frag} {H : Hp} {v : V} {p : Pg} (h : At K H v p) : ∃ (a : Addr) (vs : List V), v = .ref a ∧ SqT K H a (front p ++ vs) ∧ Ats K H vs (parts p) := by
  cases p with
  | inp k =>
    cases h with
    | tup q r =>
      cases r with
      | cons r1 r =>
        cases r with
        | cons r2 r =>
          cases r
          cases r1
          cases r2
          exact ⟨_, [], rfl, q, .nil⟩
  | num c =>
    cases h with
    | tup q r =>
      cases r with
      | cons r1 r =>
        cases r with
        | cons r2 r =>
          cases r
          cases r1
          cases r2
          exact ⟨_, [], rfl, q, .nil⟩
  | tr b =>
    cases h with
    | tup q r =>
      cases r with
      | cons r1 r =>
        cases r
        cases r1
        exact ⟨_, [], rfl, q, .nil⟩
  | plus c a =>
    cases h with
    | tup q r =>
      cases r with
      | cons r1 r =>
        cases r with
        | cons r2 r =>
          cases r1
          cases r2
          exact ⟨_, _, rfl, q, r⟩
  | bin w a b =>
    cases h with
    | tup q r =>
      cases r with
      | cons r1 r =>
        cases r1
        exact ⟨_, _, rfl, q, r⟩
  | neg a =>
    cases h with
    | tup q r =>
      cases r with
      | cons r1 r =>
        cases r1
        exact ⟨_, _, rfl, q, r⟩
  | ite p a b =>
    cases h with
    | tup q r =>
      cases r with
      | cons r1 r =>
        cases r1
        exact ⟨_, _, rfl, q, r⟩
theorem Ats.one {K : PySem.W.Frag} {H : Hp} {vs : List V} {p : Pg} (h : Ats K H vs [p]) : ∃ v, vs = [v] ∧ At K H v p := by
  cases h with
  | cons a r =>
    cases r
    exact ⟨_, rfl, a⟩
theorem Ats.two {K : PySem.W.Frag} {H : Hp} {vs : List V} {p q : Pg} (h : Ats K H vs [p, q]) : ∃ u v, vs = [u, v] ∧ At K H u p ∧ At K H v q := by
  cases h with
  | cons a r =>
    cases r with
    | cons b r =>
      cases r
      exact ⟨_, _, rfl, a, b⟩
theorem Ats.three {K : PySem.W.Frag} {H : Hp} {vs : List V} {p q r : Pg} (h : Ats K H vs [p, q, r]) : ∃ u v w, vs = [u, v, w] ∧ At K H u p ∧ At K H v q ∧ At K H w r := by
  cases h with
  | cons a t =>
    cases t with
    | cons b t =>
      cases t with
      | cons c t =>
        cases t
        exact ⟨_, _, _, rfl, a, b, c⟩
/-! ### sums of sizes -/
theorem kn_le : ∀ (p q : Pg), q ∈ kn p → psz q ≤ psz p
  | .inp _, q, h => by simp [kn] at h; rw [h]; exact Nat.le_refl _
  | .num _, q, h => by simp [kn] at h; rw [h]; exact Nat.le_refl _
  | .tr _, q, h => by simp [kn] at h; rw [h]; exact Nat.le_refl _
  | .plus c a, q, h => by
    simp only [kn, List.mem_cons] at h
    rcases h with h | h
    · rw [h]; exact Nat.le_refl _
    · have := kn_le a q h; simp only [psz]; omega
  | .bin w a b, q, h => by
    simp only [kn, List.mem_cons, List.mem_append] at h
    rcases h with h | h | h
    · rw [h]; exact Nat.le_refl _
    · have := kn_le a q h; simp only [psz]; omega
    · have := kn_le b q h; simp only [psz]; omega
  | .neg a, q, h => by
    simp only [kn, List.mem_cons] at h
    rcases h with h | h
    · rw [h]; exact Nat.le_refl _
    · have := kn_le a q h; simp only [psz]; omega
  | .ite p a b, q, h => by
    simp only [kn, List.mem_cons, List.mem_append] at h
    rcases h with h | h | h | h
    · rw [h]; exact Nat.le_refl _
    · have := kn_le p q h; simp only [psz]; omega
    · have := kn_le a q h; simp only [psz]; omega
    · have := kn_le b q h; simp only [psz]; omega
theorem kn_wk (ks : List Bool) : ∀ (p q : Pg), Wk ks p → q ∈ kn p → Wk ks q
  | .inp _, q, w, h => by simp [kn] at h; rw [h]; exact w
  | .num _, q, w, h => by simp [kn] at h; rw [h]; exact w
  | .tr _, q, w, h => by simp [kn] at h; rw [h]; exact w
  | .plus c a, q, w, h => by
    simp only [kn, List.mem_cons] at h
    rcases h with h | h
    · rw [h]; exact w
    · exact kn_wk ks a q w.1 h
  | .bin _ a b, q, w, h => by
    simp only [kn, List.mem_cons, List.mem_append] at h
    rcases h with h | h | h
    · rw [h]; exact w
    · exact kn_wk ks a q w.1 h
    · exact kn_wk ks b q w.2.1 h
  | .neg a, q, w, h => by
    simp only [kn, List.mem_cons] at h
    rcases h with h | h
    · rw [h]; exact w
    · exact kn_wk ks a q w.1 h
  | .ite p a b, q, w, h => by
    simp only [kn, List.mem_cons, List.mem_append] at h
    rcases h with h | h | h | h
    · rw [h]; exact w
    · exact kn_wk ks p q w.1 h
    · exact kn_wk ks a q w.2.1 h
    · exact kn_wk ks b q w.2.2.1 h
end Lm

set_option Elab.async false
set_option linter.all false
set_option maxRecDepth 100000
set_option maxHeartbeats 2000000
namespace Lm
open PySem PySem.Spec PyProof.Rows L2 LmR
/-! ### a def called within an except suite, handed the exception -/
structure FnP (P : Program) (w : World) (K : PySem.W.Frag) (mg : Str → Option Value) (base : Heap) (p : Addr × Obj) (k : Nat) (f : Addr) (fd : FuncData) (ps : List Str) (sp : Sp) : Prop where
  len : ∀ vs H Q E, sp vs H Q E → vs.length = ps.length
  run : ∀ (A : Around) (outer : List Env) (s : Shared) (H : Hp) (args : Args) (us : List Value) (vs : List V) (Q : VK) (E : XK), L2H.RoomH k A → L2H.PinOk outer H s p → Env0 P w K mg base A outer s H → BindsTo s fd args (ps.zip us) → Vals vs us → sp vs H Q E →
    codeAny (model P w) A (.call (.ref f) args) (CR CX0 outer P w H s Q E) s
theorem fn_ofP {P : Program} {w : World} {K : PySem.W.Frag} {mg : Str → Option Value} {base : Heap} {k : Nat} {x : Str} {st : Stmt} {f : Addr} {fd : FuncData} {N ps : List Str} {sp : Sp} {p : Addr × Obj} (F : Fun K x x st f fd) (S : FnScope N ps (defScope st))
    (len : ∀ vs H Q E, sp vs H Q E → vs.length = ps.length)
    (hbody : ∀ (cdv : Value) (A : Around) (outer : List Env) (s : Shared) (H : Hp) (vs : List V) (Q : VK) (E : XK), L2H.RoomH k (A.deeper (envOfC x (defScope st) s.heap.objs.size f cdv)) → sp vs H Q E →
      ∃ t, PSs (L2H.cxH CX0 P w K mg base N x (defScope st) f cdv A outer s H E p) (defBody st) t ∧ t { nx := fun _ H' => Q .non H', rt := Q } (L2.start N vs) H) : FnP P w K mg base p (k + 1) f fd ps sp := by
  obtain ⟨oc, od, kV, doc, pm, an, cdv, ct, osl, rfl, lk, hcd⟩ := F.ex
  refine ⟨len, fun A outer s H args us vs Q E hr hpin e0 hb r hsp => ?_⟩
  have hl := len _ _ _ _ hsp
  have KX : K.In s.heap := e0.mod.kin.keeps fun b o e => (e0.bs b o e).1
  have lim : s.heap.NoLimit := e0.mod.nolimit.keeps fun b o e => (e0.bs b o e).1
  have hkind : ∀ y ∈ ps.zip us, (defScope st).names.lookup y.1 = some .local ∨ ((defScope st).names.lookup y.1 = some .cell ∧ ((cellsFrom (s.heap.objs.size + 1) (defScope st).names []).lookup y.1).isSome = true) := fun ⟨n, v⟩ hy => by
    rcases S.par n (List.of_mem_zip hy).1 with q | q
    · exact .inl q
    · exact .inr ⟨q, PySem.W.cellsFrom_some _ _ _ (.inl q)⟩
  refine codeAny_call_function hr.depth (KX _ _ lk) rfl S.co S.gen rfl (PySem.W.codeRec_of KX hcd) (hb _ _ _ _ ?_)
  refine wpAny_newFunctionEnv_cells S.kind hkind fun env he s1 y => ?_
  subst he
  refine ⟨lim.keeps y.toInCall.keep, codeAny_func ?_⟩
  obtain ⟨t, ht, hq⟩ := hbody cdv A outer s H vs Q E (hr.deeper _) hsp
  have I : Inv (L2H.cxH CX0 P w K mg base N x (defScope st) f cdv A outer s H E p) [] (L2.start N vs) H s1 := L2H.inv_startH S hpin e0 hl r y
  refine wpAny_mono (ht.run [] s1 (L2.start N vs) H _ I hq) (fun fl s' hs => ?_) fun e s' hs => hs
  have fin : ∀ {σ' : L2.St} {H' : Hp} {v : V} {u : Value}, Inv (L2H.cxH CX0 P w K mg base N x (defScope st) f cdv A outer s H E p) [] σ' H' s' → RelV v u → Q v H' → CE outer P w H s Q u s' :=
    fun {σ' H' v u} J rv q => ⟨v, H', J.os, J.bare, J.base, J.hok, rv, q⟩
  cases fl with
  | ret u =>
    obtain ⟨v, σ', H', J, rv, q⟩ := hs
    exact fin J rv q
  | next =>
    obtain ⟨σ', H', J, q⟩ := hs
    exact fin (v := V.non) (u := Value.none) J rfl q
  | brk =>
    obtain ⟨_, _, _, q⟩ := hs
    exact False.elim q
  | cont =>
    obtain ⟨_, _, _, q⟩ := hs
    exact False.elim q
theorem pe_callP {X : Cx} {k : Nat} {f : Addr} {fd : FuncData} {ps : List Str} {sp : Sp} {x : Str} {q pos : Pos} {e : Expr} {es : List Expr} {t : TA} {p : Addr × Obj} (F : FnP X.prog X.w X.K X.mg X.base p k f fd ps sp) (hr : L2H.RoomH k X.A) (hp : p ∈ X.pn) (hg : Gl X x) (hm : X.mg x = some (.ref f)) (hk : PySem.W.keepIn X.K (.ref f) = true) (hb : Binds X.K fd ps [])
    (ha : PA X (e :: es) t) (hdb : (x == ("__debug__" : Str)) = false := by decide) (he : starEach (e :: es) X.env = (false, eval e X.env) :: starEach es X.env := by rfl) (hpl : (backTo pos (starEach es X.env)).any (·.1) = false := by rfl) :
    PE X (.Call (.Name x q) (e :: es) [] pos) (tCall sp [] (fun _ _ _ => False) t) := by
  refine ⟨fun pins s σ H Q I h => ?_⟩
  refine wpAny_Call_Name_kw (ld_glob I hg hm ?_ hdb)
  refine PySem.W.callWith_K (h₀ := X.base) I.ok.mod.kin hk (thn (ha.run pos pins s σ H _ I h) fun us s1 ⟨vs, H1, I1, r, q⟩ => ⟨I1.kIn, ?_⟩) he hpl
  have q : sp vs H1 Q (fun _ _ _ => False) := by
    have z : sp (vs ++ []) H1 Q (fun _ _ _ => False) := q
    rw [List.append_nil] at z
    exact z
  have hl : us.length = ps.length := by rw [← r.length]; exact F.len _ _ _ _ q
  have b := hb s1 us I1.kIn (by rw [List.append_nil]; exact hl)
  rw [List.append_nil] at b
  have P1 := I1.pin p (List.mem_append_left _ hp)
  have hpin : L2H.PinOk X.stack H1 s1 p := ⟨P1.1, P1.2.1, fun hm => (List.mem_cons.mp (I1.stkSub p.1 hm)).elim P1.2.2.1 P1.2.2.2.1, P1.2.2.2.2⟩
  refine wpAny_call (codeAny_mono (F.run X.A X.stack s1 H1 ⟨us, []⟩ us vs Q (fun _ _ _ => False) hr hpin I1.env0 b r q) fun r s' hq => ?_)
  cases r with
  | error e => exact hq.elim
  | ok fl =>
    cases fl with
    | ret u => exact I1.after hq
    | next => exact False.elim hq
    | brk => exact False.elim hq
    | cont => exact False.elim hq
/-! ### isinstance of an exception that is pinned -/
structure ExK (K : PySem.W.Frag) (C : Addr) : Prop where
  cl : (PySem.W.clsIn K C).isSome = true
  ga : PySem.W.findIn K (.ref C) "__getattribute__" = some (some (.builtin "BaseException.__getattribute__"))
  gg : PySem.W.findIn K (.ref C) "__getattr__" = some none
  ex : PySem.W.subIn K (.ref C) (.type "BaseException") = some true
  ca : PySem.W.findIn K (.ref C) "__class__" = some (some (.builtin "object.__class__"))
  gn : PySem.W.specialIn K (.builtin "object.__class__") "__get__" = some (some (.builtin "getset_descriptor.__get__"))
  tk : PySem.W.takesIn K (.builtin "object.__class__") = some true
  ob : PySem.W.mroIn K C (.type "object") = some true
/-- isinstance(e, c), e the exception at a of the class at C -/
def rIsP (K : PySem.W.Frag) (C a : Addr) : List V → Hp → VK → Prop := fun xs H Q => ∃ (D : Addr) (b : Bool), xs = [.ref a, .ref D] ∧ PySem.W.kitOne K (.ref C) (.ref D) = some b ∧ Q (.bl b) H
theorem call_isP {X : Cx} {a C : Addr} {oe : Obj} {dct : Option Addr} (k : ExK X.K C) (hz : Zc (.ref C) dct oe) (hf : ∃ vs, oe.data = .fields vs) (hp : (a, oe) ∈ X.pn) (hd : ∀ pins σ H s, Inv X pins σ H s → ∃ od : Option Obj, PySem.W.InstAt s.heap a oe C od) : CallR X (.builtin "isinstance") (rIsP X.K C a) := by
  intro pins s σ H xs us Q I r h
  obtain ⟨D, b, rfl, e, q⟩ := h
  obtain ⟨u1, u2, rfl, r1, r2⟩ := vals2 r
  cases (show u1 = Value.ref a from r1)
  cases (show u2 = Value.ref D from r2)
  obtain ⟨od, J⟩ := hd pins σ H s I
  exact PySem.W.kia_one (PySem.W.kitx_exc k.cl k.ga k.gg k.ex k.ca k.gn k.tk k.ob) I.kIn J e (fun z => nomatch z) fun tk => ⟨.bl b, H, I.tok tk, rfl, q⟩
/-! ### xs.count(True) of truths -/
theorem mt_countB {X : Cx} : MtR X "list.count" (fun x xs H Q => ∃ (p : Addr) (bs : List Bool), x = .ref p ∧ xs = [.bl true] ∧ SqL X.K H p (bs.map V.bl) ∧ Q (.int (bs.count true : Nat)) H) := by
  intro pins s σ H x xs v us Q I rx rxs h
  obtain ⟨p, bs, rfl, rfl, hs, q⟩ := h
  cases rx
  obtain ⟨u, rfl, ru⟩ := rxs.one
  cases (show u = Value.bool true from ru)
  obtain ⟨its, rv, ⟨⟨cls, dd, data, sl⟩, n, ho, hc, hdn, hd⟩, hlen⟩ := I.list hs
  simp only at hc hd
  subst hc hd
  have key : ∀ (bs : List Bool) (its : List Value), Vals (bs.map V.bl) its → its = bs.map Value.bool := by
    intro bs
    induction bs with
    | nil => intro its r; cases r; rfl
    | cons b bs ih =>
      intro its r
      cases r with
      | cons a r =>
        rename_i u us'
        rw [List.map_cons, ih us' r]
        congr 1
  have ei := key bs its rv
  subst ei
  let g : Value → Bool := fun y => y == .bool true
  refine call_meets PySem.F.slot_list_count ⟨_, ho, rfl⟩ PySem.F.entry_list_count (PySem.F.args_list_count_2 _ _)
    (SeqAt.list_countAt p (bs.map Value.bool).toArray n dd sl (.bool true) g) ⟨ho, fun y hy => ?_, ?_⟩
  · have hy' : y ∈ bs.map Value.bool := by simpa using hy
    obtain ⟨b, _, rfl⟩ := List.mem_map.mp hy'
    have eg : g (.bool b) = eqV (.bl b) (.bl true) := by cases b <;> rfl
    rw [eg]
    exact eqAt_V (y := .bl b) (x := .bl true) rfl rfl rfl rfl
  · have ec : ((bs.map Value.bool).toArray.toList.countP g) = bs.count true := by
      show (bs.map Value.bool).countP g = _
      rw [List.countP_map]
      unfold List.count
      congr 1
      funext b
      cases b <;> rfl
    refine ⟨.int (bs.count true : Nat), H, I.tok _, ⟨s.toks, ?_⟩, q⟩
    show Value.int (((bs.map Value.bool).toArray.toList.countP g : Nat) : Int) s.toks = Value.int ((bs.count true : Nat) : Int) s.toks
    rw [ec]
end Lm

set_option Elab.async false
set_option linter.all false
set_option maxRecDepth 100000
set_option maxHeartbeats 2000000
namespace Lm
open PySem PySem.Spec PyProof.Rows L2 LmR
abbrev oEnum (a : Addr) : Obj := { cls := .type "enumerate", data := .fields #[.none, .bool false, .ref a, rawInt 0, .none, .none] }
/-- enumerate(v): two new cells -/
theorem enum_new1 {v : Value} {o : Obj} {G : Heap → Prop} (B : Begins v o G) :
    Meets (Builtin.«enumerate.__new__» ⟨[.type "enumerate", v], []⟩) (fun _ R s => G s.heap ∧ R (.ok (.ret (.ref (s.heap.push o).objs.size))) { s with heap := (s.heap.push o).push (oEnum s.heap.objs.size) }) :=
  .of_wp fun prog w A R s hh => by
    obtain ⟨hp, g, d, tk, os⟩ := s
    obtain ⟨hG, hR⟩ := hh
    have hsub := sub_enumerate
    have go : ∀ {A' : Around} {E : Value → Shared → Prop} {Q : Value → Shared → Prop}, Q (.ref hp.objs.size) ⟨hp.push o, g, d, tk, os⟩ → wpAny (model prog w) A' (pyIter v) Q E ⟨hp, g, d, tk, os⟩ :=
      fun q => B.iter prog w _ _ _ _ hG q
    wp_walk using go
    refine wpAny_stack_any fun st => wpAny_pure ?_
    split
    · rename_i c _ _ _ _ _
      cases (c == Value.type "enumerate") <;> (wp_walk using go; exact ⟨_, rfl, hR⟩)
    · wp_walk using go
      exact ⟨_, rfl, hR⟩
theorem enum_call1 {prog : Program} {w : World} {A : Around} {E : Value → Shared → Prop} {s : Shared} {v : Value} {o : Obj} {G : Heap → Prop} {Q : Value → Shared → Prop} (B : Begins v o G) (hG : G s.heap)
    (hQ : ∀ h2, IsEnum h2 (s.heap.objs.size + 1) s.heap.objs.size 0 .none → h2.get? s.heap.objs.size = some o → (∀ b ob, s.heap.get? b = some ob → h2.get? b = some ob) → Q (.ref (s.heap.objs.size + 1)) { s with heap := h2 }) :
    wpAny (model prog w) A (call (.type "enumerate") [v]) Q E s := by
  refine callType_new F.called_enumerate (by decide) (F.typeCall_enumerate_1 _) (F.newCall_enumerate_1 _) (fun obj => F.args_object_init_2 obj _) F.entry_enumerate_new (enum_new1 B) ⟨hG, ?_⟩
  have z : (s.heap.push o).objs.size = s.heap.objs.size + 1 := Heap.size_push ..
  show _ ∧ _
  rw [z]
  have he : IsEnum ((s.heap.push o).push (oEnum s.heap.objs.size)) (s.heap.objs.size + 1) s.heap.objs.size 0 .none := by
    have y := Heap.get?_push_size (s.heap.push o) (o := oEnum s.heap.objs.size) rfl
    rw [z] at y
    exact y
  exact ⟨⟨_, he, rfl⟩, hQ _ he (Heap.get?_push_of_some _ (Heap.get?_push_size _ B.free)) fun b ob x => Heap.get?_push_of_some _ (Heap.get?_push_of_some _ x)⟩
theorem enum_over {prog : Program} {w : World} {A : Around} {E : Value → Shared → Prop} {s : Shared} {e it a : Addr} {i : Nat} {items : Array Value} {c : Int} {old : Value} {Q : Option Value → Shared → Prop} (hd : A.handled = none)
    (he : IsEnum s.heap e it c old) (hit : s.heap.IsTupleIter it a i) (ht : s.heap.IsTuple a items) (hx : items[i]? = none) (hQ : ∀ h2, Heap.ExtBut it s.heap h2 → Q none { s with heap := h2 }) : wpAny (model prog w) A (pyNext (.ref e)) Q E s := by
  have D : Draws prog w A.in1 it [it, a] i (fun _ _ => True) (fun j h => j = i ∧ h.IsTupleIter it a i ∧ h.IsTuple a items) :=
    { live := fun _ _ st => by obtain ⟨_, ⟨o, ho, _⟩, _⟩ := st; exact ⟨o, ho⟩
      frame := fun _ _ _ st hk => ⟨st.1, st.2.1.at fun o q => hk it (by simp) o q, st.2.2.at fun o q => hk a (by simp) o q⟩
      item := fun j s Q E hj st _ => absurd st.1 (Nat.ne_of_lt hj)
      done := fun s Q E st hE => wpAny_nextOf_tuple_end (by first | exact hd | (show A.in1.handled = none; exact hd)) st.2.1 st.2.2 hx hE }
  exact wpAny_pyNext_enum_endD D he ⟨rfl, hit, ht⟩ hQ
/-- the tuple at a: each item, its number ahead of it, in a new pair -/
def IteT (K : PySem.W.Frag) (a : Addr) : It :=
  ⟨fun i H => ∃ (xs : List V) (x : V), SqT K H a xs ∧ xs[i]? = some x,
    fun i H v H' => ∃ T x, v = .ref T ∧ H T = none ∧ H' = upd H T (.tup [.int (i : Nat), x]) ∧ ∀ xs, SqT K H a xs → xs[i]? = some x,
    fun i H => ∃ xs : List V, SqT K H a xs ∧ xs.length ≤ i⟩
theorem turn_enumT {P : Program} {w : World} {K : PySem.W.Frag} {elts : List Expr} {kk : Nat} {tpos : Pos} (a e it : Addr) :
    Turn P w K (.Tuple elts kk tpos) (IteT K a) [e, it] e (fun i h => (∃ old, IsEnum h e it ((i : Nat) : Int) old) ∧ h.IsTupleIter it a i ∧ e ≠ it ∧ a ≠ e ∧ a ≠ it) where
  mem := by simp
  obj := fun i h st b hb => by
    obtain ⟨⟨old, he⟩, ⟨o, ho, hc, hd⟩, _⟩ := st
    have e' : b = e ∨ b = it := by simpa using hb
    rcases e' with z | z
    · rw [z]; exact ⟨_, he, fun v q => nomatch q⟩
    · rw [z]; exact ⟨o, ho, fun v q => by rw [hd] at q; cases q⟩
  keep := fun i h h' st k => by
    obtain ⟨⟨old, he⟩, hi, r⟩ := st
    exact ⟨⟨old, k e (by simp) _ he⟩, hi.at fun o q => k it (by simp) o q, r⟩
  item := by
    intro X hP hw hK hc i pins s σ H E I hf st hg
    subst hP hw hK
    obtain ⟨⟨old, he⟩, hit, hne, hae, hai⟩ := st
    obtain ⟨xs, x, hq, hx⟩ := hg
    obtain ⟨its, rv, p, hz⟩ := I.tuple hq
    obtain ⟨u, hu, ru⟩ := rv.get hx
    have ht : s.heap.IsTuple a its.toArray := p
    have hel : e < s.heap.objs.size := Heap.lt_size he
    have hil : it < s.heap.objs.size := by obtain ⟨_, q, _⟩ := hit; exact Heap.lt_size q
    have D := Draws.tuple (prog := X.prog) (w := X.w) (A := X.A.in1) (I.ok.hd hc) it a hai its.toArray
    have hlt : i < its.toArray.size := by
      have z : i < its.length := (List.getElem?_eq_some_iff.mp hu).1
      simpa using z
    refine wpAny_pyNext_enum_itemD D he ⟨hit, ht⟩ hlt hne (by simp [hne, Ne.symm hae]) fun y h' tk hy ho hst hT hsz hk => ?_
    have ey : y = u := by
      have z : its[i]? = some y := by simpa using hy
      rw [hu] at z
      exact (Option.some.inj z).symm
    subst ey
    refine ⟨_, rfl, wpAny_letOwnedTupleGo_enum (s := { s with heap := h', toks := tk + 1 }) ho fun h'' he' sb => ?_⟩
    have hT2 : h''.get? s.heap.objs.size = some { cls := .type "tuple", data := .seq #[.int i tk, y] } := (sb.2 _ (Nat.ne_of_gt hel)).trans hT
    have new : ObjOk X.prog X.w (upd H s.heap.objs.size (.tup [.int (i : Nat), x])) h'' s.heap.objs.size (.tup [.int (i : Nat), x]) :=
      ⟨by show 2 ≤ sizeLine; decide, [.int i tk, y], .cons ⟨_, rfl⟩ (.cons ru .nil), ⟨_, hT2, rfl, _, rfl⟩⟩
    have I1 : Inv X pins σ (upd H s.heap.objs.size (.tup [.int (i : Nat), x])) { s with heap := h'', toks := tk + 1 } :=
      I.turnedNew (ch := [e, it]) (fun b ob hb q => (sb.2 b (fun z => hb (by simp [z]))).trans (hk b ob (fun z => hb (by simp [z])) (fun z => hb (by simp [z])) q)) hf (Nat.le_refl _) new
    have fr : H s.heap.objs.size = none := I.hok.fresh (Nat.le_refl _)
    refine ⟨.ref s.heap.objs.size, _, I1, rfl, ⟨_, x, rfl, fr, rfl, fun ys hy => by rw [I.tuple_inj hy hq]; exact hx⟩, ⟨⟨y, ?_⟩, hst.1.at fun o q => (sb.2 it (Ne.symm hne)).trans q, hne, hae, hai⟩, fun b hb => ?_⟩
    · have e1 : ((i + 1 : Nat) : Int) = (i : Int) + 1 := by omega
      rw [e1]; exact he'
    · have e' : b = e ∨ b = it := by simpa using hb
      have hb' : b < s.heap.objs.size := by rcases e' with z | z <;> rw [z] <;> assumption
      rw [upd_ne (Nat.ne_of_lt hb')]
      exact (hf b hb).1
  done := by
    intro X hP hw hK hc i pins s σ H E I hf st hg
    subst hP hw hK
    obtain ⟨⟨old, he⟩, hit, hne, hae, hai⟩ := st
    obtain ⟨xs, hq, hx⟩ := hg
    obtain ⟨its, rv, p, hz⟩ := I.tuple hq
    have ht : s.heap.IsTuple a its.toArray := p
    obtain ⟨f0, f1, f2, f3, f4, f5⟩ := hf it (by simp)
    have hl := rv.length
    have hT : s.TypeIs (.ref e) "enumerate" := ⟨_, he, rfl⟩
    refine enum_over (I.ok.hd hc) he hit ht (by simp; omega) fun h' eb => ⟨rfl, I.turned (t' := s.toks) (fun b o hb q => eb b o hb q) f0 f1 f3 f4 f5⟩
  self := fun A i s Q E st h => by
    obtain ⟨⟨_, he⟩, _⟩ := st
    exact wpAny_pyIter_enum he h
def iEnumT (K : PySem.W.Frag) (ta : TA) : TI := fun σ H R => ta σ H fun vs H1 => ∃ a xs, vs = [.ref a] ∧ SqT K H1 a xs ∧ R (IteT K a) H1
theorem pi_enumT {X : Cx} {e : Expr} {ta : TA} {p pos tpos : Pos} {elts : List Expr} {kk : Nat} (hg : Gl X "enumerate") (hm : X.mg "enumerate" = none) (ha : PA X [e] ta) (hs : starEach [e] X.env = [(false, eval e X.env)] := by rfl) :
    PI X (.Tuple elts kk tpos) (.Call (.Name "enumerate" p) [e] [] pos) (iEnumT X.K ta) := by
  refine ⟨fun pins s σ H R I h => ?_⟩
  refine Call_ (ld_blt I hg hm boot_enumerate (PyProof.Rows.callWith_type1 (thn (ha.run pos pins s σ H _ I h) fun us s1 ⟨vs, H1, I1, r1, q1⟩ => ?_) hs rfl))
  obtain ⟨a, xs, ex, hq, q⟩ := q1
  subst ex
  cases r1 with
  | cons r rr =>
    cases rr
    cases r
    obtain ⟨its, rv, pt, hz⟩ := I1.tuple hq
    have ht : s1.heap.IsTuple a its.toArray := pt
    have hal : a < s1.heap.objs.size := by obtain ⟨_, q, _⟩ := ht; exact Heap.lt_size q
    refine enum_call1 (begins_tuple a its.toArray) ht fun h2 he hit hk => wpAny_pyIter_enum he ?_
    have I2 : Inv X pins σ H1 { s1 with heap := h2 } := I1.kept (t' := s1.toks) hk
    refine ⟨s1.heap.objs.size + 1, [s1.heap.objs.size + 1, s1.heap.objs.size], _, _, H1, rfl, I2, turn_enumT a (s1.heap.objs.size + 1) s1.heap.objs.size, ⟨⟨.none, he⟩, ⟨_, hit, rfl, rfl⟩, Nat.succ_ne_self _, Nat.ne_of_lt (Nat.lt_succ_of_lt hal), Nat.ne_of_lt hal⟩, fun b hb => ?_, q⟩
    have e' : b = s1.heap.objs.size + 1 ∨ b = s1.heap.objs.size := by simpa using hb
    have hle : s1.heap.objs.size ≤ b := by rcases e' with z | z <;> rw [z] <;> first | exact Nat.le_succ _ | exact Nat.le_refl _
    exact I1.fpOk hle (I1.hok.fresh hle)
end Lm

set_option Elab.async false
set_option linter.all false
set_option maxRecDepth 100000
set_option maxHeartbeats 2000000
namespace Lm
open PySem PySem.Spec PyProof.Rows L2 LmR
/-! ### defs that may refuse -/
def CalX (P : Program) (w : World) (K : PySem.W.Frag) (mg : Str → Option Value) (base : Heap) (k : Nat) (x : Str) (ps : List Str) (sp : Sp) : Prop :=
  ∃ f fd, FnOk P w K mg base (L2.CX P w) k f fd ps sp ∧ mg x = some (.ref f) ∧ PySem.W.keepIn K (.ref f) = true ∧ Binds K fd ps [] ∧ ∃ st, Fun K x x st f fd
section
variable {P : Program} {w : World} {K : PySem.W.Frag} {mg : Str → Option Value} {base : Heap}
theorem calx_of {x : Str} {st : Stmt} {N ps : List Str} {k : Nat} {sp : Sp} (D : DefAt K mg x st ps) (S : FnScope N ps (defScope st)) (len : ∀ vs H Q E, sp vs H Q E → vs.length = ps.length)
    (hbody : ∀ (f : Addr) (cdv : Value) (A : Around) (outer : List Env) (s : Shared) (H : Hp) (vs : List V) (Q : VK) (E : XK), Room k (A.deeper (envOfC x (defScope st) s.heap.objs.size f cdv)) → sp vs H Q E →
      ∃ t, PSs (cxOf (L2.CX P w) P w K mg base N x (defScope st) f cdv A outer s H E) (defBody st) t ∧ t { nx := fun _ H' => Q .non H', rt := Q } (start N vs) H) : CalX P w K mg base (k + 1) x ps sp := by
  obtain ⟨f, fd, F, b, g⟩ := D
  exact ⟨f, fd, F.okX S len (hbody f), g, F.kp, b, _, F⟩
end
theorem pe_calX {X : Cx} {W : WX} {k : Nat} {x : Str} {ps : List Str} {sp : Sp} {e : Expr} {es : List Expr} {t : TA} {p pos : Pos} (C : CalX X.prog X.w X.K X.mg X.base k x ps sp) (tk : Takes X W) (hr : Room k X.A) (hg : Gl X x) (ha : PA X (e :: es) t)
    (hdb : (x == ("__debug__" : Str)) = false := by decide) (he : starEach (e :: es) X.env = (false, eval e X.env) :: starEach es X.env := by rfl) (hpl : (backTo pos (starEach es X.env)).any (·.1) = false := by rfl) :
    PE X (.Call (.Name x p) (e :: es) [] pos) (tCallS sp (WE W) t) := by
  obtain ⟨f, fd, F, g, kp, b, _⟩ := C
  exact pe_callS F hr hg g kp b (fun σ => passAt tk σ) ha hdb he hpl
/-! ### classes of refusals -/
/-- the class x at C, its __init__ (st) keeps the fields fs -/
structure Rf (K : PySem.W.Frag) (mg : Str → Option Value) (x q : Str) (C fI : Addr) (fd : FuncData) (st : Stmt) (fs : List Str) : Prop where
  g : mg x = some (.ref C)
  o : OexC K C
  f : XfC K C
  k : ExK K C
  te : PySem.W.exmOne K (.ref C) (.ref C) = some true
  fld : ∀ n ∈ fs, PySem.W.findIn K (.ref C) n = some none
  iC : PySem.W.findIn K (.ref C) "__init__" = some (some (.ref fI))
  tI : PySem.W.typeIn K (.ref fI) = some (.type "function")
  F : Fun K "__init__" q st fI fd
  b : Binds K fd ("self" :: fs) []
/-- __init__(self, f, g) -/
def spIni2 (C : Addr) (f g : Str) : Sp := fun vs H Q E => ∃ a x y, vs = [.ref a, x, y] ∧ H a = some (exo a C none) ∧
  ∀ (d : Addr) (H' : Hp), H d = none → H' a = some (exo a C (some d)) → H' d = some (exd d [(g, y), (f, x)]) → (∀ b, b ≠ a → b ≠ d → H' b = H b) → Q .non H'
def spIni1 (C : Addr) (f : Str) : Sp := fun vs H Q E => ∃ a x, vs = [.ref a, x] ∧ H a = some (exo a C none) ∧
  ∀ (d : Addr) (H' : Hp), H d = none → H' a = some (exo a C (some d)) → H' d = some (exd d [(f, x)]) → (∀ b, b ≠ a → b ≠ d → H' b = H b) → Q .non H'
/-- what refusing leaves: the fields at d, all else as it was -/
def Raised (H H' : Hp) (d : Addr) (fs : List (Str × V)) : Prop := H d = none ∧ H' d = some (.xd fs) ∧ ∀ b, b ≠ d → H' b = H b
theorem Raised.same {H H' : Hp} {d : Addr} {fs : List (Str × V)} (r : Raised H H' d fs) : Same H H' := fun b o e => by
  have n : b ≠ d := fun z => by rw [z, r.1] at e; cases e
  rw [r.2.2 b n]; exact e
theorem mk_two {C : Addr} {f g : Str} {x y : V} {H : Hp} {Q : XK} (hq : ∀ d H', Raised H H' d [(g, y), (f, x)] → Q (.ref C) (some d) H') :
    [x, y].length ≤ 1000 ∧ ∀ a, H a = none → spIni2 C f g (.ref a :: ([x, y] ++ [])) (upd H a (exo a C none))
      (fun v H2 => v = .non ∧ ∃ (d : Addr) (fs : List (Str × V)), H2 a = some (exo a C (some d)) ∧ H2 d = some (exd d fs) ∧ H d = none ∧ Q (.ref C) (some d) (upd (del H2 a) d (.xd fs))) (fun _ _ _ => False) := by
  refine ⟨by show 2 ≤ 1000; decide, fun a ha => ⟨a, x, y, rfl, upd_same, fun d H' hd h1 h2 h3 => ⟨rfl, d, _, h1, h2, ?_, hq d _ ⟨?_, upd_same, fun b hb => ?_⟩⟩⟩⟩
  all_goals
    have nd : d ≠ a := fun z => by rw [z, upd_same] at hd; cases hd
  · rw [upd_ne nd] at hd; exact hd
  · rw [upd_ne nd] at hd; exact hd
  · rw [upd_ne hb]
    by_cases z : b = a
    · rw [z, del_same, ha]
    · rw [del_ne z, h3 b z hb, upd_ne z]
theorem mk_one {C : Addr} {f : Str} {x : V} {H : Hp} {Q : XK} (hq : ∀ d H', Raised H H' d [(f, x)] → Q (.ref C) (some d) H') :
    [x].length ≤ 1000 ∧ ∀ a, H a = none → spIni1 C f (.ref a :: ([x] ++ [])) (upd H a (exo a C none))
      (fun v H2 => v = .non ∧ ∃ (d : Addr) (fs : List (Str × V)), H2 a = some (exo a C (some d)) ∧ H2 d = some (exd d fs) ∧ H d = none ∧ Q (.ref C) (some d) (upd (del H2 a) d (.xd fs))) (fun _ _ _ => False) := by
  refine ⟨by show 1 ≤ 1000; decide, fun a ha => ⟨a, x, rfl, upd_same, fun d H' hd h1 h2 h3 => ⟨rfl, d, _, h1, h2, ?_, hq d _ ⟨?_, upd_same, fun b hb => ?_⟩⟩⟩⟩
  all_goals
    have nd : d ≠ a := fun z => by rw [z, upd_same] at hd; cases hd
  · rw [upd_ne nd] at hd; exact hd
  · rw [upd_ne nd] at hd; exact hd
  · rw [upd_ne hb]
    by_cases z : b = a
    · rw [z, del_same, ha]
    · rw [del_ne z, h3 b z hb, upd_ne z]
theorem pass_no {X : Cx} : Passes (L2.CX X.prog X.w) X (fun _ _ _ => False) := fun _ _ _ _ _ _ _ c => by
  obtain ⟨_, _, _, _, _, _, _, _, _, _, _, _, z⟩ := c
  exact z.elim
/-- raise x(e, ..) -/
theorem ps_ref {X : Cx} {W : WX} {x q : Str} {C fI : Addr} {fd : FuncData} {st : Stmt} {fs : List Str} {sp : Sp} {k : Nat} {e : Expr} {es : List Expr} {ta : TA} {p pos pos' : Pos} (R : Rf X.K X.mg x q C fI fd st fs) (F : FnOk X.prog X.w X.K X.mg X.base (L2.CX X.prog X.w) k fI fd ("self" :: fs) sp) (hr : Room (k + 1) X.A)
    (hc : X.calm = true) (tk : Takes X W) (hg : Gl X x) (ha : PA X (e :: es) ta)
    (hdb : (x == ("__debug__" : Str)) = false := by decide) (he : starEach (e :: es) X.env = (false, eval e X.env) :: starEach es X.env := by rfl) (hpl : (backTo pos (starEach es X.env)).any (·.1) = false := by rfl) :
    PS X (.Raise (some (.Call (.Name x p) (e :: es) [] pos)) none pos') (fun _ σ H => tMkO C sp [] ta σ H fun cls d H' => W cls d σ H') :=
  ps_raise hc tk (pmk_oex R.o R.iC R.tI F hr R.b .nil pass_no hg R.g ha hdb he hpl)
end Lm
namespace Lm
open PySem PySem.Spec PyProof.Rows L2 LmR
/-! ### x not in a tuple of texts, x any flat data -/
def strIn (ss : List Str) : PyData → Bool
  | .str s => ss.any fun y => y == s
  | _ => false
def rNotInD (K : PySem.W.Frag) : R2 := fun x y H Q => ∃ (p : Addr) (ss : List Str) (d : PyData), y = .ref p ∧ SqT K H p (ss.map V.str) ∧ Fd K H x d ∧ Q (.bl (!strIn ss d)) H
theorem all_str : ∀ ss : List Str, (ss.map V.str).all flatV = true
  | [] => rfl
  | _ :: ss => by rw [List.map_cons, List.all_cons, all_str ss]; rfl
theorem inV_str (ss : List Str) (x : V) (d : PyData) (h : ∀ y : Str, eqV (.str y) x = strIn [y] d) : inV x (ss.map V.str) = strIn ss d := by
  unfold inV
  induction ss with
  | nil => cases d <;> rfl
  | cons s ss ih =>
    rw [List.map_cons, List.any_cons, ih, h s]
    cases d with
    | str z => simp [strIn]
    | _ => rfl
theorem op_notInD {X : Cx} {K : PySem.W.Frag} (hK : X.K = K) (hu : X.A.units + 1 < cLine) : OpR X (compareOp .NotIn) (rNotInD K) := by
  subst hK
  intro pins s σ H x y v u Q I rx ry h
  obtain ⟨p, ss, d, rfl, hq, ⟨fd, hd⟩, q⟩ := h
  by_cases ht : ∃ ds, d = .tuple ds
  · obtain ⟨ds, rfl⟩ := ht
    cases hd with
    | tup qa r =>
      rename_i a vs
      cases rx
      cases ry
      obtain ⟨its, rv, pl, hz⟩ := I.tuple hq
      obtain ⟨itz, rz, plz, hzz⟩ := I.tuple qa
      refine SeqAt.notIn_tupleAt (fun _ => false) pl (fun w hw => ?_) ⟨.bl _, H, I, rfl, ?_⟩
      · have hw' : w ∈ its := by simpa using hw
        have st : ∀ (ss : List Str) (its : List Value), Vals (ss.map V.str) its → ∀ w ∈ its, ∃ b t, w = .str b t := by
          intro ss
          induction ss with
          | nil => intro its r w hw; cases r; cases hw
          | cons z ss ih =>
            intro its r w hw
            cases r with
            | cons ra rb =>
              rcases List.mem_cons.mp hw with e | e
              · obtain ⟨t, et⟩ := ra
                exact ⟨z, t, e.trans et⟩
              · exact ih _ rb w e
        obtain ⟨b, t, rfl⟩ := st ss its rv w hw'
        exact SeqAt.EqAt.str_tuple b t plz (by first | exact hu | (show X.A.units + 1 < cLine; exact hu) | (have := hu; omega))
      · have e : (!(its.toArray.any fun _ => false)) = !strIn ss (.tuple ds) := by simp [strIn]
        rw [e]
        exact q
  · have fx : flatV x = true ∧ ∀ y : Str, eqV (.str y) x = strIn [y] d := by
      cases hd with
      | non => exact ⟨rfl, fun _ => rfl⟩
      | bl b => exact ⟨rfl, fun _ => rfl⟩
      | int i => exact ⟨rfl, fun _ => rfl⟩
      | str z => exact ⟨rfl, fun y => by simp [strIn, eqV]⟩
      | lst q r => simp [flat] at fd
      | tup q r => exact absurd ⟨_, rfl⟩ ht
    refine op_notIn_seq pins s σ H x _ v u Q I rx ry ⟨p, _, rfl, .inr hq, fx.1, all_str ss, ?_⟩
    rw [if_pos rfl, inV_str ss x d fx.2]
    exact q
/-! ### for i, x in enumerate(tuple) -/
theorem for_enumT {K : PySem.W.Frag} {a : Addr} {xs : List V} {g : TG} {tb : TS} {D : Ends} {σ : L2.St} {H : Hp} (Pv : Nat → L2.St → Hp → Prop) (h0 : Pv 0 σ H) (hq : ∀ i σ H, Pv i σ H → SqT K H a xs)
    (hstep : ∀ i x σ H T, xs[i]? = some x → Pv i σ H → H T = none → g (.ref T) σ (upd H T (.tup [.int (i : Nat), x])) fun σ2 H2 => tb { D with nx := Pv (i + 1), ct := Pv (i + 1), bk := D.nx } σ2 H2)
    (hend : ∀ σ H, Pv xs.length σ H → D.nx σ H) :
    ∃ W : Nat → Nat → L2.St → Hp → Prop, (∃ m, W 0 m σ H) ∧ ∀ i m σ H, W i m σ H →
      ((IteT K a).stop i H ∧ D.nx σ H) ∨ ((IteT K a).go i H ∧ ∃ N : L2.St → Hp → Prop, (∀ σ' H', N σ' H' → ∃ m', m' < m ∧ W (i + 1) m' σ' H') ∧ ∀ x H', (IteT K a).yld i H x H' → g x σ H' fun σ2 H2 => tb { D with nx := N, ct := N, bk := D.nx } σ2 H2) := by
  refine ⟨fun i m σ H => i ≤ xs.length ∧ m = xs.length - i ∧ Pv i σ H, ⟨_, Nat.zero_le _, rfl, h0⟩, fun i m σ H ⟨hi, hm, hp⟩ => ?_⟩
  have hs := hq i σ H hp
  rcases Nat.lt_or_ge i xs.length with hlt | hge
  · obtain ⟨x, hx⟩ : ∃ x, xs[i]? = some x := ⟨xs[i], List.getElem?_eq_getElem hlt⟩
    refine .inr ⟨⟨xs, x, hs, hx⟩, Pv (i + 1), fun σ' H' h' => ⟨xs.length - (i + 1), by omega, hlt, rfl, h'⟩, ?_⟩
    rintro y H' ⟨T, z, rfl, hT, rfl, hz⟩
    have e := hz xs hs
    rw [hx] at e
    cases e
    exact hstep i x σ H T hx hp hT
  · have e : i = xs.length := Nat.le_antisymm hi hge
    refine .inl ⟨⟨xs, hs, hge⟩, hend σ H (e ▸ hp)⟩
/-- the defs within a class -/
def clsBody : Stmt → List Stmt
  | .ClassDef _ _ _ b _ _ _ _ _ _ _ => b
  | _ => []
end Lm
namespace Lm
open PySem PySem.Spec PyProof.Rows L2 LmR
/-- isinstance(e, c), e the exception at a, of the class at C, its fields at dd -/
def rIsX (K : PySem.W.Frag) (C a dd : Addr) : List V → Hp → VK → Prop := fun xs H Q => ∃ (D : Addr) (b : Bool), xs = [.ref a, .ref D] ∧ PySem.W.kitOne K (.ref C) (.ref D) = some b ∧ (∃ fs, H dd = some (.xd fs)) ∧ Q (.bl b) H
theorem call_isX {X : Cx} {a C dd : Addr} {oe : Obj} (k : ExK X.K C) (hz : Zc (.ref C) (some dd) oe) (hf : ∃ vs, oe.data = .fields vs) (hp : (a, oe) ∈ X.pn) : CallR X (.builtin "isinstance") (rIsX X.K C a dd) := by
  intro pins s σ H xs us Q I r h
  obtain ⟨D, b, rfl, e, ⟨fs, ea⟩, q⟩ := h
  obtain ⟨u1, u2, rfl, r1, r2⟩ := vals2 r
  cases (show u1 = Value.ref a from r1)
  cases (show u2 = Value.ref D from r2)
  obtain ⟨ha, _⟩ := I.pin (a, oe) (List.mem_append_left _ hp)
  obtain ⟨vs, hd⟩ := hf
  have hx : ObjOk X.prog X.w H s.heap dd (.xd fs) := I.hok dd _ ea
  obtain ⟨mA, hns, hr⟩ := hx
  obtain ⟨od, ho, hl⟩ := lookIn_ns hns
  have J : PySem.W.InstAt s.heap a oe C (some od) := ⟨ha, hz.1, by unfold PySem.W.notCls; rw [hd] <;> rfl, by rw [hz.2]; exact ho⟩
  exact PySem.W.kia_one (PySem.W.kitx_exc k.cl k.ga k.gg k.ex k.ca k.gn k.tk k.ob) I.kIn J e (fun z => nomatch z) fun tk => ⟨.bl b, H, I.tok tk, rfl, q⟩
/-- the twelve classes, and of which of them the class at C is -/
structure Srt (K : PySem.W.Frag) (mg : Str → Option Value) (C : Addr) (c1 c2 c3 c4 c5 c6 c7 c8 c9 c10 c11 c12 : Addr) (b1 b2 b3 b4 b5 b6 b7 b8 b9 b10 b11 b12 : Bool) : Prop where
  g1 : mg "NoHead" = some (.ref c1)
  g2 : mg "NoProgram" = some (.ref c2)
  g3 : mg "NoText" = some (.ref c3)
  g4 : mg "NoStock" = some (.ref c4)
  g5 : mg "NoAnswer" = some (.ref c5)
  g6 : mg "NoInputs" = some (.ref c6)
  g7 : mg "Clash" = some (.ref c7)
  g8 : mg "NoRow" = some (.ref c8)
  g9 : mg "NoQuestion" = some (.ref c9)
  g10 : mg "NoDoer" = some (.ref c10)
  g11 : mg "NotKept" = some (.ref c11)
  g12 : mg "NoName" = some (.ref c12)
  k1 : PySem.W.kitOne K (.ref C) (.ref c1) = some b1
  k2 : PySem.W.kitOne K (.ref C) (.ref c2) = some b2
  k3 : PySem.W.kitOne K (.ref C) (.ref c3) = some b3
  k4 : PySem.W.kitOne K (.ref C) (.ref c4) = some b4
  k5 : PySem.W.kitOne K (.ref C) (.ref c5) = some b5
  k6 : PySem.W.kitOne K (.ref C) (.ref c6) = some b6
  k7 : PySem.W.kitOne K (.ref C) (.ref c7) = some b7
  k8 : PySem.W.kitOne K (.ref C) (.ref c8) = some b8
  k9 : PySem.W.kitOne K (.ref C) (.ref c9) = some b9
  k10 : PySem.W.kitOne K (.ref C) (.ref c10) = some b10
  k11 : PySem.W.kitOne K (.ref C) (.ref c11) = some b11
  k12 : PySem.W.kitOne K (.ref C) (.ref c12) = some b12
def Sorts (K : PySem.W.Frag) (mg : Str → Option Value) (C : Addr) (bs : List Bool) : Prop := ∃ c1 c2 c3 c4 c5 c6 c7 c8 c9 c10 c11 c12 b1 b2 b3 b4 b5 b6 b7 b8 b9 b10 b11 b12,
  Srt K mg C c1 c2 c3 c4 c5 c6 c7 c8 c9 c10 c11 c12 b1 b2 b3 b4 b5 b6 b7 b8 b9 b10 b11 b12 ∧ bs = [b1, b2, b3, b4, b5, b6, b7, b8, b9, b10, b11, b12]
def spSorts (C a : Addr) (cls : Value) (d : Option Addr) (bs : List Bool) : Sp := fun vs H Q _ => vs = [.ref a] ∧ cls = .ref C ∧ ∃ dd fs, d = some dd ∧ H dd = some (.xd fs) ∧ ∀ H' l, Same H H' → H' l = some (.lst (bs.map V.bl)) → Q (.ref l) H'
end Lm

set_option Elab.async false
set_option linter.all false
set_option maxRecDepth 100000
set_option maxHeartbeats 2000000
namespace Lm
open PySem PySem.Spec PyProof.Rows L2 LmR
/-! ### match e: case "text": .. case _: .. -/
abbrev TM := V → TS
structure PM (X : Cx) (cs : List MatchCase) (t : TM) : Prop where
  run : ∀ (pins : List (Addr × Obj)) (s : Shared) (σ : L2.St) (H : Hp) (D : Ends) (x : V) (v : Value) (first : Bool), Inv X pins σ H s → RelV x v → t x D σ H → wpAny (model X.prog X.w) X.A (matchCases cs X.env v first) (SP X pins D) X.xe s
section
variable {X : Cx} {e : Expr} {te : TE} {cs : List MatchCase} {t : TS} {u : TM} {body : List Stmt} {pos p : Pos}
def tMatch (te : TE) (u : TM) : TS := fun D σ H => te σ H fun x H1 => u x D σ H1
theorem ps_match (he : PE X e te) (hm : PM X cs u) : PS X (.Match e cs pos) (tMatch te u) := by
  refine ⟨fun pins s σ H D I h => ?_⟩
  exact wpAny_Match (thn (he.run pins s σ H _ I h) fun v s1 ⟨x, H1, I1, r1, q1⟩ => hm.run pins s1 σ H1 D x v true I1 r1 q1)
theorem pm_nil : PM X [] (fun _ => tNext) := ⟨fun _ _ σ H _ _ _ _ I _ h => wpAny_matchCases_nil ⟨σ, H, I, h⟩⟩
theorem pm_any (hb : PSs X body t) : PM X (⟨.MatchAs none none pos, none, body⟩ :: cs) (fun _ => t) :=
  ⟨fun pins s σ H D x v first I r h => wpAny_matchCases_cons (wpAny_matchPattern_Capture (wpAny_assignInOrder_none (hb.run pins s σ H D I h)))⟩
def tCaseS (z : Str) (t : TS) (u : TM) : TM := fun x D σ H => ∃ y, x = .str y ∧ (y = z → t D σ H) ∧ (y ≠ z → u x D σ H)
theorem pm_str {z : Str} {j : Nat} (hb : PSs X body t) (hr : PM X cs u) : PM X (⟨.MatchValue (.Constant (.str z) j p) pos, none, body⟩ :: cs) (tCaseS z t u) := by
  refine ⟨fun pins s σ H D x v first I r h => ?_⟩
  obtain ⟨y, rfl, h1, h2⟩ := h
  refine wpAny_matchCases_cons (wpAny_matchPattern_Value ?_)
  refine thn ((pe_str (X := X) (x := z)).run pins s σ H (fun c H' => c = .str z ∧ H' = H) I ⟨rfl, rfl⟩) fun c s1 ⟨w, H1, I1, r1, ew, eH⟩ => ?_
  subst ew
  subst eH
  refine thn (op_eq (X := X) pins s1 σ H1 (.str y) (.str z) v c (fun b H' => b = .bl (decide (V.str y = V.str z)) ∧ H' = H1) I1 r r1 ⟨rfl, rfl, rfl⟩) fun c2 s2 ⟨b, H2, I2, r2, eb, eH⟩ => ?_
  subst eb
  subst eH
  cases r2
  refine wpAny_truthy_bool ?_
  by_cases c : y = z
  · rw [decide_eq_true (congrArg V.str c)]
    exact wpAny_assignInOrder_none (hb.run pins s2 σ H2 D I2 (h1 c))
  · rw [decide_eq_false fun q => c (V.str.inj q)]
    exact hr.run pins s2 σ H2 D (.str y) v false I2 r (h2 c)
end
end Lm

set_option Elab.async false
set_option linter.all false
set_option maxRecDepth 100000
set_option maxHeartbeats 2000000
namespace Lm
open PySem PySem.Spec PyProof.Rows L2 LmR
/-! ### words: their signs, numerals -/
abbrev chs (w : Str) : List Nat := w.cps.toList
theorem str_ext {x y : Str} (h : chs x = chs y) : x = y := by
  obtain ⟨x⟩ := x
  obtain ⟨y⟩ := y
  have z : x = y := Array.toList_inj.mp h
  rw [z]
def dig (c : Nat) : Bool := decide (48 ≤ c ∧ c ≤ 57)
def figs : List Nat → List Nat
  | 45 :: cs => cs
  | cs => cs
def isN (cs : List Nat) : Bool := (cs == [48]) || (decide (1 ≤ (figs cs).length ∧ (figs cs).length ≤ 6) && (!((figs cs).head? == some 48) && (figs cs).all dig))
def isNeg (cs : List Nat) : Bool := cs.head? == some 45
def numOf (cs : List Nat) : Int := if isNeg cs then -((NumText.digitsVal (figs cs) : Nat) : Int) else ((NumText.digitsVal (figs cs) : Nat) : Int)
theorem figs_neg {cs : List Nat} (h : isNeg cs = true) : cs = 45 :: figs cs := by
  cases cs with
  | nil => cases h
  | cons c cs =>
    have e : c = 45 := by simpa [isNeg] using h
    subst e
    rfl
theorem figs_pos {cs : List Nat} (h : ¬ isNeg cs = true) : figs cs = cs := by
  cases cs with
  | nil => rfl
  | cons c cs =>
    have e : c ≠ 45 := by simpa [isNeg] using h
    unfold figs
    split
    · rename_i a b z
      exact absurd (List.cons.inj z).1 e
    · rfl
theorem dv_snoc (xs : List Nat) (c : Nat) : NumText.digitsVal (xs ++ [c]) = NumText.digitsVal xs * 10 + (c - 48) := by
  unfold NumText.digitsVal
  rw [List.foldl_append]
  rfl
theorem dv_ge : ∀ (cs : List Nat) (a : Nat), a ≤ cs.foldl (fun acc c => acc * 10 + (c - 48)) a
  | [], a => Nat.le_refl _
  | c :: cs, a => by
    have := dv_ge cs (a * 10 + (c - 48))
    show a ≤ cs.foldl _ (a * 10 + (c - 48))
    omega
theorem dv_pos {c : Nat} {cs : List Nat} (h1 : 48 ≤ c ∧ c ≤ 57) (h2 : c ≠ 48) : 0 < NumText.digitsVal (c :: cs) := by
  have := dv_ge cs (0 * 10 + (c - 48))
  show 0 < cs.foldl _ (0 * 10 + (c - 48))
  omega
theorem dig_char : ∀ c : Nat, c < 58 → 48 ≤ c → (Nat.digitChar (c - 48)).toNat = c := by decide
/-- the figures of a number are its text -/
theorem canon : ∀ (n : Nat) (cs : List Nat), cs.length = n → cs ≠ [] → cs.head? ≠ some 48 → (∀ c ∈ cs, 48 ≤ c ∧ c ≤ 57) → (Nat.toDigits 10 (NumText.digitsVal cs)).map Char.toNat = cs
  | 0, cs, hl, hne, _, _ => absurd (List.eq_nil_of_length_eq_zero hl) hne
  | n + 1, cs, hl, hne, hh, hd => by
    have e : cs = cs.dropLast ++ [cs.getLast hne] := (List.dropLast_concat_getLast hne).symm
    generalize hx : cs.dropLast = xs at e
    generalize cs.getLast hne = c at e
    subst e
    have hc := hd c (by simp)
    have hxl : xs.length = n := by simp at hl; exact hl
    rw [dv_snoc]
    by_cases z : xs = []
    · subst z
      have e1 : NumText.digitsVal ([] : List Nat) * 10 + (c - 48) = c - 48 := by show 0 * 10 + (c - 48) = c - 48; omega
      rw [e1, Nat.toDigits_of_lt_base (by omega)]
      show [(Nat.digitChar (c - 48)).toNat] = [c]
      rw [dig_char c (by omega) hc.1]
    · have hh' : xs.head? ≠ some 48 := by
        cases xs with
        | nil => exact absurd rfl z
        | cons x xs => simpa using hh
      have hd' : ∀ c ∈ xs, 48 ≤ c ∧ c ≤ 57 := fun c' h => hd c' (List.mem_append_left _ h)
      have ih := canon n xs hxl z hh' hd'
      have pos : 0 < NumText.digitsVal xs := by
        cases xs with
        | nil => exact absurd rfl z
        | cons x xs => exact dv_pos (hd' x List.mem_cons_self) (by simpa using hh')
      have t := Nat.toDigits_append_toDigits (b := 10) (n := NumText.digitsVal xs) (d := c - 48) (by decide) pos (by omega)
      rw [Nat.mul_comm, ← t, List.map_append, ih, Nat.toDigits_of_lt_base (by omega)]
      show xs ++ [(Nat.digitChar (c - 48)).toNat] = _
      rw [dig_char c (by omega) hc.1]
theorem isN_split {cs : List Nat} (h : isN cs = true) : cs = [48] ∨ (figs cs ≠ [] ∧ (figs cs).length ≤ 6 ∧ (figs cs).head? ≠ some 48 ∧ ∀ c ∈ figs cs, 48 ≤ c ∧ c ≤ 57) := by
  unfold isN at h
  rw [Bool.or_eq_true, Bool.and_eq_true, Bool.and_eq_true] at h
  rcases h with h | ⟨h1, h2, h3⟩
  · exact .inl (by simpa using h)
  · have a := of_decide_eq_true h1
    refine .inr ⟨fun z => by rw [z] at a; simp at a, a.2, by simpa using h2, fun c hc => ?_⟩
    have z := List.all_eq_true.mp h3 c hc
    exact of_decide_eq_true z
theorem num_text {w : Str} (h : isN (chs w) = true) : intText? w = some (numOf (chs w)) ∧ w.length ≤ 7 := by
  rcases isN_split h with e | ⟨h1, h2, h3, h4⟩
  · have ew : w = "0" := str_ext (by rw [e]; decide +kernel)
    subst ew
    exact ⟨by decide +kernel, by decide⟩
  · by_cases c : isNeg (chs w) = true
    · have e := figs_neg c
      have hl : w.length ≤ 7 := by
        have z : w.length = (chs w).length := by simp [Str.length]
        rw [z, e, List.length_cons]
        omega
      refine ⟨?_, hl⟩
      have z := PySem.intText_neg e h4 h1 (by omega)
      rw [z]
      unfold numOf
      rw [if_pos c]
    · have e := figs_pos c
      rw [e] at h1 h2 h4
      have hl : w.length ≤ 7 := by
        have z : w.length = (chs w).length := by simp [Str.length]
        omega
      refine ⟨?_, hl⟩
      rw [PySem.intText_digits h4 h1 (by omega)]
      unfold numOf
      rw [if_neg c, e]
theorem ofString_chs (s : String) : chs (Str.ofString s) = s.toList.map Char.toNat := signs_ofString s
theorem num_show {w : Str} (h : isN (chs w) = true) : Str.ofString (toString (numOf (chs w))) = w := by
  rcases isN_split h with e | ⟨h1, h2, h3, h4⟩
  · have ew : w = "0" := str_ext (by rw [e]; decide +kernel)
    subst ew
    decide +kernel
  · have cn := canon _ (figs (chs w)) rfl h1 h3 h4
    have pos : 0 < NumText.digitsVal (figs (chs w)) := by
      cases hf : figs (chs w) with
      | nil => exact absurd hf h1
      | cons x xs =>
        rw [hf] at h3 h4
        exact dv_pos (h4 x List.mem_cons_self) (by simpa using h3)
    apply str_ext
    by_cases c : isNeg (chs w) = true
    · have e := figs_neg c
      unfold numOf
      rw [if_pos c]
      obtain ⟨m, em⟩ : ∃ m, NumText.digitsVal (figs (chs w)) = m + 1 := ⟨_, (Nat.succ_pred_eq_of_pos pos).symm⟩
      rw [em] at cn ⊢
      rw [ofString_chs]
      show ("-" ++ Nat.repr (m + 1)).toList.map Char.toNat = chs w
      rw [String.toList_append, List.map_append, Nat.toList_repr, cn]
      exact e.symm
    · have e := figs_pos c
      unfold numOf
      rw [if_neg c]
      exact (PySem.W.KIN.signs_num _).trans (cn.trans e)
theorem num_sign {cs : List Nat} (h : isN cs = true) : decide (numOf cs < 0) = isNeg cs := by
  unfold numOf
  by_cases c : isNeg cs = true
  · rw [if_pos c, c]
    rcases isN_split h with e | ⟨h1, h2, h3, h4⟩
    · rw [e] at c; cases c
    · have pos : 0 < NumText.digitsVal (figs cs) := by
        cases hf : figs cs with
        | nil => exact absurd hf h1
        | cons x xs =>
          rw [hf] at h3 h4
          exact dv_pos (h4 x List.mem_cons_self) (by simpa using h3)
      exact decide_eq_true (by omega)
  · rw [if_neg c, Bool.eq_false_iff.mpr c]
    exact decide_eq_false (by omega)
theorem dv_lt : ∀ (n : Nat) (cs : List Nat), cs.length = n → (∀ c ∈ cs, 48 ≤ c ∧ c ≤ 57) → NumText.digitsVal cs < 10 ^ n
  | 0, cs, hl, _ => by
    rw [List.eq_nil_of_length_eq_zero hl]
    decide
  | n + 1, cs, hl, hd => by
    have hne : cs ≠ [] := fun z => by rw [z] at hl; cases hl
    have e : cs = cs.dropLast ++ [cs.getLast hne] := (List.dropLast_concat_getLast hne).symm
    generalize hx : cs.dropLast = xs at e
    generalize cs.getLast hne = c at e
    subst e
    have hc := hd c (by simp)
    have ih := dv_lt n xs (by simp at hl; exact hl) fun c' h => hd c' (List.mem_append_left _ h)
    rw [dv_snoc, Nat.pow_succ]
    omega
theorem num_bound {cs : List Nat} (h : isN cs = true) : (numOf cs).natAbs < 10000000 := by
  have b : NumText.digitsVal (figs cs) < 10000000 := by
    rcases isN_split h with e | ⟨h1, h2, h3, h4⟩
    · rw [e]; decide
    · have z := dv_lt _ (figs cs) rfl h4
      have y : 10 ^ (figs cs).length ≤ 10 ^ 6 := Nat.pow_le_pow_right (by decide) h2
      have x : (10 : Nat) ^ 6 = 1000000 := by decide
      omega
  unfold numOf
  split <;> omega
/-! ### the words of a program's text -/
/-- how many numbers and parts stand behind a word -/
def nnT (w : Str) : Option (Nat × Nat) :=
  if w = "in" ∨ w = "num" then some (1, 0) else if w = "plus" then some (1, 1) else if w = "yes" ∨ w = "no" then some (0, 0) else if w = "not" then some (0, 1) else if w = "if" then some (0, 3)
  else if w = "least" ∨ w = "most" ∨ w = "atmost" ∨ w = "both" ∨ w = "either" then some (0, 2) else none
/-- the front of a knot: its word and its number -/
abbrev Frt := Str × Option Int
/-- one knot at the place: what is amiss, or its front, how many words, how many parts -/
def scan1 (ws : List Str) (i : Nat) : Nat ⊕ (Frt × Nat × Nat) :=
  match ws[i]? with
  | none => .inl i
  | some w => match nnT w with
    | none => .inl i
    | some (0, m) => .inr ((w, none), 1, m)
    | some (_ + 1, m) => match ws[i + 1]? with
      | none => .inl (i + 1)
      | some u => if isN (chs u) = true then (if w = "in" ∧ isNeg (chs u) = true then .inl (i + 1) else .inr ((w, some (numOf (chs u))), 2, m)) else .inl (i + 1)
inductive Scan where
  | bad (n : Nat)
  | ok (fs : List Frt)
def scan (ws : List Str) : Nat → Nat → Nat → List Frt → Scan
  | 0, i, due, fs => if due = 0 then (if i = ws.length then .ok fs else .bad i) else .bad i
  | n + 1, i, due, fs => if due = 0 then (if i = ws.length then .ok fs else .bad i) else
    match scan1 ws i with
    | .inl e => .bad e
    | .inr (f, k, m) => scan ws n (i + k) (due - 1 + m) (fs ++ [f])
end Lm

set_option Elab.async false
set_option linter.all false
set_option maxRecDepth 100000
set_option maxHeartbeats 2000000
namespace Lm
open PySem PySem.Spec PyProof.Rows L2 LmR
/-! ### displays of data, read as data -/
def FdL (K : PySem.W.Frag) (H : Hp) (vs : List V) (ds : List PyData) : Prop := flat.flats ds = true ∧ DpAll K H vs ds
theorem FdL.keep {K : PySem.W.Frag} {H H' : Hp} {vs : List V} {ds : List PyData} (h : FdL K H vs ds) (t : Tp K H H') : FdL K H' vs ds := ⟨h.1, dps_keep t ds vs h.1 h.2⟩
theorem dpall_len' {K : PySem.W.Frag} {H : Hp} : ∀ {vs : List V} {ds : List PyData}, DpAll K H vs ds → vs.length = ds.length
  | [], [], _ => rfl
  | v :: vs, d :: ds, h => by
    cases h with
    | cons a b => rw [List.length_cons, List.length_cons, dpall_len' b]
  | [], d :: ds, h => by cases h
  | v :: vs, [], h => by cases h
abbrev PrD := L2.St → Hp → PyData → Prop
abbrev PrL := L2.St → Hp → List PyData → Prop
def tFd (K : PySem.W.Frag) (p : PrD) : TE := fun σ H Q => ∃ d, p σ H d ∧ ∀ v H', Same H H' → Fd K H' v d → Q v H'
def tFds (K : PySem.W.Frag) (p : PrL) : TA := fun σ H Q => ∃ ds, p σ H ds ∧ ∀ vs H', Same H H' → FdL K H' vs ds → Q vs H'
def tFl (K : PySem.W.Frag) (p : PrL) : TE := fun σ H Q => ∃ ds, ds.length ≤ 1000 ∧ p σ H ds ∧ ∀ l us H', Same H H' → H l = none → H' l = some (.lst us) → FdL K H' us ds → Q (.ref l) H'
structure PFd (X : Cx) (e : Expr) (p : PrD) : Prop where
  pe : PE X e (tFd X.K p)
  up : ∀ σ H H' d, Same H H' → p σ H d → p σ H' d
structure PFs (X : Cx) (es : List Expr) (p : PrL) : Prop where
  pa : PA X es (tFds X.K p)
  up : ∀ σ H H' ds, Same H H' → p σ H ds → p σ H' ds
section
variable {X : Cx} {e : Expr} {es : List Expr} {te te' : TE} {ta ta' : TA} {p : PrD} {ps : PrL} {pos : Pos}
theorem pe_weak (h : PE X e te) (w : ∀ σ H Q, te' σ H Q → te σ H Q) : PE X e te' := ⟨fun pins s σ H Q I hq => h.run pins s σ H Q I (w σ H Q hq)⟩
theorem pa_weak (h : PA X es ta) (w : ∀ σ H Q, ta' σ H Q → ta σ H Q) : PA X es ta' := ⟨fun pos pins s σ H Q I hq => h.run pos pins s σ H Q I (w σ H Q hq)⟩
theorem fd_of (h : PE X e te) (w : ∀ σ H Q, tFd X.K p σ H Q → te σ H Q) (up : ∀ σ H H' d, Same H H' → p σ H d → p σ H' d) : PFd X e p := ⟨pe_weak h w, up⟩
theorem fd_str {x j} : PFd X (.Constant (.str x) j pos) (fun _ _ d => d = .str x) := fd_of pe_str (fun σ H Q ⟨d, e, k⟩ => by subst e; exact k _ _ (Same.refl _) ⟨rfl, .str _⟩) fun _ _ _ _ _ h => h
theorem fd_int {x j} : PFd X (.Constant (.int x) j pos) (fun _ _ d => d = .int x) := fd_of pe_int (fun σ H Q ⟨d, e, k⟩ => by subst e; exact k _ _ (Same.refl _) ⟨rfl, .int _⟩) fun _ _ _ _ _ h => h
theorem fd_bl {x j} : PFd X (.Constant (.bool x) j pos) (fun _ _ d => d = .bool x) := fd_of pe_bl (fun σ H Q ⟨d, e, k⟩ => by subst e; exact k _ _ (Same.refl _) ⟨rfl, .bl _⟩) fun _ _ _ _ _ h => h
theorem fd_non {j} : PFd X (.Constant .none j pos) (fun _ _ d => d = .none) := fd_of pe_non (fun σ H Q ⟨d, e, k⟩ => by subst e; exact k _ _ (Same.refl _) ⟨rfl, .non⟩) fun _ _ _ _ _ h => h
theorem fd_var (i : Nat) {x : Str} (hN : X.N[i]? = some x := by rfl) (hv : Vis X.env.scope x := by first | exact Or.inl rfl | exact Or.inr (Or.inl rfl) | exact Or.inr (Or.inr rfl)) (hd : (x == ("__debug__" : Str)) = false := by decide)
    (hcd : (x == ("__classdict__" : Str)) = false := by decide) : PFd X (.Name x pos) (fun σ H d => ∃ v, σ[i]? = some (some v) ∧ Fd X.K H v d) :=
  fd_of (pe_var hN hv hd hcd) (fun σ H Q ⟨d, ⟨v, e, h⟩, k⟩ => ⟨v, e, k _ _ (Same.refl _) h⟩) fun _ _ _ _ s ⟨v, e, h⟩ => ⟨v, e, h.keep (Tp.same s)⟩
theorem fd_nil : PFs X [] (fun _ _ ds => ds = []) := ⟨pa_weak pa_nil fun σ H Q ⟨ds, e, k⟩ => by subst e; exact k [] H (Same.refl _) ⟨rfl, .nil⟩, fun _ _ _ _ _ h => h⟩
theorem fd_cons (h : PFd X e p) (hs : PFs X es ps) (hst : starEach (e :: es) X.env = (false, eval e X.env) :: starEach es X.env := by rfl) : PFs X (e :: es) (fun σ H ds => ∃ d ds', ds = d :: ds' ∧ p σ H d ∧ ps σ H ds') := by
  refine ⟨pa_weak (pa_cons h.pe hs.pa hst) fun σ H Q ⟨ds, ⟨d, ds', e, h1, h2⟩, k⟩ => ?_, fun σ H H' ds s ⟨d, ds', e, h1, h2⟩ => ⟨d, ds', e, h.up σ H H' d s h1, hs.up σ H H' ds' s h2⟩⟩
  subst e
  refine ⟨d, h1, fun v H1 s1 hv => ⟨ds', hs.up σ H H1 ds' s1 h2, fun vs H2 s2 hvs => k (v :: vs) H2 (s1.trans s2) ⟨?_, .cons (hv.keep (Tp.same s2)).2 hvs.2⟩⟩⟩
  rw [flat.flats, hv.1, hvs.1]
  rfl
theorem fd_tupE {x1} (h : PFs X es ps) : PFd X (.Tuple es x1 pos) (fun σ H d => ∃ ds, d = .tuple ds ∧ ds.length ≤ 1000 ∧ ps σ H ds) := by
  refine ⟨pe_weak (pe_tup h.pa) fun σ H Q ⟨d, ⟨ds, e, hl, h1⟩, k⟩ => ?_, fun σ H H' d s ⟨ds, e, hl, h1⟩ => ⟨ds, e, hl, h.up σ H H' ds s h1⟩⟩
  subst e
  refine ⟨ds, h1, fun vs H1 s1 hv => ⟨by rw [dpall_len' hv.2]; exact small (by omega), fun q hq => ?_⟩⟩
  have s2 : Same H1 (upd H1 q (.tup vs)) := same_new hq
  exact k _ _ (s1.trans s2) ⟨hv.1, .tup (.inl (.inl upd_same)) (hv.keep (Tp.same s2)).2⟩
theorem fd_lst (h : PFs X es ps) : PE X (.List es pos) (tFl X.K ps) := by
  refine pe_weak (pe_lst h.pa) fun σ H Q ⟨ds, hl, h1, k⟩ => ?_
  refine ⟨ds, h1, fun vs H1 s1 hv => ⟨by rw [dpall_len' hv.2]; exact small (by omega), fun q hq => ?_⟩⟩
  have s2 : Same H1 (upd H1 q (.lst vs)) := same_new hq
  have q0 : H q = none := by
    cases e : H q with
    | none => rfl
    | some o => rw [s1 _ _ e] at hq; cases hq
  exact k q vs _ (s1.trans s2) q0 upd_same (hv.keep (Tp.same s2))
/-- a number by an expression that writes nothing -/
theorem fd_num (h : PE X e te) (f : L2.St → Hp → Int → Prop) (w : ∀ σ H Q i, f σ H i → Q (.int i) H → te σ H Q) (up : ∀ σ H H' i, Same H H' → f σ H i → f σ H' i) : PFd X e (fun σ H d => ∃ i, d = .int i ∧ f σ H i) :=
  fd_of h (fun σ H Q ⟨d, ⟨i, e, hf⟩, k⟩ => w σ H Q i hf (k _ _ (Same.refl _) ⟨by rw [e]; rfl, by rw [e]; exact .int _⟩)) fun σ H H' d s ⟨i, e, hf⟩ => ⟨i, e, up σ H H' i s hf⟩
end
end Lm

set_option Elab.async false
set_option linter.all false
set_option maxRecDepth 100000
set_option maxHeartbeats 2000000
namespace Lm
open PySem PySem.Spec PyProof.Rows L2 LmR
theorem call_isiK {X : Cx} {K : PySem.W.Frag} (h : X.K = K) : CallR X (.builtin "isinstance") (rIsi K) := h ▸ call_isi
theorem walk_enumT {K : PySem.W.Frag} {a : Addr} {xs : List V} : Walk (IteT K a) xs.length (fun H => SqT K H a xs) (YPair (fun i => some (.int (i : Nat))) (fun i => xs[i]?)) := by
  refine ⟨fun i H hi q => ⟨xs, xs[i], q, by simp [hi]⟩, fun H q => ⟨xs, q, Nat.le_refl _⟩, fun i H x H' hi q y => ?_⟩
  obtain ⟨T, z, h1, h2, h3, h4⟩ := y
  exact ⟨T, _, z, h1, h2, h3, rfl, h4 xs q⟩
end Lm

set_option Elab.async false
set_option linter.all false
set_option maxRecDepth 100000
set_option maxHeartbeats 2000000
namespace Lm
open PySem PySem.Spec PyProof.Rows L2 LmR
/-! ### defs with a parameter that is written by its name, or left out -/
def DefKw (K : PySem.W.Frag) (mg : Str → Option Value) (x : Str) (st : Stmt) (ps : List Str) (n : Nat) (ks : List Str) (dvs : List V) : Prop :=
  ∃ f fd, Fun K x x st f fd ∧ mg x = some (.ref f) ∧ KBn K fd ps n ks (fun us ws => us ++ ws) (fun us ws => us ++ ws) ∧ ∃ ds, Vals dvs ds ∧ Binds K fd ps ds
def CalKw (P : Program) (w : World) (K : PySem.W.Frag) (mg : Str → Option Value) (base : Heap) (k : Nat) (x : Str) (ps : List Str) (n : Nat) (ks : List Str) (dvs : List V) (sp : Sp) : Prop :=
  ∃ f fd, FnOk P w K mg base CX0 k f fd ps sp ∧ mg x = some (.ref f) ∧ PySem.W.keepIn K (.ref f) = true ∧ KBn K fd ps n ks (fun us ws => us ++ ws) (fun us ws => us ++ ws) ∧ (∃ ds, Vals dvs ds ∧ Binds K fd ps ds) ∧ ∃ st, Fun K x x st f fd
section
variable {P : Program} {w : World} {K : PySem.W.Frag} {mg : Str → Option Value} {base : Heap}
theorem CalKw.mono {j k : Nat} {x : Str} {ps : List Str} {n : Nat} {ks : List Str} {dvs : List V} {sp : Sp} (c : CalKw P w K mg base j x ps n ks dvs sp) (h : j ≤ k) : CalKw P w K mg base k x ps n ks dvs sp := by
  obtain ⟨f, fd, F, g⟩ := c
  exact ⟨f, fd, F.mono h, g⟩
theorem calkw_of {x : Str} {st : Stmt} {N ps : List Str} {k n : Nat} {ks : List Str} {dvs : List V} {sp : Sp} (D : DefKw K mg x st ps n ks dvs) (S : FnScope N ps (defScope st)) (len : ∀ vs H Q E, sp vs H Q E → vs.length = ps.length)
    (hbody : ∀ (f : Addr) (cdv : Value) (A : Around) (outer : List Env) (s : Shared) (H : Hp) (vs : List V) (Q : VK) (E : XK), Room k (A.deeper (envOfC x (defScope st) s.heap.objs.size f cdv)) → sp vs H Q E →
      ∃ t, PSs (cxOf CX0 P w K mg base N x (defScope st) f cdv A outer s H E).nox (defBody st) t ∧ t { nx := fun _ H' => Q .non H', rt := Q } (start N vs) H) : CalKw P w K mg base (k + 1) x ps n ks dvs sp := by
  obtain ⟨f, fd, F, g, b⟩ := D
  exact ⟨f, fd, F.ok S len (hbody f), g, F.kp, b.1, b.2, _, F⟩
end
/-- f(e, .., k = v) -/
theorem pe_calK {X : Cx} {k n : Nat} {x : Str} {ps ks : List Str} {dvs : List V} {sp : Sp} {e : Expr} {es : List Expr} {kws : List Keyword} {t tk : TA} {p pos : Pos} (C : CalKw X.prog X.w X.K X.mg X.base k x ps n ks dvs sp) (hr : Room k X.A) (hg : Gl X x) (ha : PA X (e :: es) t) (hkw : PK X kws tk)
    (hall : (backToKw pos (keywordEach kws X.env)).all (·.1.isSome) = true := by rfl) (hks : (backToKw pos (keywordEach kws X.env)).filterMap (·.1) = ks := by rfl) (hdb : (x == ("__debug__" : Str)) = false := by decide) (he : starEach (e :: es) X.env = (false, eval e X.env) :: starEach es X.env := by rfl)
    (hpl : ((backTo pos (starEach (e :: es) X.env)).any (·.1) || (backToKw pos (keywordEach kws X.env)).any (·.1.isNone)) = false := by rfl) :
    PE X (.Call (.Name x p) (e :: es) kws pos) (tCallN n ks.length sp (fun us ws => us ++ ws) (fun _ _ _ => False) t tk) := by
  obtain ⟨f, fd, F, g, kp, b, _⟩ := C
  exact pe_callN F hr hg g kp b pass0 ha hkw hall hks hdb he hpl
/-- f(e, ..), what is written by its name left out -/
theorem pe_calD {X : Cx} {k n : Nat} {x : Str} {ps ks : List Str} {dvs : List V} {sp : Sp} {e : Expr} {es : List Expr} {t : TA} {p pos : Pos} (C : CalKw X.prog X.w X.K X.mg X.base k x ps n ks dvs sp) (hr : Room k X.A) (hg : Gl X x) (ha : PA X (e :: es) t)
    (hdb : (x == ("__debug__" : Str)) = false := by decide) (he : starEach (e :: es) X.env = (false, eval e X.env) :: starEach es X.env := by rfl) (hpl : (backTo pos (starEach es X.env)).any (·.1) = false := by rfl) :
    PE X (.Call (.Name x p) (e :: es) [] pos) (tCall sp dvs (fun _ _ _ => False) t) := by
  obtain ⟨f, fd, F, g, kp, _, ⟨ds, hd, b⟩, _⟩ := C
  exact pe_call F hr hg g kp b hd pass0 ha hdb he hpl
/-- how a def of one parameter and one that may be left out binds -/
theorem defkw_mk {K : PySem.W.Frag} {h : Heap} {mg : Str → Option Value} {x y z : Str} {st : Stmt} {f D : Addr} {oc : Value} {od an : Option Addr} {osl : Array (Option Value)} {doc pm cdv ct u : Value} {v : V} (X : K.In h) (G : h.Ns mainGlobals mg)
    (a : PySem.W.nsIn K mainGlobals x = some (some (.ref f))) (l : K.lookup f = some ⟨oc, od, .func (PySem.W.fnOf x x (defArgs st) (defBody st) (defScope st) .none (.ref D) doc pm an cdv ct), osl⟩) (c : PySem.W.codeIn K cdv x = true) (k : PySem.W.keepIn K (.ref f) = true)
    (d : PySem.W.nsIn K D z = some (some u)) (r : RelV v u)
    (hb : ∀ (doc pm : Value) (an : Option Addr) (cdv ct u w : Value), bindArgs (PySem.W.fnOf x x (defArgs st) (defBody st) (defScope st) .none (.ref D) doc pm an cdv ct) ⟨[u], [(z, w)]⟩ = pure [(y, u), (z, w)])
    (hd : ∀ (doc pm : Value) (an : Option Addr) (cdv ct u w : Value), KwChain D [(z, w)] (bindArgs (PySem.W.fnOf x x (defArgs st) (defBody st) (defScope st) .none (.ref D) doc pm an cdv ct) ⟨[u], []⟩) [(y, u), (z, w)]) : DefKw K mg x st [y, z] 1 [z] [v] := by
  refine ⟨f, _, fun_mk l c k, PySem.W.mg_of X G a, ⟨fun s us ws _ l1 l2 => ?_, fun r1 r2 => r1.append r2⟩, [u], .cons r .nil, fun s us X' hl => ?_⟩
  · match us, ws, l1, l2 with
    | [u'], [w'], _, _ => exact .of_eq (hb _ _ _ _ _ u' w')
  · have l1 : us.length = 1 := by simpa using hl
    match us, l1 with
    | [u'], _ => exact BindsTo.of_looks fun M => KwChain.looks X' (fun q hq => by rw [List.mem_singleton.mp hq]; exact d) (hd _ _ _ _ _ u' u)
end Lm

set_option Elab.async false
set_option linter.all false
namespace Lm
open PySem PySem.Spec PyProof.Rows L2 LmR
/-- a < b of data of a Lean type -/
def rLtDat (α : Type) [DecidableEq α] [PySem.W.DatumOrd α] (K : PySem.W.Frag) : R2 := fun x y H Q => ∃ a b : α, Dp K H x (PySem.W.Datum.toD a) ∧ Dp K H y (PySem.W.Datum.toD b) ∧ Q (.bl (PySem.W.DatumOrd.lt a b)) H
theorem op_ltDat {X : Cx} {α : Type} [DecidableEq α] [PySem.W.DatumOrd α] (hu : X.A.units + PySem.W.Datum.depth α < cLine) : OpR X (compareOp .Lt) (rLtDat α X.K) := by
  intro pins s σ H x y v u Q I rx ry h
  obtain ⟨a, b, ha, hb, q⟩ := h
  exact PySem.W.lt_datum (x := a) (y := b) (Dp.reads I _ x v ha rx) (Dp.reads I _ y u hb ry) hu ⟨.bl _, H, I, rfl, q⟩
end Lm

set_option Elab.async false
set_option linter.all false
set_option maxRecDepth 100000
namespace Lm
open PySem PySem.Spec PyProof.Rows L2 LmR
mutual
theorem dp_same {K : PySem.W.Frag} {H H' : Hp} (s : Same H H') : ∀ (d : PyData) (v : V), Dp K H v d → Dp K H' v d
  | .none, _, h => by cases h; exact .non
  | .bool b, _, h => by cases h; exact .bl b
  | .int i, _, h => by cases h; exact .int i
  | .str x, _, h => by cases h; exact .str x
  | .list ds, _, h => by
    cases h with
    | lst q r => exact .lst (s.seq q) (dps_same s ds _ r)
  | .tuple ds, _, h => by
    cases h with
    | tup q r => exact .tup (Tp.same s _ _ q) (dps_same s ds _ r)
  | .dict ds, _, h => by cases h
theorem dps_same {K : PySem.W.Frag} {H H' : Hp} (s : Same H H') : ∀ (ds : List PyData) (vs : List V), DpAll K H vs ds → DpAll K H' vs ds
  | [], _, h => by cases h; exact .nil
  | d :: ds, _, h => by
    cases h with
    | cons a b => exact .cons (dp_same s d _ a) (dps_same s ds _ b)
end
theorem defkw_mk2 {K : PySem.W.Frag} {h : Heap} {mg : Str → Option Value} {x y1 y2 z : Str} {st : Stmt} {f D : Addr} {oc : Value} {od an : Option Addr} {osl : Array (Option Value)} {doc pm cdv ct u : Value} {v : V} (X : K.In h) (G : h.Ns mainGlobals mg)
    (a : PySem.W.nsIn K mainGlobals x = some (some (.ref f))) (l : K.lookup f = some ⟨oc, od, .func (PySem.W.fnOf x x (defArgs st) (defBody st) (defScope st) .none (.ref D) doc pm an cdv ct), osl⟩) (c : PySem.W.codeIn K cdv x = true) (k : PySem.W.keepIn K (.ref f) = true)
    (d : PySem.W.nsIn K D z = some (some u)) (r : RelV v u)
    (hb : ∀ (doc pm : Value) (an : Option Addr) (cdv ct u1 u2 w : Value), bindArgs (PySem.W.fnOf x x (defArgs st) (defBody st) (defScope st) .none (.ref D) doc pm an cdv ct) ⟨[u1, u2], [(z, w)]⟩ = pure [(y1, u1), (y2, u2), (z, w)])
    (hd : ∀ (doc pm : Value) (an : Option Addr) (cdv ct u1 u2 w : Value), KwChain D [(z, w)] (bindArgs (PySem.W.fnOf x x (defArgs st) (defBody st) (defScope st) .none (.ref D) doc pm an cdv ct) ⟨[u1, u2], []⟩) [(y1, u1), (y2, u2), (z, w)]) : DefKw K mg x st [y1, y2, z] 2 [z] [v] := by
  refine ⟨f, _, fun_mk l c k, PySem.W.mg_of X G a, ⟨fun s us ws _ l1 l2 => ?_, fun r1 r2 => r1.append r2⟩, [u], .cons r .nil, fun s us X' hl => ?_⟩
  · match us, ws, l1, l2 with
    | [u1, u2], [w'], _, _ => exact .of_eq (hb _ _ _ _ _ u1 u2 w')
  · have l1 : us.length = 2 := by simpa using hl
    match us, l1 with
    | [u1, u2], _ => exact BindsTo.of_looks fun M => KwChain.looks X' (fun q hq => by rw [List.mem_singleton.mp hq]; exact d) (hd _ _ _ _ _ u1 u2 u)
end Lm

set_option Elab.async false
set_option linter.all false
set_option maxRecDepth 100000
namespace Lm
open PySem PySem.Spec PyProof.Rows L2 LmR
/-! ### calls by names alone: ks the names as they are written, the parameters the other way about, dvs what is left out -/
def CalN (P : Program) (w : World) (K : PySem.W.Frag) (mg : Str → Option Value) (base : Heap) (k : Nat) (x : Str) (ps ks : List Str) (dvs : List V) (sp : Sp) : Prop :=
  ∃ f fd, FnOk P w K mg base CX0 k f fd ps sp ∧ mg x = some (.ref f) ∧ PySem.W.keepIn K (.ref f) = true ∧ ∃ dus : List Value, KBn K fd ps 0 ks (fun _ ws => ws.reverse ++ dus) (fun _ zs => zs.reverse ++ dvs)
def DefN (K : PySem.W.Frag) (mg : Str → Option Value) (x : Str) (st : Stmt) (ps ks : List Str) (dvs : List V) : Prop :=
  ∃ f fd, Fun K x x st f fd ∧ mg x = some (.ref f) ∧ ∃ dus : List Value, KBn K fd ps 0 ks (fun _ ws => ws.reverse ++ dus) (fun _ zs => zs.reverse ++ dvs)
theorem fun_one {K : PySem.W.Frag} {x q x' q' : Str} {st st' : Stmt} {f : Addr} {fd fd' : FuncData} (F : Fun K x q st f fd) (G : Fun K x' q' st' f fd') : fd = fd' := by
  obtain ⟨oc, od, kV, doc, pm, an, cdv, ct, osl, _, lk, _⟩ := F.ex
  obtain ⟨oc', od', kV', doc', pm', an', cdv', ct', osl', _, lk', _⟩ := G.ex
  rw [lk] at lk'
  have e := Option.some.inj lk'
  injection e with _ _ e _
  injection e
section
variable {P : Program} {w : World} {K : PySem.W.Frag} {mg : Str → Option Value} {base : Heap}
theorem Cal.named {k : Nat} {x : Str} {st : Stmt} {ps ks : List Str} {dvs : List V} {sp : Sp} (C : Cal P w K mg base k x ps sp) (D : DefN K mg x st ps ks dvs) : CalN P w K mg base k x ps ks dvs sp := by
  obtain ⟨f, fd, F, g, kp, b, st', G⟩ := C
  obtain ⟨f', fd', G', g', hk⟩ := D
  rw [g] at g'
  have e : f = f' := by injection g' with e; injection e
  subst e
  have e := fun_one G G'
  subst e
  exact ⟨f, fd, F, g, kp, hk⟩
theorem CalKw.named {k n : Nat} {x : Str} {st : Stmt} {ps ks ks' : List Str} {dvs dvs' : List V} {sp : Sp} (C : CalKw P w K mg base k x ps n ks' dvs' sp) (D : DefN K mg x st ps ks dvs) : CalN P w K mg base k x ps ks dvs sp := by
  obtain ⟨f, fd, F, g, kp, _, _, st', G⟩ := C
  obtain ⟨f', fd', G', g', hk⟩ := D
  rw [g] at g'
  have e : f = f' := by injection g' with e; injection e
  subst e
  have e := fun_one G G'
  subst e
  exact ⟨f, fd, F, g, kp, hk⟩
theorem CalN.mono {j k : Nat} {x : Str} {ps ks : List Str} {dvs : List V} {sp : Sp} (c : CalN P w K mg base j x ps ks dvs sp) (h : j ≤ k) : CalN P w K mg base k x ps ks dvs sp := by
  obtain ⟨f, fd, F, g⟩ := c
  exact ⟨f, fd, F.mono h, g⟩
end
/-- f(k = v, ..) -/
theorem pe_calN {X : Cx} {k : Nat} {x : Str} {ps ks : List Str} {dvs : List V} {sp : Sp} {kws : List Keyword} {tk : TA} {p pos : Pos} (C : CalN X.prog X.w X.K X.mg X.base k x ps ks dvs sp) (hr : Room k X.A) (hg : Gl X x) (hkw : PK X kws tk)
    (hall : (backToKw pos (keywordEach kws X.env)).all (·.1.isSome) = true := by rfl) (hks : (backToKw pos (keywordEach kws X.env)).filterMap (·.1) = ks := by rfl) (hdb : (x == ("__debug__" : Str)) = false := by decide)
    (hpl : ((backTo pos (starEach [] X.env)).any (·.1) || (backToKw pos (keywordEach kws X.env)).any (·.1.isNone)) = false := by rfl) :
    PE X (.Call (.Name x p) [] kws pos) (tCallN 0 ks.length sp (fun _ zs => zs.reverse ++ dvs) (fun _ _ _ => False) tNil tk) := by
  obtain ⟨f, fd, F, g, kp, dus, b⟩ := C
  refine ⟨fun pins s σ H Q I h => ?_⟩
  refine wpAny_Call_Name_kw (ld_glob I hg g ?_ hdb)
  refine PySem.W.callWith_KW0 (h₀ := X.base) I.ok.mod.kin kp hall ?_ hpl
  refine thn (hkw.run pos pins s σ H _ I h) fun ws s2 ⟨zs, H2, I2, rz, l1, l2, q2⟩ => ⟨I2.kIn, ?_⟩
  rw [hks]
  exact run_fnN (us := []) (vs := []) F hr b pass0 I2 .nil rz rfl l2 q2
theorem vals_rev {vs : List V} {us : List Value} (h : Vals vs us) : Vals vs.reverse us.reverse := by
  induction h with
  | nil => exact .nil
  | cons a _ ih => rw [List.reverse_cons, List.reverse_cons]; exact ih.append (.cons a .nil)
theorem defn_mk {K : PySem.W.Frag} {h : Heap} {mg : Str → Option Value} {x : Str} {st : Stmt} {ps ks : List Str} {f : Addr} {oc : Value} {od an : Option Addr} {osl : Array (Option Value)} {kV doc pm cdv ct : Value} (X : K.In h) (G : h.Ns mainGlobals mg)
    (a : PySem.W.nsIn K mainGlobals x = some (some (.ref f))) (l : K.lookup f = some ⟨oc, od, .func (PySem.W.fnOf x x (defArgs st) (defBody st) (defScope st) .none kV doc pm an cdv ct), osl⟩) (c : PySem.W.codeIn K cdv x = true) (k : PySem.W.keepIn K (.ref f) = true)
    (hb : ∀ (kV doc pm : Value) (an : Option Addr) (cdv ct : Value) (ws : List Value), ws.length = ks.length → bindArgs (PySem.W.fnOf x x (defArgs st) (defBody st) (defScope st) .none kV doc pm an cdv ct) ⟨[], ks.zip ws⟩ = pure (ps.zip (ws.reverse ++ []))) : DefN K mg x st ps ks [] := by
  refine ⟨f, _, fun_mk l c k, PySem.W.mg_of X G a, [], ⟨fun s us ws _ l1 l2 => ?_, fun _ r2 => (vals_rev r2).append .nil⟩⟩
  have e : us = [] := List.eq_nil_of_length_eq_zero l1
  subst e
  exact .of_eq (hb _ _ _ _ _ _ ws l2)
theorem defn_mkD {K : PySem.W.Frag} {h : Heap} {mg : Str → Option Value} {x y z : Str} {st : Stmt} {f D : Addr} {oc : Value} {od an : Option Addr} {osl : Array (Option Value)} {doc pm cdv ct u : Value} {v : V} (X : K.In h) (G : h.Ns mainGlobals mg)
    (a : PySem.W.nsIn K mainGlobals x = some (some (.ref f))) (l : K.lookup f = some ⟨oc, od, .func (PySem.W.fnOf x x (defArgs st) (defBody st) (defScope st) .none (.ref D) doc pm an cdv ct), osl⟩) (c : PySem.W.codeIn K cdv x = true) (k : PySem.W.keepIn K (.ref f) = true)
    (d : PySem.W.nsIn K D z = some (some u)) (r : RelV v u)
    (hd : ∀ (doc pm : Value) (an : Option Addr) (cdv ct u w : Value), KwChain D [(z, w)] (bindArgs (PySem.W.fnOf x x (defArgs st) (defBody st) (defScope st) .none (.ref D) doc pm an cdv ct) ⟨[], [(y, u)]⟩) [(y, u), (z, w)]) : DefN K mg x st [y, z] [y] [v] := by
  refine ⟨f, _, fun_mk l c k, PySem.W.mg_of X G a, [u], ⟨fun s us ws X' l1 l2 => ?_, fun _ r2 => (vals_rev r2).append (.cons r .nil)⟩⟩
  have e : us = [] := List.eq_nil_of_length_eq_zero l1
  subst e
  match ws, l2 with
  | [w'], _ => exact BindsTo.of_looks fun M => KwChain.looks X' (fun q hq => by rw [List.mem_singleton.mp hq]; exact d) (hd _ _ _ _ _ w' u)
end Lm

set_option Elab.async false
set_option linter.all false
set_option maxRecDepth 100000
namespace Lm
open PySem PySem.Spec PyProof.Rows L2 LmR
/-! ### a == b, a != b of data without dicts, of any texts -/
def rEqP (K : PySem.W.Frag) : R2 := fun x y H Q => ∃ d e, Dp K H x d ∧ Dp K H y e ∧ d.plain = true ∧ e.plain = true ∧ d.depth ≤ 64 ∧ Q (.bl (PyData.eqv d e)) H
def rNeP (K : PySem.W.Frag) : R2 := fun x y H Q => ∃ d e, Dp K H x d ∧ Dp K H y e ∧ d.plain = true ∧ e.plain = true ∧ d.depth ≤ 64 ∧ Q (.bl (!PyData.eqv d e)) H
theorem op_eqP {X : Cx} (hu : X.A.units + 64 < cLine) : OpR X (compareOp .Eq) (rEqP X.K) := by
  intro pins s σ H x y v u Q I rx ry h
  obtain ⟨d, e, hd, he, sd, se, dd, q⟩ := h
  obtain ⟨as, r1⟩ := Dp.reads I d x v hd rx
  obtain ⟨bs, r2⟩ := Dp.reads I e y u he ry
  exact SeqAt.eq_plain r1 r2 sd se (by omega) ⟨.bl _, H, I, rfl, q⟩
theorem op_neP {X : Cx} (hu : X.A.units + 64 < cLine) : OpR X (compareOp .NotEq) (rNeP X.K) := by
  intro pins s σ H x y v u Q I rx ry h
  obtain ⟨d, e, hd, he, sd, se, dd, q⟩ := h
  obtain ⟨as, r1⟩ := Dp.reads I d x v hd rx
  obtain ⟨bs, r2⟩ := Dp.reads I e y u he ry
  exact SeqAt.ne_plain r1 r2 sd se (by omega) ⟨.bl _, H, I, rfl, q⟩
mutual
theorem plain_flat : ∀ d : PyData, flat d = true → d.plain = true
  | .none, _ => rfl
  | .bool _, _ => rfl
  | .int _, _ => rfl
  | .str _, _ => rfl
  | .list _, h => by simp [flat] at h
  | .tuple xs, h => plains_flat xs h
  | .dict _, h => by simp [flat] at h
theorem plains_flat : ∀ ds : List PyData, flat.flats ds = true → PyData.plainAll ds = true
  | [], _ => rfl
  | d :: ds, h => by
    rw [flat.flats, Bool.and_eq_true] at h
    show (d.plain && PyData.plainAll ds) = true
    rw [plain_flat d h.1, plains_flat ds h.2]; rfl
end
end Lm

set_option Elab.async false
set_option linter.all false
set_option maxRecDepth 100000
set_option maxHeartbeats 2000000
namespace Lm
open PySem PySem.Spec PyProof.Rows L2 LmR
def topS (i : Nat) : Stmt := PySem.Challenge.pw_leastmaker_k18_called_by_names.main.body.getD i (.Pass ⟨0, 0, 0, 0⟩)
section
variable {P : Program} {w : World} {K : PySem.W.Frag} {mg : Str → Option Value} {base : Heap}
/-! ### cell, flow, draw -/
abbrev s_l_cell : Stmt := topS 52
theorem sc_l_cell : FnScope ["_law_script", "_law_k", "_law_number"] ["_law_script", "_law_k"] (defScope s_l_cell) := ⟨rfl, rfl, rfl, by decide +kernel, rfl, by decide +kernel, by decide +kernel⟩
def spCell (K : PySem.W.Frag) : Sp := fun vs H Q _ => ∃ (a : Addr) (ns : List Int) (k : Int), vs = [.ref a, .int k] ∧ SqL K H a (ns.map V.int) ∧ 0 ≤ k ∧ ∀ i, Q (.int i) H
theorem ok_l_cell (B : Bt mg) (D : DefAt K mg "_law_cell" s_l_cell ["_law_script", "_law_k"]) : Cal P w K mg base 1 "_law_cell" ["_law_script", "_law_k"] (spCell K) := by
  refine cal_of D sc_l_cell (fun vs H Q E h => ?_) (fun f cdv A outer s H vs Q E hr h => ?_)
  · obtain ⟨a, ns, k, rfl, _⟩ := h
    rfl
  obtain ⟨a, ns, k, rfl, hS, h0, q⟩ := h
  refine ⟨_, (pss_cons (ps_if (pt_cmpR op_lt (pv 1) (pe_callB call_len_seq (by rfl) B.len PySem.boot_len (pa_cons (pv 0) pa_nil)) (nomark _))
        (pss_one (ps_ret (pe_ix ix_list (pv 0) (pv 1) (fun _ _ => rfl))))
        pss_nil)
      (pss_cons (ps_set (i := 2) sc_l_cell.nd rfl (.inl rfl) (pe_op op_add (pe_op op_mul (pv 1) pe_int) pe_int))
      (pss_cons (ps_if (pt_cmpR op_gt (pe_callB call_len_seq (by rfl) B.len PySem.boot_len (pa_cons (pv 0) pa_nil)) pe_int (nomark _))
        (pss_one (ps_set (i := 2) sc_l_cell.nd rfl (.inl rfl) (pe_op op_add (pe_op op_mul (pe_op op_mod (pe_ix ix_list (pv 0) (pe_op op_mod (pe_op op_mul (pv 1) pe_int) (pe_callB call_len_seq (by rfl) B.len PySem.boot_len (pa_cons (pv 0) pa_nil))) (fun _ _ => rfl)) pe_int) pe_int) (pe_op op_mul (pv 1) pe_int))))
        pss_nil)
      (pss_one (ps_ret (pe_op op_mul (pe_op op_mod (pv 2) pe_int) pe_int)))))), ?_⟩
  have hl : (ns.map V.int).length = ns.length := List.length_map _
  refine ⟨_, rfl, _, rfl, a, _, rfl, .inl hS, _, _, rfl, rfl, _, rfl, ite2 (fun c => ?_) (fun c => ?_)⟩
  · have c' : k < (((ns.map V.int).length : Nat) : Int) := of_decide_eq_true c
    rw [hl] at c'
    have e : (ns.map V.int)[k.toNat]? = some (.int ns[k.toNat]) := by
      rw [List.getElem?_map, List.getElem?_eq_getElem (by omega)]
      rfl
    exact ⟨_, rfl, _, rfl, a, _, _, _, rfl, rfl, hS, at_of (j := k.toNat) (by omega) e, q _⟩
  · refine ⟨_, rfl, _, _, rfl, rfl, .inr ⟨by decide, by decide⟩, _, _, rfl, rfl, ?_⟩
    refine ⟨_, rfl, a, _, rfl, .inl hS, _, _, rfl, rfl, _, rfl, ite2 (fun c2 => ?_) (fun c2 => ?_)⟩
    · have c2' : (((ns.map V.int).length : Nat) : Int) > 0 := of_decide_eq_true c2
      rw [hl] at c2'
      have hp : (0 : Int) < (((ns.map V.int).length : Nat) : Int) := by rw [hl]; omega
      have b1 : 0 ≤ (k * 7) % (((ns.map V.int).length : Nat) : Int) := Int.emod_nonneg _ (by omega)
      have b2 : (k * 7) % (((ns.map V.int).length : Nat) : Int) < (((ns.map V.int).length : Nat) : Int) := Int.emod_lt_of_pos _ hp
      generalize hj : (k * 7) % (((ns.map V.int).length : Nat) : Int) = j at b1 b2
      rw [hl] at b2
      have e : (ns.map V.int)[j.toNat]? = some (.int ns[j.toNat]) := by
        rw [List.getElem?_map, List.getElem?_eq_getElem (by omega)]
        rfl
      have m1 : 0 ≤ ns[j.toNat] % 2147483629 := Int.emod_nonneg _ (by decide)
      have m2 : ns[j.toNat] % 2147483629 < 2147483629 := Int.emod_lt_of_pos _ (by decide)
      refine ⟨_, rfl, _, rfl, _, _, rfl, rfl, .inr ⟨by decide, by decide⟩, _, rfl, a, _, rfl, .inl hS, _, _, rfl, rfl, hp, a, _, _, V.int ns[j.toNat], rfl, rfl, hS, ?_, _, _, rfl, rfl, (by show (0 : Int) < 2147483629; decide), _, _, rfl, rfl, .inl ⟨by omega, by omega⟩, _, rfl, _, _, rfl, rfl, .inr ⟨by decide, by decide⟩, _, _, rfl, rfl, ?_⟩
      · rw [hj]
        exact at_of (j := j.toNat) (by omega) e
      · have n1 := Int.emod_nonneg (ns[j.toNat] % 2147483629 * 48271 + k * 7919) (show (2147483647 : Int) ≠ 0 by decide)
        have n2 := Int.emod_lt_of_pos (ns[j.toNat] % 2147483629 * 48271 + k * 7919) (show (0 : Int) < 2147483647 by decide)
        exact ⟨_, rfl, _, _, rfl, rfl, (by show (0 : Int) < 2147483647; decide), _, _, rfl, rfl, .inr ⟨by decide, by decide⟩, q _⟩
    · exact ⟨_, rfl, _, _, rfl, rfl, (by show (0 : Int) < 2147483647; decide), _, _, rfl, rfl, .inr ⟨by decide, by decide⟩, q _⟩
/-! the flow that is drawn from -/
def Flow (H : Hp) (f : Addr) : Prop := ∃ own cnt seed : Int, H f = some (.lst [.int own, .int cnt, .int seed]) ∧ 0 ≤ seed ∧ seed < 2 ^ 40
abbrev s_l_flow : Stmt := topS 53
theorem sc_l_flow : FnScope ["_law_script", "_law_k", "_law_cell_here", "_law_own"] ["_law_script", "_law_k"] (defScope s_l_flow) := ⟨rfl, rfl, rfl, by decide +kernel, rfl, by decide +kernel, by decide +kernel⟩
def spFlow (K : PySem.W.Frag) : Sp := fun vs H Q _ => ∃ (a : Addr) (ns : List Int) (k : Int), vs = [.ref a, .int k] ∧ SqL K H a (ns.map V.int) ∧ 0 ≤ k ∧ k ≤ 63 ∧ ∀ (p : Addr) (o : HO), H p = none → Flow (upd H p o) p → Q (.ref p) (upd H p o)
theorem ok_l_flow (C_l_cell : Cal P w K mg base 1 "_law_cell" ["_law_script", "_law_k"] (spCell K)) (D : DefAt K mg "_law_flow" s_l_flow ["_law_script", "_law_k"]) : Cal P w K mg base 2 "_law_flow" ["_law_script", "_law_k"] (spFlow K) := by
  refine cal_of D sc_l_flow (fun vs H Q E h => ?_) (fun f cdv A outer s H vs Q E hr h => ?_)
  · obtain ⟨a, ns, k, rfl, _⟩ := h
    rfl
  obtain ⟨a, ns, k, rfl, hS, h0, h1, q⟩ := h
  have hr' : Room 1 _ := hr
  refine ⟨_, (pss_cons (ps_set (i := 2) sc_l_flow.nd rfl (.inl rfl) (pe_cal C_l_cell hr' (by rfl) (pa_cons (pv 0) (pa_cons (pv 1) pa_nil))))
      (pss_cons (ps_set (i := 3) sc_l_flow.nd rfl (.inl rfl) pe_int)
      (pss_cons (ps_if (pt_cmpR op_ge (pv 2) (pe_op op_pow pe_int pe_int) (nomark _))
        (pss_one (ps_set (i := 3) sc_l_flow.nd rfl (.inl rfl) (pv 2)))
        pss_nil)
      (pss_one (ps_ret (pe_lst (pa_cons (pv 3) (pa_cons pe_int (pa_cons (pe_op op_add (pe_op op_mod (pv 2) pe_int) (pe_op op_mul pe_int (pv 1))) pa_nil))))))))), ?_⟩
  refine ⟨_, rfl, _, rfl, a, ns, k, rfl, hS, h0, fun i => ?_⟩
  have m1 : 0 ≤ i % 2147483629 := Int.emod_nonneg _ (by decide)
  have m2 : i % 2147483629 < 2147483629 := Int.emod_lt_of_pos _ (by decide)
  have pw : CPow 10 18 := ⟨by decide, by decide, by decide⟩
  refine ⟨_, rfl, _, _, rfl, rfl, pw, _, _, rfl, rfl, _, rfl, ite2 (fun c => ?_) (fun c => ?_)⟩
  · refine ⟨_, rfl, _, rfl, _, rfl, _, _, rfl, rfl, (by show (0 : Int) < 2147483629; decide), _, rfl, _, _, rfl, rfl, .inl ⟨by decide, by decide⟩, _, _, rfl, rfl, (by show 3 ≤ sizeLine; decide), fun p hp => q p _ hp ⟨_, _, _, upd_same, by omega, by omega⟩⟩
  · refine ⟨_, rfl, _, rfl, _, _, rfl, rfl, (by show (0 : Int) < 2147483629; decide), _, rfl, _, _, rfl, rfl, .inl ⟨by decide, by decide⟩, _, _, rfl, rfl, (by show 3 ≤ sizeLine; decide), fun p hp => q p _ hp ⟨_, _, _, upd_same, by omega, by omega⟩⟩
/-- the flow at f was drawn from, nothing else changed -/
structure Dr (f : Addr) (H H' : Hp) : Prop where
  off : ∀ b, b ≠ f → H' b = H b
  fl : Flow H' f
theorem Flow.lst {H : Hp} {f : Addr} (h : Flow H f) : ∃ xs, H f = some (.lst xs) := by
  obtain ⟨a, b, c, e, _⟩ := h
  exact ⟨_, e⟩
theorem Dr.ex {f : Addr} {H H' : Hp} (d : Dr f H H') : Ex [f] H H' := fun b o h n => by
  rw [d.off b (fun z => n (by rw [z]; simp))]
  exact h
theorem Dr.trans {f : Addr} {H H1 H2 : Hp} (a : Dr f H H1) (b : Dr f H1 H2) : Dr f H H2 := ⟨fun c n => (b.off c n).trans (a.off c n), b.fl⟩
theorem Dr.tp {f : Addr} {H H' : Hp} (d : Dr f H H') (h : Flow H f) : Tp K H H' := by
  obtain ⟨xs, e⟩ := h.lst
  refine d.ex.tp fun b hb ys q => ?_
  rw [List.mem_singleton.mp hb] at q
  rcases q with q | ⟨o, q⟩
  · rw [e] at q; cases q
  · rw [e] at q; cases q
abbrev s_l_draw : Stmt := topS 54
theorem sc_l_draw : FnScope ["_law_flow_here", "_law_many", "_law_number", "_law_digit"] ["_law_flow_here", "_law_many"] (defScope s_l_draw) := ⟨rfl, rfl, rfl, by decide +kernel, rfl, by decide +kernel, by decide +kernel⟩
def spDraw : Sp := fun vs H Q _ => ∃ (f : Addr) (m : Int), vs = [.ref f, .int m] ∧ Flow H f ∧ 0 < m ∧ m < 1073741824 ∧ ∀ (d : Int) (H' : Hp), 0 ≤ d → d < m → Dr f H H' → Q (.int d) H'
theorem dr_put {f : Addr} {H H0 : Hp} {xs : List V} (o : ∀ b, b ≠ f → H0 b = H b) (fl : Flow (upd H0 f (.lst xs)) f) : Dr f H (upd H0 f (.lst xs)) := ⟨fun b n => by rw [upd_ne n]; exact o b n, fl⟩
theorem ok_l_draw (D : DefAt K mg "_law_draw" s_l_draw ["_law_flow_here", "_law_many"]) : Cal P w K mg base 1 "_law_draw" ["_law_flow_here", "_law_many"] (spDraw) := by
  refine cal_of D sc_l_draw (fun vs H Q E h => ?_) (fun f cdv A outer s H vs Q E hr h => ?_)
  · obtain ⟨a, m, rfl, _⟩ := h
    rfl
  obtain ⟨a, m, rfl, ⟨own, cnt, seed, hf, s0, s1⟩, m0, m1, q⟩ := h
  refine ⟨_, (pss_cons (ps_if (pt_cmpR op_gt (pe_ix ix_list (pv 0) pe_int (fun _ _ => rfl)) pe_int (nomark _))
        (pss_cons (ps_set (i := 3) sc_l_draw.nd rfl (.inl rfl) (pe_op op_mod (pe_ix ix_list (pv 0) pe_int (fun _ _ => rfl)) (pv 1)))
      (pss_cons (ps_asg (pe_op op_fdiv (pe_ix ix_list (pv 0) pe_int (fun _ _ => rfl)) (pv 1)) (pg_sub (pv 0) pe_int set_list))
      (pss_one (ps_ret (pv 3)))))
        pss_nil)
      (pss_cons (ps_asg (pe_op op_add (pe_ix ix_list (pv 0) pe_int (fun _ _ => rfl)) pe_int) (pg_sub (pv 0) pe_int set_list))
      (pss_cons (ps_set (i := 2) sc_l_draw.nd rfl (.inl rfl) (pe_op op_mod (pe_op op_add (pe_op op_add (pe_op op_mul (pe_ix ix_list (pv 0) pe_int (fun _ _ => rfl)) (pe_op op_add pe_int (pe_op op_mul pe_int (pe_ix ix_list (pv 0) pe_int (fun _ _ => rfl))))) (pe_op op_mul pe_int (pe_ix ix_list (pv 0) pe_int (fun _ _ => rfl)))) pe_int) pe_int))
      (pss_cons (ps_set (i := 2) sc_l_draw.nd rfl (.inl rfl) (pe_op op_mod (pe_op op_mul (pv 2) (pv 2)) pe_int))
      (pss_one (ps_ret (pe_op op_mod (pe_op op_fdiv (pe_op op_mod (pe_op op_mul (pe_op op_add (pv 2) pe_int) (pe_op op_add (pv 2) pe_int)) pe_int) pe_int) (pv 1)))))))), ?_⟩
  have L : SqL K H a [.int own, .int cnt, .int seed] := SqL.of hf
  refine ⟨_, rfl, a, _, 0, .int own, rfl, rfl, L, rfl, _, _, rfl, rfl, _, rfl, ite2 (fun c => ?_) (fun c => ?_)⟩
  · have b1 : 0 ≤ own % m := Int.emod_nonneg _ (by omega)
    have b2 : own % m < m := Int.emod_lt_of_pos _ m0
    refine ⟨_, rfl, a, _, 0, .int own, rfl, rfl, L, rfl, _, rfl, _, _, rfl, rfl, m0, ?_⟩
    refine ⟨_, rfl, a, _, 0, .int own, rfl, rfl, L, rfl, _, rfl, _, _, rfl, rfl, ⟨m0, m1⟩, ?_⟩
    refine ⟨_, rfl, a, _, 0, 0, rfl, rfl, hf, rfl, ?_⟩
    exact ⟨_, rfl, q _ _ b1 b2 (dr_put (fun _ _ => rfl) ⟨_, _, _, upd_same, s0, s1⟩)⟩
  · refine ⟨_, rfl, a, _, 1, .int cnt, rfl, rfl, L, rfl, _, _, rfl, rfl, ?_⟩
    refine ⟨_, rfl, a, _, 1, 1, rfl, rfl, hf, rfl, ?_⟩
    have hf2 : (upd H a (.lst (List.set [.int own, .int cnt, .int seed] 1 (.int (cnt + 1))))) a = some (.lst [.int own, .int (cnt + 1), .int seed]) := upd_same
    generalize hH : upd H a (.lst (List.set [.int own, .int cnt, .int seed] 1 (.int (cnt + 1)))) = H2 at hf2
    have off : ∀ b, b ≠ a → H2 b = H b := fun b n => by
      rw [← hH, upd_ne n]
    have L2' : SqL K H2 a [.int own, .int (cnt + 1), .int seed] := SqL.of hf2
    refine ⟨_, rfl, a, _, 2, .int seed, rfl, rfl, L2', rfl, _, rfl, a, _, 1, .int (cnt + 1), rfl, rfl, L2', rfl, _, _, rfl, rfl, .inl ⟨by decide, by decide⟩, _, _, rfl, rfl, _, _, rfl, rfl, .inl ⟨by omega, by omega⟩, ?_⟩
    refine ⟨_, rfl, a, _, 1, .int (cnt + 1), rfl, rfl, L2', rfl, _, _, rfl, rfl, .inl ⟨by decide, by decide⟩, _, _, rfl, rfl, _, _, rfl, rfl, _, _, rfl, rfl, (by show (0 : Int) < 2147483629; decide), ?_⟩
    have n1 := Int.emod_nonneg (seed * (48271 + 2 * (cnt + 1)) + 7919 * (cnt + 1) + 1) (show (2147483629 : Int) ≠ 0 by decide)
    have n2 := Int.emod_lt_of_pos (seed * (48271 + 2 * (cnt + 1)) + 7919 * (cnt + 1) + 1) (show (0 : Int) < 2147483629 by decide)
    generalize (seed * (48271 + 2 * (cnt + 1)) + 7919 * (cnt + 1) + 1) % 2147483629 = n at n1 n2
    refine ⟨_, rfl, _, rfl, _, _, rfl, rfl, .inl ⟨by omega, by omega⟩, _, _, rfl, rfl, (by show (0 : Int) < 2147483587; decide), ?_⟩
    have k1 := Int.emod_nonneg (n * n) (show (2147483587 : Int) ≠ 0 by decide)
    have k2 := Int.emod_lt_of_pos (n * n) (show (0 : Int) < 2147483587 by decide)
    generalize n * n % 2147483587 = k at k1 k2
    refine ⟨_, rfl, _, _, rfl, rfl, _, rfl, _, _, rfl, rfl, _, _, rfl, rfl, .inl ⟨by omega, by omega⟩, _, _, rfl, rfl, (by show (0 : Int) < 2147483579; decide), _, _, rfl, rfl, ⟨by decide, by decide⟩, _, rfl, _, _, rfl, rfl, m0, ?_⟩
    exact q _ _ (Int.emod_nonneg _ (by omega)) (Int.emod_lt_of_pos _ m0) ⟨off, ⟨_, _, _, hf2, s0, s1⟩⟩
end
end Lm

set_option Elab.async false
set_option linter.all false
set_option maxRecDepth 100000
set_option maxHeartbeats 2000000
namespace Lm
open PySem PySem.Spec PyProof.Rows L2 LmR
/-! ### flat data: kinds, sizes -/
def tyn : PyData → String
  | .none => "NoneType"
  | .bool _ => "bool"
  | .int _ => "int"
  | .str _ => "str"
  | .list _ => "list"
  | .tuple _ => "tuple"
  | .dict _ => "dict"
theorem tyx_tup {K : PySem.W.Frag} {H : Hp} {a : Addr} {xs : List V} (q : SqT K H a xs) : TyX K H (.ref a) (.type "tuple") := by
  rcases q with (q | ⟨o, q⟩) | ⟨o, its, n, hk, hc, _⟩
  · exact .base (.tup q)
  · exact .fTuple q
  · exact .kTuple hk hc
theorem Fd.ty {K : PySem.W.Frag} {H : Hp} {v : V} {d : PyData} (h : Fd K H v d) : TyX K H v (.type (tyn d)) := by
  obtain ⟨f, h⟩ := h
  cases h with
  | non => exact .base .non
  | bl b => exact .base (.bl b)
  | int i => exact .base (.int i)
  | str x => exact .base (.str x)
  | lst q r => simp [flat] at f
  | tup q r => exact tyx_tup q
def isTup : PyData → Bool
  | .tuple _ => true
  | _ => false
def isBl : PyData → Bool
  | .bool _ => true
  | _ => false
def isStr : PyData → Bool
  | .str _ => true
  | _ => false
def isInt : PyData → Bool
  | .bool _ => true
  | .int _ => true
  | _ => false
theorem kit_tup {K : PySem.W.Frag} (d : PyData) (h : flat d = true) : PySem.W.kitOne K (.type (tyn d)) (.type "tuple") = some (isTup d) := by
  cases d <;> first | (simp [flat] at h; done) | exact kit_ty (a := "NoneType") (r := true) (by decide +kernel) | exact kit_ty (a := "NoneType") (r := false) (by decide +kernel) | exact kit_ty (a := "bool") (r := true) (by decide +kernel) | exact kit_ty (a := "bool") (r := false) (by decide +kernel) | exact kit_ty (a := "int") (r := true) (by decide +kernel) | exact kit_ty (a := "int") (r := false) (by decide +kernel) | exact kit_ty (a := "str") (r := true) (by decide +kernel) | exact kit_ty (a := "str") (r := false) (by decide +kernel) | exact kit_ty (a := "tuple") (r := true) (by decide +kernel) | exact kit_ty (a := "tuple") (r := false) (by decide +kernel)
theorem kit_bl {K : PySem.W.Frag} (d : PyData) (h : flat d = true) : PySem.W.kitOne K (.type (tyn d)) (.type "bool") = some (isBl d) := by
  cases d <;> first | (simp [flat] at h; done) | exact kit_ty (a := "NoneType") (r := true) (by decide +kernel) | exact kit_ty (a := "NoneType") (r := false) (by decide +kernel) | exact kit_ty (a := "bool") (r := true) (by decide +kernel) | exact kit_ty (a := "bool") (r := false) (by decide +kernel) | exact kit_ty (a := "int") (r := true) (by decide +kernel) | exact kit_ty (a := "int") (r := false) (by decide +kernel) | exact kit_ty (a := "str") (r := true) (by decide +kernel) | exact kit_ty (a := "str") (r := false) (by decide +kernel) | exact kit_ty (a := "tuple") (r := true) (by decide +kernel) | exact kit_ty (a := "tuple") (r := false) (by decide +kernel)
theorem kit_str {K : PySem.W.Frag} (d : PyData) (h : flat d = true) : PySem.W.kitOne K (.type (tyn d)) (.type "str") = some (isStr d) := by
  cases d <;> first | (simp [flat] at h; done) | exact kit_ty (a := "NoneType") (r := true) (by decide +kernel) | exact kit_ty (a := "NoneType") (r := false) (by decide +kernel) | exact kit_ty (a := "bool") (r := true) (by decide +kernel) | exact kit_ty (a := "bool") (r := false) (by decide +kernel) | exact kit_ty (a := "int") (r := true) (by decide +kernel) | exact kit_ty (a := "int") (r := false) (by decide +kernel) | exact kit_ty (a := "str") (r := true) (by decide +kernel) | exact kit_ty (a := "str") (r := false) (by decide +kernel) | exact kit_ty (a := "tuple") (r := true) (by decide +kernel) | exact kit_ty (a := "tuple") (r := false) (by decide +kernel)
theorem kit_int {K : PySem.W.Frag} (d : PyData) (h : flat d = true) : PySem.W.kitOne K (.type (tyn d)) (.type "int") = some (isInt d) := by
  cases d <;> first | (simp [flat] at h; done) | exact kit_ty (a := "NoneType") (r := true) (by decide +kernel) | exact kit_ty (a := "NoneType") (r := false) (by decide +kernel) | exact kit_ty (a := "bool") (r := true) (by decide +kernel) | exact kit_ty (a := "bool") (r := false) (by decide +kernel) | exact kit_ty (a := "int") (r := true) (by decide +kernel) | exact kit_ty (a := "int") (r := false) (by decide +kernel) | exact kit_ty (a := "str") (r := true) (by decide +kernel) | exact kit_ty (a := "str") (r := false) (by decide +kernel) | exact kit_ty (a := "tuple") (r := true) (by decide +kernel) | exact kit_ty (a := "tuple") (r := false) (by decide +kernel)
/-- how many things are in it -/
def dsz : PyData → Nat
  | .tuple xs => 1 + dszs xs
  | _ => 1
where dszs : List PyData → Nat
  | [] => 0
  | d :: ds => dsz d + dszs ds
theorem dsz_pos (d : PyData) : 1 ≤ dsz d := by cases d <;> simp [dsz]
theorem dszs_len : ∀ ds : List PyData, ds.length ≤ dsz.dszs ds
  | [] => Nat.le_refl _
  | d :: ds => by
    have h1 := dsz_pos d
    have h2 := dszs_len ds
    simp only [dsz.dszs, List.length_cons]
    omega
theorem dszs_app : ∀ ds es : List PyData, dsz.dszs (ds ++ es) = dsz.dszs ds + dsz.dszs es
  | [], es => by simp [dsz.dszs]
  | d :: ds, es => by
    have h := dszs_app ds es
    simp only [List.cons_append, dsz.dszs]
    omega
/-- a pair of two things alike -/
def Pr (K : PySem.W.Frag) (H : Hp) (t : Addr) (d : PyData) : Prop := ∃ x y, H t = some (.tup [x, y]) ∧ Fd K H x d ∧ Fd K H y d
theorem Pr.keep {K : PySem.W.Frag} {H H' : Hp} {t : Addr} {d : PyData} (h : Pr K H t d) (s : ∀ xs, H t = some (.tup xs) → H' t = some (.tup xs)) (t' : Tp K H H') : Pr K H' t d := by
  obtain ⟨x, y, e, a, b⟩ := h
  exact ⟨x, y, s _ e, a.keep t', b.keep t'⟩
theorem while_m {c : TT} {tb : TS} {D : Ends} {σ : L2.St} {H : Hp} (W : Nat → L2.St → Hp → Prop) (h0 : ∃ m, W m σ H)
    (hs : ∀ m σ H, W m σ H → c σ H fun b H1 => if b = true then ∃ N : L2.St → Hp → Prop, (∀ σ' H', N σ' H' → ∃ m', m' < m ∧ W m' σ' H') ∧ tb { D with nx := N, ct := N, bk := D.nx } σ H1 else D.nx σ H1) : tWhile c tb D σ H := ⟨W, h0, hs⟩
theorem dpall_get {K : PySem.W.Frag} {H : Hp} : ∀ {vs : List V} {ds : List PyData}, DpAll K H vs ds → ∀ (j : Nat) (v : V), vs[j]? = some v → ∃ d, ds[j]? = some d ∧ Dp K H v d
  | _, _, .nil, j, v, h => by simp at h
  | _, _, .cons a b, 0, v, h => by
    have e := Option.some.inj h
    subst e
    exact ⟨_, rfl, a⟩
  | _, _, .cons a b, j + 1, v, h => dpall_get b j v h
theorem dpall_len {K : PySem.W.Frag} {H : Hp} : ∀ {vs : List V} {ds : List PyData}, DpAll K H vs ds → vs.length = ds.length
  | _, _, .nil => rfl
  | _, _, .cons a b => by rw [List.length_cons, List.length_cons, dpall_len b]
theorem flats_get : ∀ {ds : List PyData}, flat.flats ds = true → ∀ (j : Nat) (d : PyData), ds[j]? = some d → flat d = true
  | [], _, j, d, h => by simp at h
  | e :: ds, f, 0, d, h => by
    rw [flat.flats, Bool.and_eq_true] at f
    have e := Option.some.inj h
    subst e
    exact f.1
  | e :: ds, f, j + 1, d, h => by
    rw [flat.flats, Bool.and_eq_true] at f
    exact flats_get f.2 j d h
section
variable {P : Program} {w : World} {K : PySem.W.Frag} {mg : Str → Option Value} {base : Heap}
end
end Lm

set_option Elab.async false
set_option linter.all false
set_option maxRecDepth 100000
set_option maxHeartbeats 2000000
namespace Lm
open PySem PySem.Spec PyProof.Rows L2 LmR
section
variable {P : Program} {w : World} {K : PySem.W.Frag} {mg : Str → Option Value} {base : Heap}
/-- the flow was drawn from, what else stands at ws may have changed, things were made -/
structure Gr (ws : List Addr) (f : Addr) (H H' : Hp) : Prop where
  ex : Ex (f :: ws) H H'
  fl : Flow H' f
theorem Dr.gr {f : Addr} {H H' : Hp} {ws : List Addr} (d : Dr f H H') : Gr ws f H H' := ⟨d.ex.mono fun b hb => by rw [List.mem_singleton.mp hb]; exact List.mem_cons_self, d.fl⟩
theorem Gr.trans {ws : List Addr} {f : Addr} {H H1 H2 : Hp} (a : Gr ws f H H1) (b : Gr ws f H1 H2) : Gr ws f H H2 := ⟨a.ex.trans b.ex, b.fl⟩
theorem Gr.mono {ws us : List Addr} {f : Addr} {H H' : Hp} (a : Gr ws f H H') (h : ∀ b ∈ ws, b ∈ us) : Gr us f H H' := ⟨a.ex.mono fun b hb => by
  rcases List.mem_cons.mp hb with z | z
  · rw [z]; exact List.mem_cons_self
  · exact List.mem_cons_of_mem _ (h b z), a.fl⟩
theorem Gr.new {ws : List Addr} {f : Addr} {H : Hp} {p : Addr} {o : HO} (fl : Flow H f) (h : H p = none) : Gr ws f H (upd H p o) := by
  refine ⟨Ex.new h, ?_⟩
  obtain ⟨a, b, c, e, r⟩ := fl
  exact ⟨a, b, c, by rw [upd_ne (ne_of_none e h)]; exact e, r⟩
theorem Gr.tp {f : Addr} {H H' : Hp} (a : Gr [] f H H') (h : Flow H f) : Tp K H H' := by
  obtain ⟨xs, e⟩ := h.lst
  refine a.ex.tp fun b hb ys q => ?_
  rw [List.mem_singleton.mp hb] at q
  rcases q with q | ⟨o, q⟩
  · rw [e] at q; cases q
  · rw [e] at q; cases q
def kVs (ks : List Bool) : List V := ks.map fun b => V.str (kS b)
def wKV (ka : Addr) (c i n : Int) : List (Key × V) := [(Sum.inr "kinds", .ref ka), (Sum.inr "cmp", .int c), (Sum.inr "if", .int i), (Sum.inr "any", .int n)]
def Wld (H : Hp) (wd ka : Addr) : Prop := ∃ c i n : Int, H wd = some (.dK (wKV ka c i n))
theorem wv_kinds (ka : Addr) (c i n : Int) : valV (wKV ka c i n) (Sum.inr "kinds") = some (.ref ka) := rfl
theorem wv_cmp (ka : Addr) (c i n : Int) : valV (wKV ka c i n) (Sum.inr "cmp") = some (.int c) := rfl
theorem wv_if (ka : Addr) (c i n : Int) : valV (wKV ka c i n) (Sum.inr "if") = some (.int i) := rfl
theorem wv_any (ka : Addr) (c i n : Int) : valV (wKV ka c i n) (Sum.inr "any") = some (.int n) := rfl
theorem wp_cmp (ka : Addr) (c i n z : Int) : putK (wKV ka c i n) (Sum.inr "cmp") (.int z) = wKV ka z i n := rfl
theorem wp_if (ka : Addr) (c i n z : Int) : putK (wKV ka c i n) (Sum.inr "if") (.int z) = wKV ka c z n := rfl
theorem wp_any (ka : Addr) (c i n z : Int) : putK (wKV ka c i n) (Sum.inr "any") (.int z) = wKV ka c i z := rfl
/-- a dict with the kinds -/
def Kin (H : Hp) (wd ka : Addr) : Prop := ∃ kvs, H wd = some (.dK kvs) ∧ valV kvs (Sum.inr "kinds") = some (.ref ka)
theorem Wld.kin {H : Hp} {wd ka : Addr} (h : Wld H wd ka) : Kin H wd ka := by
  obtain ⟨c, i, n, e⟩ := h
  exact ⟨_, e, rfl⟩
/-- its numbers are from -1000 to 1000 -/
def Nb : Pg → Prop
  | .inp _ => True
  | .num c => -1000 ≤ c ∧ c ≤ 1000
  | .tr _ => True
  | .plus c a => (-1000 ≤ c ∧ c ≤ 1000) ∧ Nb a
  | .bin _ a b => Nb a ∧ Nb b
  | .neg a => Nb a
  | .ite p a b => Nb p ∧ Nb a ∧ Nb b
def Wn (ks : List Bool) (p : Pg) : Prop := Wk ks p ∧ Nb p
abbrev s_l_numeral : Stmt := topS 55
theorem sc_l_numeral : FnScope ["_law_flow_here"] ["_law_flow_here"] (defScope s_l_numeral) := ⟨rfl, rfl, rfl, by decide +kernel, rfl, by decide +kernel, by decide +kernel⟩
def spNumeral : Sp := fun vs H Q _ => ∃ f : Addr, vs = [.ref f] ∧ Flow H f ∧ ∀ (i : Int) (H' : Hp), -1000 ≤ i → i ≤ 1000 → Gr [] f H H' → Q (.int i) H'
theorem ok_l_numeral (C_l_draw : Cal P w K mg base 1 "_law_draw" ["_law_flow_here", "_law_many"] (spDraw)) (D : DefAt K mg "_law_numeral" s_l_numeral ["_law_flow_here"]) : Cal P w K mg base 2 "_law_numeral" ["_law_flow_here"] (spNumeral) := by
  refine cal_of D sc_l_numeral (fun vs H Q E h => ?_) (fun f cdv A outer s H vs Q E hr h => ?_)
  · obtain ⟨a, rfl, _⟩ := h
    rfl
  obtain ⟨a, rfl, fl, q⟩ := h
  have hr' : Room 1 _ := hr
  refine ⟨_, (pss_one (ps_ret (pe_ix ix_list (pe_lst (pa_cons (pe_cal C_l_draw hr' (by rfl) (pa_cons (pv 0) (pa_cons pe_int pa_nil))) (pa_cons (pe_op op_sub pe_int (pe_cal C_l_draw hr' (by rfl) (pa_cons (pv 0) (pa_cons pe_int pa_nil)))) (pa_cons (pe_op op_sub (pe_cal C_l_draw hr' (by rfl) (pa_cons (pv 0) (pa_cons pe_int pa_nil))) pe_int) pa_nil)))) (pe_cal C_l_draw hr' (by rfl) (pa_cons (pv 0) (pa_cons pe_int pa_nil))) (fun _ _ => rfl)))), ?_⟩
  refine ⟨_, rfl, a, 4, rfl, fl, by decide, by decide, fun d1 H1 x1 y1 r1 => ?_⟩
  refine ⟨_, rfl, a, 4, rfl, r1.fl, by decide, by decide, fun d2 H2 x2 y2 r2 => ⟨_, _, rfl, rfl, ?_⟩⟩
  refine ⟨_, rfl, a, 2001, rfl, r2.fl, by decide, by decide, fun d3 H3 x3 y3 r3 => ⟨_, _, rfl, rfl, ?_⟩⟩
  refine ⟨(by show 3 ≤ sizeLine; decide), fun p hp => ?_⟩
  have g3 : Gr [] a H (upd H3 p (.lst [.int d1, .int (0 - d2), .int (d3 - 1000)])) := (((r1.trans r2).trans r3).gr).trans (Gr.new r3.fl hp)
  refine ⟨_, rfl, a, 3, rfl, g3.fl, by decide, by decide, fun d4 H4 x4 y4 r4 => ?_⟩
  have npa : p ≠ a := fun z => by
    obtain ⟨xs, e⟩ := r3.fl.lst
    rw [z, e] at hp
    cases hp
  have e4 : H4 p = some (.lst [.int d1, .int (0 - d2), .int (d3 - 1000)]) := by
    rw [r4.off p npa]
    exact upd_same
  have g4 := g3.trans r4.gr
  rcases (show d4 = 0 ∨ d4 = 1 ∨ d4 = 2 by omega) with z | z | z
  · subst z
    exact ⟨p, _, 0, .int d1, rfl, rfl, SqL.of e4, rfl, q _ _ (by omega) (by omega) g4⟩
  · subst z
    exact ⟨p, _, 1, .int (0 - d2), rfl, rfl, SqL.of e4, rfl, q _ _ (by omega) (by omega) g4⟩
  · subst z
    exact ⟨p, _, 2, .int (d3 - 1000), rfl, rfl, SqL.of e4, rfl, q _ _ (by omega) (by omega) g4⟩
/-! ### the world: the kinds of the inputs and what may still be used -/
abbrev s_l_leaf : Stmt := topS 56
theorem sc_l_leaf : FnScope ["_law_flow_here", "_law_world", "_law_kind", "_law_few", "_law_number", "_law_form", "_law_k"] ["_law_flow_here", "_law_world", "_law_kind"] (defScope s_l_leaf) := ⟨rfl, rfl, rfl, by decide +kernel, rfl, by decide +kernel, by decide +kernel⟩
def spLeaf (K : PySem.W.Frag) : Sp := fun vs H Q _ => ∃ (f wd ka : Addr) (ks : List Bool) (k : Bool), vs = [.ref f, .ref wd, .str (kS k)] ∧ Flow H f ∧ Kin H wd ka ∧ SqT K H ka (kVs ks) ∧ ks.length ≤ 3 ∧
  ∀ (v : V) (p : Pg) (H' : Hp), Gr [] f H H' → At K H' v p → Wn ks p → own ks p = k → psz p = 1 → Q v H'
theorem ok_l_leaf (B : Bt mg) (C_l_draw : Cal P w K mg base 1 "_law_draw" ["_law_flow_here", "_law_many"] (spDraw)) (C_l_numeral : Cal P w K mg base 2 "_law_numeral" ["_law_flow_here"] (spNumeral)) (D : DefAt K mg "_law_leaf" s_l_leaf ["_law_flow_here", "_law_world", "_law_kind"]) : Cal P w K mg base 3 "_law_leaf" ["_law_flow_here", "_law_world", "_law_kind"] (spLeaf K) := by
  refine cal_of D sc_l_leaf (fun vs H Q E h => ?_) (fun f cdv A outer s H vs Q E hr h => ?_)
  · obtain ⟨f, wd, ka, ks, k, rfl, _⟩ := h
    rfl
  obtain ⟨f, wd, ka, ks, k, rfl, fl, ⟨kvs, hw, ekv⟩, hk, hk3, q⟩ := h
  have C_l_draw := C_l_draw.mono (k := 2) (by decide)
  have hr' : Room 2 _ := hr
  refine ⟨_, (pss_cons (ps_setLc (i := 3) (own := [("_law_k", 6)]) (g := gName 6) rfl sc_l_leaf.nd rfl rfl (sw_true rfl rfl rfl (by decide +kernel)) (pi_range1 (by rfl) B.range (pa_cons (pe_callB call_len_seq (by rfl) B.len PySem.boot_len (pa_cons (pe_dget (hu_of hr) (pv 1) pe_str (fun _ _ => rfl)) pa_nil)) pa_nil)) (blkOk_by (own := [("_law_k", 6)]) (N := ["_law_flow_here", "_law_world", "_law_kind", "_law_few", "_law_number", "_law_form", "_law_k"]) (sc := defScope s_l_leaf) (by decide +kernel)) (fun _ _ _ _ _ => (pg_name (i := 6) sc_l_leaf.nd rfl (.inl rfl))) (fun _ _ _ _ _ => (pts_one (pt_cmpR op_eq (pe_ix (ix_tupK (K := K) rfl) (pe_dget (hu_of hr) (pv 1) pe_str (fun _ _ => rfl)) (pv 6) (fun _ _ => rfl)) (pv 2) (nomark _)))) (fun _ _ _ _ _ => (pe_tup (pa_cons pe_str (pa_cons (pv 6) pa_nil)))))
      (pss_cons (ps_par (i := 4) (j := 5) rfl sc_l_leaf.nd rfl rfl (by decide) rfl rfl (pa_cons (pe_cal C_l_numeral hr' (by rfl) (pa_cons (pv 0) pa_nil)) (pa_cons (pe_cal C_l_draw hr' (by rfl) (pa_cons (pv 0) (pa_cons pe_int pa_nil))) pa_nil)) rfl)
      (pss_cons (ps_if (PW.pt (pw_and (pt_cmpR op_gt (pe_callB call_len_seq (by rfl) B.len PySem.boot_len (pa_cons (pv 3) pa_nil)) pe_int (nomark _)) (pw_and1 (pt_cmpR op_gt (pv 5) pe_int (nomark _)))))
        (pss_one (ps_ret (pe_ix ix_list (pv 3) (pe_cal C_l_draw hr' (by rfl) (pa_cons (pv 0) (pa_cons (pe_callB call_len_seq (by rfl) B.len PySem.boot_len (pa_cons (pv 3) pa_nil)) pa_nil))) (fun _ _ => rfl))))
        pss_nil)
      (pss_cons (ps_if (pt_cmpR op_eq (pv 2) pe_str (nomark _))
        (pss_one (ps_ret (pe_tup (pa_cons pe_str (pa_cons (pv 4) pa_nil)))))
        pss_nil)
      (pss_one (ps_ret (pe_ix ix_list (pe_lst (pa_cons (pe_tup (pa_cons pe_str pa_nil)) (pa_cons (pe_tup (pa_cons pe_str pa_nil)) pa_nil))) (pe_cal C_l_draw hr' (by rfl) (pa_cons (pv 0) (pa_cons pe_int pa_nil))) (fun _ _ => rfl)))))))), ?_⟩
  have dg : ∀ {H' : Hp}, H' wd = some (.dK kvs) → DGet H' wd (kV (Sum.inr "kinds")) (some (.ref ka)) := fun h => ekv ▸ DGet.k h
  have nwf : wd ≠ f := fun z => by
    obtain ⟨xs, e⟩ := fl.lst
    rw [z, e] at hw
    cases hw
  refine ⟨_, rfl, wd, .ref ka, rfl, dg hw, ka, _, rfl, .inr hk, (((kVs ks).length : Nat) : Int), rfl, by have := hk3; unfold kVs; rw [List.length_map]; omega, by unfold kVs; rw [List.length_map]; omega, fun D hD => lc_range (lo := 0) (n := (((kVs ks).length : Nat) : Int).toNat) (fun i H' => Same H H' ∧ ∃ acc, H' D = some (.lst acc) ∧ acc.length ≤ i ∧ ∀ v ∈ acc, ∃ j, ks[j]? = some k ∧ At K H' v (.inp j)) ?_ ?_ ?_⟩
  · exact ⟨same_new hD, [], upd_same, Nat.le_refl _, fun v hv => nomatch hv⟩
  · rintro i H' hi ⟨sm, acc, hA, hl, hP⟩
    have hi' : i < ks.length := by
      unfold kVs at hi
      rw [List.length_map] at hi
      omega
    have ek : (kVs ks)[i]? = some (.str (kS ks[i])) := by
      unfold kVs
      rw [List.getElem?_map, List.getElem?_eq_getElem hi']
      rfl
    refine ⟨rfl, _, rfl, wd, .ref ka, rfl, dg (sm _ _ hw), _, rfl, ka, _, _, _, rfl, rfl, Tp.same sm _ _ hk, at_of (j := i) (by omega) ek, _, rfl, rfl, _, rfl, ite2 (fun c => ?_) (fun c => ?_)⟩
    · have c' : V.str (kS ks[i]) = V.str (kS k) := of_decide_eq_true c
      have c2 : ks[i] = k := by
        generalize ks[i] = b at c'
        cases b <;> cases k <;> first | rfl | (exact absurd c' (by decide +kernel))
      refine ⟨_, rfl, (by show 2 ≤ sizeLine; decide), fun p hp => ⟨acc, ?_, smallL (by omega), ?_⟩⟩
      · rw [upd_ne (ne_of_none hA hp)]
        exact hA
      · have sp : Same H' (upd H' p (.tup [.str "in", .int (0 + (i : Int))])) := same_new hp
        have hD' : (upd H' p (.tup [.str "in", .int (0 + (i : Int))])) D = some (.lst acc) := sp _ _ hA
        have tp : Tp K H' (upd (upd H' p (.tup [.str "in", .int (0 + (i : Int))])) D (.lst (acc ++ [.ref p]))) := (Tp.same sp).trans (Tp.lst hD')
        refine ⟨fun b o z => ?_, acc ++ [.ref p], upd_same, by rw [List.length_append, List.length_singleton]; omega, fun v hv => ?_⟩
        · rw [upd_ne (ne_of_none z hD)]
          exact sp _ _ (sm _ _ z)
        · rcases List.mem_append.mp hv with z | z
          · obtain ⟨j, e1, e2⟩ := hP v z
            exact ⟨j, e1, e2.keep tp⟩
          · rw [List.mem_singleton.mp z]
            refine ⟨i, by rw [List.getElem?_eq_getElem hi', c2], ?_⟩
            have npD : p ≠ D := fun z => by
              rw [z, hA] at hp
              cases hp
            have ep : (upd (upd H' p (.tup [.str "in", .int (0 + (i : Int))])) D (.lst (acc ++ [.ref p]))) p = some (.tup [.str "in", .int (i : Int)]) := by
              rw [upd_ne npD, upd_same, Int.zero_add]
            exact .tup (.inl (.inl ep)) (.cons (.str _) (.cons (.int _) .nil))
    · exact ⟨sm, acc, hA, by omega, hP⟩
  · rintro H1 ⟨sm, acc, hA, hl, hP⟩
    have fl1 : Flow H1 f := by
      obtain ⟨x, y, z, e, r⟩ := fl
      exact ⟨x, y, z, sm _ _ e, r⟩
    have g1 : Gr [] f H H1 := ⟨Ex.of_same sm, fl1⟩
    have nDf : D ≠ f := fun z => by
      obtain ⟨xs, e⟩ := fl.lst
      rw [z, e] at hD
      cases hD
    refine ⟨_, rfl, f, rfl, fl1, fun num H2 n0 n1 g2 => ?_⟩
    refine ⟨_, rfl, f, 3, rfl, g2.fl, by decide, by decide, fun d H3 d0 d1 r3 => ⟨_, _, rfl, ?_⟩⟩
    have g3 : Gr [] f H1 H3 := g2.trans r3.gr
    have gH3 := g1.trans g3
    have hA3 : H3 D = some (.lst acc) := g3.ex D _ hA (by simp [nDf])
    have tp3 : Tp K H1 H3 := g3.tp fl1
    refine ⟨_, rfl, D, acc, rfl, .inl (SqL.of hA3), _, _, rfl, rfl, _, rfl, ?_⟩
    have last : (tSeq (tIfS (tTest (tOp rEq (tVar 2) (tC (V.str (Str.ofString "num"))))) (tRet (tTup (tCons (tC (V.str (Str.ofString "num"))) (tCons (tVar 4) tNil)))) tNext)
          (tRet (tOp (rIxL K) (tLst (tCons (tTup (tCons (tC (V.str (Str.ofString "yes"))) tNil)) (tCons (tTup (tCons (tC (V.str (Str.ofString "no"))) tNil)) tNil))) (tCall spDraw [] (fun x x_1 x_2 => False) (tCons (tVar 0) (tCons (tC (V.int 2)) tNil))))))
        { nx := fun x H' => Q V.non H', rt := Q } [some (.ref f), some (.ref wd), some (.str (kS k)), some (.ref D), some (.int num), some (.int d), none] H3 := by
      refine ⟨_, rfl, rfl, _, rfl, ite2 (fun c => ?_) (fun c => ?_)⟩
      · have c' : V.str (kS k) = V.str "num" := of_decide_eq_true c
        have ek : k = false := by
          cases k
          · rfl
          · exact absurd c' (by decide +kernel)
        subst ek
        refine ⟨_, rfl, (by show 2 ≤ sizeLine; decide), fun p hp => ?_⟩
        exact q _ (.num num) _ (gH3.trans (Gr.new gH3.fl hp)) (.tup (.inl (.inl upd_same)) (.cons (.str _) (.cons (.int _) .nil))) ⟨True.intro, n0, n1⟩ rfl rfl
      · have ek : k = true := by
          cases k
          · exact absurd (decide_eq_true rfl) c
          · rfl
        subst ek
        refine ⟨(by show 1 ≤ sizeLine; decide), fun p hp => ⟨(by show 1 ≤ sizeLine; decide), fun p2 hp2 => ⟨(by show 2 ≤ sizeLine; decide), fun l hl => ?_⟩⟩⟩
        have e1 : Gr [] f H (upd H3 p (.tup [.str "yes"])) := gH3.trans (Gr.new gH3.fl hp)
        have e2 := e1.trans (Gr.new (o := .tup [.str "no"]) e1.fl hp2)
        have e3 := e2.trans (Gr.new (o := .lst [.ref p, .ref p2]) e2.fl hl)
        have s2 : Same (upd H3 p (.tup [.str "yes"])) (upd (upd (upd H3 p (.tup [.str "yes"])) p2 (.tup [.str "no"])) l (.lst [.ref p, .ref p2])) := (same_new hp2).trans (same_new hl)
        have s3 : Same (upd (upd H3 p (.tup [.str "yes"])) p2 (.tup [.str "no"])) (upd (upd (upd H3 p (.tup [.str "yes"])) p2 (.tup [.str "no"])) l (.lst [.ref p, .ref p2])) := same_new hl
        refine ⟨_, rfl, f, 2, rfl, e3.fl, by decide, by decide, fun b H4 b0 b1 r4 => ?_⟩
        have e4 := e3.trans r4.gr
        have nlf : l ≠ f := fun z => by
          obtain ⟨xs, e⟩ := e2.fl.lst
          rw [z, e] at hl
          cases hl
        have hl4 : H4 l = some (.lst [.ref p, .ref p2]) := by
          rw [r4.off l nlf]
          exact upd_same
        have tp4 : Tp K _ H4 := r4.tp e3.fl
        rcases (show b = 0 ∨ b = 1 by omega) with z | z
        · subst z
          refine ⟨l, _, 0, .ref p, rfl, rfl, SqL.of hl4, rfl, q _ (.tr true) _ e4 ?_ ⟨True.intro, True.intro⟩ rfl rfl⟩
          exact .tup (tp4 _ _ (.inl (.inl (s2 _ _ upd_same)))) (.cons (.str _) .nil)
        · subst z
          refine ⟨l, _, 1, .ref p2, rfl, rfl, SqL.of hl4, rfl, q _ (.tr false) _ e4 ?_ ⟨True.intro, True.intro⟩ rfl rfl⟩
          exact .tup (tp4 _ _ (.inl (.inl (s3 _ _ upd_same)))) (.cons (.str _) .nil)
    refine ite2 (fun c => ?_) (fun c => ?_)
    · have c' : ((acc.length : Nat) : Int) > 0 := of_decide_eq_true c
      refine ⟨_, rfl, _, _, rfl, rfl, _, rfl, ite2 (fun c2 => ?_) (fun c2 => last)⟩
      refine ⟨_, rfl, _, rfl, _, rfl, D, acc, rfl, .inl (SqL.of hA3), f, _, rfl, g3.fl, c', ?_, fun j H4 j0 j1 r4 => ?_⟩
      · have : acc.length ≤ 3 := by
          unfold kVs at hl
          rw [List.length_map] at hl
          omega
        omega
      · have hA4 : H4 D = some (.lst acc) := by
          rw [r4.off D nDf]
          exact hA3
        have hj : j.toNat < acc.length := by omega
        obtain ⟨i, e1, e2⟩ := hP acc[j.toNat] (List.getElem_mem hj)
        refine ⟨D, acc, j, acc[j.toNat], rfl, rfl, SqL.of hA4, at_of (j := j.toNat) (by omega) (List.getElem?_eq_getElem hj), q _ (.inp i) _ (gH3.trans r4.gr) ((e2.keep tp3).keep (r4.tp g3.fl)) ?_ ?_ rfl⟩
        · exact ⟨(List.getElem?_eq_some_iff.mp e1).1, True.intro⟩
        · show ks.getD i false = k
          rw [List.getD_eq_getElem?_getD, e1]
          rfl
    · exact last
end
end Lm

set_option Elab.async false
set_option linter.all false
set_option maxRecDepth 100000
set_option maxHeartbeats 2000000
namespace Lm
open PySem PySem.Spec PyProof.Rows L2 LmR
/-- a loop over enumerate(list) -/
theorem for_enum {K : PySem.W.Frag} {a : Addr} {xs : List V} {g : TG} {tb : TS} {D : Ends} {σ : L2.St} {H : Hp} (Pv : Nat → L2.St → Hp → Prop) (h0 : Pv 0 σ H) (hq : ∀ i σ H, Pv i σ H → SqL K H a xs)
    (hs : ∀ (i : Nat) (x : V) (T : Addr) (σ : L2.St) (H : Hp), xs[i]? = some x → Pv i σ H → H T = none → g (.ref T) σ (upd H T (.tup [.int (i : Nat), x])) fun σ2 H2 => tb { D with nx := Pv (i + 1), ct := Pv (i + 1), bk := D.nx } σ2 H2) (hd : ∀ σ H, Pv xs.length σ H → D.nx σ H) :
    ∃ W : Nat → Nat → L2.St → Hp → Prop, (∃ m, W 0 m σ H) ∧ ∀ i m σ H, W i m σ H →
      ((Ite K a).stop i H ∧ D.nx σ H) ∨ ((Ite K a).go i H ∧ ∃ N : L2.St → Hp → Prop, (∀ σ' H', N σ' H' → ∃ m', m' < m ∧ W (i + 1) m' σ' H') ∧ ∀ v H', (Ite K a).yld i H v H' → g v σ H' fun σ2 H2 => tb { D with nx := N, ct := N, bk := D.nx } σ2 H2) := by
  refine ⟨fun i m σ H => m = xs.length - i ∧ i ≤ xs.length ∧ Pv i σ H, ⟨xs.length, rfl, Nat.zero_le _, h0⟩, ?_⟩
  rintro i m σ H ⟨rfl, hi, p⟩
  have qx := hq i σ H p
  by_cases hlt : i < xs.length
  · have hx : xs[i]? = some xs[i] := List.getElem?_eq_getElem hlt
    refine .inr ⟨⟨xs, _, qx, hx⟩, Pv (i + 1), fun σ' H' p' => ⟨xs.length - (i + 1), by omega, rfl, hlt, p'⟩, fun v H' y => ?_⟩
    obtain ⟨T, x', rfl, hT, rfl, f1⟩ := y
    exact hs i x' T σ H (f1 xs qx) p hT
  · have e : i = xs.length := by omega
    subst e
    exact .inl ⟨⟨xs, qx, Nat.le_refl _⟩, hd σ H p⟩
/-! ### the words that a program may be made with -/
inductive Ch where
  | plus
  | bin (w : Bw)
  | neg
  | ite
def Ch.str : Ch → Str
  | .plus => "plus"
  | .bin w => w.str
  | .neg => "not"
  | .ite => "if"
def Ch.fits (k : Bool) : Ch → Prop
  | .plus => k = false
  | .bin w => w.own = k
  | .neg => k = true
  | .ite => True
def Ch.ps (k : Bool) : Ch → List Bool
  | .plus => [false]
  | .bin w => [w.arg, w.arg]
  | .neg => [true]
  | .ite => [true, k, k]
def Ch.front (num : Int) : Ch → List V
  | .plus => [.str "plus", .int num]
  | .bin w => [.str w.str]
  | .neg => [.str "not"]
  | .ite => [.str "if"]
def Ch.sort : Ch → Str
  | .bin .least => "cmp"
  | .bin .most => "cmp"
  | .bin .atmost => "cmp"
  | .ite => "if"
  | _ => "any"
theorem map1 {α β : Type} {f : α → β} {l : List α} {x : β} (h : l.map f = [x]) : ∃ a, l = [a] ∧ f a = x := by
  match l, h with
  | [a], h => exact ⟨a, rfl, by simpa using h⟩
  | [], h => simp at h
  | a :: b :: r, h => simp at h
theorem map2 {α β : Type} {f : α → β} {l : List α} {x y : β} (h : l.map f = [x, y]) : ∃ a b, l = [a, b] ∧ f a = x ∧ f b = y := by
  match l, h with
  | [a, b], h => exact ⟨a, b, rfl, by simpa using h⟩
  | [], h => simp at h
  | [a], h => simp at h
  | a :: b :: c :: r, h => simp at h
theorem map3 {α β : Type} {f : α → β} {l : List α} {x y z : β} (h : l.map f = [x, y, z]) : ∃ a b c, l = [a, b, c] ∧ f a = x ∧ f b = y ∧ f c = z := by
  match l, h with
  | [a, b, c], h => exact ⟨a, b, c, rfl, by simpa using h⟩
  | [], h => simp at h
  | [a], h => simp at h
  | [a, b], h => simp at h
  | a :: b :: c :: d :: r, h => simp at h
/-- what is made of parts of the kinds due -/
theorem Ch.make {K : PySem.W.Frag} {H : Hp} {ks : List Bool} {k : Bool} {num : Int} (c : Ch) (hf : c.fits k) {t : Addr} {vs : List V} {ps : List Pg} (ha : Ats K H vs ps) (hw : ∀ p ∈ ps, Wn ks p) (hn : -1000 ≤ num ∧ num ≤ 1000) (hk : ps.map (own ks) = c.ps k)
    (ht : H t = some (.tup (c.front num ++ vs))) :
    ∃ p, At K H (.ref t) p ∧ Wn ks p ∧ own ks p = k ∧ psz p = 1 + (ps.map psz).sum := by
  cases c with
  | plus =>
    obtain ⟨a, rfl, e⟩ := map1 hk
    obtain ⟨v, rfl, h⟩ := ha.one
    exact ⟨.plus num a, .tup (.inl (.inl ht)) (.cons (.str _) (.cons (.int _) (.cons h .nil))), ⟨⟨(hw a (by simp)).1, e⟩, hn, (hw a (by simp)).2⟩, hf.symm, by simp [psz]; omega⟩
  | bin w =>
    obtain ⟨a, b, rfl, e1, e2⟩ := map2 hk
    obtain ⟨u, v, rfl, h1, h2⟩ := ha.two
    exact ⟨.bin w a b, .tup (.inl (.inl ht)) (.cons (.str _) (.cons h1 (.cons h2 .nil))), ⟨⟨(hw a (by simp)).1, (hw b (by simp)).1, e1, e2⟩, (hw a (by simp)).2, (hw b (by simp)).2⟩, hf, by simp [psz]; omega⟩
  | neg =>
    obtain ⟨a, rfl, e⟩ := map1 hk
    obtain ⟨v, rfl, h⟩ := ha.one
    exact ⟨.neg a, .tup (.inl (.inl ht)) (.cons (.str _) (.cons h .nil)), ⟨⟨(hw a (by simp)).1, e⟩, (hw a (by simp)).2⟩, hf.symm, by simp [psz]; omega⟩
  | ite =>
    obtain ⟨p, a, b, rfl, e1, e2, e3⟩ := map3 hk
    obtain ⟨u, v, z, rfl, h1, h2, h3⟩ := ha.three
    exact ⟨.ite p a b, .tup (.inl (.inl ht)) (.cons (.str _) (.cons h1 (.cons h2 (.cons h3 .nil)))), ⟨⟨(hw p (by simp)).1, (hw a (by simp)).1, (hw b (by simp)).1, e1, by rw [e2, e3]⟩, (hw p (by simp)).2, (hw a (by simp)).2, (hw b (by simp)).2⟩, e2, by simp [psz]; omega⟩
theorem Gr.put {ws : List Addr} {f : Addr} {H H' : Hp} {p : Addr} {o : HO} (g : Gr ws f H H') (h : H p = none) (n : p ≠ f) : Gr ws f H (upd H' p o) := by
  refine ⟨fun b u hb nb => ?_, ?_⟩
  · rw [upd_ne (ne_of_none hb h)]
    exact g.ex b u hb nb
  · obtain ⟨x, y, z, e, r⟩ := g.fl
    exact ⟨x, y, z, by rw [upd_ne n.symm]; exact e, r⟩
section
variable {P : Program} {w : World} {K : PySem.W.Frag} {mg : Str → Option Value} {base : Heap}
abbrev s_l_made : Stmt := topS 57
theorem sc_l_made : FnScope ["_law_flow_here", "_law_world", "_law_kind", "_law_room", "_law_down", "_law_words", "_law_word", "_law_parts", "_law_sort", "_law_left", "_law_found", "_law_k", "_law_first_of", "_law_share"] ["_law_flow_here", "_law_world", "_law_kind", "_law_room", "_law_down"] (defScope s_l_made) := ⟨rfl, rfl, rfl, by decide +kernel, rfl, by decide +kernel, by decide +kernel⟩
def spMade (K : PySem.W.Frag) (n : Nat) : Sp := fun vs H Q _ => ∃ (f wd ka : Addr) (ks : List Bool) (k : Bool) (room down : Int), vs = [.ref f, .ref wd, .str (kS k), .int room, .int down] ∧ Flow H f ∧ Wld H wd ka ∧ SqT K H ka (kVs ks) ∧ ks.length ≤ 3 ∧ 1 ≤ room ∧ room ≤ 24 ∧ 0 ≤ down ∧ down < n ∧
  ∀ (v : V) (p : Pg) (H' : Hp), Gr [wd] f H H' → Wld H' wd ka → At K H' v p → Wn ks p → own ks p = k → (psz p : Int) ≤ room → Q v H'
theorem ok_l_made1 {n : Nat} (B : Bt mg) (C_l_draw : Cal P w K mg base 1 "_law_draw" ["_law_flow_here", "_law_many"] (spDraw)) (C_l_numeral : Cal P w K mg base 2 "_law_numeral" ["_law_flow_here"] (spNumeral)) (C_l_leaf : Cal P w K mg base 3 "_law_leaf" ["_law_flow_here", "_law_world", "_law_kind"] (spLeaf K)) (C_l_made : Cal P w K mg base (n + 3) "_law_made" ["_law_flow_here", "_law_world", "_law_kind", "_law_room", "_law_down"] (spMade K n)) (D : DefAt K mg "_law_made" s_l_made ["_law_flow_here", "_law_world", "_law_kind", "_law_room", "_law_down"]) : Cal P w K mg base (n + 3 + 1) "_law_made" ["_law_flow_here", "_law_world", "_law_kind", "_law_room", "_law_down"] (spMade K (n + 1)) := by
  refine cal_of D sc_l_made (fun vs H Q E h => ?_) (fun f cdv A outer s H vs Q E hr h => ?_)
  · obtain ⟨f, wd, ka, ks, k, room, down, rfl, _⟩ := h
    rfl
  obtain ⟨f, wd, ka, ks, k, room, down, rfl, fl, wl, hk, hk3, r1, r2, d0, d1, q⟩ := h
  have C_l_draw := C_l_draw.mono (k := n + 3) (by omega)
  have C_l_numeral := C_l_numeral.mono (k := n + 3) (by omega)
  have C_l_leaf := C_l_leaf.mono (k := n + 3) (by omega)
  have hr' : Room (n + 3) _ := hr
  refine ⟨_, (pss_cons (ps_set (i := 5) sc_l_made.nd rfl (.inl rfl) (pe_lst (pa_cons pe_str (pa_cons pe_str (pa_cons pe_str (pa_cons pe_str (pa_cons pe_str pa_nil)))))))
      (C8.pss_cut (ps_if (pt_cmpR op_eq (pv 2) pe_str (nomark _))
        (pss_one (ps_set (i := 5) sc_l_made.nd rfl (.inl rfl) (pe_lst (pa_cons pe_str (pa_cons pe_str (pa_cons pe_str (pa_cons pe_str (pa_cons pe_str (pa_cons pe_str pa_nil)))))))))
        pss_nil)
      (pss_cons (ps_set (i := 6) sc_l_made.nd rfl (.inl rfl) (pe_ix ix_list (pv 5) (pe_cal C_l_draw hr' (by rfl) (pa_cons (pv 0) (pa_cons (pe_callB call_len_seq (by rfl) B.len PySem.boot_len (pa_cons (pv 5) pa_nil)) pa_nil))) (fun _ _ => rfl)))
      (pss_cons (ps_set (i := 7) sc_l_made.nd rfl (.inl rfl) (pe_dget1 (hu_of hr) (pe_disp (pps_cons pe_str (pe_lst (pa_cons pe_str pa_nil)) (pps_cons pe_str (pe_lst (pa_cons pe_str pa_nil)) (pps_cons pe_str (pe_lst (pa_cons pe_str (pa_cons pe_str pa_nil))) (pps_cons pe_str (pe_lst (pa_cons pe_str (pa_cons pe_str pa_nil))) pps_nil)))) (by rfl) (by rfl) (fun z => by cases z) (by decide)) (pv 6) (by constructor <;> rfl)))
      (C8.pss_cut (ps_if (pt_cmpR op_isN (pv 7) pe_non (nomark _))
        (pss_one (ps_set (i := 7) sc_l_made.nd rfl (.inl rfl) (pe_lst (pa_cons pe_str (pa_cons pe_str pa_nil)))))
        pss_nil)
      (C8.pss_cut (ps_if (pt_cmpR op_eq (pv 6) pe_str (nomark _))
        (pss_one (ps_set (i := 7) sc_l_made.nd rfl (.inl rfl) (pe_lst (pa_cons pe_str (pa_cons (pv 2) (pa_cons (pv 2) pa_nil))))))
        pss_nil)
      (pss_cons (ps_set (i := 8) sc_l_made.nd rfl (.inl rfl) (pe_dget2 (hu_of hr) (pe_disp (pps_cons pe_str pe_str (pps_cons pe_str pe_str (pps_cons pe_str pe_str (pps_cons pe_str pe_str pps_nil)))) (by rfl) (by rfl) (fun z => by cases z) (by decide)) (pv 6) pe_str (by constructor <;> rfl)))
      (pss_cons (ps_if (PW.pt (pw_or (pt_cmpR op_le (pv 3) (pe_callB call_len_seq (by rfl) B.len PySem.boot_len (pa_cons (pv 7) pa_nil)) (nomark _)) (pw_or (pt_cmpR op_eq (pv 4) pe_int (nomark _)) (pw_or (pt_cmpR op_eq (pe_dget (hu_of hr) (pv 1) (pv 8) (fun _ _ => rfl)) pe_int (nomark _)) (pw_or1 (pt_cmpR op_eq (pe_cal C_l_draw hr' (by rfl) (pa_cons (pv 0) (pa_cons (pe_op op_add pe_int (pv 3)) pa_nil))) pe_int (nomark _)))))))
        (pss_one (ps_ret (pe_cal C_l_leaf hr' (by rfl) (pa_cons (pv 0) (pa_cons (pv 1) (pa_cons (pv 2) pa_nil))))))
        pss_nil)
      (pss_cons (ps_dput (hu_of hr) (pv 1) (pv 8) (pe_op op_sub (pe_dget (hu_of hr) (pv 1) (pv 8) (fun _ _ => rfl)) pe_int) rfl)
      (pss_cons (ps_par (i := 9) (j := 10) rfl sc_l_made.nd rfl rfl (by decide) rfl rfl (pa_cons (pe_op op_sub (pv 3) pe_int) (pa_cons (pe_lst (pa_cons (pv 6) pa_nil)) pa_nil)) rfl)
      (C8.pss_cut (ps_if (pt_cmpR op_eq (pv 6) pe_str (nomark _))
        (pss_one (ps_expr (pe_bm PySem.F.plainAttrs_list PySem.F.slot_list_append PySem.F.type_list_append mt_append (pv 10) (pa_cons (pe_cal C_l_numeral hr' (by rfl) (pa_cons (pv 0) pa_nil)) pa_nil))))
        pss_nil)
      (pss_cons (ps_for PassesOwn.never rfl (pi_enum (by rfl) B.enumerate (pa_cons (pv 7) pa_nil)) (pg_tup rfl (pgs_cons (pg_name (i := 11) sc_l_made.nd rfl (.inl rfl)) (pgs_cons (pg_name (i := 12) sc_l_made.nd rfl (.inl rfl)) pgs_nil)))
        (pss_cons (ps_set (i := 13) sc_l_made.nd rfl (.inl rfl) (pe_op op_add pe_int (pe_cal C_l_draw hr' (by rfl) (pa_cons (pv 0) (pa_cons (pe_op op_sub (pv 9) (pe_op op_sub (pe_op op_sub (pe_callB call_len_seq (by rfl) B.len PySem.boot_len (pa_cons (pv 7) pa_nil)) (pv 11)) pe_int)) pa_nil)))))
      (pss_cons (ps_set (i := 9) sc_l_made.nd rfl (.inl rfl) (pe_op op_sub (pv 9) (pv 13)))
      (pss_one (ps_expr (pe_bm PySem.F.plainAttrs_list PySem.F.slot_list_append PySem.F.type_list_append mt_append (pv 10) (pa_cons (pe_cal C_l_made hr' (by rfl) (pa_cons (pv 0) (pa_cons (pv 1) (pa_cons (pv 12) (pa_cons (pv 13) (pa_cons (pe_op op_sub (pv 4) pe_int) pa_nil)))))) pa_nil)))))))
      (pss_one (ps_ret (pe_callTy call_tuple_of (by rfl) B.tuple PyProof.Rows.boot_tuple (pa_cons (pv 10) pa_nil)))))))))))))))), ?_⟩
  obtain ⟨wc, wi, wn, hw⟩ := wl
  have nwf : wd ≠ f := fun z => by
    obtain ⟨xs, e⟩ := fl.lst
    rw [z, e] at hw
    cases hw
  -- words
  refine ⟨(by show 5 ≤ sizeLine; decide), fun l1 hl1 => ?_⟩
  refine ⟨fun σ' H' => ∃ (l : Addr) (ws : List V), σ' = [some (.ref f), some (.ref wd), some (.str (kS k)), some (.int room), some (.int down), some (.ref l), none, none, none, none, none, none, none, none] ∧ Same H H' ∧ H l = none ∧ H' l = some (.lst ws) ∧ 5 ≤ ws.length ∧ ws.length ≤ 6 ∧ ∀ v ∈ ws, ∃ c : Ch, c.fits k ∧ v = .str c.str, ?_, ?_⟩
  · refine ⟨_, rfl, rfl, _, rfl, ite2 (fun c => ?_) (fun c => ?_)⟩
    · have c' : V.str (kS k) = V.str "truth" := of_decide_eq_true c
      have ek : k = true := by
        cases k
        · exact absurd c' (by decide +kernel)
        · rfl
      subst ek
      refine ⟨(by show 6 ≤ sizeLine; decide), fun l2 hl2 => ?_⟩
      refine ⟨l2, _, rfl, (same_new hl1).trans (same_new hl2), (same_new hl1).free hl2, upd_same, (by show 5 ≤ 6; decide), (by show 6 ≤ 6; decide), fun v hv => ?_⟩
      simp only [List.mem_cons, List.not_mem_nil, or_false] at hv
      rcases hv with rfl | rfl | rfl | rfl | rfl | rfl
      · exact ⟨.bin .atmost, rfl, rfl⟩
      · exact ⟨.neg, rfl, rfl⟩
      · exact ⟨.bin .both, rfl, rfl⟩
      · exact ⟨.bin .either, rfl, rfl⟩
      · exact ⟨.bin .atmost, rfl, rfl⟩
      · exact ⟨.ite, True.intro, rfl⟩
    · have ek : k = false := by
        cases k
        · rfl
        · exact absurd (decide_eq_true rfl) c
      subst ek
      refine ⟨l1, _, rfl, same_new hl1, hl1, upd_same, (by show 5 ≤ 5; decide), (by show 5 ≤ 6; decide), fun v hv => ?_⟩
      simp only [List.mem_cons, List.not_mem_nil, or_false] at hv
      rcases hv with rfl | rfl | rfl | rfl | rfl
      · exact ⟨.plus, rfl, rfl⟩
      · exact ⟨.bin .least, rfl, rfl⟩
      · exact ⟨.bin .most, rfl, rfl⟩
      · exact ⟨.plus, rfl, rfl⟩
      · exact ⟨.ite, True.intro, rfl⟩
  rintro _ H1 ⟨l, ws, rfl, sm1, hl0, hl, len5, len6, hws⟩
  have fl1 : Flow H1 f := by
    obtain ⟨x, y, z, e, r⟩ := fl
    exact ⟨x, y, z, sm1 _ _ e, r⟩
  have nlf : l ≠ f := fun z => by
    obtain ⟨xs, e⟩ := fl.lst
    rw [z, e] at hl0
    cases hl0
  -- word
  refine ⟨_, rfl, _, rfl, _, rfl, l, ws, rfl, .inl (SqL.of hl), f, _, rfl, fl1, by omega, by omega, fun j H2 j0 j1 dr2 => ?_⟩
  have hj : j.toNat < ws.length := by omega
  obtain ⟨c, hc, ec⟩ := hws ws[j.toNat] (List.getElem_mem hj)
  refine ⟨l, ws, j, .str c.str, rfl, rfl, SqL.of (by rw [dr2.off l nlf]; exact hl), at_of (j := j.toNat) (by omega) (by rw [← ec]; exact List.getElem?_eq_getElem hj), ?_⟩
  have g2 : Gr [] f H H2 := (⟨Ex.of_same sm1, fl1⟩ : Gr [] f H H1).trans dr2.gr
  have hw2 : H2 wd = some (.dK (wKV ka wc wi wn)) := by
    rw [dr2.off wd nwf]
    exact sm1 _ _ hw
  have hk2 : SqT K H2 ka (kVs ks) := g2.tp fl _ _ hk
  clear dr2 hws
  -- parts
  refine fun dd hdd => ?_
  have sA : Same H2 (upd H2 dd (.dK [])) := same_new hdd
  refine ⟨(by show 1 ≤ sizeLine; decide), fun p1 hp1 => ⟨(by show 1 ≤ sizeLine; decide), fun p2 hp2 => ⟨(by show 2 ≤ sizeLine; decide), fun p3 hp3 => ⟨(by show 2 ≤ sizeLine; decide), fun p4 hp4 => ?_⟩⟩⟩⟩
  have sB := same_new (o := .lst [V.str (Str.ofString "num")]) hp1
  have sC := same_new (o := .lst [V.str (Str.ofString "truth")]) hp2
  have sD := same_new (o := .lst [V.str (Str.ofString "truth"), V.str (Str.ofString "truth")]) hp3
  have sE := same_new (o := .lst [V.str (Str.ofString "truth"), V.str (Str.ofString "truth")]) hp4
  have e1 := (sC.trans (sD.trans sE)) p1 _ upd_same
  have e2 := (sD.trans sE) p2 _ upd_same
  have e3 := sE p3 _ upd_same
  have e4 : (upd _ p4 (HO.lst [V.str (Str.ofString "truth"), V.str (Str.ofString "truth")])) p4 = _ := upd_same (H := (upd (upd (upd (upd H2 dd (HO.dK [])) p1 (HO.lst [V.str (Str.ofString "num")])) p2 (HO.lst [V.str (Str.ofString "truth")])) p3 (HO.lst [V.str (Str.ofString "truth"), V.str (Str.ofString "truth")])))
  have eD := (sB.trans (sC.trans (sD.trans sE))) dd _ upd_same
  have sM := sA.trans (sB.trans (sC.trans (sD.trans sE)))
  generalize upd (upd (upd (upd (upd H2 dd (HO.dK [])) p1 (HO.lst [V.str (Str.ofString "num")])) p2 (HO.lst [V.str (Str.ofString "truth")])) p3 (HO.lst [V.str (Str.ofString "truth"), V.str (Str.ofString "truth")])) p4 (HO.lst [V.str (Str.ofString "truth"), V.str (Str.ofString "truth")]) = H3 at e1 e2 e3 e4 eD sM
  clear sB sC sD sE hp1 hp2 hp3 hp4 sA
  refine ⟨eD, [(Sum.inr "plus", .ref p1), (Sum.inr "not", .ref p2), (Sum.inr "both", .ref p3), (Sum.inr "either", .ref p4)], rfl, (by show 4 ≤ 15; decide), ?_⟩
  have nd1 : p1 ≠ dd := fun z => by rw [z, eD] at e1; cases e1
  have nd2 : p2 ≠ dd := fun z => by rw [z, eD] at e2; cases e2
  have nd3 : p3 ≠ dd := fun z => by rw [z, eD] at e3; cases e3
  have nd4 : p4 ≠ dd := fun z => by rw [z, eD] at e4; cases e4
  have sN : Same H2 (upd H3 dd (.dK (mergeK [] [(Sum.inr "plus", .ref p1), (Sum.inr "not", .ref p2), (Sum.inr "both", .ref p3), (Sum.inr "either", .ref p4)]))) := fun b o z => by
    rw [upd_ne (ne_of_none z hdd)]
    exact sM b o z
  have f1 : (upd H3 dd (.dK (mergeK [] [(Sum.inr "plus", .ref p1), (Sum.inr "not", .ref p2), (Sum.inr "both", .ref p3), (Sum.inr "either", .ref p4)]))) p1 = some (.lst [V.str (Str.ofString "num")]) := by rw [upd_ne nd1]; exact e1
  have f2 : (upd H3 dd (.dK (mergeK [] [(Sum.inr "plus", .ref p1), (Sum.inr "not", .ref p2), (Sum.inr "both", .ref p3), (Sum.inr "either", .ref p4)]))) p2 = some (.lst [V.str (Str.ofString "truth")]) := by rw [upd_ne nd2]; exact e2
  have f3 : (upd H3 dd (.dK (mergeK [] [(Sum.inr "plus", .ref p1), (Sum.inr "not", .ref p2), (Sum.inr "both", .ref p3), (Sum.inr "either", .ref p4)]))) p3 = some (.lst [V.str (Str.ofString "truth"), V.str (Str.ofString "truth")]) := by rw [upd_ne nd3]; exact e3
  have f4 : (upd H3 dd (.dK (mergeK [] [(Sum.inr "plus", .ref p1), (Sum.inr "not", .ref p2), (Sum.inr "both", .ref p3), (Sum.inr "either", .ref p4)]))) p4 = some (.lst [V.str (Str.ofString "truth"), V.str (Str.ofString "truth")]) := by rw [upd_ne nd4]; exact e4
  have fD : (upd H3 dd (.dK (mergeK [] [(Sum.inr "plus", .ref p1), (Sum.inr "not", .ref p2), (Sum.inr "both", .ref p3), (Sum.inr "either", .ref p4)]))) dd = some (.dK (mergeK [] [(Sum.inr "plus", .ref p1), (Sum.inr "not", .ref p2), (Sum.inr "both", .ref p3), (Sum.inr "either", .ref p4)])) := upd_same
  generalize upd H3 dd (.dK (mergeK [] [(Sum.inr "plus", .ref p1), (Sum.inr "not", .ref p2), (Sum.inr "both", .ref p3), (Sum.inr "either", .ref p4)])) = H4 at sN f1 f2 f3 f4 fD
  clear e1 e2 e3 e4 eD sM nd1 nd2 nd3 nd4 hdd
  refine ⟨dd, rfl, .inl ⟨_, .inl fD⟩, _, rfl, _, DGet.k (k := Sum.inr c.str) fD, ?_⟩
  refine ⟨fun σ' H' => ∃ pl : Addr, σ' = [some (V.ref f), some (.ref wd), some (.str (kS k)), some (.int room), some (.int down), some (.ref l), some (.str c.str), some (.ref pl), none, none, none, none, none, none] ∧ Same H4 H' ∧ (c.str ≠ "if" → H' pl = some (.lst ((c.ps k).map fun b => V.str (kS b)))), ?_, ?_⟩
  · have non : ∀ a : Addr, decide (V.ref a = V.non) = true → False := fun a z => nomatch (of_decide_eq_true z)
    have mk2 : ∀ (Q' : L2.St → Hp → Prop), True := fun _ => True.intro
    cases c with
    | plus => exact ⟨_, rfl, rfl, _, rfl, ite2 (fun z => (non p1 z).elim) (fun _ => ⟨p1, rfl, Same.refl _, fun _ => f1⟩)⟩
    | neg => exact ⟨_, rfl, rfl, _, rfl, ite2 (fun z => (non p2 z).elim) (fun _ => ⟨p2, rfl, Same.refl _, fun _ => f2⟩)⟩
    | ite => exact ⟨_, rfl, rfl, _, rfl, ite2 (fun _ => ⟨(by show 2 ≤ sizeLine; decide), fun p hp => ⟨p, rfl, same_new hp, fun z => absurd rfl z⟩⟩) (fun z => absurd (decide_eq_true rfl) z)⟩
    | bin w =>
      cases w with
      | both => exact ⟨_, rfl, rfl, _, rfl, ite2 (fun z => (non p3 z).elim) (fun _ => ⟨p3, rfl, Same.refl _, fun _ => f3⟩)⟩
      | either => exact ⟨_, rfl, rfl, _, rfl, ite2 (fun z => (non p4 z).elim) (fun _ => ⟨p4, rfl, Same.refl _, fun _ => f4⟩)⟩
      | least => exact ⟨_, rfl, rfl, _, rfl, ite2 (fun _ => ⟨(by show 2 ≤ sizeLine; decide), fun p hp => ⟨p, rfl, same_new hp, fun _ => upd_same⟩⟩) (fun z => absurd (decide_eq_true rfl) z)⟩
      | most => exact ⟨_, rfl, rfl, _, rfl, ite2 (fun _ => ⟨(by show 2 ≤ sizeLine; decide), fun p hp => ⟨p, rfl, same_new hp, fun _ => upd_same⟩⟩) (fun z => absurd (decide_eq_true rfl) z)⟩
      | atmost => exact ⟨_, rfl, rfl, _, rfl, ite2 (fun _ => ⟨(by show 2 ≤ sizeLine; decide), fun p hp => ⟨p, rfl, same_new hp, fun _ => upd_same⟩⟩) (fun z => absurd (decide_eq_true rfl) z)⟩
  rintro _ H5 ⟨pl, rfl, s5, hpl⟩
  refine ⟨fun σ' H' => ∃ pl : Addr, σ' = [some (V.ref f), some (.ref wd), some (.str (kS k)), some (.int room), some (.int down), some (.ref l), some (.str c.str), some (.ref pl), none, none, none, none, none, none] ∧ Same H4 H' ∧ H' pl = some (.lst ((c.ps k).map fun b => V.str (kS b))), ?_, ?_⟩
  · refine ⟨_, rfl, rfl, _, rfl, ite2 (fun z => ?_) (fun z => ?_)⟩
    · have z' : V.str c.str = V.str "if" := of_decide_eq_true z
      have ec : c = .ite := by
        cases c with
        | plus => exact absurd z' (by decide +kernel)
        | neg => exact absurd z' (by decide +kernel)
        | ite => rfl
        | bin w => cases w <;> exact absurd z' (by decide +kernel)
      subst ec
      exact ⟨_, rfl, _, rfl, (by show 3 ≤ sizeLine; decide), fun p hp => ⟨p, rfl, s5.trans (same_new hp), upd_same⟩⟩
    · exact ⟨pl, rfl, s5, hpl fun e => z (decide_eq_true (by rw [e]))⟩
  clear hpl s5 f1 f2 f3 f4 fD
  rintro _ H6 ⟨pl', rfl, s6, hpl⟩
  have sH : Same H2 H6 := sN.trans s6
  have g6 : Gr [] f H H6 := g2.trans ⟨Ex.of_same sH, by
    obtain ⟨x, y, z, e, r⟩ := g2.fl
    exact ⟨x, y, z, sH _ _ e, r⟩⟩
  have hw6 := sH _ _ hw2
  have hk6 : SqT K H6 ka (kVs ks) := Tp.same sH _ _ hk2
  clear sN s6 sH hk2 hw2 g2 hl
  -- sort
  refine fun de hde => ⟨upd_same, [(Sum.inr "least", .str "cmp"), (Sum.inr "most", .str "cmp"), (Sum.inr "atmost", .str "cmp"), (Sum.inr "if", .str "if")], rfl, (by show 4 ≤ 15; decide), ?_⟩
  have s7 : Same H6 (upd (upd H6 de (.dK [])) de (.dK (mergeK [] [(Sum.inr "least", .str "cmp"), (Sum.inr "most", .str "cmp"), (Sum.inr "atmost", .str "cmp"), (Sum.inr "if", .str "if")]))) := fun b o z => by
    rw [upd_ne (ne_of_none z hde), upd_ne (ne_of_none z hde)]
    exact z
  refine ⟨de, rfl, .inl ⟨_, .inl upd_same⟩, _, rfl, _, DGet.k (k := Sum.inr c.str) upd_same, ?_⟩
  have esort : (Option.getD (valV (mergeK [] [(Sum.inr "least", V.str "cmp"), (Sum.inr "most", .str "cmp"), (Sum.inr "atmost", .str "cmp"), (Sum.inr "if", .str "if")]) (Sum.inr c.str)) (V.str "any")) = .str c.sort := by
    cases c with
    | plus => rfl
    | neg => rfl
    | ite => rfl
    | bin w => cases w <;> rfl
  rw [esort]
  generalize upd (upd H6 de (.dK [])) de (.dK (mergeK [] [(Sum.inr "least", .str "cmp"), (Sum.inr "most", .str "cmp"), (Sum.inr "atmost", .str "cmp"), (Sum.inr "if", .str "if")])) = H7 at s7
  have g7 : Gr [] f H H7 := g6.trans ⟨Ex.of_same s7, by
    obtain ⟨x, y, z, e, r⟩ := g6.fl
    exact ⟨x, y, z, s7 _ _ e, r⟩⟩
  have hw7 := s7 _ _ hw6
  have hk7 : SqT K H7 ka (kVs ks) := Tp.same s7 _ _ hk6
  have hp7 := s7 _ _ hpl
  clear s7 hk6 hw6 g6 hpl esort hde
  obtain ⟨wz, ewz⟩ : ∃ z : Int, valV (wKV ka wc wi wn) (Sum.inr c.sort) = some (.int z) := by
    cases c with
    | plus => exact ⟨_, rfl⟩
    | neg => exact ⟨_, rfl⟩
    | ite => exact ⟨_, rfl⟩
    | bin w => cases w <;> exact ⟨_, rfl⟩
  have gw7 : DGet H7 wd (.str c.sort) (some (.int wz)) := ewz ▸ DGet.k (k := Sum.inr c.sort) hw7
  -- a leaf, from wherever it is asked
  have hlen : ((c.ps k).map fun b => V.str (kS b)).length = (c.ps k).length := List.length_map _
  have lf : ∀ H8 : Hp, Gr [] f H H8 → H8 wd = some (.dK (wKV ka wc wi wn)) → SqT K H8 ka (kVs ks) → spLeaf K [.ref f, .ref wd, .str (kS k)] H8 Q (fun _ _ _ => False) := fun H8 g8 w8 k8 =>
    ⟨f, wd, ka, ks, k, rfl, g8.fl, ⟨_, w8, rfl⟩, k8, hk3, fun v p H' g a wk ow sz => q v p H' ((g8.trans g).mono fun b hb => nomatch hb) ⟨_, _, _, g.ex wd _ w8 (by simp [nwf])⟩ a wk ow (by rw [sz]; omega)⟩
  refine ⟨_, rfl, _, rfl, pl', _, rfl, .inl (SqL.of hp7), _, _, rfl, rfl, _, rfl, ite2 (fun _ => ⟨_, rfl, _, rfl, _, rfl, lf H7 g7 hw7 hk7⟩) (fun t1 => ?_)⟩
  refine ⟨_, rfl, rfl, _, rfl, ite2 (fun _ => ⟨_, rfl, _, rfl, _, rfl, lf H7 g7 hw7 hk7⟩) (fun t2 => ?_)⟩
  refine ⟨_, rfl, _, rfl, wd, .int wz, rfl, gw7, rfl, _, rfl, ite2 (fun _ => ⟨_, rfl, _, rfl, _, rfl, lf H7 g7 hw7 hk7⟩) (fun t3 => ?_)⟩
  refine ⟨_, rfl, _, rfl, _, _, rfl, rfl, f, 5 + room, rfl, g7.fl, by omega, by omega, fun d8 H8 _ _ dr8 => ?_⟩
  have g8 : Gr [] f H H8 := g7.trans dr8.gr
  have hw8 : H8 wd = some (.dK (wKV ka wc wi wn)) := by rw [dr8.off wd nwf]; exact hw7
  have hk8 : SqT K H8 ka (kVs ks) := dr8.tp g7.fl _ _ hk7
  have npf : pl' ≠ f := fun z => by
    obtain ⟨xs, e⟩ := g7.fl
    obtain ⟨_, _, e, _⟩ := e
    rw [z, e] at hp7
    have := congrArg (fun o => match o with | some (HO.lst (V.int _ :: _)) => true | _ => false) hp7
    cases c with
    | plus => exact absurd this (by simp [Ch.ps])
    | neg => exact absurd this (by simp [Ch.ps])
    | ite => exact absurd this (by simp [Ch.ps])
    | bin w => exact absurd this (by simp [Ch.ps])
  have npw : pl' ≠ wd := fun z => by
    rw [z, hw7] at hp7
    cases hp7
  have hp8 : H8 pl' = some (.lst ((c.ps k).map fun b => V.str (kS b))) := by rw [dr8.off pl' npf]; exact hp7
  refine ⟨rfl, _, rfl, ite2 (fun _ => ⟨_, rfl, _, rfl, _, rfl, lf H8 g8 hw8 hk8⟩) (fun t4 => ?_)⟩
  have room1 : ((c.ps k).length : Int) < room := by
    have z := of_decide_eq_false (Bool.eq_false_iff.mpr t1)
    rw [hlen] at z
    omega
  have down1 : down ≠ 0 := fun z => t2 (decide_eq_true (by rw [z]))
  clear t1 t2 t3 t4 gw7 hp7 hk7 hw7 lf
  -- world[sort] -= 1
  have gw8 : DGet H8 wd (.str c.sort) (some (.int wz)) := ewz ▸ DGet.k (k := Sum.inr c.sort) hw8
  refine ⟨_, rfl, _, rfl, wd, .int wz, rfl, gw8, _, _, rfl, rfl, _, rfl, _, rfl, wd, _, rfl, DPut.k (k := Sum.inr c.sort) hw8 (by show 4 < sizeLine; decide), ?_⟩
  obtain ⟨c9, i9, n9, e9⟩ : ∃ c9 i9 n9 : Int, putK (wKV ka wc wi wn) (Sum.inr c.sort) (.int (wz - 1)) = wKV ka c9 i9 n9 := by
    cases c with
    | plus => exact ⟨_, _, _, wp_any ..⟩
    | neg => exact ⟨_, _, _, wp_any ..⟩
    | ite => exact ⟨_, _, _, wp_if ..⟩
    | bin w =>
      cases w with
      | least => exact ⟨_, _, _, wp_cmp ..⟩
      | most => exact ⟨_, _, _, wp_cmp ..⟩
      | atmost => exact ⟨_, _, _, wp_cmp ..⟩
      | both => exact ⟨_, _, _, wp_any ..⟩
      | either => exact ⟨_, _, _, wp_any ..⟩
  rw [e9]
  have hw9 : (upd H8 wd (.dK (wKV ka c9 i9 n9))) wd = some (.dK (wKV ka c9 i9 n9)) := upd_same
  have g9 : Gr [wd] f H (upd H8 wd (.dK (wKV ka c9 i9 n9))) := by
    refine (g8.mono fun b hb => nomatch hb).trans ⟨Ex.at (by simp), ?_⟩
    obtain ⟨x, y, z, e, r⟩ := g8.fl
    exact ⟨x, y, z, by rw [upd_ne nwf.symm]; exact e, r⟩
  have hk9 : SqT K (upd H8 wd (.dK (wKV ka c9 i9 n9))) ka (kVs ks) := Tp.dct hw8 _ _ hk8
  have hp9 : (upd H8 wd (.dK (wKV ka c9 i9 n9))) pl' = some (.lst ((c.ps k).map fun b => V.str (kS b))) := by rw [upd_ne npw]; exact hp8
  generalize upd H8 wd (.dK (wKV ka c9 i9 n9)) = H9 at hw9 g9 hk9 hp9
  clear e9 gw8 hw8 hk8 hp8 dr8 ewz g8
  -- left, found
  refine ⟨_, rfl, _, _, rfl, rfl, _, rfl, (by show 1 ≤ sizeLine; decide), fun fo hfo => ⟨_, _, rfl, ?_⟩⟩
  have s10 : Same H9 (upd H9 fo (.lst [V.str c.str])) := same_new hfo
  have nfo : fo ≠ f ∧ fo ≠ wd ∧ fo ≠ pl' := by
    obtain ⟨xs, e⟩ := g9.fl.lst
    exact ⟨(ne_of_none e hfo).symm, (ne_of_none hw9 hfo).symm, (ne_of_none hp9 hfo).symm⟩
  have fo0 : H fo = none := g9.ex.free hfo (by simp [nfo.1, nfo.2.1])
  have fo10 : (upd H9 fo (.lst [V.str c.str])) fo = some (.lst [V.str c.str]) := upd_same
  have g10 : Gr [wd] f H (upd H9 fo (.lst [V.str c.str])) := g9.trans (Gr.new g9.fl hfo)
  have hw10 := s10 _ _ hw9
  have hk10 : SqT K _ ka (kVs ks) := Tp.same s10 _ _ hk9
  have hp10 := s10 _ _ hp9
  generalize upd H9 fo (.lst [V.str c.str]) = H10 at fo10 g10 hw10 hk10 hp10
  clear hfo s10 hw9 hk9 hp9 g9
  refine ⟨fun σ' H' => ∃ num : Int, (-1000 ≤ num ∧ num ≤ 1000) ∧ σ' = [some (V.ref f), some (.ref wd), some (.str (kS k)), some (.int room), some (.int down), some (.ref l), some (.str c.str), some (.ref pl'), some (.str c.sort), some (.int (room - 1)), some (.ref fo), none, none, none] ∧ Gr [wd] f H H' ∧ Wld H' wd ka ∧ SqT K H' ka (kVs ks) ∧ H' pl' = some (.lst ((c.ps k).map fun b => V.str (kS b))) ∧ H' fo = some (.lst (c.front num)), ?_, ?_⟩
  · refine ⟨_, rfl, rfl, _, rfl, ite2 (fun z => ?_) (fun z => ?_)⟩
    · have z' : V.str c.str = V.str "plus" := of_decide_eq_true z
      have ec : c = .plus := by
        cases c with
        | plus => rfl
        | neg => exact absurd z' (by decide +kernel)
        | ite => exact absurd z' (by decide +kernel)
        | bin w => cases w <;> exact absurd z' (by decide +kernel)
      subst ec
      refine ⟨_, rfl, .inl ⟨rfl, _, SqL.of fo10⟩, _, rfl, f, rfl, g10.fl, fun num H11 nb0 nb1 g11 => ?_⟩
      have fo11 : H11 fo = some (.lst [V.str Ch.plus.str]) := g11.ex _ _ fo10 (by simp [nfo.1])
      have hw11 := g11.ex _ _ hw10 (by simp [nwf])
      have hp11 := g11.ex _ _ hp10 (by simp [npf])
      have hk11 : SqT K H11 ka (kVs ks) := g11.tp g10.fl _ _ hk10
      refine ⟨fo, _, _, rfl, rfl, fo11, (by show 1 < sizeLine; decide), num, ⟨nb0, nb1⟩, rfl, (g10.trans (g11.mono fun b hb => nomatch hb)).put fo0 nfo.1, ⟨_, _, _, by rw [upd_ne nfo.2.1.symm]; exact hw11⟩, Tp.lst fo11 _ _ hk11, by rw [upd_ne nfo.2.2.symm]; exact hp11, upd_same⟩
    · refine ⟨0, ⟨by decide, by decide⟩, rfl, g10, ⟨_, _, _, hw10⟩, hk10, hp10, ?_⟩
      rw [fo10]
      cases c with
      | plus => exact absurd (decide_eq_true rfl) z
      | neg => rfl
      | ite => rfl
      | bin w => rfl
  clear fo10 g10 hw10 hk10 hp10
  rintro _ H11 ⟨num, hnum, rfl, g11, wl11, hk11, hp11, fo11⟩
  have flen : (c.front num).length ≤ 2 := by cases c <;> simp [Ch.front]
  have plen : (c.ps k).length ≤ 3 := by cases c <;> simp [Ch.ps]
  have gfo : ∀ {H' H'' : Hp} {vs : List V}, Gr [wd] f H' H'' → H' fo = some (.lst vs) → H'' fo = some (.lst vs) := fun g e => g.ex _ _ e (by simp [nfo.1, nfo.2.1])
  refine ⟨_, rfl, pl', _, rfl, SqL.of hp11, for_enum (K := K) (a := pl') (xs := (c.ps k).map fun b => V.str (kS b)) (fun i σ' H' => ∃ (left : Int) (vs : List V) (ps : List Pg) (y1 y2 y3 : Option V), σ' = [some (V.ref f), some (.ref wd), some (.str (kS k)), some (.int room), some (.int down), some (.ref l), some (.str c.str), some (.ref pl'), some (.str c.sort), some (.int left), some (.ref fo), y1, y2, y3] ∧
      Gr [wd] f H H' ∧ Wld H' wd ka ∧ SqT K H' ka (kVs ks) ∧ H' pl' = some (.lst ((c.ps k).map fun b => V.str (kS b))) ∧ H' fo = some (.lst (c.front num ++ vs)) ∧ Ats K H' vs ps ∧ ps.length = i ∧ (∀ p ∈ ps, Wn ks p) ∧ ps.map (own ks) = (c.ps k).take i ∧ ((c.ps k).length : Int) - i ≤ left ∧ ((ps.map psz).sum : Int) + left ≤ room - 1) ?_ ?_ ?_ ?_⟩
  · refine ⟨room - 1, [], [], none, none, none, rfl, g11, wl11, hk11, hp11, by rw [List.append_nil]; exact fo11, .nil, rfl, fun p hp => absurd hp (by simp), by simp, by omega, by simp⟩
  · rintro i σ' H' ⟨left, vs, ps, y1, y2, y3, rfl, g, wl, hk', hp', fo', _⟩
    exact SqL.of hp'
  · rintro i x T σ' H' hx ⟨left, vs, ps, y1, y2, y3, rfl, g, wl, hk', hp', fo', ha, hl, hwk, hown, hleft, hsum⟩ hT
    obtain ⟨b, hb, rfl⟩ : ∃ b, (c.ps k)[i]? = some b ∧ x = V.str (kS b) := by
      rw [List.getElem?_map] at hx
      cases e : (c.ps k)[i]? with
      | none => rw [e] at hx; cases hx
      | some b => rw [e] at hx; exact ⟨b, rfl, (Option.some.inj hx).symm⟩
    have hi : i < (c.ps k).length := (List.getElem?_eq_some_iff.mp hb).1
    have sT : Same H' (upd H' T (.tup [.int (i : Nat), V.str (kS b)])) := same_new hT
    have gT : Gr [wd] f H (upd H' T (.tup [.int (i : Nat), V.str (kS b)])) := g.trans (Gr.new g.fl hT)
    refine ⟨T, _, rfl, .inl (.inl upd_same), rfl, _, _, rfl, _, [], rfl, rfl, ?_⟩
    have wlT : Wld (upd H' T (.tup [.int (i : Nat), V.str (kS b)])) wd ka := by
      obtain ⟨x, y, z, e⟩ := wl
      exact ⟨x, y, z, sT _ _ e⟩
    have hkT : SqT K (upd H' T (.tup [.int (i : Nat), V.str (kS b)])) ka (kVs ks) := Tp.same sT _ _ hk'
    have hpT := sT _ _ hp'
    have foT := sT _ _ fo'
    have haT : Ats K (upd H' T (.tup [.int (i : Nat), V.str (kS b)])) vs ps := ha.keep (Tp.same sT)
    generalize upd H' T (.tup [.int (i : Nat), V.str (kS b)]) = HT at gT wlT hkT hpT foT haT
    -- share
    refine ⟨_, rfl, _, rfl, _, rfl, pl', _, rfl, .inl (SqL.of hpT), _, rfl, _, _, rfl, rfl, _, _, rfl, rfl, _, _, rfl, rfl, f, _, rfl, gT.fl, ?_, ?_, fun d Hd dd0 dd1 drd => ⟨_, _, rfl, rfl, ?_⟩⟩
    · rw [hlen]; omega
    · rw [hlen]
      have : 0 ≤ ((ps.map psz).sum : Int) := by omega
      omega
    rw [hlen] at dd1
    have gd : Gr [wd] f H Hd := gT.trans drd.gr
    have wld : Wld Hd wd ka := by
      obtain ⟨x, y, z, e⟩ := wlT
      exact ⟨x, y, z, by rw [drd.off wd nwf]; exact e⟩
    have hkd : SqT K Hd ka (kVs ks) := drd.tp gT.fl _ _ hkT
    have hpd : Hd pl' = _ := (drd.off pl' npf).trans hpT
    have fod : Hd fo = _ := (drd.off fo nfo.1).trans foT
    have had : Ats K Hd vs ps := haT.keep (drd.tp gT.fl)
    have sum0 : 0 ≤ ((ps.map psz).sum : Int) := by omega
    -- left, then the part
    refine ⟨_, rfl, _, rfl, _, _, rfl, rfl, ?_⟩
    refine ⟨_, rfl, .inl ⟨rfl, _, SqL.of fod⟩, _, rfl, _, rfl, _, rfl, _, rfl, _, rfl, _, _, rfl, rfl, ?_⟩
    refine ⟨f, wd, ka, ks, b, 1 + d, down - 1, rfl, gd.fl, wld, hkd, hk3, by omega, by omega, by omega, by omega, fun v p He ge wle ae wke owe sze => ?_⟩
    have foe := gfo ge fod
    have npe : pl' ∉ [f, wd] := by simp [npf, npw]
    have hpe := ge.ex _ _ hpd npe
    have tpe : Tp K Hd He := by
      refine ge.ex.tp fun b hb ys q => ?_
      rcases List.mem_cons.mp hb with z | z
      · rw [z] at q
        obtain ⟨xs, e⟩ := gd.fl.lst
        rcases q with q | ⟨o, q⟩
        · rw [e] at q; cases q
        · rw [e] at q; cases q
      · rw [List.mem_singleton.mp z] at q
        obtain ⟨_, _, _, e⟩ := wld
        rcases q with q | ⟨o, q⟩
        · rw [e] at q; cases q
        · rw [e] at q; cases q
    have hke := tpe _ _ hkd
    have hae := had.keep tpe
    have vlen : vs.length = i := by rw [hae.len, hl]
    have tpf : Tp K He (upd He fo (.lst (c.front num ++ vs ++ [v]))) := Tp.lst foe
    refine ⟨fo, _, _, rfl, rfl, foe, by rw [List.length_append]; exact smallL (by omega), left - (1 + d), vs ++ [v], ps ++ [p], _, _, _, rfl, (gd.trans ge).put fo0 nfo.1, ?_, tpf _ _ hke, by rw [upd_ne nfo.2.2.symm]; exact hpe, by rw [upd_same, List.append_assoc], (hae.keep tpf).app (.cons (ae.keep tpf) .nil), by rw [List.length_append, hl]; rfl, ?_, ?_, by omega, ?_⟩
    · obtain ⟨x, y, z, e⟩ := wle
      exact ⟨x, y, z, by rw [upd_ne nfo.2.1.symm]; exact e⟩
    · intro p' hp'
      rcases List.mem_append.mp hp' with z | z
      · exact hwk p' z
      · rw [List.mem_singleton.mp z]
        exact wke
    · rw [List.map_append, hown, List.take_add_one, hb]
      simp [owe]
    · rw [List.map_append, List.sum_append]
      simp only [List.map_cons, List.map_nil, List.sum_cons, List.sum_nil]
      omega
  · rintro σ' H' ⟨left, vs, ps, y1, y2, y3, rfl, g, wl, hk', hp', fo', ha, hl, hwk, hown, hleft, hsum⟩
    refine ⟨_, rfl, fo, _, rfl, .inl ⟨SqL.of fo', fun t ht => ?_⟩⟩
    have st : Same H' (upd H' t (.tup (c.front num ++ vs))) := same_new ht
    rw [hlen, List.take_length] at hown
    obtain ⟨p, ap, wp, op, sp⟩ := c.make (num := num) hc (ha.keep (Tp.same st)) hwk hnum hown upd_same
    refine q _ p _ (g.trans (Gr.new g.fl ht)) ?_ ap wp op ?_
    · obtain ⟨x, y, z, e⟩ := wl
      exact ⟨x, y, z, st _ _ e⟩
    · rw [hlen] at hleft
      rw [sp]
      omega
end
end Lm

set_option Elab.async false
set_option linter.all false
set_option maxRecDepth 100000
set_option maxHeartbeats 2000000
namespace Lm
open PySem PySem.Spec PyProof.Rows L2 LmR
section
variable {P : Program} {w : World} {K : PySem.W.Frag} {mg : Str → Option Value} {base : Heap}
theorem ok_l_made (B : Bt mg) (C_l_draw : Cal P w K mg base 1 "_law_draw" ["_law_flow_here", "_law_many"] (spDraw)) (C_l_numeral : Cal P w K mg base 2 "_law_numeral" ["_law_flow_here"] (spNumeral)) (C_l_leaf : Cal P w K mg base 3 "_law_leaf" ["_law_flow_here", "_law_world", "_law_kind"] (spLeaf K)) (D : DefAt K mg "_law_made" s_l_made ["_law_flow_here", "_law_world", "_law_kind", "_law_room", "_law_down"]) : ∀ n : Nat, Cal P w K mg base (n + 3) "_law_made" ["_law_flow_here", "_law_world", "_law_kind", "_law_room", "_law_down"] (spMade K n)
  | 0 => cal_no D fun vs H Q E h => by
    obtain ⟨f, wd, ka, ks, k, room, down, _, _, _, _, _, _, _, h1, h2, _⟩ := h
    omega
  | n + 1 => ok_l_made1 B C_l_draw C_l_numeral C_l_leaf (ok_l_made B C_l_draw C_l_numeral C_l_leaf D n) D
abbrev s_l_kinds : Stmt := topS 58
theorem sc_l_kinds : FnScope ["_law_flow_here", "_law_k"] ["_law_flow_here"] (defScope s_l_kinds) := ⟨rfl, rfl, rfl, by decide +kernel, rfl, by decide +kernel, by decide +kernel⟩
def spKinds (K : PySem.W.Frag) : Sp := fun vs H Q _ => ∃ f : Addr, vs = [.ref f] ∧ Flow H f ∧ ∀ (a : Addr) (ks : List Bool) (H' : Hp), Gr [] f H H' → ks.length ≤ 3 → H' a = some (.tup (kVs ks)) → Q (.ref a) H'
theorem ok_l_kinds (B : Bt mg) (C_l_draw : Cal P w K mg base 1 "_law_draw" ["_law_flow_here", "_law_many"] (spDraw)) (D : DefAt K mg "_law_kinds" s_l_kinds ["_law_flow_here"]) : Cal P w K mg base 2 "_law_kinds" ["_law_flow_here"] (spKinds K) := by
  refine cal_of D sc_l_kinds (fun vs H Q E h => ?_) (fun f cdv A outer s H vs Q E hr h => ?_)
  · obtain ⟨a, rfl, _⟩ := h
    rfl
  obtain ⟨f, rfl, fl, q⟩ := h
  have hr' : Room 1 _ := hr
  refine ⟨_, (pss_one (ps_ret (pe_callTy call_tuple_of (by rfl) B.tuple PyProof.Rows.boot_tuple (pa_cons (pe_lc (own := [("_law_k", 1)]) (g := gName 1) rfl sc_l_kinds.nd (pi_range1 (by rfl) B.range (pa_cons (pe_cal C_l_draw hr' (by rfl) (pa_cons (pv 0) (pa_cons pe_int pa_nil))) pa_nil)) (blkOk_by (own := [("_law_k", 1)]) (N := ["_law_flow_here", "_law_k"]) (sc := defScope s_l_kinds) (by decide +kernel)) (fun _ _ _ _ _ => (pg_name (i := 1) sc_l_kinds.nd rfl (.inl rfl))) (fun _ _ _ _ _ => pts_nil) (fun _ _ _ _ _ => (pe_ix (ix_listK (K := K) rfl) (pe_lst (pa_cons pe_str (pa_cons pe_str (pa_cons pe_str pa_nil)))) (pe_cal C_l_draw hr' (by rfl) (pa_cons (pv 0) (pa_cons pe_int pa_nil))) (fun _ _ => rfl)))) pa_nil)))), ?_⟩
  refine ⟨_, rfl, f, 4, rfl, fl, by decide, by decide, fun n H1 n0 n1 dr1 => ⟨n, rfl, by omega, by omega, fun D hD => lc_range (lo := 0) (n := n.toNat) (fun i H' => Gr [] f H H' ∧ ∃ ks : List Bool, ks.length = i ∧ H' D = some (.lst (kVs ks))) ?_ ?_ ?_⟩⟩
  · exact ⟨dr1.gr.trans (Gr.new dr1.fl hD), [], rfl, upd_same⟩
  · rintro i H' hi ⟨g, ks, hl, hA⟩
    refine ⟨rfl, (by show 3 ≤ sizeLine; decide), fun p hp => ?_⟩
    have gp : Gr [] f H (upd H' p (.lst [.str "num", .str "truth", .str "num"])) := g.trans (Gr.new g.fl hp)
    have nDf : D ≠ f := fun z => by
      obtain ⟨xs, e⟩ := dr1.fl.lst
      rw [z, e] at hD
      cases hD
    have npf : p ≠ f := fun z => by
      obtain ⟨xs, e⟩ := g.fl.lst
      rw [z, e] at hp
      cases hp
    have npD : p ≠ D := fun z => by
      rw [z, hA] at hp
      cases hp
    have D0 : H D = none := dr1.ex.free hD (by simp [nDf])
    refine ⟨_, rfl, f, 3, rfl, gp.fl, by decide, by decide, fun j H2 j0 j1 dr2 => ?_⟩
    have hp2 : H2 p = some (.lst [.str "num", .str "truth", .str "num"]) := by rw [dr2.off p npf]; exact upd_same
    have hA2 : H2 D = some (.lst (kVs ks)) := by rw [dr2.off D nDf, upd_ne npD.symm]; exact hA
    have g2 := gp.trans dr2.gr
    have kl : (kVs ks).length = ks.length := List.length_map _
    have fin : ∀ b : Bool, ∃ acc, H2 D = some (.lst acc) ∧ acc.length < sizeLine ∧ (Gr [] f H (upd H2 D (.lst (acc ++ [V.str (kS b)]))) ∧ ∃ ks : List Bool, ks.length = i + 1 ∧ (upd H2 D (.lst (acc ++ [V.str (kS b)]))) D = some (.lst (kVs ks))) := fun b =>
      ⟨_, hA2, by rw [kl]; exact smallL (by omega), g2.put D0 nDf, ks ++ [b], by rw [List.length_append, hl]; rfl, by rw [upd_same]; unfold kVs; rw [List.map_append]; rfl⟩
    rcases (show j = 0 ∨ j = 1 ∨ j = 2 by omega) with z | z | z
    · subst z
      exact ⟨p, _, 0, .str "num", rfl, rfl, SqL.of hp2, rfl, fin false⟩
    · subst z
      exact ⟨p, _, 1, .str "truth", rfl, rfl, SqL.of hp2, rfl, fin true⟩
    · subst z
      exact ⟨p, _, 2, .str "num", rfl, rfl, SqL.of hp2, rfl, fin false⟩
  · rintro H' ⟨g, ks, hl, hA⟩
    exact ⟨D, _, rfl, .inl ⟨SqL.of hA, fun t ht => q t ks _ (g.trans (Gr.new g.fl ht)) (by omega) upd_same⟩⟩
abbrev s_l_program : Stmt := topS 59
theorem sc_l_program : FnScope ["_law_flow_here", "_law_sorts", "_law_kind", "_law_room"] ["_law_flow_here", "_law_sorts", "_law_kind", "_law_room"] (defScope s_l_program) := ⟨rfl, rfl, rfl, by decide +kernel, rfl, by decide +kernel, by decide +kernel⟩
def spProgramN (K : PySem.W.Frag) : Sp := fun vs H Q _ => ∃ (f ka : Addr) (ks : List Bool) (k : Bool) (room : Int), vs = [.ref f, .ref ka, .str (kS k), .int room] ∧ Flow H f ∧ SqT K H ka (kVs ks) ∧ ks.length ≤ 3 ∧ 1 ≤ room ∧ room ≤ 24 ∧
  ∀ (v : V) (p : Pg) (H' : Hp), Gr [] f H H' → At K H' v p → Wn ks p → own ks p = k → (psz p : Int) ≤ room → Q v H'
theorem ok_l_programN (C_l_made : Cal P w K mg base 27 "_law_made" ["_law_flow_here", "_law_world", "_law_kind", "_law_room", "_law_down"] (spMade K 24)) (D : DefAt K mg "_law_program" s_l_program ["_law_flow_here", "_law_sorts", "_law_kind", "_law_room"]) : Cal P w K mg base 28 "_law_program" ["_law_flow_here", "_law_sorts", "_law_kind", "_law_room"] (spProgramN K) := by
  refine cal_of D sc_l_program (fun vs H Q E h => ?_) (fun f cdv A outer s H vs Q E hr h => ?_)
  · obtain ⟨a, _, _, _, _, rfl, _⟩ := h
    rfl
  obtain ⟨f, ka, ks, k, room, rfl, fl, hk, hk3, r1, r2, q⟩ := h
  have hr' : Room 27 _ := hr
  refine ⟨_, (pss_one (ps_ret (pe_cal C_l_made hr' (by rfl) (pa_cons (pv 0) (pa_cons (pe_disp (pps_cons pe_str (pv 1) (pps_cons pe_str pe_int (pps_cons pe_str pe_int (pps_cons pe_str pe_int pps_nil)))) (by rfl) (by rfl) (fun z => by cases z) (by decide)) (pa_cons (pv 2) (pa_cons (pv 3) (pa_cons pe_int pa_nil)))))))), ?_⟩
  refine ⟨_, rfl, fun wd hwd => ⟨_, rfl, upd_same, [(Sum.inr "kinds", .ref ka), (Sum.inr "cmp", .int 6), (Sum.inr "if", .int 6), (Sum.inr "any", .int 99)], rfl, (by show 4 ≤ 15; decide), ?_⟩⟩
  have nwf : wd ≠ f := fun z => by
    obtain ⟨xs, e⟩ := fl.lst
    rw [z, e] at hwd
    cases hwd
  have s1 : Same H (upd (upd H wd (.dK [])) wd (.dK (mergeK [] [(Sum.inr "kinds", .ref ka), (Sum.inr "cmp", .int 6), (Sum.inr "if", .int 6), (Sum.inr "any", .int 99)]))) := fun b o z => by
    rw [upd_ne (ne_of_none z hwd), upd_ne (ne_of_none z hwd)]
    exact z
  have e1 : (upd (upd H wd (.dK [])) wd (.dK (mergeK [] [(Sum.inr "kinds", .ref ka), (Sum.inr "cmp", .int 6), (Sum.inr "if", .int 6), (Sum.inr "any", .int 99)]))) wd = some (.dK (wKV ka 6 6 99)) := upd_same
  generalize upd (upd H wd (.dK [])) wd (.dK (mergeK [] [(Sum.inr "kinds", .ref ka), (Sum.inr "cmp", .int 6), (Sum.inr "if", .int 6), (Sum.inr "any", .int 99)])) = H1 at s1 e1
  have fl1 : Flow H1 f := by
    obtain ⟨x, y, z, e, r⟩ := fl
    exact ⟨x, y, z, s1 _ _ e, r⟩
  refine ⟨_, rfl, _, rfl, f, wd, ka, ks, k, room, _, rfl, fl1, ⟨_, _, _, e1⟩, Tp.same s1 _ _ hk, hk3, r1, r2, by decide, by decide, fun v p H' g wl a wk ow sz => q v p H' ⟨fun b o z nb => ?_, g.fl⟩ a wk ow sz⟩
  have nbw : b ≠ wd := ne_of_none z hwd
  exact g.ex b o (s1 _ _ z) (by simp at nb; simp [nb, nbw])
def spProgram (K : PySem.W.Frag) : Sp := fun vs H Q _ => ∃ (f ka : Addr) (ks : List Bool) (k : Bool) (room : Int), vs = [.ref f, .ref ka, .str (kS k), .int room] ∧ Flow H f ∧ SqT K H ka (kVs ks) ∧ ks.length ≤ 3 ∧ 1 ≤ room ∧ room ≤ 24 ∧
  ∀ (v : V) (p : Pg) (H' : Hp), Gr [] f H H' → At K H' v p → Wk ks p → own ks p = k → (psz p : Int) ≤ room → Q v H'
theorem ok_l_program (C : Cal P w K mg base 28 "_law_program" ["_law_flow_here", "_law_sorts", "_law_kind", "_law_room"] (spProgramN K)) : Cal P w K mg base 28 "_law_program" ["_law_flow_here", "_law_sorts", "_law_kind", "_law_room"] (spProgram K) := C.weak fun vs H Q E h => by
  obtain ⟨f, ka, ks, k, room, rfl, fl, hk, hk3, r1, r2, q⟩ := h
  exact ⟨f, ka, ks, k, room, rfl, fl, hk, hk3, r1, r2, fun v p H' g a wk ow sz => q v p H' g a wk.1 ow sz⟩
abbrev s_l_some : Stmt := topS 60
theorem sc_l_some : FnScope ["_law_flow_here", "_law_sorts"] ["_law_flow_here"] (defScope s_l_some) := ⟨rfl, rfl, rfl, by decide +kernel, rfl, by decide +kernel, by decide +kernel⟩
def spSomeN (K : PySem.W.Frag) : Sp := fun vs H Q _ => ∃ f : Addr, vs = [.ref f] ∧ Flow H f ∧ ∀ (t ka : Addr) (v : V) (p : Pg) (ks : List Bool) (H' : Hp), Gr [] f H H' → H' t = some (.tup [.ref ka, v]) → H' ka = some (.tup (kVs ks)) → ks.length ≤ 3 → At K H' v p → Wn ks p → psz p ≤ 24 → Q (.ref t) H'
theorem ok_l_someN (C_l_draw : Cal P w K mg base 1 "_law_draw" ["_law_flow_here", "_law_many"] (spDraw)) (C_l_kinds : Cal P w K mg base 2 "_law_kinds" ["_law_flow_here"] (spKinds K)) (C_l_program : Cal P w K mg base 28 "_law_program" ["_law_flow_here", "_law_sorts", "_law_kind", "_law_room"] (spProgramN K)) (D : DefAt K mg "_law_some" s_l_some ["_law_flow_here"]) : Cal P w K mg base 29 "_law_some" ["_law_flow_here"] (spSomeN K) := by
  refine cal_of D sc_l_some (fun vs H Q E h => ?_) (fun f cdv A outer s H vs Q E hr h => ?_)
  · obtain ⟨a, rfl, _⟩ := h
    rfl
  obtain ⟨f, rfl, fl, q⟩ := h
  have C_l_draw := C_l_draw.mono (k := 28) (by decide)
  have C_l_kinds := C_l_kinds.mono (k := 28) (by decide)
  have hr' : Room 28 _ := hr
  refine ⟨_, (pss_cons (ps_set (i := 1) sc_l_some.nd rfl (.inl rfl) (pe_cal C_l_kinds hr' (by rfl) (pa_cons (pv 0) pa_nil)))
      (pss_one (ps_ret (pe_tup (pa_cons (pv 1) (pa_cons (pe_cal C_l_program hr' (by rfl) (pa_cons (pv 0) (pa_cons (pv 1) (pa_cons (pe_ix ix_list (pe_lst (pa_cons pe_str (pa_cons pe_str pa_nil))) (pe_cal C_l_draw hr' (by rfl) (pa_cons (pv 0) (pa_cons pe_int pa_nil))) (fun _ _ => rfl)) (pa_cons (pe_op op_add pe_int (pe_cal C_l_draw hr' (by rfl) (pa_cons (pv 0) (pa_cons pe_int pa_nil)))) pa_nil))))) pa_nil)))))), ?_⟩
  refine ⟨_, rfl, f, rfl, fl, fun ka ks H1 g1 hk3 hk => ?_⟩
  refine ⟨_, rfl, _, rfl, _, rfl, (by show 2 ≤ sizeLine; decide), fun l hl => ?_⟩
  have gl : Gr [] f H (upd H1 l (.lst [.str "num", .str "truth"])) := g1.trans (Gr.new g1.fl hl)
  have nlf : l ≠ f := fun z => by
    obtain ⟨xs, e⟩ := g1.fl.lst
    rw [z, e] at hl
    cases hl
  refine ⟨_, rfl, f, 2, rfl, gl.fl, by decide, by decide, fun j H2 j0 j1 dr2 => ?_⟩
  have nkf : ka ≠ f := fun z => by
    obtain ⟨xs, e⟩ := g1.fl.lst
    rw [z, e] at hk
    cases hk
  have hl2 : H2 l = some (.lst [.str "num", .str "truth"]) := by rw [dr2.off l nlf]; exact upd_same
  have hk2 : H2 ka = some (.tup (kVs ks)) := by rw [dr2.off ka nkf, upd_ne (ne_of_none hk hl)]; exact hk
  have g2 := gl.trans dr2.gr
  have rest : ∀ b : Bool, ∀ (d : Int) (H3 : Hp), 0 ≤ d → d < 24 → Dr f H2 H3 → spProgramN K [.ref f, .ref ka, .str (kS b), .int (1 + d)] H3 (fun v H4 => (2 ≤ sizeLine) ∧ ∀ p, H4 p = none → Q (.ref p) (upd H4 p (.tup [.ref ka, v]))) (fun _ _ _ => False) := fun b d H3 d0 d1 dr3 => by
    have hk3' : H3 ka = some (.tup (kVs ks)) := by rw [dr3.off ka nkf]; exact hk2
    refine ⟨f, ka, ks, b, 1 + d, rfl, dr3.fl, .inl (.inl hk3'), hk3, by omega, by omega, fun v p H4 g4 a wk ow sz => ⟨by decide, fun t ht => ?_⟩⟩
    have s5 : Same H4 (upd H4 t (.tup [.ref ka, v])) := same_new ht
    have hk4 := g4.ex _ _ hk3' (by simp [nkf])
    exact q t ka v p ks _ ((g2.trans (dr3.gr.trans g4)).trans (Gr.new g4.fl ht)) upd_same (s5 _ _ hk4) hk3 (a.keep (Tp.same s5)) wk (by omega)
  rcases (show j = 0 ∨ j = 1 by omega) with z | z
  · subst z
    exact ⟨l, _, 0, .str "num", rfl, rfl, SqL.of hl2, rfl, _, rfl, f, 24, rfl, dr2.fl, by decide, by decide, fun d H3 d0 d1 dr3 => ⟨_, _, rfl, rfl, rest false d H3 d0 d1 dr3⟩⟩
  · subst z
    exact ⟨l, _, 1, .str "truth", rfl, rfl, SqL.of hl2, rfl, _, rfl, f, 24, rfl, dr2.fl, by decide, by decide, fun d H3 d0 d1 dr3 => ⟨_, _, rfl, rfl, rest true d H3 d0 d1 dr3⟩⟩
def spSome (K : PySem.W.Frag) : Sp := fun vs H Q _ => ∃ f : Addr, vs = [.ref f] ∧ Flow H f ∧ ∀ (t ka : Addr) (v : V) (p : Pg) (ks : List Bool) (H' : Hp), Gr [] f H H' → H' t = some (.tup [.ref ka, v]) → H' ka = some (.tup (kVs ks)) → ks.length ≤ 3 → At K H' v p → Wk ks p → psz p ≤ 24 → Q (.ref t) H'
theorem ok_l_some (C : Cal P w K mg base 29 "_law_some" ["_law_flow_here"] (spSomeN K)) : Cal P w K mg base 29 "_law_some" ["_law_flow_here"] (spSome K) := C.weak fun vs H Q E h => by
  obtain ⟨f, rfl, fl, q⟩ := h
  exact ⟨f, rfl, fl, fun t ka v p ks H' g ht hka hk3 a wk sz => q t ka v p ks H' g ht hka hk3 a wk.1 sz⟩
end
end Lm

set_option Elab.async false
set_option linter.all false
set_option maxRecDepth 100000
set_option maxHeartbeats 2000000
namespace Lm
open PySem PySem.Spec PyProof.Rows L2 LmR
theorem pe_gr {X : Cx} {x : Str} {a : Addr} {pos : Pos} (hg : Gl X x) (hm : X.mg x = some (.ref a)) (hd : (x == ("__debug__" : Str)) = false := by decide) : PE X (.Name x pos) (tC (.ref a)) := pe_glob (v := .ref a) hg hm rfl hd
/-! ### the table of forms -/
def nn : Pg → Nat
  | .inp _ => 1
  | .num _ => 1
  | .tr _ => 0
  | .plus _ _ => 1
  | .bin _ _ _ => 0
  | .neg _ => 0
  | .ite _ _ _ => 0
def due : Pg → List V
  | .inp _ => []
  | .num _ => []
  | .tr _ => []
  | .plus _ _ => [.str (kS false)]
  | .bin w _ _ => [.str (kS w.arg), .str (kS w.arg)]
  | .neg _ => [.str (kS true)]
  | .ite _ _ _ => [.str (kS true), .non, .non]
def ownV : Pg → V
  | .inp _ => .non
  | .num _ => .str (kS false)
  | .tr _ => .str (kS true)
  | .plus _ _ => .str (kS false)
  | .bin w _ _ => .str (kS w.own)
  | .neg _ => .str (kS true)
  | .ite _ _ _ => .non
/-- a tuple of the written part -/
def KTup (K : PySem.W.Frag) (a : Addr) (xs : List V) : Prop := ∃ (o : Obj) (its : Array Value) (n : Nat), K.lookup a = some o ∧ o.cls = .type "tuple" ∧ o.data = .seq its n ∧ its.size ≤ sizeLine ∧ Vals xs its.toList
theorem KTup.sq {K : PySem.W.Frag} {a : Addr} {xs : List V} (h : KTup K a xs) (H : Hp) : SqT K H a xs := .inr h
/-- FORMS stands at d -/
structure Forms (K : PySem.W.Frag) (w : World) (mg : Str → Option Value) (d : Addr) : Prop where
  g : mg "FORMS" = some (.ref d)
  k : ∃ es n, KDict K w d es n
  e : ∀ p : Pg, ∃ t u : Addr, PySem.W.nsIn K d (word p) = some (some (.ref t)) ∧ KTup K t [.int (nn p), .ref u, ownV p] ∧ KTup K u (due p)
theorem Forms.at {K : PySem.W.Frag} {w : World} {mg : Str → Option Value} {d : Addr} (F : Forms K w mg d) (p : Pg) : ∃ t u : Addr, KDct K w d (word p) (.ref t) ∧ KTup K t [.int (nn p), .ref u, ownV p] ∧ KTup K u (due p) := by
  obtain ⟨t, u, e, a, b⟩ := F.e p
  obtain ⟨es, n, D⟩ := F.k
  exact ⟨t, u, ⟨es, n, .ref t, D.at_, D.lit, e, rfl⟩, a, b⟩
theorem due_len (p : Pg) : (due p).length = (parts p).length := by cases p <;> rfl
theorem front_len (p : Pg) : (front p).length = 1 + nn p := by cases p <;> rfl
theorem at_word (p : Pg) (vs : List V) : atI (front p ++ vs) 0 = some (.str (word p)) := at_of (j := 0) rfl (by cases p <;> rfl)
theorem at_num (p : Pg) (vs : List V) (h : nn p ≠ 0) : ∃ i, atI (front p ++ vs) 1 = some (.int i) := by
  cases p <;> first | exact absurd rfl h | exact ⟨_, at_of (j := 1) rfl rfl⟩
theorem kTT {K : PySem.W.Frag} : PySem.W.kitOne K (.type "tuple") (.type "tuple") = some true := kit_ty (by decide +kernel)
theorem kSS {K : PySem.W.Frag} : PySem.W.kitOne K (.type "str") (.type "str") = some true := kit_ty (by decide +kernel)
section
variable {P : Program} {w : World} {K : PySem.W.Frag} {mg : Str → Option Value} {base : Heap}
abbrev s_is_whole : Stmt := topS 13
theorem sc_is_whole : FnScope ["thing"] ["thing"] (defScope s_is_whole) := ⟨rfl, rfl, rfl, by decide +kernel, rfl, by decide +kernel, by decide +kernel⟩
def spWhole (K : PySem.W.Frag) : Sp := fun vs H Q _ => ∃ (v : V) (d : PyData), vs = [v] ∧ Fd K H v d ∧ Q (.bl (isInt d && !isBl d)) H
theorem ok_is_whole (B : Bt mg) (D : DefAt K mg "is_whole" s_is_whole ["thing"]) : Cal P w K mg base 1 "is_whole" ["thing"] (spWhole K) := by
  refine cal_of D sc_is_whole (fun vs H Q E h => ?_) (fun f cdv A outer s H vs Q E hr h => ?_)
  · obtain ⟨v, d, rfl, _⟩ := h
    rfl
  obtain ⟨v, d, rfl, hv, q⟩ := h
  refine ⟨_, (pss_one (ps_ret (pe_and (pe_callB call_isi (by rfl) B.isinstance (by decide +kernel) (pa_cons (pv 0) (pa_cons (pe_bltn (v := .ty "int") (by rfl) B.int PyProof.Rows.boot_int rfl) pa_nil))) (pe_one (pe_not (pe_callB call_isi (by rfl) B.isinstance (by decide +kernel) (pa_cons (pv 0) (pa_cons (pe_bltn (v := .ty "bool") (by rfl) B.bool PyProof.Rows.boot_bool rfl) pa_nil)))))))), ?_⟩
  refine ⟨_, rfl, v, _, _, _, _, rfl, .ty _, hv.ty, kit_int d hv.1, _, rfl, ite2 (fun c => ?_) (fun c => ?_)⟩
  · rw [c] at q
    exact ⟨_, rfl, v, _, _, _, _, rfl, .ty _, hv.ty, kit_bl d hv.1, _, rfl, q⟩
  · rw [Bool.eq_false_iff.mpr c] at q
    exact q
abbrev s_many_numbers : Stmt := topS 15
theorem sc_many_numbers : FnScope ["word"] ["word"] (defScope s_many_numbers) := ⟨rfl, rfl, rfl, by decide +kernel, rfl, by decide +kernel, by decide +kernel⟩
def spMN : Sp := fun vs H Q _ => ∃ p : Pg, vs = [.str (word p)] ∧ Q (.int (nn p)) H
theorem ok_many_numbers {d : Addr} (F : Forms K w mg d) (D : DefAt K mg "many_numbers" s_many_numbers ["word"]) : Cal P w K mg base 1 "many_numbers" ["word"] (spMN) := by
  refine cal_of D sc_many_numbers (fun vs H Q E h => ?_) (fun f cdv A outer s H vs Q E hr h => ?_)
  · obtain ⟨p, rfl, _⟩ := h
    rfl
  obtain ⟨p, rfl, q⟩ := h
  have hFORMS := F.g
  refine ⟨_, (pss_one (ps_ret (pe_ix ix_tup (pe_ix ix_kdict (pe_gr (by rfl) hFORMS) (pv 0) (fun _ _ => rfl)) pe_int (fun _ _ => rfl)))), ?_⟩
  obtain ⟨t, u, e, a, b⟩ := F.at p
  exact ⟨_, rfl, d, word p, .ref t, rfl, rfl, e, t, _, 0, .int (nn p), rfl, rfl, a.sq _, rfl, q⟩
abbrev s_many_parts : Stmt := topS 16
theorem sc_many_parts : FnScope ["word"] ["word"] (defScope s_many_parts) := ⟨rfl, rfl, rfl, by decide +kernel, rfl, by decide +kernel, by decide +kernel⟩
def spMP : Sp := fun vs H Q _ => ∃ p : Pg, vs = [.str (word p)] ∧ Q (.int ((parts p).length : Nat)) H
theorem ok_many_parts {d : Addr} (B : Bt mg) (F : Forms K w mg d) (D : DefAt K mg "many_parts" s_many_parts ["word"]) : Cal P w K mg base 1 "many_parts" ["word"] (spMP) := by
  refine cal_of D sc_many_parts (fun vs H Q E h => ?_) (fun f cdv A outer s H vs Q E hr h => ?_)
  · obtain ⟨p, rfl, _⟩ := h
    rfl
  obtain ⟨p, rfl, q⟩ := h
  have hFORMS := F.g
  refine ⟨_, (pss_one (ps_ret (pe_callB call_len_seq (by rfl) B.len PySem.boot_len (pa_cons (pe_ix ix_tup (pe_ix ix_kdict (pe_gr (by rfl) hFORMS) (pv 0) (fun _ _ => rfl)) pe_int (fun _ _ => rfl)) pa_nil)))), ?_⟩
  obtain ⟨t, u, e, a, b⟩ := F.at p
  rw [← due_len] at q
  exact ⟨_, rfl, d, word p, .ref t, rfl, rfl, e, t, _, 1, .ref u, rfl, rfl, a.sq _, rfl, u, _, rfl, .inr (b.sq _), q⟩
abbrev s_has_form : Stmt := topS 14
theorem sc_has_form : FnScope ["thing", "word"] ["thing"] (defScope s_has_form) := ⟨rfl, rfl, rfl, by decide +kernel, rfl, by decide +kernel, by decide +kernel⟩
def spHF (K : PySem.W.Frag) : Sp := fun vs H Q _ => ∃ (v : V) (p : Pg), vs = [v] ∧ At K H v p ∧ Q (.bl true) H
theorem ok_has_form {d : Addr} (B : Bt mg) (F : Forms K w mg d) (C_is_whole : Cal P w K mg base 1 "is_whole" ["thing"] (spWhole K)) (C_many_numbers : Cal P w K mg base 1 "many_numbers" ["word"] (spMN)) (C_many_parts : Cal P w K mg base 1 "many_parts" ["word"] (spMP)) (D : DefAt K mg "has_form" s_has_form ["thing"]) : Cal P w K mg base 2 "has_form" ["thing"] (spHF K) := by
  refine cal_of D sc_has_form (fun vs H Q E h => ?_) (fun f cdv A outer s H vs Q E hr h => ?_)
  · obtain ⟨v, p, rfl, _⟩ := h
    rfl
  obtain ⟨v, p, rfl, hv, q⟩ := h
  have hFORMS := F.g
  obtain ⟨es, n, kd⟩ := F.k
  have hr' : Room 1 _ := hr
  refine ⟨_, (pss_cons (ps_if (PW.pt (pw_or (pt_not (pt_val (pe_callB call_isi (by rfl) B.isinstance (by decide +kernel) (pa_cons (pv 0) (pa_cons (pe_bltn (v := .ty "tuple") (by rfl) B.tuple PyProof.Rows.boot_tuple rfl) pa_nil))))) (pw_or (pt_cmpR op_eq (pe_callB call_len_seq (by rfl) B.len PySem.boot_len (pa_cons (pv 0) pa_nil)) pe_int (nomark _)) (pw_or1 (pt_not (pt_val (pe_callB call_isi (by rfl) B.isinstance (by decide +kernel) (pa_cons (pe_ix ix_tup (pv 0) pe_int (fun _ _ => rfl)) (pa_cons (pe_bltn (v := .ty "str") (by rfl) B.str PyProof.Rows.boot_str rfl) pa_nil)))))))))
        (pss_one (ps_ret pe_bl))
        pss_nil)
      (pss_cons (ps_set (i := 1) sc_has_form.nd rfl (.inl rfl) (pe_ix ix_tup (pv 0) pe_int (fun _ _ => rfl)))
      (pss_cons (ps_if (PW.pt (pw_or (pt_cmpR (op_notIn_kd kd) (pv 1) (pe_gr (by rfl) hFORMS) rfl) (pw_or1 (pt_cmpR op_ne (pe_callB call_len_seq (by rfl) B.len PySem.boot_len (pa_cons (pv 0) pa_nil)) (pe_op op_add (pe_op op_add pe_int (pe_cal C_many_numbers hr' (by rfl) (pa_cons (pv 1) pa_nil))) (pe_cal C_many_parts hr' (by rfl) (pa_cons (pv 1) pa_nil))) (nomark _)))))
        (pss_one (ps_ret pe_bl))
        pss_nil)
      (pss_one (ps_ret (pe_or (pe_cmpR op_eq (pe_cal C_many_numbers hr' (by rfl) (pa_cons (pv 1) pa_nil)) pe_int (nomark _)) (pe_one (pe_cal C_is_whole hr' (by rfl) (pa_cons (pe_ix ix_tup (pv 0) pe_int (fun _ _ => rfl)) pa_nil))))))))), ?_⟩
  obtain ⟨a, vs, rfl, ha, hvs⟩ := hv.open
  obtain ⟨t, u, e, _, _⟩ := F.e p
  have hl : (front p ++ vs).length = 1 + nn p + (parts p).length := by rw [List.length_append, front_len, hvs.len]
  refine ⟨_, rfl, _, _, _, _, _, rfl, .ty _, tyx_tup ha, kTT, _, rfl, ?_⟩
  refine ⟨_, rfl, a, _, rfl, .inr ha, rfl, _, rfl, ite2 (fun z => ?_) (fun _ => ?_)⟩
  · have z' : V.int (((front p ++ vs).length : Nat) : Int) = V.int 0 := of_decide_eq_true z
    have z2 := V.int.inj z'
    omega
  refine ⟨_, rfl, a, _, 0, _, rfl, rfl, ha, at_word p vs, _, _, _, _, _, rfl, .ty _, .base (.str _), kSS, _, rfl, ?_⟩
  refine ⟨_, rfl, a, _, 0, _, rfl, rfl, ha, at_word p vs, ?_⟩
  refine ⟨_, rfl, word p, _, rfl, rfl, e, _, rfl, ?_⟩
  refine ⟨_, rfl, a, _, rfl, .inr ha, _, rfl, p, rfl, _, _, rfl, rfl, _, rfl, p, rfl, _, _, rfl, rfl, rfl, _, rfl, iteNS ?_ ?_⟩
  · rw [hl]
    exact congrArg V.int (by omega)
  refine ⟨_, rfl, p, rfl, rfl, _, rfl, ite2 (fun _ => q) (fun z => ?_)⟩
  have hn : nn p ≠ 0 := fun y => z (decide_eq_true (by rw [y]; rfl))
  obtain ⟨i, ei⟩ := at_num p vs hn
  exact ⟨_, rfl, a, _, 1, _, rfl, rfl, ha, ei, .int i, .int i, rfl, ⟨rfl, .int i⟩, q⟩
theorem cut_from (n : Nat) (xs ys : List V) (h : xs.length = n) : cutV (xs ++ ys) (some (n : Int)) none = ys := by
  unfold cutV
  rw [show HT.sIx (xs ++ ys).length 0 (some (n : Int)) = min n (xs ++ ys).length from HT.sIx_nat _ 0 n, HT.sIx_none]
  have e : min n (xs ++ ys).length = n := by rw [List.length_append]; omega
  rw [e, ← h, List.drop_left, List.length_append, Nat.add_sub_cancel_left, List.take_length]
abbrev s_parts_of : Stmt := topS 18
theorem sc_parts_of : FnScope ["knot"] ["knot"] (defScope s_parts_of) := ⟨rfl, rfl, rfl, by decide +kernel, rfl, by decide +kernel, by decide +kernel⟩
def spPO (K : PySem.W.Frag) : Sp := fun vs H Q _ => ∃ (v : V) (p : Pg), vs = [v] ∧ At K H v p ∧ ∀ (t : Addr) (us : List V), H t = none → Ats K H us (parts p) → Q (.ref t) (upd H t (.tup us))
theorem ok_parts_of (C_many_numbers : Cal P w K mg base 1 "many_numbers" ["word"] (spMN)) (D : DefAt K mg "parts_of" s_parts_of ["knot"]) : Cal P w K mg base 2 "parts_of" ["knot"] (spPO K) := by
  refine cal_of D sc_parts_of (fun vs H Q E h => ?_) (fun f cdv A outer s H vs Q E hr h => ?_)
  · obtain ⟨v, p, rfl, _⟩ := h
    rfl
  obtain ⟨v, p, rfl, hv, q⟩ := h
  have hr' : Room 1 _ := hr
  refine ⟨_, (pss_one (ps_ret (pe_slice sl_tup (pv 0) (po_some (pe_op op_add pe_int (pe_cal C_many_numbers hr' (by rfl) (pa_cons (pe_ix ix_tup (pv 0) pe_int (fun _ _ => rfl)) pa_nil)))) po_none))), ?_⟩
  obtain ⟨a, vs, rfl, ha, hvs⟩ := hv.open
  have e1 : (1 : Int) + (nn p : Int) = ((1 + nn p : Nat) : Int) := by omega
  refine ⟨_, rfl, _, rfl, a, _, 0, _, rfl, rfl, ha, at_word p vs, p, rfl, _, _, rfl, rfl, _, rfl, a, _, rfl, ha, ?_, fun t ht => ?_⟩
  · rintro ⟨z, _⟩
    rw [e1, show HT.sIx (front p ++ vs).length 0 (some ((1 + nn p : Nat) : Int)) = min (1 + nn p) (front p ++ vs).length from HT.sIx_nat _ 0 _, List.length_append, front_len] at z
    omega
  · rw [e1, cut_from _ _ _ (front_len p)]
    exact q t vs ht hvs
abbrev s_taken : Stmt := topS 19
theorem sc_taken : FnScope ["pile", "many", "turn"] ["pile", "many"] (defScope s_taken) := ⟨rfl, rfl, rfl, by decide +kernel, rfl, by decide +kernel, by decide +kernel⟩
def spTaken : Sp := fun vs H Q _ => ∃ (l : Addr) (xs ys : List V), vs = [.ref l, .int (ys.length : Nat)] ∧ H l = some (.lst (xs ++ ys.reverse)) ∧ ys.length ≤ 1000 ∧ ∀ (t : Addr) (H' : Hp), Ex [l] H H' → H' l = some (.lst xs) → H' t = some (.tup ys) → Q (.ref t) H'
theorem ok_taken (B : Bt mg) (D : DefAt K mg "taken" s_taken ["pile", "many"]) : Cal P w K mg base 1 "taken" ["pile", "many"] (spTaken) := by
  refine cal_of D sc_taken (fun vs H Q E h => ?_) (fun f cdv A outer s H vs Q E hr h => ?_)
  · obtain ⟨l, xs, ys, rfl, _⟩ := h
    rfl
  obtain ⟨l, xs, ys, rfl, hL, hlen, q⟩ := h
  refine ⟨_, (pss_one (ps_ret (pe_callTy call_tuple_of (by rfl) B.tuple PyProof.Rows.boot_tuple (pa_cons (pe_lc (own := [("turn", 2)]) (g := gName 2) rfl sc_taken.nd (pi_range1 (by rfl) B.range (pa_cons (pv 1) pa_nil)) (blkOk_by (own := [("turn", 2)]) (N := ["pile", "many", "turn"]) (sc := defScope s_taken) (by decide +kernel)) (fun _ _ _ _ _ => (pg_name (i := 2) sc_taken.nd rfl (.inl rfl))) (fun _ _ _ _ _ => pts_nil) (fun _ _ _ _ _ => (pe_bm0K (K := K) rfl PySem.F.plainAttrs_list PySem.F.slot_list_pop PySem.F.type_list_pop mt_pop (pv 0)))) pa_nil)))), ?_⟩
  refine ⟨_, rfl, _, rfl, by omega, by omega, fun D hD => lc_range (lo := 0) (n := ((ys.length : Nat) : Int).toNat) (fun i H' => Ex [l] H H' ∧ H' l = some (.lst (xs ++ (ys.drop i).reverse)) ∧ H' D = some (.lst (ys.take i))) ?_ ?_ ?_⟩
  · have n1 : l ≠ D := ne_of_none hL hD
    exact ⟨Ex.new hD, by rw [upd_ne n1, List.drop_zero]; exact hL, upd_same⟩
  · rintro i H' hi ⟨ex, h1, h2⟩
    have n1 : l ≠ D := ne_of_none hL hD
    have hi' : i < ys.length := by omega
    have ed : ys.drop i = ys[i] :: ys.drop (i + 1) := List.drop_eq_getElem_cons hi'
    rw [ed, List.reverse_cons, ← List.append_assoc] at h1
    refine ⟨rfl, _, rfl, .inl ⟨rfl, _, SqL.of h1⟩, l, _, ys[i], rfl, rfl, h1, ?_, ?_⟩
    · rw [List.length_append, List.length_singleton, Nat.add_sub_cancel, List.getElem?_append_right (Nat.le_refl _), Nat.sub_self]
      rfl
    rw [List.dropLast_concat]
    refine ⟨ys.take i, by rw [upd_ne n1.symm]; exact h2, by rw [List.length_take]; exact smallL (by omega), ?_, ?_, ?_⟩
    · intro b o hb nb
      have nbl : b ≠ l := fun z => nb (by rw [z]; simp)
      rw [upd_ne (ne_of_none hb hD), upd_ne nbl]
      exact ex b o hb nb
    · rw [upd_ne n1, upd_same]
    · rw [upd_same, List.take_add_one, List.getElem?_eq_getElem hi']
      rfl
  · rintro H' ⟨ex, h1, h2⟩
    have n1 : l ≠ D := ne_of_none hL hD
    have et : ((ys.length : Nat) : Int).toNat = ys.length := Int.toNat_natCast _
    rw [et, List.drop_length, List.reverse_nil, List.append_nil] at h1
    rw [et, List.take_length] at h2
    refine ⟨D, _, rfl, .inl ⟨SqL.of h2, fun t ht => q t _ (ex.trans (Ex.new ht)) ?_ upd_same⟩⟩
    rw [upd_ne (ne_of_none h1 ht)]
    exact h1
end
end Lm

set_option Elab.async false
set_option linter.all false
set_option maxRecDepth 100000
set_option maxHeartbeats 2000000
namespace Lm
open PySem PySem.Spec PyProof.Rows L2 LmR
/-! ### forests -/
def knf (fs : List Pg) : List Pg := fs.flatMap kn
theorem knf_cons (q : Pg) (fs : List Pg) : knf (q :: fs) = q :: knf (parts q ++ fs) := by
  unfold knf
  rw [List.flatMap_cons, kn_eq, List.flatMap_append, List.cons_append]
theorem knf_one (p : Pg) : knf [p] = kn p := by simp [knf]
theorem knf_drop : ∀ (j : Nat) (fs : List Pg), ∃ gs, (knf fs).drop j = knf gs
  | 0, fs => ⟨fs, rfl⟩
  | j + 1, [] => ⟨[], by simp [knf]⟩
  | j + 1, q :: fs => by
    rw [knf_cons, List.drop_succ_cons]
    exact knf_drop j _
theorem knf_inj : ∀ (n : Nat) (fs gs : List Pg), (knf fs).length ≤ n → knf fs = knf gs → fs = gs
  | n, [], [], _, _ => rfl
  | n, [], q :: gs, _, h => by rw [knf_cons] at h; simp [knf] at h
  | n, q :: fs, [], _, h => by rw [knf_cons] at h; simp [knf] at h
  | 0, q :: fs, r :: gs, l, _ => by rw [knf_cons] at l; simp at l
  | n + 1, q :: fs, r :: gs, l, h => by
    rw [knf_cons, knf_cons] at h
    rw [knf_cons, List.length_cons] at l
    obtain ⟨rfl, h⟩ := List.cons.inj h
    have e := knf_inj n _ _ (by omega) h
    rw [List.append_cancel_left e]
/-- one knot more from the end -/
theorem knf_step {p : Pg} {j : Nat} {x : Pg} {fs : List Pg} (hx : (kn p)[j]? = some x) (hf : (kn p).drop (j + 1) = knf fs) : ∃ rest, fs = parts x ++ rest ∧ (kn p).drop j = knf (x :: rest) := by
  obtain ⟨gs, hg⟩ := knf_drop j [p]
  rw [knf_one] at hg
  obtain ⟨hj, ex⟩ := List.getElem?_eq_some_iff.mp hx
  have e : (kn p).drop j = x :: (kn p).drop (j + 1) := by rw [List.drop_eq_getElem_cons hj, ex]
  rw [e, hf] at hg
  cases gs with
  | nil => simp [knf] at hg
  | cons q rest =>
    rw [knf_cons] at hg
    obtain ⟨rfl, h⟩ := List.cons.inj hg
    refine ⟨rest, knf_inj _ _ _ (Nat.le_refl _) h, ?_⟩
    rw [e, hf, knf_cons, h]
/-! ### which word it is -/
theorem word_in {p : Pg} (h : V.str (word p) = V.str "in") : ∃ k, p = .inp k := by
  cases p with
  | inp k => exact ⟨k, rfl⟩
  | tr b => cases b <;> first | exact absurd h (show ¬ V.str ("num" : Str) = V.str "in" by decide +kernel) | exact absurd h (show ¬ V.str ("yes" : Str) = V.str "in" by decide +kernel) | exact absurd h (show ¬ V.str ("no" : Str) = V.str "in" by decide +kernel) | exact absurd h (show ¬ V.str ("plus" : Str) = V.str "in" by decide +kernel) | exact absurd h (show ¬ V.str ("least" : Str) = V.str "in" by decide +kernel) | exact absurd h (show ¬ V.str ("most" : Str) = V.str "in" by decide +kernel) | exact absurd h (show ¬ V.str ("atmost" : Str) = V.str "in" by decide +kernel) | exact absurd h (show ¬ V.str ("both" : Str) = V.str "in" by decide +kernel) | exact absurd h (show ¬ V.str ("either" : Str) = V.str "in" by decide +kernel) | exact absurd h (show ¬ V.str ("not" : Str) = V.str "in" by decide +kernel) | exact absurd h (show ¬ V.str ("if" : Str) = V.str "in" by decide +kernel)
  | bin w a b => cases w <;> first | exact absurd h (show ¬ V.str ("num" : Str) = V.str "in" by decide +kernel) | exact absurd h (show ¬ V.str ("yes" : Str) = V.str "in" by decide +kernel) | exact absurd h (show ¬ V.str ("no" : Str) = V.str "in" by decide +kernel) | exact absurd h (show ¬ V.str ("plus" : Str) = V.str "in" by decide +kernel) | exact absurd h (show ¬ V.str ("least" : Str) = V.str "in" by decide +kernel) | exact absurd h (show ¬ V.str ("most" : Str) = V.str "in" by decide +kernel) | exact absurd h (show ¬ V.str ("atmost" : Str) = V.str "in" by decide +kernel) | exact absurd h (show ¬ V.str ("both" : Str) = V.str "in" by decide +kernel) | exact absurd h (show ¬ V.str ("either" : Str) = V.str "in" by decide +kernel) | exact absurd h (show ¬ V.str ("not" : Str) = V.str "in" by decide +kernel) | exact absurd h (show ¬ V.str ("if" : Str) = V.str "in" by decide +kernel)
  | _ => first | exact absurd h (show ¬ V.str ("num" : Str) = V.str "in" by decide +kernel) | exact absurd h (show ¬ V.str ("yes" : Str) = V.str "in" by decide +kernel) | exact absurd h (show ¬ V.str ("no" : Str) = V.str "in" by decide +kernel) | exact absurd h (show ¬ V.str ("plus" : Str) = V.str "in" by decide +kernel) | exact absurd h (show ¬ V.str ("least" : Str) = V.str "in" by decide +kernel) | exact absurd h (show ¬ V.str ("most" : Str) = V.str "in" by decide +kernel) | exact absurd h (show ¬ V.str ("atmost" : Str) = V.str "in" by decide +kernel) | exact absurd h (show ¬ V.str ("both" : Str) = V.str "in" by decide +kernel) | exact absurd h (show ¬ V.str ("either" : Str) = V.str "in" by decide +kernel) | exact absurd h (show ¬ V.str ("not" : Str) = V.str "in" by decide +kernel) | exact absurd h (show ¬ V.str ("if" : Str) = V.str "in" by decide +kernel)
theorem word_if {p : Pg} (h : V.str (word p) = V.str "if") : ∃ q a b, p = .ite q a b := by
  cases p with
  | ite q a b => exact ⟨q, a, b, rfl⟩
  | tr b => cases b <;> first | exact absurd h (show ¬ V.str ("in" : Str) = V.str "if" by decide +kernel) | exact absurd h (show ¬ V.str ("num" : Str) = V.str "if" by decide +kernel) | exact absurd h (show ¬ V.str ("yes" : Str) = V.str "if" by decide +kernel) | exact absurd h (show ¬ V.str ("no" : Str) = V.str "if" by decide +kernel) | exact absurd h (show ¬ V.str ("plus" : Str) = V.str "if" by decide +kernel) | exact absurd h (show ¬ V.str ("least" : Str) = V.str "if" by decide +kernel) | exact absurd h (show ¬ V.str ("most" : Str) = V.str "if" by decide +kernel) | exact absurd h (show ¬ V.str ("atmost" : Str) = V.str "if" by decide +kernel) | exact absurd h (show ¬ V.str ("both" : Str) = V.str "if" by decide +kernel) | exact absurd h (show ¬ V.str ("either" : Str) = V.str "if" by decide +kernel) | exact absurd h (show ¬ V.str ("not" : Str) = V.str "if" by decide +kernel)
  | bin w a b => cases w <;> first | exact absurd h (show ¬ V.str ("in" : Str) = V.str "if" by decide +kernel) | exact absurd h (show ¬ V.str ("num" : Str) = V.str "if" by decide +kernel) | exact absurd h (show ¬ V.str ("yes" : Str) = V.str "if" by decide +kernel) | exact absurd h (show ¬ V.str ("no" : Str) = V.str "if" by decide +kernel) | exact absurd h (show ¬ V.str ("plus" : Str) = V.str "if" by decide +kernel) | exact absurd h (show ¬ V.str ("least" : Str) = V.str "if" by decide +kernel) | exact absurd h (show ¬ V.str ("most" : Str) = V.str "if" by decide +kernel) | exact absurd h (show ¬ V.str ("atmost" : Str) = V.str "if" by decide +kernel) | exact absurd h (show ¬ V.str ("both" : Str) = V.str "if" by decide +kernel) | exact absurd h (show ¬ V.str ("either" : Str) = V.str "if" by decide +kernel) | exact absurd h (show ¬ V.str ("not" : Str) = V.str "if" by decide +kernel)
  | _ => first | exact absurd h (show ¬ V.str ("in" : Str) = V.str "if" by decide +kernel) | exact absurd h (show ¬ V.str ("num" : Str) = V.str "if" by decide +kernel) | exact absurd h (show ¬ V.str ("yes" : Str) = V.str "if" by decide +kernel) | exact absurd h (show ¬ V.str ("no" : Str) = V.str "if" by decide +kernel) | exact absurd h (show ¬ V.str ("plus" : Str) = V.str "if" by decide +kernel) | exact absurd h (show ¬ V.str ("least" : Str) = V.str "if" by decide +kernel) | exact absurd h (show ¬ V.str ("most" : Str) = V.str "if" by decide +kernel) | exact absurd h (show ¬ V.str ("atmost" : Str) = V.str "if" by decide +kernel) | exact absurd h (show ¬ V.str ("both" : Str) = V.str "if" by decide +kernel) | exact absurd h (show ¬ V.str ("either" : Str) = V.str "if" by decide +kernel) | exact absurd h (show ¬ V.str ("not" : Str) = V.str "if" by decide +kernel)
theorem word_plus {p : Pg} (h : V.str (word p) = V.str "plus") : ∃ c a, p = .plus c a := by
  cases p with
  | plus c a => exact ⟨c, a, rfl⟩
  | tr b => cases b <;> first | exact absurd h (show ¬ V.str ("in" : Str) = V.str "plus" by decide +kernel) | exact absurd h (show ¬ V.str ("num" : Str) = V.str "plus" by decide +kernel) | exact absurd h (show ¬ V.str ("yes" : Str) = V.str "plus" by decide +kernel) | exact absurd h (show ¬ V.str ("no" : Str) = V.str "plus" by decide +kernel) | exact absurd h (show ¬ V.str ("least" : Str) = V.str "plus" by decide +kernel) | exact absurd h (show ¬ V.str ("most" : Str) = V.str "plus" by decide +kernel) | exact absurd h (show ¬ V.str ("atmost" : Str) = V.str "plus" by decide +kernel) | exact absurd h (show ¬ V.str ("both" : Str) = V.str "plus" by decide +kernel) | exact absurd h (show ¬ V.str ("either" : Str) = V.str "plus" by decide +kernel) | exact absurd h (show ¬ V.str ("not" : Str) = V.str "plus" by decide +kernel) | exact absurd h (show ¬ V.str ("if" : Str) = V.str "plus" by decide +kernel)
  | bin w a b => cases w <;> first | exact absurd h (show ¬ V.str ("in" : Str) = V.str "plus" by decide +kernel) | exact absurd h (show ¬ V.str ("num" : Str) = V.str "plus" by decide +kernel) | exact absurd h (show ¬ V.str ("yes" : Str) = V.str "plus" by decide +kernel) | exact absurd h (show ¬ V.str ("no" : Str) = V.str "plus" by decide +kernel) | exact absurd h (show ¬ V.str ("least" : Str) = V.str "plus" by decide +kernel) | exact absurd h (show ¬ V.str ("most" : Str) = V.str "plus" by decide +kernel) | exact absurd h (show ¬ V.str ("atmost" : Str) = V.str "plus" by decide +kernel) | exact absurd h (show ¬ V.str ("both" : Str) = V.str "plus" by decide +kernel) | exact absurd h (show ¬ V.str ("either" : Str) = V.str "plus" by decide +kernel) | exact absurd h (show ¬ V.str ("not" : Str) = V.str "plus" by decide +kernel) | exact absurd h (show ¬ V.str ("if" : Str) = V.str "plus" by decide +kernel)
  | _ => first | exact absurd h (show ¬ V.str ("in" : Str) = V.str "plus" by decide +kernel) | exact absurd h (show ¬ V.str ("num" : Str) = V.str "plus" by decide +kernel) | exact absurd h (show ¬ V.str ("yes" : Str) = V.str "plus" by decide +kernel) | exact absurd h (show ¬ V.str ("no" : Str) = V.str "plus" by decide +kernel) | exact absurd h (show ¬ V.str ("least" : Str) = V.str "plus" by decide +kernel) | exact absurd h (show ¬ V.str ("most" : Str) = V.str "plus" by decide +kernel) | exact absurd h (show ¬ V.str ("atmost" : Str) = V.str "plus" by decide +kernel) | exact absurd h (show ¬ V.str ("both" : Str) = V.str "plus" by decide +kernel) | exact absurd h (show ¬ V.str ("either" : Str) = V.str "plus" by decide +kernel) | exact absurd h (show ¬ V.str ("not" : Str) = V.str "plus" by decide +kernel) | exact absurd h (show ¬ V.str ("if" : Str) = V.str "plus" by decide +kernel)
theorem word_num {p : Pg} (h : V.str (word p) = V.str "num") : ∃ c, p = .num c := by
  cases p with
  | num c => exact ⟨c, rfl⟩
  | tr b => cases b <;> first | exact absurd h (show ¬ V.str ("in" : Str) = V.str "num" by decide +kernel) | exact absurd h (show ¬ V.str ("yes" : Str) = V.str "num" by decide +kernel) | exact absurd h (show ¬ V.str ("no" : Str) = V.str "num" by decide +kernel) | exact absurd h (show ¬ V.str ("plus" : Str) = V.str "num" by decide +kernel) | exact absurd h (show ¬ V.str ("least" : Str) = V.str "num" by decide +kernel) | exact absurd h (show ¬ V.str ("most" : Str) = V.str "num" by decide +kernel) | exact absurd h (show ¬ V.str ("atmost" : Str) = V.str "num" by decide +kernel) | exact absurd h (show ¬ V.str ("both" : Str) = V.str "num" by decide +kernel) | exact absurd h (show ¬ V.str ("either" : Str) = V.str "num" by decide +kernel) | exact absurd h (show ¬ V.str ("not" : Str) = V.str "num" by decide +kernel) | exact absurd h (show ¬ V.str ("if" : Str) = V.str "num" by decide +kernel)
  | bin w a b => cases w <;> first | exact absurd h (show ¬ V.str ("in" : Str) = V.str "num" by decide +kernel) | exact absurd h (show ¬ V.str ("yes" : Str) = V.str "num" by decide +kernel) | exact absurd h (show ¬ V.str ("no" : Str) = V.str "num" by decide +kernel) | exact absurd h (show ¬ V.str ("plus" : Str) = V.str "num" by decide +kernel) | exact absurd h (show ¬ V.str ("least" : Str) = V.str "num" by decide +kernel) | exact absurd h (show ¬ V.str ("most" : Str) = V.str "num" by decide +kernel) | exact absurd h (show ¬ V.str ("atmost" : Str) = V.str "num" by decide +kernel) | exact absurd h (show ¬ V.str ("both" : Str) = V.str "num" by decide +kernel) | exact absurd h (show ¬ V.str ("either" : Str) = V.str "num" by decide +kernel) | exact absurd h (show ¬ V.str ("not" : Str) = V.str "num" by decide +kernel) | exact absurd h (show ¬ V.str ("if" : Str) = V.str "num" by decide +kernel)
  | _ => first | exact absurd h (show ¬ V.str ("in" : Str) = V.str "num" by decide +kernel) | exact absurd h (show ¬ V.str ("yes" : Str) = V.str "num" by decide +kernel) | exact absurd h (show ¬ V.str ("no" : Str) = V.str "num" by decide +kernel) | exact absurd h (show ¬ V.str ("plus" : Str) = V.str "num" by decide +kernel) | exact absurd h (show ¬ V.str ("least" : Str) = V.str "num" by decide +kernel) | exact absurd h (show ¬ V.str ("most" : Str) = V.str "num" by decide +kernel) | exact absurd h (show ¬ V.str ("atmost" : Str) = V.str "num" by decide +kernel) | exact absurd h (show ¬ V.str ("both" : Str) = V.str "num" by decide +kernel) | exact absurd h (show ¬ V.str ("either" : Str) = V.str "num" by decide +kernel) | exact absurd h (show ¬ V.str ("not" : Str) = V.str "num" by decide +kernel) | exact absurd h (show ¬ V.str ("if" : Str) = V.str "num" by decide +kernel)
section
variable {P : Program} {w : World} {K : PySem.W.Frag} {mg : Str → Option Value} {base : Heap}
abbrev s_refuse_forms : Stmt := topS 20
theorem sc_refuse_forms : FnScope ["every", "at", "knot"] ["every"] (defScope s_refuse_forms) := ⟨rfl, rfl, rfl, by decide +kernel, rfl, by decide +kernel, by decide +kernel⟩
def spRF (K : PySem.W.Frag) : Sp := fun vs H Q _ => ∃ (l : Addr) (us : List V) (ps : List Pg), vs = [.ref l] ∧ H l = some (.lst us) ∧ Ats K H us ps ∧ ∀ H', Same H H' → Q .non H'
theorem ok_refuse_forms (B : Bt mg) (C_has_form : Cal P w K mg base 2 "has_form" ["thing"] (spHF K)) (D : DefAt K mg "refuse_forms" s_refuse_forms ["every"]) : Cal P w K mg base 3 "refuse_forms" ["every"] (spRF K) := by
  refine cal_of D sc_refuse_forms (fun vs H Q E h => ?_) (fun f cdv A outer s H vs Q E hr h => ?_)
  · obtain ⟨l, us, ps, rfl, _⟩ := h
    rfl
  obtain ⟨l, us, ps, rfl, hL, ha, q⟩ := h
  have hr' : Room 2 _ := hr
  refine ⟨_, (pss_one (ps_for PassesOwn.never rfl (pi_enum (by rfl) B.enumerate (pa_cons (pv 0) pa_nil)) (pg_tup rfl (pgs_cons (pg_name (i := 1) sc_refuse_forms.nd rfl (.inl rfl)) (pgs_cons (pg_name (i := 2) sc_refuse_forms.nd rfl (.inl rfl)) pgs_nil)))
        (pss_one (ps_if (pt_not (pt_val (pe_cal C_has_form hr' (by rfl) (pa_cons (pv 2) pa_nil))))
        (pss_one ps_never)
        pss_nil)))), ?_⟩
  refine ⟨_, rfl, l, _, rfl, SqL.of hL, for_enum (K := K) (a := l) (xs := us) (fun i σ' H' => ∃ y1 y2 : Option V, σ' = [some (.ref l), y1, y2] ∧ Same H H') ⟨none, none, rfl, Same.refl _⟩ ?_ ?_ ?_⟩
  · rintro i σ' H' ⟨y1, y2, rfl, sm⟩
    exact SqL.of (sm _ _ hL)
  · rintro i x T σ' H' hx ⟨y1, y2, rfl, sm⟩ hT
    obtain ⟨p, _, hp⟩ := ha.get i x hx
    have sT := sm.trans (same_new (o := .tup [.int (i : Nat), x]) hT)
    refine ⟨T, _, rfl, .inl (.inl upd_same), rfl, _, _, rfl, _, [], rfl, rfl, ?_⟩
    exact ⟨_, rfl, x, p, rfl, hp.keep (Tp.same sT), _, rfl, _, _, rfl, sT⟩
  · rintro σ' H' ⟨y1, y2, rfl, sm⟩
    exact q H' sm
abbrev s_refuse_inputs : Stmt := topS 21
theorem sc_refuse_inputs : FnScope ["every", "many", "at", "knot"] ["every", "many"] (defScope s_refuse_inputs) := ⟨rfl, rfl, rfl, by decide +kernel, rfl, by decide +kernel, by decide +kernel⟩
def spRI (K : PySem.W.Frag) : Sp := fun vs H Q _ => ∃ (l : Addr) (us : List V) (ps : List Pg) (ks : List Bool), vs = [.ref l, .int (ks.length : Nat)] ∧ H l = some (.lst us) ∧ Ats K H us ps ∧ (∀ p ∈ ps, Wk ks p) ∧ ∀ H', Same H H' → Q .non H'
theorem ok_refuse_inputs (B : Bt mg) (D : DefAt K mg "refuse_inputs" s_refuse_inputs ["every", "many"]) : Cal P w K mg base 1 "refuse_inputs" ["every", "many"] (spRI K) := by
  refine cal_of D sc_refuse_inputs (fun vs H Q E h => ?_) (fun f cdv A outer s H vs Q E hr h => ?_)
  · obtain ⟨l, us, ps, ks, rfl, _⟩ := h
    rfl
  obtain ⟨l, us, ps, ks, rfl, hL, ha, hw, q⟩ := h
  refine ⟨_, (pss_one (ps_for PassesOwn.never rfl (pi_enum (by rfl) B.enumerate (pa_cons (pv 0) pa_nil)) (pg_tup rfl (pgs_cons (pg_name (i := 2) sc_refuse_inputs.nd rfl (.inl rfl)) (pgs_cons (pg_name (i := 3) sc_refuse_inputs.nd rfl (.inl rfl)) pgs_nil)))
        (pss_one (ps_if (PW.pt (pw_and (pt_cmpR op_eq (pe_ix ix_tup (pv 3) pe_int (fun _ _ => rfl)) pe_str (nomark _)) (pw_and1 (pt_not (pt_chain op_le op_lt pe_int (pe_ix ix_tup (pv 3) pe_int (fun _ _ => rfl)) (pv 1))))))
        (pss_one ps_never)
        pss_nil)))), ?_⟩
  refine ⟨_, rfl, l, _, rfl, SqL.of hL, for_enum (K := K) (a := l) (xs := us) (fun i σ' H' => ∃ y1 y2 : Option V, σ' = [some (.ref l), some (.int (ks.length : Nat)), y1, y2] ∧ Same H H') ⟨none, none, rfl, Same.refl _⟩ ?_ ?_ ?_⟩
  · rintro i σ' H' ⟨y1, y2, rfl, sm⟩
    exact SqL.of (sm _ _ hL)
  · rintro i x T σ' H' hx ⟨y1, y2, rfl, sm⟩ hT
    obtain ⟨p, hpi, hp⟩ := ha.get i x hx
    have hwp := hw p (List.mem_of_getElem? hpi)
    have sT := sm.trans (same_new (o := .tup [.int (i : Nat), x]) hT)
    refine ⟨T, _, rfl, .inl (.inl upd_same), rfl, _, _, rfl, _, [], rfl, rfl, ?_⟩
    obtain ⟨a, vs, rfl, hA, hvs⟩ := (hp.keep (Tp.same sT)).open
    refine ⟨_, rfl, a, _, 0, _, rfl, rfl, hA, at_word p vs, rfl, _, rfl, ite2 (fun z => ?_) (fun z => ?_)⟩
    · have z' : V.str (word p) = V.str "in" := of_decide_eq_true z
      obtain ⟨k, rfl⟩ := word_in z'
      have hk : k < ks.length := hwp
      refine ⟨_, rfl, a, _, 1, .int k, rfl, rfl, hA, at_of (j := 1) rfl rfl, _, _, rfl, rfl, _, rfl, ite2 (fun _ => ?_) (fun y => ?_)⟩
      · refine ⟨_, rfl, _, _, rfl, rfl, _, rfl, ite2 (fun y => ?_) (fun y => ?_)⟩
        · have : decide ((k : Int) < ((ks.length : Nat) : Int)) = true := decide_eq_true (by omega)
          rw [this] at y
          cases y
        · exact ⟨_, _, rfl, sT⟩
      · exact absurd (decide_eq_true (by omega)) y
    · exact ⟨_, _, rfl, sT⟩
  · rintro σ' H' ⟨y1, y2, rfl, sm⟩
    exact q H' sm
end
end Lm

set_option Elab.async false
set_option linter.all false
set_option maxRecDepth 100000
set_option maxHeartbeats 2000000
namespace Lm
open PySem PySem.Spec PyProof.Rows L2 LmR
def kD (b : Bool) : PyData := .str (kS b)
theorem sh0 : SeqAt.shaped (.tuple []) = true := by decide +kernel
theorem sh1 (a : Bool) : SeqAt.shaped (.tuple [kD a]) = true := by revert a; decide +kernel
theorem sh2 (a b : Bool) : SeqAt.shaped (.tuple [kD a, kD b]) = true := by revert a b; decide +kernel
theorem sh3 (a b c : Bool) : SeqAt.shaped (.tuple [kD a, kD b, kD c]) = true := by revert a b c; decide +kernel
theorem eqv_sh {d : PyData} (h : SeqAt.shaped d = true) : PyData.eqv d d = true := by
  unfold SeqAt.shaped at h
  rw [Bool.and_eq_true] at h
  exact SeqAt.eqv_refl d h.1
/-- the kinds of some programs -/
def kids (ks : List Bool) (ps : List Pg) : List V := ps.map fun p => V.str (kS (own ks p))
section
variable {P : Program} {w : World} {K : PySem.W.Frag} {mg : Str → Option Value} {base : Heap}
abbrev s_parts_fit : Stmt := topS 22
theorem sc_parts_fit : FnScope ["word", "told", "due"] ["word", "told"] (defScope s_parts_fit) := ⟨rfl, rfl, rfl, by decide +kernel, rfl, by decide +kernel, by decide +kernel⟩
def spPF (K : PySem.W.Frag) : Sp := fun vs H Q _ => ∃ (p : Pg) (ks : List Bool) (t : Addr), vs = [.str (word p), .ref t] ∧ SqT K H t (kids ks (parts p)) ∧ Wk ks p ∧ ∀ H', Same H H' → Q (.bl true) H'
theorem ok_parts_fit {d : Addr} (F : Forms K w mg d) (D : DefAt K mg "parts_fit" s_parts_fit ["word", "told"]) : Cal P w K mg base 1 "parts_fit" ["word", "told"] (spPF K) := by
  refine cal_of D sc_parts_fit (fun vs H Q E h => ?_) (fun f cdv A outer s H vs Q E hr h => ?_)
  · obtain ⟨p, ks, t, rfl, _⟩ := h
    rfl
  obtain ⟨p, ks, t, rfl, ht, hw, q⟩ := h
  have hFORMS := F.g
  refine ⟨_, (pss_cons (ps_set (i := 2) sc_parts_fit.nd rfl (.inl rfl) (pe_ix ix_tup (pe_ix ix_kdict (pe_gr (by rfl) hFORMS) (pv 0) (fun _ _ => rfl)) pe_int (fun _ _ => rfl)))
      (pss_cons (ps_if (pt_cmpR op_eq (pv 0) pe_str (nomark _))
        (pss_one (ps_ret (pe_cmpR (op_eqD hr.units) (pv 1) (pe_tup (pa_cons (pe_ix ix_tup (pv 2) pe_int (fun _ _ => rfl)) (pa_cons (pe_ix ix_tup (pv 1) pe_int (fun _ _ => rfl)) (pa_cons (pe_ix ix_tup (pv 1) pe_int (fun _ _ => rfl)) pa_nil)))) (nomark _))))
        pss_nil)
      (pss_one (ps_ret (pe_cmpR (op_eqD hr.units) (pv 1) (pv 2) (nomark _)))))), ?_⟩
  obtain ⟨ft, fu, e, fa, fb⟩ := F.at p
  refine ⟨_, rfl, d, word p, .ref ft, rfl, rfl, e, ft, _, 1, .ref fu, rfl, rfl, fa.sq _, rfl, ?_⟩
  refine ⟨_, rfl, rfl, _, rfl, ite2 (fun z => ?_) (fun z => ?_)⟩
  · have z' : V.str (word p) = V.str "if" := of_decide_eq_true z
    obtain ⟨r, x, y, rfl⟩ := word_if z'
    obtain ⟨_, _, _, h1, h2⟩ := hw
    refine ⟨_, rfl, _, rfl, fu, _, 0, _, rfl, rfl, fb.sq _, rfl, _, rfl, t, _, 1, _, rfl, rfl, ht, rfl, _, rfl, t, _, 1, _, rfl, rfl, ht, rfl, (by show 3 ≤ sizeLine; decide), fun n hn => ?_⟩
    have sn : Same H (upd H n (.tup [.str (kS true), .str (kS (own ks x)), .str (kS (own ks x))])) := same_new hn
    refine ⟨.tuple [kD true, kD (own ks x), kD (own ks x)], .tuple [kD true, kD (own ks x), kD (own ks x)], ?_, .tup (.inl (.inl upd_same)) (.cons (.str _) (.cons (.str _) (.cons (.str _) .nil))), sh3 _ _ _, sh3 _ _ _, ?_⟩
    · have e2 : kids ks (parts (.ite r x y)) = [.str (kS true), .str (kS (own ks x)), .str (kS (own ks x))] := by
        show [V.str (kS (own ks r)), V.str (kS (own ks x)), V.str (kS (own ks y))] = _
        rw [h1, h2]
      rw [e2] at ht
      exact .tup (Tp.same sn _ _ ht) (.cons (.str _) (.cons (.str _) (.cons (.str _) .nil)))
    · rw [eqv_sh (sh3 _ _ _)]
      exact q _ sn
  · have fin : ∀ ds : List PyData, DpAll K H (kids ks (parts p)) ds → DpAll K H (due p) ds → SeqAt.shaped (.tuple ds) = true → ∃ d e, Dp K H (.ref t) d ∧ Dp K H (.ref fu) e ∧ SeqAt.shaped d = true ∧ SeqAt.shaped e = true ∧ Q (.bl (PyData.eqv d e)) H := fun ds h1 h2 h3 => ⟨_, _, .tup ht h1, .tup (fb.sq _) h2, h3, h3, by rw [eqv_sh h3]; exact q _ (Same.refl _)⟩
    refine ⟨_, rfl, _, rfl, ?_⟩
    cases p with
    | inp k => exact fin [] .nil .nil sh0
    | num k => exact fin [] .nil .nil sh0
    | tr k => exact fin [] .nil .nil sh0
    | plus c a =>
      obtain ⟨_, h⟩ := hw
      refine fin [kD false] ?_ (.cons (.str _) .nil) (sh1 _)
      show DpAll K H [V.str (kS (own ks a))] _
      rw [h]
      exact .cons (.str _) .nil
    | bin w a b =>
      obtain ⟨_, _, h1, h2⟩ := hw
      refine fin [kD w.arg, kD w.arg] ?_ (.cons (.str _) (.cons (.str _) .nil)) (sh2 _ _)
      show DpAll K H [V.str (kS (own ks a)), V.str (kS (own ks b))] _
      rw [h1, h2]
      exact .cons (.str _) (.cons (.str _) .nil)
    | neg a =>
      obtain ⟨_, h⟩ := hw
      refine fin [kD true] ?_ (.cons (.str _) .nil) (sh1 _)
      show DpAll K H [V.str (kS (own ks a))] _
      rw [h]
      exact .cons (.str _) .nil
    | ite r x y => exact absurd (decide_eq_true rfl) z
abbrev s_own_kind : Stmt := topS 23
theorem sc_own_kind : FnScope ["kinds", "knot", "told"] ["kinds", "knot", "told"] (defScope s_own_kind) := ⟨rfl, rfl, rfl, by decide +kernel, rfl, by decide +kernel, by decide +kernel⟩
def spOK (K : PySem.W.Frag) : Sp := fun vs H Q _ => ∃ (p : Pg) (ks : List Bool) (ka t : Addr) (v : V), vs = [.ref ka, v, .ref t] ∧ SqT K H ka (kVs ks) ∧ At K H v p ∧ SqT K H t (kids ks (parts p)) ∧ Wk ks p ∧ Q (.str (kS (own ks p))) H
theorem ok_own_kind {d : Addr} (F : Forms K w mg d) (D : DefAt K mg "own_kind" s_own_kind ["kinds", "knot", "told"]) : Cal P w K mg base 1 "own_kind" ["kinds", "knot", "told"] (spOK K) := by
  refine cal_of D sc_own_kind (fun vs H Q E h => ?_) (fun f cdv A outer s H vs Q E hr h => ?_)
  · obtain ⟨p, ks, ka, t, v, rfl, _⟩ := h
    rfl
  obtain ⟨p, ks, ka, t, v, rfl, hk, hv, ht, hw, q⟩ := h
  have hFORMS := F.g
  refine ⟨_, (pss_cons (ps_if (pt_cmpR op_eq (pe_ix ix_tup (pv 1) pe_int (fun _ _ => rfl)) pe_str (nomark _))
        (pss_one (ps_ret (pe_ix ix_tup (pv 0) (pe_ix ix_tup (pv 1) pe_int (fun _ _ => rfl)) (fun _ _ => rfl))))
        pss_nil)
      (pss_cons (ps_if (pt_cmpR op_eq (pe_ix ix_tup (pv 1) pe_int (fun _ _ => rfl)) pe_str (nomark _))
        (pss_one (ps_ret (pe_ix ix_tup (pv 2) pe_int (fun _ _ => rfl))))
        pss_nil)
      (pss_one (ps_ret (pe_ix ix_tup (pe_ix ix_kdict (pe_gr (by rfl) hFORMS) (pe_ix ix_tup (pv 1) pe_int (fun _ _ => rfl)) (fun _ _ => rfl)) pe_int (fun _ _ => rfl)))))), ?_⟩
  obtain ⟨a, vs, rfl, ha, hvs⟩ := hv.open
  obtain ⟨ft, fu, e, a', b⟩ := F.at p
  refine ⟨_, rfl, a, _, 0, _, rfl, rfl, ha, at_word p vs, rfl, _, rfl, ite2 (fun z => ?_) (fun z => ?_)⟩
  · have z' : V.str (word p) = V.str "in" := of_decide_eq_true z
    obtain ⟨k, rfl⟩ := word_in z'
    have hk' : k < ks.length := hw
    have ek : (kVs ks)[k]? = some (.str (kS (own ks (.inp k)))) := by
      unfold kVs
      rw [List.getElem?_map, List.getElem?_eq_getElem hk']
      show some (V.str (kS ks[k])) = some (V.str (kS (ks.getD k false)))
      rw [List.getD_eq_getElem?_getD, List.getElem?_eq_getElem hk']
      rfl
    exact ⟨_, rfl, _, rfl, a, _, 1, .int k, rfl, rfl, ha, at_of (j := 1) rfl rfl, ka, _, _, _, rfl, rfl, hk, at_of (j := k) rfl ek, q⟩
  refine ⟨_, rfl, a, _, 0, _, rfl, rfl, ha, at_word p vs, rfl, _, rfl, ite2 (fun y => ?_) (fun y => ?_)⟩
  · have y' : V.str (word p) = V.str "if" := of_decide_eq_true y
    obtain ⟨r, x, u, rfl⟩ := word_if y'
    exact ⟨_, rfl, t, _, 1, .str (kS (own ks x)), rfl, rfl, ht, rfl, q⟩
  · have eo : ownV p = .str (kS (own ks p)) := by
      cases p with
      | inp k => exact absurd (decide_eq_true rfl) z
      | ite r x u => exact absurd (decide_eq_true rfl) y
      | _ => rfl
    rw [eo] at a'
    exact ⟨_, rfl, a, _, 0, _, rfl, rfl, ha, at_word p vs, d, word p, .ref ft, rfl, rfl, e, ft, _, 2, _, rfl, rfl, a'.sq _, rfl, q⟩
theorem knf_len : ∀ fs : List Pg, fs.length ≤ (knf fs).length
  | [] => Nat.le_refl _
  | q :: fs => by
    have := knf_len fs
    have h : knf (q :: fs) = kn q ++ knf fs := by simp [knf]
    rw [h, List.length_append, kn_len, List.length_cons]
    have := psz_pos q
    omega
abbrev s_knots : Stmt := topS 11
theorem sc_knots : FnScope ["program", "told", "waiting", "knot"] ["program"] (defScope s_knots) := ⟨rfl, rfl, rfl, by decide +kernel, rfl, by decide +kernel, by decide +kernel⟩
def spKnots (K : PySem.W.Frag) : Sp := fun vs H Q _ => ∃ (v : V) (p : Pg), vs = [v] ∧ At K H v p ∧ psz p ≤ 10000 ∧ ∀ (l : Addr) (us : List V) (H' : Hp), Same H H' → H l = none → H' l = some (.lst us) → Ats K H' us (kn p) → Q (.ref l) H'
theorem ok_knots (C_has_form : Cal P w K mg base 2 "has_form" ["thing"] (spHF K)) (C_parts_of : Cal P w K mg base 2 "parts_of" ["knot"] (spPO K)) (D : DefAt K mg "knots" s_knots ["program"]) : Cal P w K mg base 3 "knots" ["program"] (spKnots K) := by
  refine cal_of D sc_knots (fun vs H Q E h => ?_) (fun f cdv A outer s H vs Q E hr h => ?_)
  · obtain ⟨v, p, rfl, _⟩ := h
    rfl
  obtain ⟨v, p, rfl, hv, hsz, q⟩ := h
  have hr' : Room 2 _ := hr
  refine ⟨_, (pss_cons (ps_set (i := 1) sc_knots.nd rfl (.inl rfl) (pe_lst pa_nil))
      (pss_cons (ps_set (i := 2) sc_knots.nd rfl (.inl rfl) (pe_lst (pa_cons (pv 0) pa_nil)))
      (pss_cons (ps_while PassesOwn.never (pt_truth (pv 2) (by intro _; rfl))
        (pss_cons (ps_set (i := 3) sc_knots.nd rfl (.inl rfl) (pe_bm0 PySem.F.plainAttrs_list PySem.F.slot_list_pop PySem.F.type_list_pop mt_pop (pv 2)))
      (pss_cons (ps_expr (pe_bm PySem.F.plainAttrs_list PySem.F.slot_list_append PySem.F.type_list_append mt_append (pv 1) (pa_cons (pv 3) pa_nil)))
      (pss_one (ps_if (pt_val (pe_cal C_has_form hr' (by rfl) (pa_cons (pv 3) pa_nil)))
        (pss_one (ps_expr (pe_bm PySem.F.plainAttrs_list PySem.F.slot_list_extend PySem.F.type_list_extend mt_extendT (pv 2) (pa_cons (pe_revT (pe_cal C_parts_of hr' (by rfl) (pa_cons (pv 3) pa_nil))) pa_nil))))
        pss_nil)))))
      (pss_one (ps_ret (pv 1)))))), ?_⟩
  refine ⟨(by show 0 ≤ sizeLine; decide), fun lt hlt => ⟨_, rfl, (by show 1 ≤ sizeLine; decide), fun lw hlw => ?_⟩⟩
  have s1 : Same H (upd H lt (.lst [])) := same_new hlt
  have s2 : Same (upd H lt (.lst [])) (upd (upd H lt (.lst [])) lw (.lst [v])) := same_new hlw
  have lw0 : H lw = none := s1.free hlw
  have ntw : lt ≠ lw := fun z => by rw [← z, upd_same] at hlw; cases hlw
  refine ⟨fun m σ H' => ∃ (fs done : List Pg) (us ws : List V) (y3 : Option V), σ = [some v, some (.ref lt), some (.ref lw), y3] ∧ m = (knf fs).length ∧ Same H H' ∧ H' lt = some (.lst us) ∧ H' lw = some (.lst ws.reverse) ∧ Ats K H' ws fs ∧ Ats K H' us done ∧ done ++ knf fs = kn p, ?_, ?_⟩
  · refine ⟨_, [p], [], [], [v], none, rfl, rfl, s1.trans s2, s2 _ _ upd_same, upd_same, .cons (hv.keep (Tp.same (s1.trans s2))) .nil, .nil, by rw [knf_one]; rfl⟩
  · rintro m σ H' ⟨fs, done, us, ws, y3, rfl, rfl, sm, ht, hw, aw, au, ek⟩
    have lk : done.length + (knf fs).length = psz p := by rw [← kn_len, ← ek, List.length_append]
    refine ⟨_, rfl, _, .inl ⟨_, SqL.of hw, rfl⟩, ite2 (fun c => ?_) (fun c => ?_)⟩
    · cases ws with
      | nil => simp at c
      | cons x ws =>
        cases fs with
        | nil => cases aw
        | cons r fs =>
          obtain ⟨ax, aws⟩ : At K H' x r ∧ Ats K H' ws fs := by
            cases aw with
            | cons a b => exact ⟨a, b⟩
          rw [List.reverse_cons] at hw
          rw [knf_cons] at ek lk ⊢
          rw [List.length_cons] at lk ⊢
          refine ⟨fun σ' H2 => ∃ m', m' < (knf (parts r ++ fs)).length + 1 ∧ ∃ (fs done : List Pg) (us ws : List V) (y3 : Option V), σ' = [some v, some (.ref lt), some (.ref lw), y3] ∧ m' = (knf fs).length ∧ Same H H2 ∧ H2 lt = some (.lst us) ∧ H2 lw = some (.lst ws.reverse) ∧ Ats K H2 ws fs ∧ Ats K H2 us done ∧ done ++ knf fs = kn p, fun σ' H2 h => h, ?_⟩
          refine ⟨_, rfl, .inl ⟨rfl, _, SqL.of hw⟩, lw, _, x, rfl, rfl, hw, ?_, ?_⟩
          · rw [List.length_append, List.length_singleton, Nat.add_sub_cancel, List.getElem?_append_right (Nat.le_refl _), Nat.sub_self]
            rfl
          rw [List.dropLast_concat]
          have t2 : Tp K H' (upd H' lw (.lst ws.reverse)) := Tp.lst hw
          have hw2 : (upd H' lw (.lst ws.reverse)) lw = some (.lst ws.reverse) := upd_same
          have ht2 : (upd H' lw (.lst ws.reverse)) lt = some (.lst us) := by rw [upd_ne ntw]; exact ht
          have sm2 : Same H (upd H' lw (.lst ws.reverse)) := fun b o z => by
            rw [upd_ne (ne_of_none z lw0)]
            exact sm b o z
          generalize upd H' lw (.lst ws.reverse) = H2 at t2 hw2 ht2 sm2
          have ul : us.length = done.length := au.len
          refine ⟨_, rfl, .inl ⟨rfl, _, SqL.of ht2⟩, _, rfl, lt, _, _, rfl, rfl, ht2, smallL (by omega), ?_⟩
          have t3 : Tp K H2 (upd H2 lt (.lst (us ++ [x]))) := Tp.lst ht2
          have hw3 : (upd H2 lt (.lst (us ++ [x]))) lw = some (.lst ws.reverse) := by rw [upd_ne ntw.symm]; exact hw2
          have ht3 : (upd H2 lt (.lst (us ++ [x]))) lt = some (.lst (us ++ [x])) := upd_same
          have sm3 : Same H (upd H2 lt (.lst (us ++ [x]))) := fun b o z => by
            rw [upd_ne (ne_of_none z hlt)]
            exact sm2 b o z
          generalize upd H2 lt (.lst (us ++ [x])) = H3 at t3 hw3 ht3 sm3
          have t13 := t2.trans t3
          have ax3 := ax.keep t13
          refine ⟨_, rfl, x, r, rfl, ax3, _, rfl, ?_⟩
          refine ⟨_, rfl, .inl ⟨rfl, _, SqL.of hw3⟩, _, rfl, x, r, rfl, ax3, fun t vs ht' hvs => ?_⟩
          have s4 : Same H3 (upd H3 t (.tup vs)) := same_new ht'
          refine ⟨t, vs, rfl, .inl (.inl upd_same), fun t2' ht2' => ?_⟩
          have s5 : Same (upd H3 t (.tup vs)) (upd (upd H3 t (.tup vs)) t2' (.tup vs.reverse)) := same_new ht2'
          have s35 := s4.trans s5
          have hw5 := s35 _ _ hw3
          have ht5 := s35 _ _ ht3
          have vl := hvs.len
          have wl := aws.len
          have kl := knf_len (parts r ++ fs)
          rw [List.length_append] at kl
          refine ⟨lw, t2', _, _, rfl, rfl, hw5, .inl (.inl upd_same), by rw [List.length_reverse, List.length_reverse]; exact small (by omega), ?_⟩
          have t6 : Tp K H3 (upd (upd (upd H3 t (.tup vs)) t2' (.tup vs.reverse)) lw (.lst (ws.reverse ++ vs.reverse))) := (Tp.same s35).trans (Tp.lst hw5)
          refine ⟨(knf (parts r ++ fs)).length, Nat.lt_succ_self _, parts r ++ fs, done ++ [r], us ++ [x], vs ++ ws, some x, rfl, rfl, ?_, by rw [upd_ne ntw]; exact ht5, by rw [upd_same, List.reverse_append], (hvs.keep t6).app ((aws.keep t13).keep t6), ((au.keep t13).keep t6).app (.cons (ax3.keep t6) .nil), by rw [← ek, List.append_assoc]; rfl⟩
          intro b o z
          rw [upd_ne (ne_of_none z lw0)]
          exact s35 _ _ (sm3 b o z)
    · cases ws with
      | cons x ws => exact absurd (by simp) c
      | nil =>
        cases fs with
        | cons r fs => cases aw
        | nil =>
          have ed : done = kn p := by rw [← ek]; simp [knf]
          rw [ed] at au
          exact ⟨_, rfl, q lt us H' sm hlt ht au⟩
end
end Lm

set_option Elab.async false
set_option linter.all false
set_option maxRecDepth 100000
set_option maxHeartbeats 2000000
namespace Lm
open PySem PySem.Spec PyProof.Rows L2 LmR
section
variable {P : Program} {w : World} {K : PySem.W.Frag} {mg : Str → Option Value} {base : Heap}
abbrev s_kind_of : Stmt := topS 10
theorem sc_kind_of : FnScope ["kinds", "program", "every", "wrong", "ready", "at", "word", "told"] ["kinds", "program"] (defScope s_kind_of) := ⟨rfl, rfl, rfl, by decide +kernel, rfl, by decide +kernel, by decide +kernel⟩
def spKO (K : PySem.W.Frag) : Sp := fun vs H Q _ => ∃ (ka : Addr) (ks : List Bool) (v : V) (p : Pg), vs = [.ref ka, v] ∧ SqT K H ka (kVs ks) ∧ At K H v p ∧ Wk ks p ∧ psz p ≤ 10000 ∧ ∀ H', Same H H' → Q (.str (kS (own ks p))) H'
theorem ok_kind_of (B : Bt mg) (C_knots : Cal P w K mg base 3 "knots" ["program"] (spKnots K)) (C_refuse_forms : Cal P w K mg base 3 "refuse_forms" ["every"] (spRF K)) (C_refuse_inputs : Cal P w K mg base 1 "refuse_inputs" ["every", "many"] (spRI K)) (C_taken : Cal P w K mg base 1 "taken" ["pile", "many"] (spTaken)) (C_many_parts : Cal P w K mg base 1 "many_parts" ["word"] (spMP)) (C_parts_fit : Cal P w K mg base 1 "parts_fit" ["word", "told"] (spPF K)) (C_own_kind : Cal P w K mg base 1 "own_kind" ["kinds", "knot", "told"] (spOK K)) (D : DefAt K mg "kind_of" s_kind_of ["kinds", "program"]) : Cal P w K mg base 4 "kind_of" ["kinds", "program"] (spKO K) := by
  refine cal_of D sc_kind_of (fun vs H Q E h => ?_) (fun f cdv A outer s H vs Q E hr h => ?_)
  · obtain ⟨ka, ks, v, p, rfl, _⟩ := h
    rfl
  obtain ⟨ka, ks, v, p, rfl, hk, hv, hw, hsz, q⟩ := h
  have C_refuse_inputs := C_refuse_inputs.mono (k := 3) (by decide)
  have C_taken := C_taken.mono (k := 3) (by decide)
  have C_many_parts := C_many_parts.mono (k := 3) (by decide)
  have C_parts_fit := C_parts_fit.mono (k := 3) (by decide)
  have C_own_kind := C_own_kind.mono (k := 3) (by decide)
  have hr' : Room 3 _ := hr
  refine ⟨_, (pss_cons (ps_set (i := 2) sc_kind_of.nd rfl (.inl rfl) (pe_cal C_knots hr' (by rfl) (pa_cons (pv 1) pa_nil)))
      (pss_cons (ps_expr (pe_cal C_refuse_forms hr' (by rfl) (pa_cons (pv 2) pa_nil)))
      (pss_cons (ps_expr (pe_cal C_refuse_inputs hr' (by rfl) (pa_cons (pv 2) (pa_cons (pe_callB call_len_seq (by rfl) B.len PySem.boot_len (pa_cons (pv 0) pa_nil)) pa_nil))))
      (pss_cons (ps_set (i := 3) sc_kind_of.nd rfl (.inl rfl) pe_non)
      (pss_cons (ps_set (i := 4) sc_kind_of.nd rfl (.inl rfl) (pe_lst pa_nil))
      (pss_cons (ps_for PassesOwn.never rfl (pi_revR (by rfl) B.reversed (prg_1 (by rfl) B.range (pe_callB call_len_seq (by rfl) B.len PySem.boot_len (pa_cons (pv 2) pa_nil)))) (pg_name (i := 5) sc_kind_of.nd rfl (.inl rfl))
        (pss_cons (ps_set (i := 6) sc_kind_of.nd rfl (.inl rfl) (pe_ix ix_tup (pe_ix ix_list (pv 2) (pv 5) (fun _ _ => rfl)) pe_int (fun _ _ => rfl)))
      (pss_cons (ps_set (i := 7) sc_kind_of.nd rfl (.inl rfl) (pe_cal C_taken hr' (by rfl) (pa_cons (pv 4) (pa_cons (pe_cal C_many_parts hr' (by rfl) (pa_cons (pv 6) pa_nil)) pa_nil))))
      (pss_cons (ps_if (pt_not (pt_val (pe_cal C_parts_fit hr' (by rfl) (pa_cons (pv 6) (pa_cons (pv 7) pa_nil)))))
        (pss_one (ps_set (i := 3) sc_kind_of.nd rfl (.inl rfl) (pv 5)))
        pss_nil)
      (pss_one (ps_expr (pe_bm PySem.F.plainAttrs_list PySem.F.slot_list_append PySem.F.type_list_append mt_append (pv 4) (pa_cons (pe_cal C_own_kind hr' (by rfl) (pa_cons (pv 0) (pa_cons (pe_ix ix_list (pv 2) (pv 5) (fun _ _ => rfl)) (pa_cons (pv 7) pa_nil)))) pa_nil))))))))
      (pss_cons (ps_if (pt_cmpR op_notN (pv 3) pe_non (nomark _))
        (pss_one ps_never)
        pss_nil)
      (pss_one (ps_ret (pe_ix ix_list (pv 4) pe_int (fun _ _ => rfl))))))))))), ?_⟩
  refine ⟨_, rfl, v, p, rfl, hv, hsz, fun le us H1 s1 le0 hle hus => ?_⟩
  refine ⟨_, rfl, le, us, kn p, rfl, hle, hus, fun H2 s2 => ?_⟩
  have klen : (kVs ks).length = ks.length := List.length_map _
  have hk2 : SqT K H2 ka (kVs ks) := Tp.same (s1.trans s2) _ _ hk
  refine ⟨_, rfl, _, rfl, ka, _, rfl, .inr hk2, le, us, kn p, ks, by rw [klen]; rfl, s2 _ _ hle, hus.keep (Tp.same s2), fun q' hq' => kn_wk ks p q' hw hq', fun H3 s3 => ?_⟩
  refine ⟨(by show 0 ≤ sizeLine; decide), fun lr hlr => ?_⟩
  have s4 : Same H3 (upd H3 lr (.lst [])) := same_new hlr
  have s03 : Same H H3 := s1.trans (s2.trans s3)
  have lr0 : H lr = none := s03.free hlr
  have hle4 : (upd H3 lr (.lst [])) le = some (.lst us) := (s2.trans (s3.trans s4)) _ _ hle
  have hus4 : Ats K (upd H3 lr (.lst [])) us (kn p) := hus.keep (Tp.same (s2.trans (s3.trans s4)))
  have hk4 : SqT K (upd H3 lr (.lst [])) ka (kVs ks) := Tp.same (s03.trans s4) _ _ hk
  have hlr4 : (upd H3 lr (.lst [])) lr = some (.lst []) := upd_same
  have s04 := s03.trans s4
  have nler : le ≠ lr := fun z => by
    rw [← z, (s2.trans s3) _ _ hle] at hlr
    cases hlr
  generalize upd H3 lr (.lst []) = H4 at hle4 hus4 hk4 hlr4 s04
  have ul : us.length = (kn p).length := hus.len
  have kl := kn_len p
  refine ⟨_, rfl, le, us, rfl, .inl (SqL.of hle4), _, rfl, by omega, by omega, by omega, by omega, for_rangeC (n := (((us.length : Nat) : Int) - 0).toNat) (fun i σ' H' => ∃ (fs : List Pg) (y5 y6 y7 : Option V), σ' = [some (.ref ka), some v, some (.ref le), some .non, some (.ref lr), y5, y6, y7] ∧ Same H H' ∧ H' le = some (.lst us) ∧ Ats K H' us (kn p) ∧ SqT K H' ka (kVs ks) ∧ (kn p).drop (us.length - i) = knf fs ∧ H' lr = some (.lst (kids ks fs).reverse)) ?_ ?_ ?_⟩
  · exact ⟨[], none, none, none, rfl, s04, hle4, hus4, hk4, by rw [ul, Nat.sub_zero, List.drop_length]; rfl, hlr4⟩
  · rintro i σ' H' hi ⟨fs, y5, y6, y7, rfl, sm, hle', hus', hk', hdrop, hlr'⟩
    have hi' : i < us.length := by omega
    obtain ⟨x, hx⟩ : ∃ x, (kn p)[us.length - (i + 1)]? = some x := ⟨_, List.getElem?_eq_getElem (by omega)⟩
    have hu : us[us.length - (i + 1)]? = some us[us.length - (i + 1)] := List.getElem?_eq_getElem (by omega)
    obtain ⟨x', hx', hax⟩ := hus'.get _ _ hu
    rw [hx] at hx'
    have ex := Option.some.inj hx'
    subst ex
    generalize us[us.length - (i + 1)] = xv at hu hax
    have e1 : us.length - (i + 1) + 1 = us.length - i := by omega
    obtain ⟨rest, rfl, hdr⟩ := knf_step hx (by rw [e1]; exact hdrop)
    have hwx : Wk ks x := kn_wk ks p x hw (List.mem_of_getElem? hx)
    have eidx : (0 : Int) + ((((us.length : Nat) : Int) - 0).toNat : Int) - 1 + (i : Int) * (-1) = ((us.length - (i + 1) : Nat) : Int) := by omega
    obtain ⟨a, vs, rfl, ha, hvs⟩ := hax.open
    refine ⟨_, rfl, _, rfl, le, us, _, _, rfl, rfl, SqL.of hle', at_of (j := us.length - (i + 1)) eidx hu, a, _, 0, _, rfl, rfl, ha, at_word x vs, ?_⟩
    have ekids : kids ks (parts x ++ rest) = kids ks (parts x) ++ kids ks rest := List.map_append ..
    have elen : (kids ks (parts x)).length = (parts x).length := List.length_map _
    have plen : (parts x).length ≤ 3 := by cases x <;> simp [parts]
    rw [ekids, List.reverse_append] at hlr'
    refine ⟨_, rfl, _, rfl, x, rfl, lr, (kids ks rest).reverse, kids ks (parts x), by rw [elen]; rfl, hlr', by omega, fun t H5 ex5 hlr5 ht5 => ?_⟩
    have nar : ∀ {o : HO}, ∀ b, H b = some o → b ∉ [lr] := fun b hb => by simp [ne_of_none hb lr0]
    have sm5 : Same H H5 := fun b o hb => ex5 b o (sm b o hb) (nar b hb)
    have tp5 : Tp K H' H5 := ex5.tp fun b hb ys z => by
      rw [List.mem_singleton.mp hb] at z
      rcases z with z | ⟨o, z⟩
      · rw [hlr'] at z; cases z
      · rw [hlr'] at z; cases z
    have hle5 := ex5 _ _ hle' (by simp [nler])
    have hus5 := hus'.keep tp5
    have hk5 := tp5 _ _ hk'
    refine ⟨_, rfl, _, rfl, x, ks, t, rfl, .inl (.inl ht5), hwx, fun H6 s6 => ⟨_, rfl, ?_⟩⟩
    have hlr6 := s6 _ _ hlr5
    have hle6 := s6 _ _ hle5
    have hax6 : At K H6 (.ref a) x := (hax.keep tp5).keep (Tp.same s6)
    refine ⟨_, rfl, .inl ⟨rfl, _, SqL.of hlr6⟩, _, rfl, _, rfl, _, rfl, le, us, _, _, rfl, rfl, SqL.of hle6, at_of (j := us.length - (i + 1)) eidx hu, _, rfl, ?_⟩
    refine ⟨x, ks, ka, t, .ref a, rfl, Tp.same s6 _ _ hk5, hax6, .inl (.inl (s6 _ _ ht5)), hwx, ?_⟩
    have rl : (kids ks rest).length ≤ 10000 := by
      have z := knf_len rest
      have z2 : (kn p).length - (us.length - (i + 1)) = (knf (x :: rest)).length := by rw [← hdr, List.length_drop]
      rw [knf_cons, List.length_cons] at z2
      have z3 : knf (parts x ++ rest) = knf (parts x) ++ knf rest := by simp [knf]
      rw [z3, List.length_append] at z2
      rw [show (kids ks rest).length = rest.length from List.length_map _]
      omega
    have t7 : Tp K H6 (upd H6 lr (.lst ((kids ks rest).reverse ++ [V.str (kS (own ks x))]))) := Tp.lst hlr6
    refine ⟨lr, _, _, rfl, rfl, hlr6, by rw [List.length_reverse]; exact smallL (by omega), x :: rest, _, _, _, rfl, fun b o hb => ?_, by rw [upd_ne nler]; exact hle6, (hus5.keep (Tp.same s6)).keep t7, t7 _ _ (Tp.same s6 _ _ hk5), hdr, ?_⟩
    · rw [upd_ne (ne_of_none hb lr0)]
      exact s6 _ _ (sm5 b o hb)
    · rw [upd_same]
      show _ = some (HO.lst (V.str (kS (own ks x)) :: kids ks rest).reverse)
      rw [List.reverse_cons]
  · rintro σ' H' ⟨fs, y5, y6, y7, rfl, sm, hle', hus', hk', hdrop, hlr'⟩
    have e0 : us.length - (((us.length : Nat) : Int) - 0).toNat = 0 := by omega
    rw [e0, List.drop_zero, ← knf_one] at hdrop
    have ef := knf_inj _ _ _ (Nat.le_refl _) hdrop
    subst ef
    exact ⟨_, rfl, rfl, _, rfl, _, rfl, lr, _, 0, _, rfl, rfl, SqL.of hlr', rfl, q _ sm⟩
end
end Lm

set_option Elab.async false
set_option linter.all false
set_option maxRecDepth 100000
set_option maxHeartbeats 2000000
namespace Lm
open PySem PySem.Spec PyProof.Rows L2 LmR
theorem in_nums (p : Pg) : inV (.str (word p)) [.str "in", .str "num", .str "plus"] = decide (nn p = 1) := by
  cases p with
  | tr b => cases b <;> rfl
  | bin w a b => cases w <;> rfl
  | _ => rfl
theorem in_words (p : Pg) : inV (.str (word p)) [.str "yes", .str "no", .str "not", .str "if", .str "least", .str "most", .str "atmost", .str "both", .str "either"] = decide (nn p = 0) := by
  cases p with
  | tr b => cases b <;> rfl
  | bin w a b => cases w <;> rfl
  | _ => rfl
theorem in_leaf (p : Pg) : inV (.str (word p)) [.str "in", .str "num"] = decide (nn p = 1 ∧ parts p = []) := by
  cases p with
  | tr b => cases b <;> rfl
  | bin w a b => cases w <;> rfl
  | plus c a => exact (show false = decide (1 = 1 ∧ [a] = []) by simp)
  | inp k => exact (show true = decide (1 = 1 ∧ ([] : List Pg) = []) by simp)
  | num k => exact (show true = decide (1 = 1 ∧ ([] : List Pg) = []) by simp)
  | neg a => rfl
  | ite p a b => rfl
def manyL : List (Key × V) := [(Sum.inr "in", .int 0), (Sum.inr "num", .int 0), (Sum.inr "yes", .int 0), (Sum.inr "no", .int 0), (Sum.inr "plus", .int 1), (Sum.inr "not", .int 1), (Sum.inr "if", .int 3)]
def manyKV : List (Key × V) := mergeK [] manyL
theorem many_get (p : Pg) : (valV manyKV (Sum.inr (word p))).getD (.int 2) = .int ((parts p).length : Nat) := by
  cases p with
  | tr b => cases b <;> rfl
  | bin w a b => cases w <;> rfl
  | _ => rfl
theorem kII {K : PySem.W.Frag} : PySem.W.kitOne K (.type "int") (.type "int") = some true := kit_ty (by decide +kernel)
theorem kIB {K : PySem.W.Frag} : PySem.W.kitOne K (.type "int") (.type "bool") = some false := kit_ty (by decide +kernel)
theorem fl_str {x : Str} : flatV (.str x) = true := rfl
section
variable {P : Program} {w : World} {K : PySem.W.Frag} {mg : Str → Option Value} {base : Heap}
end
end Lm

set_option Elab.async false
set_option linter.all false
set_option maxRecDepth 100000
set_option maxHeartbeats 2000000
namespace Lm
open PySem PySem.Spec PyProof.Rows L2 LmR
theorem dep_part (p q : Pg) (h : q ∈ parts p) : dep q + 1 ≤ dep p := by
  cases p with
  | inp k => simp [parts] at h
  | num k => simp [parts] at h
  | tr k => simp [parts] at h
  | plus c a => simp only [parts, List.mem_singleton] at h; subst h; simp only [dep]; omega
  | bin w a b =>
    simp only [parts, List.mem_cons, List.not_mem_nil, or_false] at h
    rcases h with rfl | rfl <;> (simp only [dep]; omega)
  | neg a => simp only [parts, List.mem_singleton] at h; subst h; simp only [dep]; omega
  | ite r a b =>
    simp only [parts, List.mem_cons, List.not_mem_nil, or_false] at h
    rcases h with rfl | rfl | rfl <;> (simp only [dep]; omega)
theorem psz_part (p q : Pg) (h : q ∈ parts p) : psz q + 1 ≤ psz p := by
  cases p with
  | inp k => simp [parts] at h
  | num k => simp [parts] at h
  | tr k => simp [parts] at h
  | plus c a => simp only [parts, List.mem_singleton] at h; subst h; simp only [psz]; omega
  | bin w a b =>
    simp only [parts, List.mem_cons, List.not_mem_nil, or_false] at h
    rcases h with rfl | rfl <;> (simp only [psz]; omega)
  | neg a => simp only [parts, List.mem_singleton] at h; subst h; simp only [psz]; omega
  | ite r a b =>
    simp only [parts, List.mem_cons, List.not_mem_nil, or_false] at h
    rcases h with rfl | rfl | rfl <;> (simp only [psz]; omega)
theorem dsz_enc : ∀ p : Pg, dsz (enc p) ≤ 4 * psz p
  | .inp _ => by simp [enc, dsz, dsz.dszs, psz]
  | .num _ => by simp [enc, dsz, dsz.dszs, psz]
  | .tr _ => by simp [enc, dsz, dsz.dszs, psz]
  | .plus c a => by have := dsz_enc a; simp [enc, dsz, dsz.dszs, psz]; omega
  | .bin w a b => by have := dsz_enc a; have := dsz_enc b; simp [enc, dsz, dsz.dszs, psz]; omega
  | .neg a => by have := dsz_enc a; simp [enc, dsz, dsz.dszs, psz]; omega
  | .ite p a b => by have := dsz_enc a; have := dsz_enc b; have := dsz_enc p; simp [enc, dsz, dsz.dszs, psz]; omega
theorem dszs_le (m : Nat) : ∀ ps : List Pg, (∀ p ∈ ps, psz p ≤ m) → dsz.dszs (ps.map enc) ≤ ps.length * (4 * m)
  | [], _ => by simp [dsz.dszs]
  | p :: ps, h => by
    have h1 := dszs_le m ps fun q hq => h q (List.mem_cons_of_mem _ hq)
    have h2 := dsz_enc p
    have h3 := h p List.mem_cons_self
    simp only [List.map_cons, dsz.dszs, List.length_cons, Nat.add_mul]
    omega
/-- the data of some programs in a tuple -/
theorem fd_knots {K : PySem.W.Frag} {H : Hp} {t : Addr} {us : List V} {ps : List Pg} (h : H t = some (.tup us)) (a : Ats K H us ps) : Fd K H (.ref t) (.tuple (ps.map enc)) := ⟨by simp [flat, flats_encs], .tup (.inl (.inl h)) a⟩
theorem kLL {K : PySem.W.Frag} : PySem.W.kitOne K (.type "list") (.type "list") = some true := kit_ty (by decide +kernel)
theorem pg_tupK {X : Cx} {K : PySem.W.Frag} {es : List Expr} {k : Nat} {t : TGs} {n : Nat} {pos : Pos} (hK : X.K = K) (hc : X.calm = true) (h : PGs X es t)
    (hn : (assignEach es X.env).length = n := by rfl) (hst : (assignEach es X.env).findIdx? (·.1) = none := by rfl) : PG X (.Tuple es k pos) (gTup K n t) := hK ▸ pg_tup hc h hn hst
section
variable {P : Program} {w : World} {K : PySem.W.Frag} {mg : Str → Option Value} {base : Heap}
end
end Lm

set_option Elab.async false
set_option linter.all false
set_option maxRecDepth 100000
set_option maxHeartbeats 2000000
namespace Lm
open PySem PySem.Spec PyProof.Rows L2 LmR
/-! ### put in -/
def psub (ss : List Pg) : Pg → Pg
  | .inp k => ss.getD k (.inp k)
  | .num c => .num c
  | .tr b => .tr b
  | .plus c a => .plus c (psub ss a)
  | .bin w a b => .bin w (psub ss a) (psub ss b)
  | .neg a => .neg (psub ss a)
  | .ite p a b => .ite (psub ss p) (psub ss a) (psub ss b)
theorem psub_front (ss : List Pg) (p : Pg) (h : ∀ k, p ≠ .inp k) : front (psub ss p) = front p ∧ parts (psub ss p) = (parts p).map (psub ss) := by
  cases p with
  | inp k => exact absurd rfl (h k)
  | _ => exact ⟨rfl, rfl⟩
/-- a program by its tuple -/
theorem At.make {K : PySem.W.Frag} {H : Hp} {a : Addr} {vs : List V} {p : Pg} (h : SqT K H a (front p ++ vs)) (b : Ats K H vs (parts p)) : At K H (.ref a) p := by
  cases p with
  | inp k => cases b; exact .tup h (.cons (.str _) (.cons (.int _) .nil))
  | num k => cases b; exact .tup h (.cons (.str _) (.cons (.int _) .nil))
  | tr k => cases b; exact .tup h (.cons (.str _) .nil)
  | plus c a => exact .tup h (.cons (.str _) (.cons (.int _) b))
  | bin w a c => exact .tup h (.cons (.str _) b)
  | neg a => exact .tup h (.cons (.str _) b)
  | ite p a c => exact .tup h (.cons (.str _) b)
theorem psub_psz (m : Nat) (ss : List Pg) (h1 : 1 ≤ m) (hm : ∀ s ∈ ss, psz s ≤ m) : ∀ p : Pg, psz (psub ss p) ≤ m * psz p
  | .inp k => by
    simp only [psub, psz, Nat.mul_one]
    rw [List.getD_eq_getElem?_getD]
    cases e : ss[k]? with
    | none => exact h1
    | some s => exact hm s (List.mem_of_getElem? e)
  | .num c => by simp only [psub, psz]; omega
  | .tr b => by simp only [psub, psz]; omega
  | .plus c a => by
    have := psub_psz m ss h1 hm a
    simp only [psub, psz, Nat.mul_add]; omega
  | .bin w a b => by
    have := psub_psz m ss h1 hm a
    have := psub_psz m ss h1 hm b
    simp only [psub, psz, Nat.mul_add]; omega
  | .neg a => by
    have := psub_psz m ss h1 hm a
    simp only [psub, psz, Nat.mul_add]; omega
  | .ite p a b => by
    have := psub_psz m ss h1 hm a
    have := psub_psz m ss h1 hm b
    have := psub_psz m ss h1 hm p
    simp only [psub, psz, Nat.mul_add]; omega
theorem psub_own (ks os : List Bool) (ss : List Pg) (hl : ss.length = ks.length) (ho : ss.map (own os) = ks) : ∀ p : Pg, Wk ks p → own os (psub ss p) = own ks p
  | .inp k, hw => by
    have hk : k < ks.length := hw
    have hs : k < ss.length := by omega
    show own os (ss.getD k _) = ks.getD k false
    rw [List.getD_eq_getElem?_getD, List.getElem?_eq_getElem hs, List.getD_eq_getElem?_getD, List.getElem?_eq_getElem hk]
    show own os ss[k] = ks[k]
    subst ho
    rw [List.getElem_map]
  | .num c, _ => rfl
  | .tr b, _ => rfl
  | .plus c a, _ => rfl
  | .bin w a b, _ => rfl
  | .neg a, _ => rfl
  | .ite p a b, hw => psub_own ks os ss hl ho a hw.2.1
theorem psub_wk (ks os : List Bool) (ss : List Pg) (hl : ss.length = ks.length) (ho : ss.map (own os) = ks) (hw : ∀ s ∈ ss, Wk os s) : ∀ p : Pg, Wk ks p → Wk os (psub ss p)
  | .inp k, h => by
    have hk : k < ks.length := h
    have hs : k < ss.length := by omega
    show Wk os (ss.getD k _)
    rw [List.getD_eq_getElem?_getD, List.getElem?_eq_getElem hs]
    exact hw _ (List.getElem_mem hs)
  | .num c, _ => True.intro
  | .tr b, _ => True.intro
  | .plus c a, h => ⟨psub_wk ks os ss hl ho hw a h.1, by rw [psub_own ks os ss hl ho a h.1]; exact h.2⟩
  | .bin w a b, h => ⟨psub_wk ks os ss hl ho hw a h.1, psub_wk ks os ss hl ho hw b h.2.1, by rw [psub_own ks os ss hl ho a h.1]; exact h.2.2.1, by rw [psub_own ks os ss hl ho b h.2.1]; exact h.2.2.2⟩
  | .neg a, h => ⟨psub_wk ks os ss hl ho hw a h.1, by rw [psub_own ks os ss hl ho a h.1]; exact h.2⟩
  | .ite p a b, h => ⟨psub_wk ks os ss hl ho hw p h.1, psub_wk ks os ss hl ho hw a h.2.1, psub_wk ks os ss hl ho hw b h.2.2.1, by rw [psub_own ks os ss hl ho p h.1]; exact h.2.2.2.1,
    by rw [psub_own ks os ss hl ho b h.2.2.1, psub_own ks os ss hl ho a h.2.1]; exact h.2.2.2.2⟩
/-- its inputs are among so many -/
def Low (n : Nat) : Pg → Prop
  | .inp k => k < n
  | .num _ => True
  | .tr _ => True
  | .plus _ a => Low n a
  | .bin _ a b => Low n a ∧ Low n b
  | .neg a => Low n a
  | .ite p a b => Low n p ∧ Low n a ∧ Low n b
theorem wk_low {ks : List Bool} : ∀ p : Pg, Wk ks p → Low ks.length p
  | .inp _, h => h
  | .num _, _ => True.intro
  | .tr _, _ => True.intro
  | .plus c a, h => wk_low a h.1
  | .bin w a b, h => ⟨wk_low a h.1, wk_low b h.2.1⟩
  | .neg a, h => wk_low a h.1
  | .ite p a b, h => ⟨wk_low p h.1, wk_low a h.2.1, wk_low b h.2.2.1⟩
theorem low_part {n : Nat} (p q : Pg) (hp : Low n p) (h : q ∈ parts p) : Low n q := by
  cases p with
  | inp k => simp [parts] at h
  | num k => simp [parts] at h
  | tr k => simp [parts] at h
  | plus c a => simp only [parts, List.mem_singleton] at h; subst h; exact hp
  | bin w a b =>
    simp only [parts, List.mem_cons, List.not_mem_nil, or_false] at h
    rcases h with rfl | rfl
    · exact hp.1
    · exact hp.2
  | neg a => simp only [parts, List.mem_singleton] at h; subst h; exact hp
  | ite r a b =>
    simp only [parts, List.mem_cons, List.not_mem_nil, or_false] at h
    rcases h with rfl | rfl | rfl
    · exact hp.1
    · exact hp.2.1
    · exact hp.2.2
theorem low_knf {n : Nat} : ∀ (m : Nat) (fs : List Pg), (knf fs).length ≤ m → (∀ q ∈ fs, Low n q) → ∀ q ∈ knf fs, Low n q
  | m, [], _, _, q, h => by simp [knf] at h
  | 0, r :: fs, l, _, _, _ => by rw [knf_cons] at l; simp at l
  | m + 1, r :: fs, l, hf, q, h => by
    rw [knf_cons] at l h
    rcases List.mem_cons.mp h with rfl | h
    · exact hf _ List.mem_cons_self
    · refine low_knf m _ (by rw [List.length_cons] at l; omega) (fun s hs => ?_) q h
      rcases List.mem_append.mp hs with z | z
      · exact low_part r s (hf r List.mem_cons_self) z
      · exact hf s (List.mem_cons_of_mem _ z)
theorem low_kn {n : Nat} (p : Pg) (h : Low n p) (q : Pg) (hq : q ∈ kn p) : Low n q := low_knf _ [p] (Nat.le_refl _) (fun s hs => by rw [List.mem_singleton.mp hs]; exact h) q (by rw [knf_one]; exact hq)
theorem psub_low {n m : Nat} (ss : List Pg) (hl : ss.length = n) (hs : ∀ s ∈ ss, Low m s) : ∀ p : Pg, Low n p → Low m (psub ss p)
  | .inp k, h => by
    have hk : k < n := h
    have hs' : k < ss.length := by omega
    show Low m (ss.getD k _)
    rw [List.getD_eq_getElem?_getD, List.getElem?_eq_getElem hs']
    exact hs _ (List.getElem_mem hs')
  | .num _, _ => True.intro
  | .tr _, _ => True.intro
  | .plus c a, h => psub_low ss hl hs a h
  | .bin w a b, h => ⟨psub_low ss hl hs a h.1, psub_low ss hl hs b h.2⟩
  | .neg a, h => psub_low ss hl hs a h
  | .ite p a b, h => ⟨psub_low ss hl hs p h.1, psub_low ss hl hs a h.2.1, psub_low ss hl hs b h.2.2⟩
/-- a loop over reversed(list) -/
theorem for_rev {K : PySem.W.Frag} {a : Addr} {xs : List V} {g : TG} {tb : TS} {D : Ends} {σ : L2.St} {H : Hp} (Pv : Nat → L2.St → Hp → Prop) (h0 : Pv 0 σ H) (hq : ∀ i σ H, Pv i σ H → SqL K H a xs)
    (hs : ∀ (i : Nat) (x : V) (σ : L2.St) (H : Hp), i < xs.length → xs[xs.length - 1 - i]? = some x → Pv i σ H → g x σ H fun σ2 H2 => tb { D with nx := Pv (i + 1), ct := Pv (i + 1), bk := D.nx } σ2 H2) (hd : ∀ σ H, Pv xs.length σ H → D.nx σ H) :
    ∃ W : Nat → Nat → L2.St → Hp → Prop, (∃ m, W 0 m σ H) ∧ ∀ i m σ H, W i m σ H →
      ((Itv K a xs.length).stop i H ∧ D.nx σ H) ∨ ((Itv K a xs.length).go i H ∧ ∃ N : L2.St → Hp → Prop, (∀ σ' H', N σ' H' → ∃ m', m' < m ∧ W (i + 1) m' σ' H') ∧ ∀ v H', (Itv K a xs.length).yld i H v H' → g v σ H' fun σ2 H2 => tb { D with nx := N, ct := N, bk := D.nx } σ2 H2) := by
  refine ⟨fun i m σ H => m = xs.length - i ∧ i ≤ xs.length ∧ Pv i σ H, ⟨xs.length, rfl, Nat.zero_le _, h0⟩, ?_⟩
  rintro i m σ H ⟨rfl, hi, p⟩
  have qx := hq i σ H p
  by_cases hlt : i < xs.length
  · have hx : xs[xs.length - 1 - i]? = some xs[xs.length - 1 - i] := List.getElem?_eq_getElem (by omega)
    refine .inr ⟨⟨hlt, xs, _, qx, hx⟩, Pv (i + 1), fun σ' H' p' => ⟨xs.length - (i + 1), by omega, rfl, hlt, p'⟩, fun v H' y => ?_⟩
    obtain ⟨rfl, f1⟩ := y
    exact hs i v σ H' hlt (f1 xs qx) p
  · have e : i = xs.length := by omega
    subst e
    exact .inl ⟨Nat.le_refl _, hd σ H p⟩
theorem cut_to (n : Nat) (xs ys : List V) (h : xs.length = n) : cutV (xs ++ ys) none (some (n : Int)) = xs := by
  unfold cutV
  rw [HT.sIx_none, show HT.sIx (xs ++ ys).length (xs ++ ys).length (some (n : Int)) = min n (xs ++ ys).length from HT.sIx_nat _ _ n]
  have e : min n (xs ++ ys).length = n := by rw [List.length_append]; omega
  rw [e, List.drop_zero, Nat.sub_zero, ← h, List.take_left]
section
variable {P : Program} {w : World} {K : PySem.W.Frag} {mg : Str → Option Value} {base : Heap}
abbrev s_front_of : Stmt := topS 17
theorem sc_front_of : FnScope ["knot"] ["knot"] (defScope s_front_of) := ⟨rfl, rfl, rfl, by decide +kernel, rfl, by decide +kernel, by decide +kernel⟩
def spFO (K : PySem.W.Frag) : Sp := fun vs H Q _ => ∃ (v : V) (p : Pg), vs = [v] ∧ At K H v p ∧ ∀ (t : Addr) (H' : Hp), Same H H' → SqT K H' t (front p) → Q (.ref t) H'
theorem ok_front_of (C_many_numbers : Cal P w K mg base 1 "many_numbers" ["word"] (spMN)) (D : DefAt K mg "front_of" s_front_of ["knot"]) : Cal P w K mg base 2 "front_of" ["knot"] (spFO K) := by
  refine cal_of D sc_front_of (fun vs H Q E h => ?_) (fun f cdv A outer s H vs Q E hr h => ?_)
  · obtain ⟨v, p, rfl, _⟩ := h
    rfl
  obtain ⟨v, p, rfl, hv, q⟩ := h
  have hr' : Room 1 _ := hr
  refine ⟨_, (pss_one (ps_ret (pe_slice sl_tupA (pv 0) po_none (po_some (pe_op op_add pe_int (pe_cal C_many_numbers hr' (by rfl) (pa_cons (pe_ix ix_tup (pv 0) pe_int (fun _ _ => rfl)) pa_nil))))))), ?_⟩
  obtain ⟨a, vs, rfl, ha, hvs⟩ := hv.open
  have e1 : (1 : Int) + (nn p : Int) = ((1 + nn p : Nat) : Int) := by omega
  refine ⟨_, rfl, _, rfl, a, _, 0, _, rfl, rfl, ha, at_word p vs, p, rfl, _, _, rfl, rfl, _, rfl, a, _, rfl, ha, fun z => ?_, fun z t ht => ?_⟩
  · obtain ⟨_, z⟩ := z
    rw [e1, show HT.sIx (front p ++ vs).length (front p ++ vs).length (some ((1 + nn p : Nat) : Int)) = min (1 + nn p) (front p ++ vs).length from HT.sIx_nat _ _ _, List.length_append, front_len] at z
    have hz : vs = [] := List.eq_nil_of_length_eq_zero (by omega)
    rw [hz, List.append_nil] at ha
    exact q a H (Same.refl _) ha
  · rw [e1, cut_to _ _ _ (front_len p)]
    exact q t _ (same_new ht) (.inl (.inl upd_same))
abbrev s_put : Stmt := topS 12
theorem sc_put : FnScope ["program", "some", "ready", "knot", "parts"] ["program", "some"] (defScope s_put) := ⟨rfl, rfl, rfl, by decide +kernel, rfl, by decide +kernel, by decide +kernel⟩
def spPut (K : PySem.W.Frag) : Sp := fun vs H Q _ => ∃ (v : V) (p : Pg) (t : Addr) (us : List V) (ss : List Pg), vs = [v, .ref t] ∧ At K H v p ∧ SqT K H t us ∧ Ats K H us ss ∧ Low ss.length p ∧ psz p ≤ 10000 ∧ ∀ (u : V) (H' : Hp), Same H H' → At K H' u (psub ss p) → Q u H'
theorem ok_put (B : Bt mg) (C_knots : Cal P w K mg base 3 "knots" ["program"] (spKnots K)) (C_taken : Cal P w K mg base 1 "taken" ["pile", "many"] (spTaken)) (C_many_parts : Cal P w K mg base 1 "many_parts" ["word"] (spMP)) (C_front_of : Cal P w K mg base 2 "front_of" ["knot"] (spFO K)) (D : DefAt K mg "put" s_put ["program", "some"]) : Cal P w K mg base 4 "put" ["program", "some"] (spPut K) := by
  refine cal_of D sc_put (fun vs H Q E h => ?_) (fun f cdv A outer s H vs Q E hr h => ?_)
  · obtain ⟨v, p, t, us, ss, rfl, _⟩ := h
    rfl
  obtain ⟨v, p, t, us, ss, rfl, hv, ht, hus, hlow, hsz, q⟩ := h
  have C_taken := C_taken.mono (k := 3) (by decide)
  have C_many_parts := C_many_parts.mono (k := 3) (by decide)
  have C_front_of := C_front_of.mono (k := 3) (by decide)
  have hr' : Room 3 _ := hr
  refine ⟨_, (pss_cons (ps_set (i := 2) sc_put.nd rfl (.inl rfl) (pe_lst pa_nil))
      (pss_cons (ps_for PassesOwn.never rfl (pi_reversed (by rfl) B.reversed (pa_cons (pe_cal C_knots hr' (by rfl) (pa_cons (pv 0) pa_nil)) pa_nil)) (pg_name (i := 3) sc_put.nd rfl (.inl rfl))
        (pss_cons (ps_set (i := 4) sc_put.nd rfl (.inl rfl) (pe_cal C_taken hr' (by rfl) (pa_cons (pv 2) (pa_cons (pe_cal C_many_parts hr' (by rfl) (pa_cons (pe_ix ix_tup (pv 3) pe_int (fun _ _ => rfl)) pa_nil)) pa_nil))))
      (pss_one (ps_if (pt_cmpR op_eq (pe_ix ix_tup (pv 3) pe_int (fun _ _ => rfl)) pe_str (nomark _))
        (pss_one (ps_expr (pe_bm PySem.F.plainAttrs_list PySem.F.slot_list_append PySem.F.type_list_append mt_append (pv 2) (pa_cons (pe_ix ix_tup (pv 1) (pe_ix ix_tup (pv 3) pe_int (fun _ _ => rfl)) (fun _ _ => rfl)) pa_nil))))
        (pss_one (ps_expr (pe_bm PySem.F.plainAttrs_list PySem.F.slot_list_append PySem.F.type_list_append mt_append (pv 2) (pa_cons (pe_op op_catA (pe_cal C_front_of hr' (by rfl) (pa_cons (pv 3) pa_nil)) (pv 4)) pa_nil))))))))
      (pss_one (ps_ret (pe_ix ix_list (pv 2) pe_int (fun _ _ => rfl)))))), ?_⟩
  refine ⟨(by show 0 ≤ sizeLine; decide), fun lr hlr => ?_⟩
  have s1 : Same H (upd H lr (.lst [])) := same_new hlr
  have r1 : (upd H lr (.lst [])) lr = some (.lst []) := upd_same
  generalize upd H lr (.lst []) = H1 at s1 r1
  refine ⟨_, rfl, v, p, rfl, hv.keep (Tp.same s1), hsz, fun le ks H2 s2 le0 hle hks => ?_⟩
  have s02 := s1.trans s2
  have nler : le ≠ lr := fun z => by rw [z, r1] at le0; cases le0
  have kl := kn_len p
  have ul : ks.length = (kn p).length := hks.len
  refine ⟨le, ks, rfl, SqL.of hle, for_rev (K := K) (a := le) (xs := ks) (fun i σ' H' => ∃ (fs : List Pg) (ws : List V) (y3 y4 : Option V), σ' = [some v, some (.ref t), some (.ref lr), y3, y4] ∧ Same H H' ∧ H' le = some (.lst ks) ∧ Ats K H' ks (kn p) ∧ (kn p).drop (ks.length - i) = knf fs ∧ H' lr = some (.lst ws.reverse) ∧ Ats K H' ws (fs.map (psub ss))) ?_ ?_ ?_ ?_⟩
  · exact ⟨[], [], none, none, rfl, s02, hle, hks, by rw [ul, Nat.sub_zero, List.drop_length]; rfl, s2 _ _ r1, .nil⟩
  · rintro i σ' H' ⟨fs, ws, y3, y4, rfl, sm, hle', _⟩
    exact SqL.of hle'
  · rintro i xv σ' H' hi hxv ⟨fs, ws, y3, y4, rfl, sm, hle', hks', hdrop, hlr', hws⟩
    have eI : ks.length - 1 - i = ks.length - (i + 1) := by omega
    rw [eI] at hxv
    obtain ⟨x, hx, hax⟩ := hks'.get _ _ hxv
    have e1 : ks.length - (i + 1) + 1 = ks.length - i := by omega
    obtain ⟨rest, rfl, hdr⟩ := knf_step hx (by rw [e1]; exact hdrop)
    have hlx : Low ss.length x := low_kn p hlow x (List.mem_of_getElem? hx)
    obtain ⟨a, vs, rfl, ha, hvs⟩ := hax.open
    have plen : (parts x).length ≤ 3 := by cases x <;> simp [parts]
    rw [List.map_append] at hws
    -- the parts' values and the rest's
    obtain ⟨w1, w2, rfl, hw1, hw2⟩ : ∃ w1 w2, ws = w1 ++ w2 ∧ Ats K H' w1 ((parts x).map (psub ss)) ∧ Ats K H' w2 (rest.map (psub ss)) := by
      have z : ∀ (as bs : List Pg) (ws : List V), Ats K H' ws (as ++ bs) → ∃ w1 w2, ws = w1 ++ w2 ∧ Ats K H' w1 as ∧ Ats K H' w2 bs := by
        intro as
        induction as with
        | nil => intro bs ws h; exact ⟨[], ws, rfl, .nil, h⟩
        | cons q as ih =>
          intro bs ws h
          cases ws with
          | nil => cases h
          | cons u ws =>
            cases h with
            | cons h1 h2 =>
              obtain ⟨w1, w2, rfl, g1, g2⟩ := ih bs ws h2
              exact ⟨u :: w1, w2, rfl, .cons h1 g1, g2⟩
      exact z _ _ _ hws
    have wl1 : w1.length = (parts x).length := by rw [hw1.len, List.length_map]
    rw [List.reverse_append] at hlr'
    refine ⟨_, rfl, _, rfl, a, _, 0, _, rfl, rfl, ha, at_word x vs, x, rfl, lr, w2.reverse, w1, by rw [wl1]; rfl, hlr', by omega, fun tt H5 ex5 hlr5 ht5 => ?_⟩
    have sm5 : Same H H5 := fun b o hb => ex5 b o (sm b o hb) (by simp [ne_of_none hb hlr])
    have tp5 : Tp K H' H5 := ex5.tp fun b hb ys z => by
      rw [List.mem_singleton.mp hb] at z
      rcases z with z | ⟨o, z⟩
      · rw [hlr'] at z; cases z
      · rw [hlr'] at z; cases z
    have hle5 := ex5 _ _ hle' (by simp [nler])
    have hks5 := hks'.keep tp5
    have ha5 := tp5 _ _ ha
    have hw15 := hw1.keep tp5
    have hw25 := hw2.keep tp5
    have rl : w2.length ≤ 10000 := by
      have z := knf_len rest
      have z2 : (kn p).length - (ks.length - (i + 1)) = (knf (x :: rest)).length := by rw [← hdr, List.length_drop]
      rw [knf_cons, List.length_cons] at z2
      have z3 : knf (parts x ++ rest) = knf (parts x) ++ knf rest := by simp [knf]
      rw [z3, List.length_append] at z2
      have z4 := hw2.len
      rw [List.length_map] at z4
      omega
    have fin : ∀ (y3 y4 : Option V) (u : V) (H6 : Hp), Same H5 H6 → At K H6 u (psub ss x) → ∃ (l : Addr) (xs : List V) (y : V), V.ref lr = .ref l ∧ [u] = [y] ∧ H6 l = some (.lst xs) ∧ xs.length < sizeLine ∧ ∃ (fs : List Pg) (ws : List V) (z3 z4 : Option V), [some v, some (.ref t), some (.ref lr), y3, y4] = [some v, some (.ref t), some (.ref lr), z3, z4] ∧ Same H (upd H6 l (.lst (xs ++ [y]))) ∧ (upd H6 l (.lst (xs ++ [y]))) le = some (.lst ks) ∧ Ats K (upd H6 l (.lst (xs ++ [y]))) ks (kn p) ∧ (kn p).drop (ks.length - (i + 1)) = knf fs ∧ (upd H6 l (.lst (xs ++ [y]))) lr = some (.lst ws.reverse) ∧ Ats K (upd H6 l (.lst (xs ++ [y]))) ws (fs.map (psub ss)) := fun y3 y4 u H6 s6 hu => by
      have hlr6 := s6 _ _ hlr5
      have t7 : Tp K H6 (upd H6 lr (.lst (w2.reverse ++ [u]))) := Tp.lst hlr6
      refine ⟨lr, _, u, rfl, rfl, hlr6, by rw [List.length_reverse]; exact smallL (by omega), x :: rest, u :: w2, y3, y4, rfl, fun b o hb => ?_, by rw [upd_ne nler]; exact s6 _ _ hle5, (hks5.keep (Tp.same s6)).keep t7, hdr, by rw [upd_same, List.reverse_cons], .cons (hu.keep t7) ((hw25.keep (Tp.same s6)).keep t7)⟩
      rw [upd_ne (ne_of_none hb hlr)]
      exact s6 _ _ (sm5 b o hb)
    refine ⟨_, rfl, a, _, 0, _, rfl, rfl, ha5, at_word x vs, rfl, _, rfl, ite2 (fun z => ?_) (fun z => ?_)⟩
    · have z' : V.str (word x) = V.str "in" := of_decide_eq_true z
      obtain ⟨k, rfl⟩ := word_in z'
      have hk : k < ss.length := hlx
      have hus5 : Ats K H5 us ss := hus.keep (Tp.same sm5)
      obtain ⟨uk, huk⟩ : ∃ u, us[k]? = some u := ⟨_, List.getElem?_eq_getElem (by rw [hus.len]; exact hk)⟩
      obtain ⟨s', hs', has⟩ := hus5.get k _ huk
      refine ⟨_, rfl, .inl ⟨rfl, _, SqL.of hlr5⟩, _, rfl, _, rfl, a, _, 1, .int k, rfl, rfl, ha5, at_of (j := 1) rfl rfl, t, us, _, uk, rfl, rfl, Tp.same sm5 _ _ ht, at_of (j := k) rfl huk, ?_⟩
      refine fin _ _ _ H5 (Same.refl _) ?_
      show At K H5 uk (ss.getD k (.inp k))
      rw [List.getD_eq_getElem?_getD, hs']
      exact has
    · have hni : ∀ k, x ≠ .inp k := fun k e => z (decide_eq_true (by rw [e]; rfl))
      obtain ⟨ef, ep⟩ := psub_front ss x hni
      refine ⟨_, rfl, .inl ⟨rfl, _, SqL.of hlr5⟩, _, rfl, .ref a, x, rfl, hax.keep tp5, fun ft H6 s6 hf => ?_⟩
      have fl := front_len x
      have fne : front x ≠ [] := fun e => by rw [e] at fl; simp at fl; omega
      have hw16 : Ats K H6 w1 (parts (psub ss x)) := by rw [ep]; exact hw15.keep (Tp.same s6)
      have htt : SqT K H6 tt w1 := .inl (.inl (s6 _ _ ht5))
      refine ⟨_, rfl, ft, tt, _, _, rfl, rfl, hf, htt, ?_, fun e => absurd e fne, fun _ e => ?_, fun _ e p2 hp2 => ?_⟩
      · have : nn x ≤ 1 := by cases x <;> simp [nn]
        exact small (by omega)
      · refine fin _ _ _ H6 s6 ?_
        subst e
        exact At.make (vs := []) (by rw [ef, List.append_nil]; exact hf) hw16
      · have s7 : Same H6 (upd H6 p2 (.tup (front x ++ w1))) := same_new hp2
        refine fin _ _ _ _ (s6.trans s7) ?_
        exact At.make (vs := w1) (by rw [ef]; exact .inl (.inl upd_same)) (hw16.keep (Tp.same s7))
  · rintro σ' H' ⟨fs, ws, y3, y4, rfl, sm, hle', hks', hdrop, hlr', hws⟩
    rw [Nat.sub_self, List.drop_zero, ← knf_one] at hdrop
    have ef := knf_inj _ _ _ (Nat.le_refl _) hdrop
    subst ef
    obtain ⟨u, rfl, hu⟩ := Ats.one hws
    exact ⟨_, rfl, lr, _, 0, u, rfl, rfl, SqL.of hlr', rfl, q u H' sm hu⟩
end
end Lm

set_option Elab.async false
set_option linter.all false
set_option maxRecDepth 100000
set_option maxHeartbeats 2000000
namespace Lm
open PySem PySem.Spec PyProof.Rows L2 LmR
theorem iteYs {c : Prop} [Decidable c] {A B : Prop} (h : c) (a : A) : if c then A else B := by rw [if_pos h]; exact a
/-! ### stocks, as any data -/
def wholeD (d : PyData) : Bool := isInt d && !isBl d
/-- a thing with its weight, of a part's form -/
def pairD (word : Bool) : PyData → Bool
  | .tuple [a, b] => wholeD b && (if word then isStr a else wholeD a)
  | _ => false
section
variable {P : Program} {w : World} {K : PySem.W.Frag} {mg : Str → Option Value} {base : Heap}
abbrev s_is_pair : Stmt := topS 36
theorem sc_is_pair : FnScope ["part", "pair"] ["part", "pair"] (defScope s_is_pair) := ⟨rfl, rfl, rfl, by decide +kernel, rfl, by decide +kernel, by decide +kernel⟩
def partS (k : Nat) : Str := if k = 0 then "number" else if k = 1 then "step" else "word"
def spPair (K : PySem.W.Frag) : Sp := fun vs H Q _ => ∃ (k : Nat) (v : V) (d : PyData), vs = [.str (partS k), v] ∧ k ≤ 2 ∧ Fd K H v d ∧ Q (.bl (pairD (k == 2) d)) H
theorem ok_is_pair (B : Bt mg) (C_is_whole : Cal P w K mg base 1 "is_whole" ["thing"] (spWhole K)) (D : DefAt K mg "is_pair" s_is_pair ["part", "pair"]) : Cal P w K mg base 2 "is_pair" ["part", "pair"] (spPair K) := by
  refine cal_of D sc_is_pair (fun vs H Q E h => ?_) (fun f cdv A outer s H vs Q E hr h => ?_)
  · obtain ⟨k, v, d, rfl, _⟩ := h
    rfl
  obtain ⟨k, v, d, rfl, hk, hv, q⟩ := h
  have hr' : Room 1 _ := hr
  refine ⟨_, (pss_cons (ps_if (PW.pt (pw_or (pt_not (pt_val (pe_callB call_isi (by rfl) B.isinstance (by decide +kernel) (pa_cons (pv 1) (pa_cons (pe_bltn (v := .ty "tuple") (by rfl) B.tuple PyProof.Rows.boot_tuple rfl) pa_nil))))) (pw_or (pt_cmpR op_ne (pe_callB call_len_seq (by rfl) B.len PySem.boot_len (pa_cons (pv 1) pa_nil)) pe_int (nomark _)) (pw_or1 (pt_not (pt_val (pe_cal C_is_whole hr' (by rfl) (pa_cons (pe_ix ix_tup (pv 1) pe_int (fun _ _ => rfl)) pa_nil))))))))
        (pss_one (ps_ret pe_bl))
        pss_nil)
      (pss_cons (ps_if (pt_cmpR op_eq (pv 0) pe_str (nomark _))
        (pss_one (ps_ret (pe_callB call_isi (by rfl) B.isinstance (by decide +kernel) (pa_cons (pe_ix ix_tup (pv 1) pe_int (fun _ _ => rfl)) (pa_cons (pe_bltn (v := .ty "str") (by rfl) B.str PyProof.Rows.boot_str rfl) pa_nil)))))
        pss_nil)
      (pss_one (ps_ret (pe_cal C_is_whole hr' (by rfl) (pa_cons (pe_ix ix_tup (pv 1) pe_int (fun _ _ => rfl)) pa_nil)))))), ?_⟩
  refine ⟨_, rfl, v, _, _, _, _, rfl, .ty _, hv.ty, kit_tup d hv.1, _, rfl, ite2 (fun c => ?_) (fun c => ?_)⟩
  · have e : pairD (k == 2) d = false := by cases d <;> first | rfl | (simp [isTup] at c; done)
    rw [e] at q
    exact iteYs rfl q
  have it : isTup d = true := by simpa using c
  obtain ⟨ds, rfl⟩ : ∃ ds, d = .tuple ds := by cases d <;> first | exact ⟨_, rfl⟩ | (simp [isTup] at it; done)
  obtain ⟨a, xs, rfl, qa, r⟩ : ∃ a xs, v = .ref a ∧ SqT K H a xs ∧ DpAll K H xs ds := by
    cases hv.2 with
    | tup qa r => exact ⟨_, _, rfl, qa, r⟩
  have hl := dpall_len r
  refine ⟨_, rfl, a, xs, rfl, .inr qa, rfl, _, rfl, ite2 (fun c2 => ?_) (fun c2 => ?_)⟩
  · have n2 : ds.length ≠ 2 := fun z => by
      rw [hl, z] at c2
      simp at c2
    have e : pairD (k == 2) (.tuple ds) = false := by
      match ds, n2 with
      | [], _ => rfl
      | [k], _ => rfl
      | [k, l], z => exact absurd rfl z
      | k :: l :: m :: n, _ => rfl
    rw [e] at q
    exact iteYs rfl q
  obtain ⟨k1, k2, rfl⟩ : ∃ k1 k2, ds = [k1, k2] := by
    have n2 : ds.length = 2 := by
      have z : ((xs.length : Nat) : Int) = 2 := by simpa using c2
      omega
    match ds, n2 with
    | [k, l], _ => exact ⟨_, _, rfl⟩
  obtain ⟨v1, v2, rfl, r1, r2⟩ : ∃ v1 v2, xs = [v1, v2] ∧ Dp K H v1 k1 ∧ Dp K H v2 k2 := by
    cases r with
    | cons r1 r => cases r with
      | cons r2 r => cases r; exact ⟨_, _, rfl, r1, r2⟩
  have f12 : flat k1 = true ∧ flat k2 = true := by
    have fd := hv.1
    simpa [flat, flat.flats] using fd
  have h1 : Fd K H v1 k1 := ⟨f12.1, r1⟩
  have h2 : Fd K H v2 k2 := ⟨f12.2, r2⟩
  have ep : pairD (k == 2) (.tuple [k1, k2]) = (wholeD k2 && (if (k == 2) = true then isStr k1 else wholeD k1)) := rfl
  rw [ep] at q
  refine ⟨_, rfl, a, _, 1, v2, rfl, rfl, qa, rfl, v2, k2, rfl, h2, _, rfl, ite2 (fun c3 => ?_) (fun c3 => ?_)⟩
  · have e : wholeD k2 = false := by
      have z : (!wholeD k2) = true := c3
      simpa using z
    rw [e] at q
    exact q
  have e : wholeD k2 = true := by
    have z : ¬ (!wholeD k2) = true := c3
    simpa using z
  rw [e, Bool.true_and] at q
  have part : ∀ b : Bool, decide (V.str (partS k) = V.str "word") = b → b = (k == 2) := fun b hb => by
    rw [← hb]
    match k, hk with
    | 0, _ => decide +kernel
    | 1, _ => decide +kernel
    | 2, _ => decide +kernel
  refine ⟨_, rfl, rfl, _, rfl, ite2 (fun c4 => ?_) (fun c4 => ?_)⟩
  · have e4 := part _ c4
    rw [← e4, if_pos rfl] at q
    exact ⟨_, rfl, a, _, 0, v1, rfl, rfl, qa, rfl, v1, _, _, _, _, rfl, .ty _, h1.ty, kit_str k1 f12.1, q⟩
  · have e4 := part _ (Bool.eq_false_iff.mpr c4)
    rw [← e4, if_neg Bool.false_ne_true] at q
    exact ⟨_, rfl, a, _, 0, v1, rfl, rfl, qa, rfl, v1, k1, rfl, h1, q⟩
/-- the words that a stock may have -/
def stockW : List Str := ["yes", "no", "least", "most", "atmost", "not", "both", "either", "if"]
structure WordsG (K : PySem.W.Frag) (mg : Str → Option Value) (a : Addr) : Prop where
  g : mg "WORDS" = some (.ref a)
  t : ∀ H, SqT K H a (stockW.map V.str)
/-- what a key is: a number, or a text where words stand -/
def KeyOf (k : Nat) (v : V) : Prop := (k < 2 ∧ ∃ i : Int, v = .int i) ∨ (k = 2 ∧ ∃ s : Str, v = .str s)
def mayV (k : Nat) (v : V) : Bool := if k = 1 then !decide (v = .int 0) else (k == 0 || inV v (stockW.map V.str))
abbrev s_may_stand : Stmt := topS 38
theorem sc_may_stand : FnScope ["part", "key"] ["part", "key"] (defScope s_may_stand) := ⟨rfl, rfl, rfl, by decide +kernel, rfl, by decide +kernel, by decide +kernel⟩
def spMay : Sp := fun vs H Q _ => ∃ (k : Nat) (v : V), vs = [.str (partS k), v] ∧ k ≤ 2 ∧ KeyOf k v ∧ Q (.bl (mayV k v)) H
theorem ok_may_stand {aW : Addr} (B : Bt mg) (W : WordsG K mg aW) (D : DefAt K mg "may_stand" s_may_stand ["part", "key"]) : Cal P w K mg base 1 "may_stand" ["part", "key"] (spMay) := by
  refine cal_of D sc_may_stand (fun vs H Q E h => ?_) (fun f cdv A outer s H vs Q E hr h => ?_)
  · obtain ⟨k, v, rfl, _⟩ := h
    rfl
  obtain ⟨k, v, rfl, hk, hv, q⟩ := h
  have hWORDS := W.g
  refine ⟨_, (pss_cons (ps_if (pt_cmpR op_eq (pv 0) pe_str (nomark _))
        (pss_one (ps_ret (pe_cmpR op_ne (pv 1) pe_int (nomark _))))
        pss_nil)
      (pss_one (ps_ret (pe_or (pe_cmpR op_eq (pv 0) pe_str (nomark _)) (pe_one (pe_cmpR op_in_seq (pv 1) (pe_glob (v := .ref _) (by rfl) hWORDS rfl) rfl)))))), ?_⟩
  rcases hv with ⟨k2, i, rfl⟩ | ⟨rfl, z, rfl⟩
  · rcases (show k = 0 ∨ k = 1 by omega) with rfl | rfl
    · have e : mayV 0 (.int i) = true := by simp [mayV]
      rw [e] at q
      refine ⟨_, rfl, rfl, _, rfl, ite2 (fun c => absurd c (by decide +kernel)) (fun _ => ⟨_, rfl, rfl, _, rfl, ite2 (fun _ => q) (fun c => absurd (by decide +kernel) c)⟩)⟩
    · refine ⟨_, rfl, rfl, _, rfl, ite2 (fun _ => ⟨_, rfl, rfl, ?_⟩) (fun c => absurd (by decide +kernel) c)⟩
      have e : mayV 1 (.int i) = !decide (V.int i = V.int 0) := by simp [mayV]
      rw [e] at q
      exact q
  · have e : mayV 2 (.str z) = inV (.str z) (stockW.map V.str) := by simp [mayV]
    rw [e] at q
    refine ⟨_, rfl, rfl, _, rfl, ite2 (fun c => absurd c (by decide +kernel)) (fun _ => ⟨_, rfl, rfl, _, rfl, ite2 (fun c => absurd c (by decide +kernel)) (fun _ => ?_)⟩)⟩
    exact ⟨_, rfl, aW, _, rfl, .inr (W.t H), rfl, rfl, q⟩
end
end Lm

set_option Elab.async false
set_option linter.all false
set_option maxRecDepth 100000
set_option maxHeartbeats 2000000
namespace Lm
open PySem PySem.Spec PyProof.Rows L2 LmR
def pairsD (word : Bool) : PyData → Bool
  | .tuple ds => ds.all (pairD word)
  | _ => false
theorem sqT_same {K : PySem.W.Frag} {H H' : Hp} {a : Addr} {xs : List V} (s : Same H H') (h : SqT K H a xs) : SqT K H' a xs := by
  rcases h with (h | ⟨o, h⟩) | h
  · exact .inl (.inl (s _ _ h))
  · exact .inl (.inr ⟨o, s _ _ h⟩)
  · exact .inr h
theorem flats_nthD : ∀ ds : List PyData, flat.flats ds = true → ∀ (i : Nat) (d : PyData), ds[i]? = some d → flat d = true
  | [], _, _, _, h => by simp at h
  | d :: ds, a, i, e, h => by
    rw [flat.flats, Bool.and_eq_true] at a
    cases i with
    | zero => simp at h; rw [← h]; exact a.1
    | succ i => exact flats_nthD ds a.2 i e (by simpa using h)
section
variable {P : Program} {w : World} {K : PySem.W.Frag} {mg : Str → Option Value} {base : Heap}
abbrev s_are_pairs : Stmt := topS 35
theorem sc_are_pairs : FnScope ["part", "pairs", "pair"] ["part", "pairs"] (defScope s_are_pairs) := ⟨rfl, rfl, rfl, by decide +kernel, rfl, by decide +kernel, by decide +kernel⟩
def spPairs (K : PySem.W.Frag) : Sp := fun vs H Q _ => ∃ (k : Nat) (v : V) (d : PyData), vs = [.str (partS k), v] ∧ k ≤ 2 ∧ Fd K H v d ∧ dsz d ≤ 1000 ∧ ∀ H', Same H H' → Q (.bl (pairsD (k == 2) d)) H'
theorem ok_are_pairs (B : Bt mg) (C_is_pair : Cal P w K mg base 2 "is_pair" ["part", "pair"] (spPair K)) (D : DefAt K mg "are_pairs" s_are_pairs ["part", "pairs"]) : Cal P w K mg base 3 "are_pairs" ["part", "pairs"] (spPairs K) := by
  refine cal_of D sc_are_pairs (fun vs H Q E h => ?_) (fun f cdv A outer s H vs Q E hr h => ?_)
  · obtain ⟨k, v, d, rfl, _⟩ := h
    rfl
  obtain ⟨k, v, d, rfl, hk, hv, hz, q⟩ := h
  have hr' : Room 2 _ := hr
  refine ⟨_, (pss_one (ps_ret (pe_and (pe_callB call_isi (by rfl) B.isinstance (by decide +kernel) (pa_cons (pv 1) (pa_cons (pe_bltn (v := .ty "tuple") (by rfl) B.tuple PyProof.Rows.boot_tuple rfl) pa_nil))) (pe_one (pe_callB (cr_all rfl) (by rfl) B.all PyProof.Rows.boot_all (pa_cons (pe_lc (own := [("pair", 2)]) (g := gName 2) rfl sc_are_pairs.nd (pi_tup (pv 1)) (blkOk_by (own := [("pair", 2)]) (N := ["part", "pairs", "pair"]) (sc := defScope s_are_pairs) (by decide +kernel)) (fun _ _ _ _ _ => (pg_name (i := 2) sc_are_pairs.nd rfl (.inl rfl))) (fun _ _ _ _ _ => pts_nil) (fun _ _ _ _ _ => (pe_cal C_is_pair hr' (by rfl) (pa_cons (pv 0) (pa_cons (pv 2) pa_nil))))) pa_nil)))))), ?_⟩
  refine ⟨_, rfl, v, _, _, _, _, rfl, .ty _, hv.ty, kit_tup d hv.1, _, rfl, ite2 (fun c => ?_) (fun c => ?_)⟩
  · obtain ⟨ds, rfl⟩ : ∃ ds, d = .tuple ds := by cases d <;> first | exact ⟨_, rfl⟩ | (simp [isTup] at c; done)
    obtain ⟨a, xs, rfl, qa, r⟩ : ∃ a xs, v = .ref a ∧ SqT K H a xs ∧ DpAll K H xs ds := by
      cases hv.2 with
      | tup qa r => exact ⟨_, _, rfl, qa, r⟩
    have hl := dpall_len r
    have hkz : ds.length ≤ 1000 := by
      have z := dszs_len ds
      simp [dsz] at hz
      omega
    have fd : flat.flats ds = true := by
      have := hv.1
      simpa [flat] using this
    refine ⟨_, rfl, a, rfl, ⟨_, qa⟩, fun D hD => lc_tup (K := K) (a := a) (xs := xs) (fun j H' => Same H H' ∧ H' D = some (.lst (((ds.take j).map (pairD (k == 2))).map V.bl))) ?_ ?_ ?_ ?_⟩
    · exact ⟨same_new hD, upd_same⟩
    · rintro j H' _ ⟨s', _⟩
      exact sqT_same s' qa
    · rintro j x H' hx ⟨s', hD'⟩
      obtain ⟨e, he, re⟩ := dpall_get r j x hx
      have fe : Fd K H' x e := Fd.keep ⟨flats_nthD ds fd j e he, re⟩ (fun _ _ h => sqT_same s' h)
      have jl : j < ds.length := (List.getElem?_eq_some_iff.mp he).1
      refine ⟨rfl, _, rfl, _, rfl, k, x, e, rfl, hk, fe, _, hD', by rw [List.length_map, List.length_map, List.length_take]; exact smallL (by omega), fun b o z => ?_, ?_⟩
      · rw [upd_ne (ne_of_none z hD)]
        exact s' _ _ z
      · rw [upd_same, List.take_add_one, he, List.map_append, List.map_append]
        rfl
    · rintro H' ⟨s', hD'⟩
      refine ⟨D, (ds.take xs.length).map (pairD (k == 2)), rfl, SqL.of hD', ?_⟩
      rw [hl, List.take_length, List.all_map]
      exact q H' s'
  · have e : pairsD (k == 2) d = false := by cases d <;> first | rfl | (simp [isTup] at c; done)
    have q' := q H (Same.refl _)
    rw [e] at q'
    exact q'
end
end Lm

set_option Elab.async false
set_option linter.all false
set_option maxRecDepth 100000
set_option maxHeartbeats 2000000
namespace Lm
open PySem PySem.Spec PyProof.Rows L2 LmR RZ
/-- a stock's form -/
def tripleD : PyData → Bool
  | .tuple [a, b, c] => pairsD false a && (pairsD false b && pairsD true c)
  | _ => false
theorem walk_zipT {K : PySem.W.Frag} {a b : Addr} {xs ys : List V} {n : Nat} (hn : n = min xs.length ys.length) : Walk (ItzT K a b) n (fun H => SqT K H a xs ∧ SqT K H b ys) (YPair (fun i => xs[i]?) (fun i => ys[i]?)) := by
  subst hn
  refine ⟨fun i _ hi q => ?_, fun _ q => ⟨xs, ys, q.1, q.2, by omega⟩, fun i H v H' _ q y => ?_⟩
  · have h1 : i < xs.length := by omega
    have h2 : i < ys.length := by omega
    exact ⟨xs, ys, xs[i], ys[i], q.1, q.2, by simp [h1], by simp [h2]⟩
  · obtain ⟨T, x, z, h1, h2, h3, h4, h5⟩ := y
    exact ⟨T, x, z, h1, h2, h3, h4 xs q.1, h5 ys q.2⟩
structure PartsG (K : PySem.W.Frag) (mg : Str → Option Value) (a : Addr) : Prop where
  g : mg "PARTS" = some (.ref a)
  t : ∀ H, SqT K H a [.str "number", .str "step", .str "word"]
section
variable {P : Program} {w : World} {K : PySem.W.Frag} {mg : Str → Option Value} {base : Heap}
abbrev s_is_triple : Stmt := topS 34
theorem sc_is_triple : FnScope ["thing", "part", "pairs"] ["thing"] (defScope s_is_triple) := ⟨rfl, rfl, rfl, by decide +kernel, rfl, by decide +kernel, by decide +kernel⟩
def spTriple (K : PySem.W.Frag) : Sp := fun vs H Q _ => ∃ (v : V) (d : PyData), vs = [v] ∧ Fd K H v d ∧ dsz d ≤ 1000 ∧ ∀ H', Same H H' → Q (.bl (tripleD d)) H'
theorem ok_is_triple {aP : Addr} (B : Bt mg) (PG : PartsG K mg aP) (C_are_pairs : Cal P w K mg base 3 "are_pairs" ["part", "pairs"] (spPairs K)) (D : DefAt K mg "is_triple" s_is_triple ["thing"]) : Cal P w K mg base 4 "is_triple" ["thing"] (spTriple K) := by
  refine cal_of D sc_is_triple (fun vs H Q E h => ?_) (fun f cdv A outer s H vs Q E hr h => ?_)
  · obtain ⟨v, d, rfl, _⟩ := h
    rfl
  obtain ⟨v, d, rfl, hv, hz, q⟩ := h
  have hr' : Room 3 _ := hr
  have hPARTS := PG.g
  refine ⟨_, (pss_cons (ps_if (PW.pt (pw_or (pt_not (pt_val (pe_callB call_isi (by rfl) B.isinstance (by decide +kernel) (pa_cons (pv 0) (pa_cons (pe_bltn (v := .ty "tuple") (by rfl) B.tuple PyProof.Rows.boot_tuple rfl) pa_nil))))) (pw_or1 (pt_cmpR op_ne (pe_callB call_len_seq (by rfl) B.len PySem.boot_len (pa_cons (pv 0) pa_nil)) pe_int (nomark _)))))
        (pss_one (ps_ret pe_bl))
        pss_nil)
      (pss_one (ps_ret (pe_callB (cr_all rfl) (by rfl) B.all PyProof.Rows.boot_all (pa_cons (pe_lc (own := [("part", 1), ("pairs", 2)]) (g := gTup K 2 (gCons (gName 1) (gCons (gName 2) gNil))) rfl sc_is_triple.nd (pi_zipA (by rfl) B.zip (pa_cons (pe_glob (v := .ref _) (by rfl) hPARTS rfl) (pa_cons (pv 0) pa_nil))) (blkOk_by (own := [("part", 1), ("pairs", 2)]) (N := ["thing", "part", "pairs"]) (sc := defScope s_is_triple) (by decide +kernel)) (fun _ _ _ _ _ => (pg_tupK (K := K) rfl rfl (pgs_cons (pg_name (i := 1) sc_is_triple.nd rfl (.inl rfl)) (pgs_cons (pg_name (i := 2) sc_is_triple.nd rfl (.inl rfl)) pgs_nil)))) (fun _ _ _ _ _ => pts_nil) (fun _ _ _ _ _ => (pe_cal C_are_pairs hr' (by rfl) (pa_cons (pv 1) (pa_cons (pv 2) pa_nil))))) pa_nil))))), ?_⟩
  have no : tripleD d = false → Q (.bl false) H := fun e => by
    have q' := q H (Same.refl _)
    rw [e] at q'
    exact q'
  refine ⟨_, rfl, v, _, _, _, _, rfl, .ty _, hv.ty, kit_tup d hv.1, _, rfl, ite2 (fun c => ?_) (fun c => ?_)⟩
  · exact iteYs rfl (no (by cases d <;> first | rfl | (simp [isTup] at c; done)))
  have it : isTup d = true := by simpa using c
  obtain ⟨ds, rfl⟩ : ∃ ds, d = .tuple ds := by cases d <;> first | exact ⟨_, rfl⟩ | (simp [isTup] at it; done)
  obtain ⟨a, xs, rfl, qa, r⟩ : ∃ a xs, v = .ref a ∧ SqT K H a xs ∧ DpAll K H xs ds := by
    cases hv.2 with
    | tup qa r => exact ⟨_, _, rfl, qa, r⟩
  have hl := dpall_len r
  refine ⟨_, rfl, a, xs, rfl, .inr qa, rfl, _, rfl, ite2 (fun c2 => ?_) (fun c2 => ?_)⟩
  · have n3 : ds.length ≠ 3 := fun z => by
      rw [hl, z] at c2
      simp at c2
    refine no ?_
    match ds, n3 with
    | [], _ => rfl
    | [_], _ => rfl
    | [_, _], _ => rfl
    | [_, _, _], z => exact absurd rfl z
    | _ :: _ :: _ :: _ :: _, _ => rfl
  obtain ⟨k1, k2, k3, rfl⟩ : ∃ k1 k2 k3, ds = [k1, k2, k3] := by
    have n3 : ds.length = 3 := by
      have z : ((xs.length : Nat) : Int) = 3 := by simpa using c2
      omega
    match ds, n3 with
    | [k, l, m], _ => exact ⟨_, _, _, rfl⟩
  obtain ⟨v1, v2, v3, rfl, r1, r2, r3⟩ : ∃ v1 v2 v3, xs = [v1, v2, v3] ∧ Dp K H v1 k1 ∧ Dp K H v2 k2 ∧ Dp K H v3 k3 := by
    cases r with
    | cons r1 r => cases r with
      | cons r2 r => cases r with
        | cons r3 r => cases r; exact ⟨_, _, _, rfl, r1, r2, r3⟩
  have ff : flat k1 = true ∧ flat k2 = true ∧ flat k3 = true := by
    have fd := hv.1
    simpa [flat, flat.flats] using fd
  have zz : dsz k1 ≤ 1000 ∧ dsz k2 ≤ 1000 ∧ dsz k3 ≤ 1000 := by
    simp [dsz, dsz.dszs] at hz
    omega
  refine ⟨_, rfl, aP, a, _, _, rfl, .inr ⟨PG.t H, qa, fun D hD => lc_it (walk_zipT (K := K) (a := aP) (b := a) (xs := [.str "number", .str "step", .str "word"]) (ys := [v1, v2, v3]) (n := 3) rfl) (fun j H' => Same H H' ∧ H' D = some (.lst ((([pairsD false k1, pairsD false k2, pairsD true k3] : List Bool).take j).map V.bl))) ?_ ?_ ?_ ?_⟩⟩
  · exact ⟨same_new hD, upd_same⟩
  · rintro j H' _ ⟨s', _⟩
    exact ⟨PG.t H', sqT_same s' qa⟩
  · rintro j x H1 H2 hj ⟨s', hD'⟩ ⟨T, p, y, rfl, hT, rfl, hp, hy⟩
    have sm2 : Same H1 (upd H1 T (.tup [p, y])) := same_new hT
    refine ⟨T, _, rfl, .inl (.inl upd_same), rfl, _, _, rfl, _, _, rfl, rfl, ?_⟩
    have go : ∀ (k : Nat) (d : PyData), k ≤ 2 → j = k → p = .str (partS k) → Dp K H y d → flat d = true → dsz d ≤ 1000 → ([pairsD false k1, pairsD false k2, pairsD true k3] : List Bool)[k]? = some (pairsD (k == 2) d) → spPairs K [p, y] (upd H1 T (.tup [p, y])) (fun v H4 => ∃ acc, H4 D = some (.lst acc) ∧ acc.length < sizeLine ∧ (Same H (upd H4 D (.lst (acc ++ [v]))) ∧ (upd H4 D (.lst (acc ++ [v]))) D = some (.lst ((([pairsD false k1, pairsD false k2, pairsD true k3] : List Bool).take (j + 1)).map V.bl)))) (fun _ _ _ => False) := fun k d hk ej ep hd fd hz hb => by
      subst ej ep
      refine ⟨j, y, d, rfl, hk, Fd.keep ⟨fd, hd⟩ (Tp.same (s'.trans sm2)), hz, fun H4 s4 => ?_⟩
      have hD4 := s4 _ _ (sm2 _ _ hD')
      refine ⟨_, hD4, by rw [List.length_map, List.length_take]; exact smallL (by show min j 3 ≤ 100000; omega), fun b o z => ?_, ?_⟩
      · rw [upd_ne (ne_of_none z hD)]
        exact s4 _ _ (sm2 _ _ (s' _ _ z))
      · rw [upd_same, List.take_add_one, hb, List.map_append]
        rfl
    rcases (show j = 0 ∨ j = 1 ∨ j = 2 by omega) with e | e | e
    · subst e
      simp only [List.getElem?_cons_zero, Option.some.injEq] at hp hy
      subst hp hy
      exact ⟨rfl, _, rfl, _, rfl, go 0 k1 (by decide) rfl rfl r1 ff.1 zz.1 rfl⟩
    · subst e
      simp only [List.getElem?_cons_zero, List.getElem?_cons_succ, Option.some.injEq] at hp hy
      subst hp hy
      exact ⟨rfl, _, rfl, _, rfl, go 1 k2 (by decide) rfl rfl r2 ff.2.1 zz.2.1 rfl⟩
    · subst e
      simp only [List.getElem?_cons_zero, List.getElem?_cons_succ, Option.some.injEq] at hp hy
      subst hp hy
      exact ⟨rfl, _, rfl, _, rfl, go 2 k3 (by decide) rfl rfl r3 ff.2.2 zz.2.2 rfl⟩
  · rintro H' ⟨s', hD'⟩
    refine ⟨D, [pairsD false k1, pairsD false k2, pairsD true k3], rfl, SqL.of hD', ?_⟩
    have e : ([pairsD false k1, pairsD false k2, pairsD true k3] : List Bool).all id = tripleD (.tuple [k1, k2, k3]) := by simp [tripleD]
    rw [e]
    exact q H' s'
end
end Lm

set_option Elab.async false
set_option linter.all false
set_option maxRecDepth 100000
set_option maxHeartbeats 2000000
namespace Lm
open PySem PySem.Spec PyProof.Rows L2 LmR RZ
/-- a key's value -/
def keyV : PyData → V
  | .int i => .int i
  | .str s => .str s
  | _ => .non
/-- the first pair that may not stand, from the n-th on, these keys ahead -/
def amissD (k : Nat) : List PyData → List V → Nat → Option Nat
  | [], _, _ => none
  | .tuple [kd, .int load] :: ds, ah, n => if (inV (keyV kd) ah || (decide (load < 1) || !mayV k (keyV kd))) = true then some n else amissD k ds (ah ++ [keyV kd]) (n + 1)
  | _ :: _, _, n => some n
def optV : Option Nat → V
  | none => .non
  | some n => .int (n : Nat)
/-- a pair of the form, read -/
theorem pair_of {k : Nat} {d : PyData} (hk : k ≤ 2) (h : pairD (k == 2) d = true) : ∃ kd load, d = .tuple [kd, .int load] ∧ KeyOf k (keyV kd) ∧ flatV (keyV kd) = true ∧ ∀ {K : PySem.W.Frag} {H : Hp} {x : V}, Dp K H x kd → x = keyV kd := by
  obtain ⟨a, b, rfl⟩ : ∃ a b, d = .tuple [a, b] := by
    unfold pairD at h
    split at h
    · exact ⟨_, _, rfl⟩
    · cases h
  have hb : wholeD b = true ∧ (if (k == 2) = true then isStr a else wholeD a) = true := by
    have : (wholeD b && (if (k == 2) = true then isStr a else wholeD a)) = true := h
    simpa using this
  obtain ⟨load, rfl⟩ : ∃ load, b = .int load := by
    cases b <;> first | exact ⟨_, rfl⟩ | (exfalso; revert hb; simp [wholeD, isInt, isBl])
  by_cases e : k = 2
  · subst e
    obtain ⟨s, rfl⟩ : ∃ s, a = .str s := by
      cases a <;> first | exact ⟨_, rfl⟩ | (exfalso; revert hb; simp [isStr])
    exact ⟨_, _, rfl, .inr ⟨rfl, s, rfl⟩, rfl, fun h => by cases h; rfl⟩
  · have e2 : (k == 2) = false := by simpa using e
    rw [e2] at hb
    obtain ⟨i, rfl⟩ : ∃ i, a = .int i := by
      cases a <;> first | exact ⟨_, rfl⟩ | (exfalso; revert hb; simp [wholeD, isInt, isBl])
    exact ⟨_, _, rfl, .inl ⟨by omega, i, rfl⟩, rfl, fun h => by cases h; rfl⟩
section
variable {P : Program} {w : World} {K : PySem.W.Frag} {mg : Str → Option Value} {base : Heap}
abbrev s_first_amiss : Stmt := topS 37
theorem sc_first_amiss : FnScope ["part", "pairs", "ahead", "at", "key", "load"] ["part", "pairs"] (defScope s_first_amiss) := ⟨rfl, rfl, rfl, by decide +kernel, rfl, by decide +kernel, by decide +kernel⟩
def spAmiss (K : PySem.W.Frag) : Sp := fun vs H Q _ => ∃ (k : Nat) (v : V) (ds : List PyData), vs = [.str (partS k), v] ∧ k ≤ 2 ∧ Fd K H v (.tuple ds) ∧ ds.length ≤ 1000 ∧ ds.all (pairD (k == 2)) = true ∧ ∀ H', Same H H' → Q (optV (amissD k ds [] 0)) H'
theorem ok_first_amiss (B : Bt mg) (C_may_stand : Cal P w K mg base 1 "may_stand" ["part", "key"] (spMay)) (D : DefAt K mg "first_amiss" s_first_amiss ["part", "pairs"]) : Cal P w K mg base 2 "first_amiss" ["part", "pairs"] (spAmiss K) := by
  refine cal_of D sc_first_amiss (fun vs H Q E h => ?_) (fun f cdv A outer s H vs Q E hr h => ?_)
  · obtain ⟨k, v, ds, rfl, _⟩ := h
    rfl
  obtain ⟨k, v, ds, rfl, hk, hv, hz, hp, q⟩ := h
  have hr' : Room 1 _ := hr
  refine ⟨_, (pss_cons (ps_set (i := 2) sc_first_amiss.nd rfl (.inl rfl) (pe_lst pa_nil))
      (pss_cons (ps_for PassesOwn.never rfl (pi_enumT (by rfl) B.enumerate (pa_cons (pv 1) pa_nil)) (pg_tup rfl (pgs_cons (pg_name (i := 3) sc_first_amiss.nd rfl (.inl rfl)) (pgs_cons (pg_tup rfl (pgs_cons (pg_name (i := 4) sc_first_amiss.nd rfl (.inl rfl)) (pgs_cons (pg_name (i := 5) sc_first_amiss.nd rfl (.inl rfl)) pgs_nil))) pgs_nil)))
        (pss_cons (ps_if (PW.pt (pw_or (pt_cmpR op_in_seq (pv 4) (pv 2) rfl) (pw_or (pt_cmpR op_lt (pv 5) pe_int (nomark _)) (pw_or1 (pt_not (pt_val (pe_cal C_may_stand hr' (by rfl) (pa_cons (pv 0) (pa_cons (pv 4) pa_nil)))))))))
        (pss_one (ps_ret (pv 3)))
        pss_nil)
      (pss_one (ps_expr (pe_bm PySem.F.plainAttrs_list PySem.F.slot_list_append PySem.F.type_list_append mt_append (pv 2) (pa_cons (pv 4) pa_nil))))))
      (pss_one (ps_ret pe_non)))), ?_⟩
  obtain ⟨a, xs, rfl, qa, r⟩ : ∃ a xs, v = .ref a ∧ SqT K H a xs ∧ DpAll K H xs ds := by
    cases hv.2 with
    | tup qa r => exact ⟨_, _, rfl, qa, r⟩
  have hl := dpall_len r
  refine ⟨(by show 0 ≤ sizeLine; decide), fun L hL => ?_⟩
  have s1 := same_new (o := .lst []) hL
  have e1 : (upd H L (.lst [])) L = some (.lst []) := upd_same
  generalize upd H L (.lst []) = H1 at s1 e1
  refine ⟨_, rfl, a, xs, rfl, sqT_same s1 qa, for_enumT (K := K) (xs := xs) (fun i σ H' => (∃ y3 y4 y5 : Option V, σ = [some (.str (partS k)), some (.ref a), some (.ref L), y3, y4, y5]) ∧ Same H H' ∧ ∃ ah : List V, H' L = some (.lst ah) ∧ ah.length = i ∧ ah.all flatV = true ∧ amissD k ds [] 0 = amissD k (ds.drop i) ah i) ?_ ?_ ?_ ?_⟩
  · exact ⟨⟨_, _, _, rfl⟩, s1, [], e1, rfl, rfl, by rw [List.drop_zero]⟩
  · rintro i σ H' ⟨_, s', _⟩
    exact sqT_same s' qa
  · rintro i x σ H' T hx ⟨⟨y3, y4, y5, rfl⟩, s', ah, eL, la, fa, ea⟩ hT
    have sm2 := same_new (o := .tup [.int (i : Nat), x]) hT
    obtain ⟨dx, hdx, hDx⟩ := dpall_get r i x hx
    have px := List.all_eq_true.mp hp dx (List.mem_of_getElem? hdx)
    obtain ⟨kd, load, rfl, kk, fk, rd⟩ := pair_of hk px
    obtain ⟨b, ys, rfl, qb, rb⟩ : ∃ b ys, x = .ref b ∧ SqT K H b ys ∧ DpAll K H ys [kd, .int load] := by
      cases hDx with
      | tup qa r => exact ⟨_, _, rfl, qa, r⟩
    obtain ⟨v1, v2, rfl, r1, r2⟩ : ∃ v1 v2, ys = [v1, v2] ∧ Dp K H v1 kd ∧ Dp K H v2 (.int load) := by
      cases rb with
      | cons r1 r => cases r with
        | cons r2 r => cases r; exact ⟨_, _, rfl, r1, r2⟩
    have ev1 := rd r1
    subst ev1
    have ev2 : v2 = .int load := by cases r2; rfl
    subst ev2
    have hst : ds.drop i = .tuple [kd, .int load] :: ds.drop (i + 1) := by
      obtain ⟨hi, e⟩ := List.getElem?_eq_some_iff.mp hdx
      rw [List.drop_eq_getElem_cons hi, e]
    rw [hst] at ea
    have il : i < ds.length := (List.getElem?_eq_some_iff.mp hdx).1
    have ea' : amissD k ds [] 0 = if (inV (keyV kd) ah || (decide (load < 1) || !mayV k (keyV kd))) = true then some i else amissD k (ds.drop (i + 1)) (ah ++ [keyV kd]) (i + 1) := ea
    have qb2 := sqT_same (s'.trans sm2) qb
    have eL2 := sm2 _ _ eL
    have eT : (upd H' T (.tup [.int (i : Nat), .ref b])) T = some (.tup [.int (i : Nat), .ref b]) := upd_same
    have s2 := s'.trans sm2
    generalize upd H' T (.tup [.int (i : Nat), .ref b]) = H2 at qb2 eL2 eT s2
    refine ⟨T, _, rfl, .inl (.inl eT), rfl, _, _, rfl, _, _, rfl, b, _, rfl, qb2, rfl, _, _, rfl, _, _, rfl, rfl, rfl, ?_⟩
    have yes : (inV (keyV kd) ah || (decide (load < 1) || !mayV k (keyV kd))) = true → Q (.int (i : Nat)) H2 := fun c => by
      have q' := q H2 s2
      rw [ea', if_pos c] at q'
      exact q'
    refine ⟨_, rfl, _, rfl, L, ah, rfl, .inl (SqL.of eL2), fk, fa, _, rfl, ite2 (fun c1 => ?_) (fun c1 => ?_)⟩
    · exact iteYs rfl ⟨_, rfl, yes (by rw [show inV (keyV kd) ah = true from c1]; rfl)⟩
    have d1 : inV (keyV kd) ah = false := Bool.eq_false_iff.mpr c1
    refine ⟨_, rfl, _, _, rfl, rfl, _, rfl, ite2 (fun c2 => ?_) (fun c2 => ?_)⟩
    · exact iteYs rfl ⟨_, rfl, yes (by rw [d1, show decide (load < 1) = true from c2]; rfl)⟩
    have d2 : decide (load < 1) = false := Bool.eq_false_iff.mpr c2
    refine ⟨_, rfl, _, rfl, k, keyV kd, rfl, hk, kk, _, rfl, ite2 (fun c3 => ?_) (fun c3 => ?_)⟩
    · exact ⟨_, rfl, yes (by rw [d1, d2, show (!mayV k (keyV kd)) = true from c3]; rfl)⟩
    have d3 : (!mayV k (keyV kd)) = false := Bool.eq_false_iff.mpr c3
    refine ⟨_, rfl, .inl ⟨rfl, _, SqL.of eL2⟩, _, rfl, L, _, _, rfl, rfl, eL2, by rw [la]; exact smallL (by omega), ?_⟩
    refine ⟨⟨_, _, _, rfl⟩, fun b' o z => ?_, ah ++ [keyV kd], upd_same, by rw [List.length_append, la]; rfl, by rw [List.all_append, fa]; simp [fk], ?_⟩
    · rw [upd_ne (ne_of_none z hL)]
      exact s2 _ _ z
    · rw [ea', d1, d2, d3]
      rfl
  · rintro σ H' ⟨⟨y3, y4, y5, rfl⟩, s', ah, eL, la, fa, ea⟩
    have q' := q H' s'
    rw [ea, hl, List.drop_length] at q'
    exact q'
end
end Lm

set_option Elab.async false
set_option linter.all false
set_option maxRecDepth 100000
set_option maxHeartbeats 2000000
namespace Lm
open PySem PySem.Spec PyProof.Rows L2 LmR RZ
/-- the first thing amiss in the parts from the k-th on -/
def stFrom : List (List PyData) → Nat → Option (Str × Nat)
  | [], _ => none
  | ds :: r, k => match amissD k ds [] 0 with
    | some n => some (partS k, n)
    | none => stFrom r (k + 1)
theorem stF_none {ds : List PyData} {r : List (List PyData)} {k : Nat} (h : amissD k ds [] 0 = none) : stFrom (ds :: r) k = stFrom r (k + 1) := by
  show (match amissD k ds [] 0 with | some n => some (partS k, n) | none => stFrom r (k + 1)) = _
  rw [h]
theorem stF_some {ds : List PyData} {r : List (List PyData)} {k n : Nat} (h : amissD k ds [] 0 = some n) : stFrom (ds :: r) k = some (partS k, n) := by
  show (match amissD k ds [] 0 with | some n => some (partS k, n) | none => stFrom r (k + 1)) = _
  rw [h]
def stockD (d : PyData) : Option (Str × Nat) := if tripleD d = true then
    (match d with
    | .tuple [.tuple a, .tuple b, .tuple c] => stFrom [a, b, c] 0
    | _ => none)
  else some ("form", 0)
theorem triple_of {d : PyData} (h : tripleD d = true) : ∃ k1 k2 k3, d = .tuple [.tuple k1, .tuple k2, .tuple k3] ∧ k1.all (pairD false) = true ∧ k2.all (pairD false) = true ∧ k3.all (pairD true) = true := by
  unfold tripleD at h
  split at h
  · rename_i a b c
    have z : pairsD false a = true ∧ pairsD false b = true ∧ pairsD true c = true := by simpa using h
    cases a with
    | tuple k1 => cases b with
      | tuple k2 => cases c with
        | tuple k3 => exact ⟨_, _, _, rfl, z.1, z.2.1, z.2.2⟩
        | _ => cases z.2.2
      | _ => cases z.2.1
    | _ => cases z.1
  · cases h
section
variable {P : Program} {w : World} {K : PySem.W.Frag} {mg : Str → Option Value} {base : Heap}
abbrev s_NoStock : Stmt := (clsBody (topS 5)).getD 0 (.Pass ⟨0, 0, 0, 0⟩)
theorem sc_NoStock : FnScope ["self", "word", "at"] ["self", "word", "at"] (defScope s_NoStock) := ⟨rfl, rfl, rfl, by decide +kernel, rfl, by decide +kernel, by decide +kernel⟩
variable {c_NoStock i_NoStock : Addr} {f_NoStock : FuncData}
theorem ini_NoStock {P : Program} {w : World} {base : Heap} (R : Rf K mg "NoStock" "NoStock.__init__" c_NoStock i_NoStock f_NoStock s_NoStock ["word", "at"]) : FnOk P w K mg base (L2.CX P w) 1 i_NoStock f_NoStock ["self", "word", "at"] (spIni2 c_NoStock "word" "at") := by
  refine R.F.okX sc_NoStock (fun vs H Q E h => ?_) (fun cdv A outer s H vs Q E hr h => ?_)
  · obtain ⟨a, x, y, rfl, _⟩ := h
    rfl
  obtain ⟨a, x, y, rfl, ha, q⟩ := h
  refine ⟨_, pss_cons (ps_ost (pv 0) (pv 1)) (pss_one (ps_ost (pv 0) (pv 2))), ?_⟩
  refine ⟨_, rfl, _, rfl, a, _, rfl, R.o, R.fld _ (by simp), .inl ⟨ha, fun d hd nd => ⟨_, rfl, _, rfl, a, _, rfl, R.o, R.fld _ (by simp), .inr ⟨d, _, upd_same, ?_, by show 1 ≤ 900; decide, q d _ hd ?_ upd_same fun b h1 h2 => ?_⟩⟩⟩⟩
  · rw [upd_ne nd, upd_same]
  · rw [upd_ne (Ne.symm nd), upd_same]
  · rw [upd_ne h2, upd_ne h1, upd_ne h2]
def spLookS (K : PySem.W.Frag) (C : Addr) : Sp := fun vs H Q E => ∃ (v : V) (d : PyData), vs = [v] ∧ Fd K H v d ∧ dsz d ≤ 1000 ∧ (stockD d = none → ∀ H', Same H H' → Q (.bl true) H') ∧
  ∀ x n, stockD d = some (x, n) → ∀ a H', Same H H' → H' a = some (.xd [("at", .int (n : Nat)), ("word", .str x)]) → E (.ref C) (some a) H'
abbrev s_look_stock : Stmt := topS 28
theorem sc_look_stock : FnScope ["stock", "part", "pairs", "at"] ["stock"] (defScope s_look_stock) := ⟨rfl, rfl, rfl, by decide +kernel, rfl, by decide +kernel, by decide +kernel⟩
theorem ok_look_stock {aP : Addr} (B : Bt mg) (PG : PartsG K mg aP) (R_NoStock : Rf K mg "NoStock" "NoStock.__init__" c_NoStock i_NoStock f_NoStock s_NoStock ["word", "at"]) (C_is_triple : Cal P w K mg base 4 "is_triple" ["thing"] (spTriple K)) (C_first_amiss : Cal P w K mg base 2 "first_amiss" ["part", "pairs"] (spAmiss K)) (D : DefAt K mg "look_stock" s_look_stock ["stock"]) : CalX P w K mg base 5 "look_stock" ["stock"] (spLookS K c_NoStock) := by
  refine calx_of D sc_look_stock (fun vs H Q E h => ?_) (fun f cdv A outer s H vs Q E hr h => ?_)
  · obtain ⟨v, d, rfl, _⟩ := h
    rfl
  obtain ⟨v, d, rfl, hv, hz, q, qe⟩ := h
  have hr' : Room 4 _ := hr
  have C_first_amiss := C_first_amiss.mono (k := 4) (by decide)
  have hPARTS := PG.g
  have hr := hr'.mono (j := 2) (by decide)
  refine ⟨_, (pss_cons (ps_if (pt_not (pt_val (pe_cal C_is_triple hr' (by rfl) (pa_cons (pv 0) pa_nil))))
        (pss_one (ps_ref R_NoStock (ini_NoStock R_NoStock) hr rfl (takes_of rfl rfl rfl rfl) (by rfl) (pa_cons pe_str (pa_cons pe_int pa_nil))))
        pss_nil)
      (pss_cons (ps_for (passes_of rfl) rfl (pi_zipA (by rfl) B.zip (pa_cons (pe_glob (v := .ref _) (by rfl) hPARTS rfl) (pa_cons (pv 0) pa_nil))) (pg_tup rfl (pgs_cons (pg_name (i := 1) sc_look_stock.nd rfl (.inl rfl)) (pgs_cons (pg_name (i := 2) sc_look_stock.nd rfl (.inl rfl)) pgs_nil)))
        (pss_cons (ps_set (i := 3) sc_look_stock.nd rfl (.inl rfl) (pe_cal C_first_amiss hr' (by rfl) (pa_cons (pv 1) (pa_cons (pv 2) pa_nil))))
      (pss_one (ps_if (pt_cmpR op_notN (pv 3) pe_non (nomark _))
        (pss_one (ps_ref R_NoStock (ini_NoStock R_NoStock) hr rfl (takes_of rfl rfl rfl rfl) (by rfl) (pa_cons (pv 1) (pa_cons (pv 3) pa_nil))))
        pss_nil))))
      (pss_one (ps_ret pe_bl)))), ?_⟩
  refine ⟨_, rfl, v, d, rfl, hv, hz, fun H1 s1 => ⟨_, rfl, ite2 (fun c => ?_) (fun c => ?_)⟩⟩
  · have e : tripleD d = false := by
      have z : (!tripleD d) = true := c
      simpa using z
    have e2 : stockD d = some (("form" : Str), 0) := by unfold stockD; rw [e]; rfl
    exact mk_two fun a H' r => qe _ _ e2 a H' (s1.trans r.same) r.2.1
  have tr : tripleD d = true := by
    have z : ¬ (!tripleD d) = true := c
    simpa using z
  obtain ⟨k1, k2, k3, rfl, p1, p2, p3⟩ := triple_of tr
  have es : stockD (.tuple [.tuple k1, .tuple k2, .tuple k3]) = stFrom [k1, k2, k3] 0 := by unfold stockD; rw [tr]; rfl
  obtain ⟨a, xs, rfl, qa, r⟩ : ∃ a xs, v = .ref a ∧ SqT K H a xs ∧ DpAll K H xs [.tuple k1, .tuple k2, .tuple k3] := by
    cases hv.2 with
    | tup qa r => exact ⟨_, _, rfl, qa, r⟩
  obtain ⟨v1, v2, v3, rfl, r1, r2, r3⟩ : ∃ v1 v2 v3, xs = [v1, v2, v3] ∧ Dp K H v1 (.tuple k1) ∧ Dp K H v2 (.tuple k2) ∧ Dp K H v3 (.tuple k3) := by
    cases r with
    | cons r1 r => cases r with
      | cons r2 r => cases r with
        | cons r3 r => cases r; exact ⟨_, _, _, rfl, r1, r2, r3⟩
  have ff : flat (.tuple k1) = true ∧ flat (.tuple k2) = true ∧ flat (.tuple k3) = true := by
    have fd := hv.1
    simpa [flat, flat.flats] using fd
  have zz : k1.length ≤ 1000 ∧ k2.length ≤ 1000 ∧ k3.length ≤ 1000 := by
    have z1 := dszs_len k1
    have z2 := dszs_len k2
    have z3 := dszs_len k3
    simp [dsz, dsz.dszs] at hz
    omega
  refine ⟨_, rfl, aP, a, _, _, rfl, .inr ⟨PG.t H1, sqT_same s1 qa, for_zipT (K := K) (a := aP) (b := a) (xs := [.str "number", .str "step", .str "word"]) (ys := [v1, v2, v3]) rfl (fun i σ H' => (∃ y1 y2 y3 : Option V, σ = [some (.ref a), y1, y2, y3]) ∧ Same H H' ∧ stockD (.tuple [.tuple k1, .tuple k2, .tuple k3]) = stFrom ([k1, k2, k3].drop i) i) ?_ ?_ ?_ ?_⟩⟩
  · exact ⟨⟨_, _, _, rfl⟩, s1, es⟩
  · rintro i σ H' ⟨_, s', _⟩
    exact ⟨PG.t H', sqT_same s' qa⟩
  · rintro i x y T σ H' hx hy ⟨⟨y1, y2, y3, rfl⟩, s', ei⟩ hT
    have sm2 := same_new (o := .tup [x, y]) hT
    refine ⟨T, _, rfl, .inl (.inl upd_same), rfl, _, _, rfl, _, _, rfl, rfl, ?_⟩
    have sT := s'.trans sm2
    generalize upd H' T (.tup [x, y]) = H2 at sT
    obtain ⟨ds, hi, ex, fy, hz', hp', ed⟩ : ∃ ds, i ≤ 2 ∧ x = .str (partS i) ∧ Fd K H y (.tuple ds) ∧ ds.length ≤ 1000 ∧ ds.all (pairD (i == 2)) = true ∧ [k1, k2, k3].drop i = ds :: [k1, k2, k3].drop (i + 1) := by
      have hi : i < 3 := by
        have := (List.getElem?_eq_some_iff.mp hy).1
        simpa using this
      rcases (show i = 0 ∨ i = 1 ∨ i = 2 by omega) with e | e | e
      · subst e
        simp only [List.getElem?_cons_zero, Option.some.injEq] at hx hy
        subst hx hy
        exact ⟨k1, by decide, rfl, ⟨ff.1, r1⟩, zz.1, p1, rfl⟩
      · subst e
        simp only [List.getElem?_cons_zero, List.getElem?_cons_succ, Option.some.injEq] at hx hy
        subst hx hy
        exact ⟨k2, by decide, rfl, ⟨ff.2.1, r2⟩, zz.2.1, p2, rfl⟩
      · subst e
        simp only [List.getElem?_cons_zero, List.getElem?_cons_succ, Option.some.injEq] at hx hy
        subst hx hy
        exact ⟨k3, by decide, rfl, ⟨ff.2.2, r3⟩, zz.2.2, p3, rfl⟩
    subst ex
    rw [ed] at ei
    refine ⟨_, rfl, _, rfl, i, y, ds, rfl, hi, fy.keep (Tp.same sT), hz', hp', fun H3 s3 => ?_⟩
    cases ha : amissD i ds [] 0 with
    | none =>
      have ei' : stockD (.tuple [.tuple k1, .tuple k2, .tuple k3]) = stFrom ([k1, k2, k3].drop (i + 1)) (i + 1) := ei.trans (stF_none ha)
      exact ⟨_, rfl, rfl, _, rfl, iteF ⟨⟨_, _, _, rfl⟩, sT.trans s3, ei'⟩⟩
    | some n =>
      have ei' : stockD (.tuple [.tuple k1, .tuple k2, .tuple k3]) = some (partS i, n) := ei.trans (stF_some ha)
      exact ⟨_, rfl, rfl, _, rfl, iteYs rfl ⟨_, rfl, _, rfl, mk_two fun a' H4 r => qe _ _ ei' a' H4 ((sT.trans s3).trans r.same) r.2.1⟩⟩
  · rintro σ H' ⟨⟨y1, y2, y3, rfl⟩, s', ei⟩
    exact q (by rw [ei]; rfl) H' s'
end
end Lm

set_option Elab.async false
set_option linter.all false
set_option maxRecDepth 100000
set_option maxHeartbeats 2000000
namespace Lm
open PySem PySem.Spec PyProof.Rows L2 LmR
/-! ### what a program tells -/
def iv : V → Int
  | .int i => i
  | _ => 0
def bv : V → Bool
  | .bl b => b
  | _ => false
def bval : Bw → V → V → V
  | .least, x, y => .int (if iv y < iv x then iv y else iv x)
  | .most, x, y => .int (if iv y > iv x then iv y else iv x)
  | .atmost, x, y => .bl (decide (iv x ≤ iv y))
  | .both, x, y => .bl (bv x && bv y)
  | .either, x, y => .bl (bv x || bv y)
def pval (us : List V) : Pg → V
  | .inp k => us.getD k .non
  | .num c => .int c
  | .tr b => .bl b
  | .plus c a => .int (iv (pval us a) + c)
  | .bin w a b => bval w (pval us a) (pval us b)
  | .neg a => .bl (!bv (pval us a))
  | .ite p a b => if bv (pval us p) = true then pval us a else pval us b
/-- a value of the kind -/
def Kv : Bool → V → Prop
  | false, v => ∃ i, v = .int i
  | true, v => ∃ b, v = .bl b
def Kvs (ks : List Bool) (us : List V) : Prop := us.length = ks.length ∧ ∀ (j : Nat) (k : Bool) (v : V), ks[j]? = some k → us[j]? = some v → Kv k v
theorem bval_kv (w : Bw) (x y : V) : Kv w.own (bval w x y) := by cases w <;> exact ⟨_, rfl⟩
theorem pval_kv {ks : List Bool} {us : List V} (h : Kvs ks us) : ∀ p : Pg, Wk ks p → Kv (own ks p) (pval us p)
  | .inp k, hw => by
    have hk : k < ks.length := hw
    have hu : k < us.length := by rw [h.1]; exact hk
    have e1 : us.getD k .non = us[k] := by rw [List.getD_eq_getElem?_getD, List.getElem?_eq_getElem hu]; rfl
    have e2 : ks.getD k false = ks[k] := by rw [List.getD_eq_getElem?_getD, List.getElem?_eq_getElem hk]; rfl
    show Kv (ks.getD k false) (us.getD k .non)
    rw [e1, e2]
    exact h.2 k _ _ (List.getElem?_eq_getElem hk) (List.getElem?_eq_getElem hu)
  | .num c, _ => ⟨_, rfl⟩
  | .tr b, _ => ⟨_, rfl⟩
  | .plus c a, _ => ⟨_, rfl⟩
  | .bin w a b, _ => bval_kv w _ _
  | .neg a, _ => ⟨_, rfl⟩
  | .ite p a b, hw => by
    have h1 := pval_kv h a hw.2.1
    have h2 := pval_kv h b hw.2.2.1
    rw [hw.2.2.2.2] at h2
    show Kv (own ks a) (if bv (pval us p) = true then pval us a else pval us b)
    split
    · exact h1
    · exact h2
theorem kv_int {v : V} (h : Kv false v) : v = .int (iv v) := by obtain ⟨i, rfl⟩ := h; rfl
theorem kv_bl {v : V} (h : Kv true v) : v = .bl (bv v) := by obtain ⟨i, rfl⟩ := h; rfl
theorem pval_int {ks : List Bool} {us : List V} (h : Kvs ks us) {p : Pg} (hw : Wk ks p) (ho : own ks p = false) : pval us p = .int (iv (pval us p)) := kv_int (ho ▸ pval_kv h p hw)
theorem pval_bl {ks : List Bool} {us : List V} (h : Kvs ks us) {p : Pg} (hw : Wk ks p) (ho : own ks p = true) : pval us p = .bl (bv (pval us p)) := kv_bl (ho ▸ pval_kv h p hw)
theorem pval_at {ks : List Bool} {us : List V} (h : Kvs ks us) {k : Nat} (hk : k < ks.length) : us[k]? = some (pval us (.inp k)) := by
  have hu : k < us.length := by rw [h.1]; exact hk
  show us[k]? = some (us.getD k .non)
  rw [List.getD_eq_getElem?_getD, List.getElem?_eq_getElem hu]
  rfl
section
variable {P : Program} {w : World} {K : PySem.W.Frag} {mg : Str → Option Value} {base : Heap}
abbrev s_knot_value : Stmt := topS 41
theorem sc_knot_value : FnScope ["knot", "told", "inputs"] ["knot", "told", "inputs"] (defScope s_knot_value) := ⟨rfl, rfl, rfl, by decide +kernel, rfl, by decide +kernel, by decide +kernel⟩
def spKnV (K : PySem.W.Frag) : Sp := fun vs H Q _ => ∃ (v : V) (p : Pg) (t ti : Addr) (ks : List Bool) (us : List V), vs = [v, .ref t, .ref ti] ∧ At K H v p ∧ SqT K H t ((parts p).map (pval us)) ∧ SqT K H ti us ∧ Wk ks p ∧ Kvs ks us ∧ Q (pval us p) H
theorem ok_knot_value (B : Bt mg) (D : DefAt K mg "knot_value" s_knot_value ["knot", "told", "inputs"]) : Cal P w K mg base 1 "knot_value" ["knot", "told", "inputs"] (spKnV K) := by
  refine cal_of D sc_knot_value (fun vs H Q E h => ?_) (fun f cdv A outer s H vs Q E hr h => ?_)
  · obtain ⟨v, p, t, ti, ks, us, rfl, _⟩ := h
    rfl
  obtain ⟨v, p, t, ti, ks, us, rfl, hv, ht, hti, hw, hkv, q⟩ := h
  refine ⟨_, (pss_one (ps_match (pe_ix ix_tup (pv 0) pe_int (fun _ _ => rfl))
        (pm_str (pss_one (ps_ret (pe_ix ix_tup (pv 2) (pe_ix ix_tup (pv 0) pe_int (fun _ _ => rfl)) (fun _ _ => rfl))))
        (pm_str (pss_one (ps_ret (pe_ix ix_tup (pv 0) pe_int (fun _ _ => rfl))))
        (pm_str (pss_one (ps_ret pe_bl))
        (pm_str (pss_one (ps_ret pe_bl))
        (pm_str (pss_one (ps_ret (pe_op op_add (pe_ix ix_tup (pv 1) pe_int (fun _ _ => rfl)) (pe_ix ix_tup (pv 0) pe_int (fun _ _ => rfl)))))
        (pm_str (pss_one (ps_ret (pe_callB (call_min2 rfl) (by rfl) B.min PyProof.Rows.boot_min (pa_cons (pe_ix ix_tup (pv 1) pe_int (fun _ _ => rfl)) (pa_cons (pe_ix ix_tup (pv 1) pe_int (fun _ _ => rfl)) pa_nil)))))
        (pm_str (pss_one (ps_ret (pe_callB (call_max2 rfl) (by rfl) B.max PyProof.Rows.boot_max (pa_cons (pe_ix ix_tup (pv 1) pe_int (fun _ _ => rfl)) (pa_cons (pe_ix ix_tup (pv 1) pe_int (fun _ _ => rfl)) pa_nil)))))
        (pm_str (pss_one (ps_ret (pe_cmpR op_le (pe_ix ix_tup (pv 1) pe_int (fun _ _ => rfl)) (pe_ix ix_tup (pv 1) pe_int (fun _ _ => rfl)) (nomark _))))
        (pm_str (pss_one (ps_ret (pe_not (pe_ix ix_tup (pv 1) pe_int (fun _ _ => rfl)))))
        (pm_str (pss_one (ps_ret (pe_and (pe_ix ix_tup (pv 1) pe_int (fun _ _ => rfl)) (pe_one (pe_ix ix_tup (pv 1) pe_int (fun _ _ => rfl))))))
        (pm_str (pss_one (ps_ret (pe_or (pe_ix ix_tup (pv 1) pe_int (fun _ _ => rfl)) (pe_one (pe_ix ix_tup (pv 1) pe_int (fun _ _ => rfl))))))
        (pm_any (pss_one (ps_ret (pe_ifExp (pt_val (pe_ix ix_tup (pv 1) pe_int (fun _ _ => rfl))) (pe_ix ix_tup (pv 1) pe_int (fun _ _ => rfl)) (pe_ix ix_tup (pv 1) pe_int (fun _ _ => rfl))))))))))))))))))), ?_⟩
  obtain ⟨a, vs, rfl, ha, hvs⟩ := hv.open
  refine ⟨_, rfl, a, _, 0, _, rfl, rfl, ha, at_word p vs, ?_⟩
  cases p with
  | inp k =>
    refine ⟨_, rfl, fun _ => ?_, fun z => absurd rfl z⟩
    exact ⟨_, rfl, _, rfl, a, _, 1, .int k, rfl, rfl, ha, at_of (j := 1) rfl rfl, ti, us, _, _, rfl, rfl, hti, at_of (j := k) rfl (pval_at hkv hw), q⟩
  | num c =>
    refine ⟨_, rfl, fun z => absurd (show ("num" : Str) = "in" from z) (by decide +kernel), fun _ => ⟨_, rfl, fun _ => ?_, fun z => absurd rfl z⟩⟩
    exact ⟨_, rfl, a, _, 1, .int c, rfl, rfl, ha, at_of (j := 1) rfl rfl, q⟩
  | tr b =>
    cases b with
    | true =>
      refine ⟨_, rfl, fun z => absurd (show ("yes" : Str) = "in" from z) (by decide +kernel), fun _ => ⟨_, rfl, fun z => absurd (show ("yes" : Str) = "num" from z) (by decide +kernel), fun _ => ⟨_, rfl, fun _ => ?_, fun z => absurd rfl z⟩⟩⟩
      exact q
    | false =>
      refine ⟨_, rfl, fun z => absurd (show ("no" : Str) = "in" from z) (by decide +kernel), fun _ => ⟨_, rfl, fun z => absurd (show ("no" : Str) = "num" from z) (by decide +kernel), fun _ => ⟨_, rfl, fun z => absurd (show ("no" : Str) = "yes" from z) (by decide +kernel), fun _ => ⟨_, rfl, fun _ => ?_, fun z => absurd rfl z⟩⟩⟩⟩
      exact q
  | plus c b =>
    have e1 := pval_int hkv hw.1 hw.2
    refine ⟨_, rfl, fun z => absurd (show ("plus" : Str) = "in" from z) (by decide +kernel), fun _ => ⟨_, rfl, fun z => absurd (show ("plus" : Str) = "num" from z) (by decide +kernel), fun _ => ⟨_, rfl, fun z => absurd (show ("plus" : Str) = "yes" from z) (by decide +kernel), fun _ => ⟨_, rfl, fun z => absurd (show ("plus" : Str) = "no" from z) (by decide +kernel), fun _ => ⟨_, rfl, fun _ => ?_, fun z => absurd rfl z⟩⟩⟩⟩⟩
    refine ⟨_, rfl, t, _, 0, _, rfl, rfl, ht, rfl, _, rfl, a, _, 1, .int c, rfl, rfl, ha, at_of (j := 1) rfl rfl, _, _, e1, rfl, q⟩
  | bin bw b c =>
    have go : ∀ n : Nat, True := fun _ => True.intro
    cases bw with
    | least =>
      have e1 := pval_int hkv hw.1 hw.2.2.1
      have e2 := pval_int hkv hw.2.1 hw.2.2.2
      refine ⟨_, rfl, fun z => absurd (show ("least" : Str) = "in" from z) (by decide +kernel), fun _ => ⟨_, rfl, fun z => absurd (show ("least" : Str) = "num" from z) (by decide +kernel), fun _ => ⟨_, rfl, fun z => absurd (show ("least" : Str) = "yes" from z) (by decide +kernel), fun _ => ⟨_, rfl, fun z => absurd (show ("least" : Str) = "no" from z) (by decide +kernel), fun _ => ⟨_, rfl, fun z => absurd (show ("least" : Str) = "plus" from z) (by decide +kernel), fun _ => ⟨_, rfl, fun _ => ?_, fun z => absurd rfl z⟩⟩⟩⟩⟩⟩
      refine ⟨_, rfl, t, _, 0, _, rfl, rfl, ht, rfl, _, rfl, t, _, 1, _, rfl, rfl, ht, rfl, iv (pval us b), iv (pval us c), ?_, q⟩
      rw [← e1, ← e2]
    | most =>
      have e1 := pval_int hkv hw.1 hw.2.2.1
      have e2 := pval_int hkv hw.2.1 hw.2.2.2
      refine ⟨_, rfl, fun z => absurd (show ("most" : Str) = "in" from z) (by decide +kernel), fun _ => ⟨_, rfl, fun z => absurd (show ("most" : Str) = "num" from z) (by decide +kernel), fun _ => ⟨_, rfl, fun z => absurd (show ("most" : Str) = "yes" from z) (by decide +kernel), fun _ => ⟨_, rfl, fun z => absurd (show ("most" : Str) = "no" from z) (by decide +kernel), fun _ => ⟨_, rfl, fun z => absurd (show ("most" : Str) = "plus" from z) (by decide +kernel), fun _ => ⟨_, rfl, fun z => absurd (show ("most" : Str) = "least" from z) (by decide +kernel), fun _ => ⟨_, rfl, fun _ => ?_, fun z => absurd rfl z⟩⟩⟩⟩⟩⟩⟩
      refine ⟨_, rfl, t, _, 0, _, rfl, rfl, ht, rfl, _, rfl, t, _, 1, _, rfl, rfl, ht, rfl, iv (pval us b), iv (pval us c), ?_, q⟩
      rw [← e1, ← e2]
    | atmost =>
      have e1 := pval_int hkv hw.1 hw.2.2.1
      have e2 := pval_int hkv hw.2.1 hw.2.2.2
      refine ⟨_, rfl, fun z => absurd (show ("atmost" : Str) = "in" from z) (by decide +kernel), fun _ => ⟨_, rfl, fun z => absurd (show ("atmost" : Str) = "num" from z) (by decide +kernel), fun _ => ⟨_, rfl, fun z => absurd (show ("atmost" : Str) = "yes" from z) (by decide +kernel), fun _ => ⟨_, rfl, fun z => absurd (show ("atmost" : Str) = "no" from z) (by decide +kernel), fun _ => ⟨_, rfl, fun z => absurd (show ("atmost" : Str) = "plus" from z) (by decide +kernel), fun _ => ⟨_, rfl, fun z => absurd (show ("atmost" : Str) = "least" from z) (by decide +kernel), fun _ => ⟨_, rfl, fun z => absurd (show ("atmost" : Str) = "most" from z) (by decide +kernel), fun _ => ⟨_, rfl, fun _ => ?_, fun z => absurd rfl z⟩⟩⟩⟩⟩⟩⟩⟩
      refine ⟨_, rfl, t, _, 0, _, rfl, rfl, ht, rfl, _, rfl, t, _, 1, _, rfl, rfl, ht, rfl, _, _, e1, e2, q⟩
    | both =>
      have e1 := pval_bl hkv hw.1 hw.2.2.1
      have e2 := pval_bl hkv hw.2.1 hw.2.2.2
      refine ⟨_, rfl, fun z => absurd (show ("both" : Str) = "in" from z) (by decide +kernel), fun _ => ⟨_, rfl, fun z => absurd (show ("both" : Str) = "num" from z) (by decide +kernel), fun _ => ⟨_, rfl, fun z => absurd (show ("both" : Str) = "yes" from z) (by decide +kernel), fun _ => ⟨_, rfl, fun z => absurd (show ("both" : Str) = "no" from z) (by decide +kernel), fun _ => ⟨_, rfl, fun z => absurd (show ("both" : Str) = "plus" from z) (by decide +kernel), fun _ => ⟨_, rfl, fun z => absurd (show ("both" : Str) = "least" from z) (by decide +kernel), fun _ => ⟨_, rfl, fun z => absurd (show ("both" : Str) = "most" from z) (by decide +kernel), fun _ => ⟨_, rfl, fun z => absurd (show ("both" : Str) = "atmost" from z) (by decide +kernel), fun _ => ⟨_, rfl, fun z => absurd (show ("both" : Str) = "not" from z) (by decide +kernel), fun _ => ⟨_, rfl, fun _ => ?_, fun z => absurd rfl z⟩⟩⟩⟩⟩⟩⟩⟩⟩⟩
      have q' : Q (.bl (bv (pval us b) && bv (pval us c))) H := q
      refine ⟨_, rfl, t, _, 0, _, rfl, rfl, ht, rfl, _, e1, ite2 (fun z => ?_) (fun z => ?_)⟩
      · rw [z, Bool.true_and, ← e2] at q'
        exact ⟨_, rfl, t, _, 1, _, rfl, rfl, ht, rfl, q'⟩
      · rw [Bool.eq_false_iff.mpr z] at q'
        exact q'
    | either =>
      have e1 := pval_bl hkv hw.1 hw.2.2.1
      have e2 := pval_bl hkv hw.2.1 hw.2.2.2
      refine ⟨_, rfl, fun z => absurd (show ("either" : Str) = "in" from z) (by decide +kernel), fun _ => ⟨_, rfl, fun z => absurd (show ("either" : Str) = "num" from z) (by decide +kernel), fun _ => ⟨_, rfl, fun z => absurd (show ("either" : Str) = "yes" from z) (by decide +kernel), fun _ => ⟨_, rfl, fun z => absurd (show ("either" : Str) = "no" from z) (by decide +kernel), fun _ => ⟨_, rfl, fun z => absurd (show ("either" : Str) = "plus" from z) (by decide +kernel), fun _ => ⟨_, rfl, fun z => absurd (show ("either" : Str) = "least" from z) (by decide +kernel), fun _ => ⟨_, rfl, fun z => absurd (show ("either" : Str) = "most" from z) (by decide +kernel), fun _ => ⟨_, rfl, fun z => absurd (show ("either" : Str) = "atmost" from z) (by decide +kernel), fun _ => ⟨_, rfl, fun z => absurd (show ("either" : Str) = "not" from z) (by decide +kernel), fun _ => ⟨_, rfl, fun z => absurd (show ("either" : Str) = "both" from z) (by decide +kernel), fun _ => ⟨_, rfl, fun _ => ?_, fun z => absurd rfl z⟩⟩⟩⟩⟩⟩⟩⟩⟩⟩⟩
      have q' : Q (.bl (bv (pval us b) || bv (pval us c))) H := q
      refine ⟨_, rfl, t, _, 0, _, rfl, rfl, ht, rfl, _, e1, ite2 (fun z => ?_) (fun z => ?_)⟩
      · rw [z] at q'
        exact q'
      · rw [Bool.eq_false_iff.mpr z, Bool.false_or, ← e2] at q'
        exact ⟨_, rfl, t, _, 1, _, rfl, rfl, ht, rfl, q'⟩
  | neg b =>
    have e1 := pval_bl hkv hw.1 hw.2
    refine ⟨_, rfl, fun z => absurd (show ("not" : Str) = "in" from z) (by decide +kernel), fun _ => ⟨_, rfl, fun z => absurd (show ("not" : Str) = "num" from z) (by decide +kernel), fun _ => ⟨_, rfl, fun z => absurd (show ("not" : Str) = "yes" from z) (by decide +kernel), fun _ => ⟨_, rfl, fun z => absurd (show ("not" : Str) = "no" from z) (by decide +kernel), fun _ => ⟨_, rfl, fun z => absurd (show ("not" : Str) = "plus" from z) (by decide +kernel), fun _ => ⟨_, rfl, fun z => absurd (show ("not" : Str) = "least" from z) (by decide +kernel), fun _ => ⟨_, rfl, fun z => absurd (show ("not" : Str) = "most" from z) (by decide +kernel), fun _ => ⟨_, rfl, fun z => absurd (show ("not" : Str) = "atmost" from z) (by decide +kernel), fun _ => ⟨_, rfl, fun _ => ?_, fun z => absurd rfl z⟩⟩⟩⟩⟩⟩⟩⟩⟩
    exact ⟨_, rfl, t, _, 0, _, rfl, rfl, ht, rfl, _, e1, q⟩
  | ite r b c =>
    have e1 := pval_bl hkv hw.1 hw.2.2.2.1
    refine ⟨_, rfl, fun z => absurd (show ("if" : Str) = "in" from z) (by decide +kernel), fun _ => ⟨_, rfl, fun z => absurd (show ("if" : Str) = "num" from z) (by decide +kernel), fun _ => ⟨_, rfl, fun z => absurd (show ("if" : Str) = "yes" from z) (by decide +kernel), fun _ => ⟨_, rfl, fun z => absurd (show ("if" : Str) = "no" from z) (by decide +kernel), fun _ => ⟨_, rfl, fun z => absurd (show ("if" : Str) = "plus" from z) (by decide +kernel), fun _ => ⟨_, rfl, fun z => absurd (show ("if" : Str) = "least" from z) (by decide +kernel), fun _ => ⟨_, rfl, fun z => absurd (show ("if" : Str) = "most" from z) (by decide +kernel), fun _ => ⟨_, rfl, fun z => absurd (show ("if" : Str) = "atmost" from z) (by decide +kernel), fun _ => ⟨_, rfl, fun z => absurd (show ("if" : Str) = "not" from z) (by decide +kernel), fun _ => ⟨_, rfl, fun z => absurd (show ("if" : Str) = "both" from z) (by decide +kernel), fun _ => ⟨_, rfl, fun z => absurd (show ("if" : Str) = "either" from z) (by decide +kernel), fun _ => ?_⟩⟩⟩⟩⟩⟩⟩⟩⟩⟩⟩
    have q' : Q (if bv (pval us r) = true then pval us b else pval us c) H := q
    refine ⟨_, rfl, t, _, 0, _, rfl, rfl, ht, rfl, _, e1, ite2 (fun z => ?_) (fun z => ?_)⟩
    · rw [if_pos z] at q'
      exact ⟨_, rfl, t, _, 1, _, rfl, rfl, ht, rfl, q'⟩
    · rw [if_neg z] at q'
      exact ⟨_, rfl, t, _, 2, _, rfl, rfl, ht, rfl, q'⟩
abbrev s_value : Stmt := topS 40
theorem sc_value : FnScope ["program", "inputs", "ready", "knot", "parts"] ["program", "inputs"] (defScope s_value) := ⟨rfl, rfl, rfl, by decide +kernel, rfl, by decide +kernel, by decide +kernel⟩
def spVal (K : PySem.W.Frag) : Sp := fun vs H Q _ => ∃ (v : V) (p : Pg) (t : Addr) (us : List V) (ks : List Bool), vs = [v, .ref t] ∧ At K H v p ∧ SqT K H t us ∧ Kvs ks us ∧ Wk ks p ∧ psz p ≤ 10000 ∧ ∀ (H' : Hp), Same H H' → Q (pval us p) H'
theorem ok_value (B : Bt mg) (C_knots : Cal P w K mg base 3 "knots" ["program"] (spKnots K)) (C_taken : Cal P w K mg base 1 "taken" ["pile", "many"] (spTaken)) (C_many_parts : Cal P w K mg base 1 "many_parts" ["word"] (spMP)) (C_knot_value : Cal P w K mg base 1 "knot_value" ["knot", "told", "inputs"] (spKnV K)) (D : DefAt K mg "value" s_value ["program", "inputs"]) : Cal P w K mg base 4 "value" ["program", "inputs"] (spVal K) := by
  refine cal_of D sc_value (fun vs H Q E h => ?_) (fun f cdv A outer s H vs Q E hr h => ?_)
  · obtain ⟨v, p, t, us, ks, rfl, _⟩ := h
    rfl
  obtain ⟨v, p, t, us, ks, rfl, hv, ht, hkv, hw, hsz, q⟩ := h
  have C_taken := C_taken.mono (k := 3) (by decide)
  have C_many_parts := C_many_parts.mono (k := 3) (by decide)
  have C_knot_value := C_knot_value.mono (k := 3) (by decide)
  have hr' : Room 3 _ := hr
  refine ⟨_, (pss_cons (ps_set (i := 2) sc_value.nd rfl (.inl rfl) (pe_lst pa_nil))
      (pss_cons (ps_for PassesOwn.never rfl (pi_reversed (by rfl) B.reversed (pa_cons (pe_cal C_knots hr' (by rfl) (pa_cons (pv 0) pa_nil)) pa_nil)) (pg_name (i := 3) sc_value.nd rfl (.inl rfl))
        (pss_cons (ps_set (i := 4) sc_value.nd rfl (.inl rfl) (pe_cal C_taken hr' (by rfl) (pa_cons (pv 2) (pa_cons (pe_cal C_many_parts hr' (by rfl) (pa_cons (pe_ix ix_tup (pv 3) pe_int (fun _ _ => rfl)) pa_nil)) pa_nil))))
      (pss_one (ps_expr (pe_bm PySem.F.plainAttrs_list PySem.F.slot_list_append PySem.F.type_list_append mt_append (pv 2) (pa_cons (pe_cal C_knot_value hr' (by rfl) (pa_cons (pv 3) (pa_cons (pv 4) (pa_cons (pv 1) pa_nil)))) pa_nil))))))
      (pss_one (ps_ret (pe_ix ix_list (pv 2) pe_int (fun _ _ => rfl)))))), ?_⟩
  refine ⟨(by show 0 ≤ sizeLine; decide), fun lr hlr => ?_⟩
  have s1 : Same H (upd H lr (.lst [])) := same_new hlr
  have r1 : (upd H lr (.lst [])) lr = some (.lst []) := upd_same
  generalize upd H lr (.lst []) = H1 at s1 r1
  refine ⟨_, rfl, v, p, rfl, hv.keep (Tp.same s1), hsz, fun le es H2 s2 le0 hle hes => ?_⟩
  have s02 := s1.trans s2
  have nler : le ≠ lr := fun z => by rw [z, r1] at le0; cases le0
  have kl := kn_len p
  have ul : es.length = (kn p).length := hes.len
  refine ⟨le, es, rfl, SqL.of hle, for_rev (K := K) (a := le) (xs := es) (fun i σ' H' => ∃ (fs : List Pg) (y3 y4 : Option V), σ' = [some v, some (.ref t), some (.ref lr), y3, y4] ∧ Same H H' ∧ H' le = some (.lst es) ∧ Ats K H' es (kn p) ∧ (kn p).drop (es.length - i) = knf fs ∧ H' lr = some (.lst (fs.map (pval us)).reverse)) ?_ ?_ ?_ ?_⟩
  · exact ⟨[], none, none, rfl, s02, hle, hes, by rw [ul, Nat.sub_zero, List.drop_length]; rfl, s2 _ _ r1⟩
  · rintro i σ' H' ⟨fs, y3, y4, rfl, sm, hle', _⟩
    exact SqL.of hle'
  · rintro i xv σ' H' hi hxv ⟨fs, y3, y4, rfl, sm, hle', hes', hdrop, hlr'⟩
    have eI : es.length - 1 - i = es.length - (i + 1) := by omega
    rw [eI] at hxv
    obtain ⟨x, hx, hax⟩ := hes'.get _ _ hxv
    have e1 : es.length - (i + 1) + 1 = es.length - i := by omega
    obtain ⟨rest, rfl, hdr⟩ := knf_step hx (by rw [e1]; exact hdrop)
    have hwx : Wk ks x := kn_wk ks p x hw (List.mem_of_getElem? hx)
    obtain ⟨a, vs, rfl, ha, hvs⟩ := hax.open
    have plen : (parts x).length ≤ 3 := by cases x <;> simp [parts]
    rw [List.map_append, List.reverse_append] at hlr'
    have wl1 : ((parts x).map (pval us)).length = (parts x).length := List.length_map _
    refine ⟨_, rfl, _, rfl, a, _, 0, _, rfl, rfl, ha, at_word x vs, x, rfl, lr, (rest.map (pval us)).reverse, (parts x).map (pval us), by rw [wl1]; rfl, hlr', by omega, fun tt H5 ex5 hlr5 ht5 => ?_⟩
    have sm5 : Same H H5 := fun b o hb => ex5 b o (sm b o hb) (by simp [ne_of_none hb hlr])
    have tp5 : Tp K H' H5 := ex5.tp fun b hb ys z => by
      rw [List.mem_singleton.mp hb] at z
      rcases z with z | ⟨o, z⟩
      · rw [hlr'] at z; cases z
      · rw [hlr'] at z; cases z
    have hle5 := ex5 _ _ hle' (by simp [nler])
    have hes5 := hes'.keep tp5
    have rl : (rest.map (pval us)).length ≤ 10000 := by
      have z := knf_len rest
      have z2 : (kn p).length - (es.length - (i + 1)) = (knf (x :: rest)).length := by rw [← hdr, List.length_drop]
      rw [knf_cons, List.length_cons] at z2
      have z3 : knf (parts x ++ rest) = knf (parts x) ++ knf rest := by simp [knf]
      rw [z3, List.length_append] at z2
      rw [List.length_map]
      omega
    refine ⟨_, rfl, .inl ⟨rfl, _, SqL.of hlr5⟩, _, rfl, _, rfl, _, rfl, .ref a, x, tt, t, ks, us, rfl, hax.keep tp5, .inl (.inl ht5), Tp.same sm5 _ _ ht, hwx, hkv, ?_⟩
    have t7 : Tp K H5 (upd H5 lr (.lst ((rest.map (pval us)).reverse ++ [pval us x]))) := Tp.lst hlr5
    refine ⟨lr, _, _, rfl, rfl, hlr5, by rw [List.length_reverse]; exact smallL (by omega), x :: rest, _, _, rfl, fun b o hb => ?_, by rw [upd_ne nler]; exact hle5, hes5.keep t7, hdr, by rw [upd_same, List.map_cons, List.reverse_cons]⟩
    rw [upd_ne (ne_of_none hb hlr)]
    exact sm5 b o hb
  · rintro σ' H' ⟨fs, y3, y4, rfl, sm, hle', hes', hdrop, hlr'⟩
    rw [Nat.sub_self, List.drop_zero, ← knf_one] at hdrop
    have ef := knf_inj _ _ _ (Nat.le_refl _) hdrop
    subst ef
    exact ⟨_, rfl, lr, _, 0, _, rfl, rfl, SqL.of hlr', rfl, q H' sm⟩
end
end Lm

set_option Elab.async false
set_option linter.all false
set_option maxRecDepth 100000
set_option maxHeartbeats 2000000
namespace Lm
open PySem PySem.Spec PyProof.Rows L2 LmR
/-- the data of a value -/
def vd : V → PyData
  | .int i => .int i
  | .bl b => .bool b
  | _ => .none
theorem kv_dp {K : PySem.W.Frag} {H : Hp} {k : Bool} {v : V} (h : Kv k v) : Dp K H v (vd v) := by
  cases k with
  | false => obtain ⟨i, rfl⟩ := h; exact .int i
  | true => obtain ⟨b, rfl⟩ := h; exact .bl b
theorem kv_flat (v : V) : flat (vd v) = true := by cases v <;> rfl
theorem kv_lay (v : V) : (vd v).canLay0 = true := by cases v <;> rfl
theorem kv_depth (v : V) : (vd v).depth = 0 := by cases v <;> rfl
theorem kv_dsz (v : V) : dsz (vd v) = 1 := by cases v <;> rfl
theorem Kvs.tail {k : Bool} {ks : List Bool} {v : V} {us : List V} (h : Kvs (k :: ks) (v :: us)) : Kv k v ∧ Kvs ks us :=
  ⟨h.2 0 k v rfl rfl, by have := h.1; simp at this; exact this, fun j k' v' a b => h.2 (j + 1) k' v' a b⟩
theorem kvs_dps {K : PySem.W.Frag} {H : Hp} : ∀ {ks : List Bool} {us : List V}, Kvs ks us → DpAll K H us (us.map vd)
  | [], [], _ => .nil
  | [], _ :: _, h => by have := h.1; simp at this
  | _ :: _, [], h => by have := h.1; simp at this
  | k :: ks, v :: us, h => .cons (kv_dp h.tail.1) (kvs_dps h.tail.2)
theorem vd_lays : ∀ us : List V, PyData.canLayAll0 (us.map vd) = true
  | [] => rfl
  | v :: us => by
    show ((vd v).canLay0 && PyData.canLayAll0 (us.map vd)) = true
    rw [kv_lay, vd_lays us]; rfl
theorem vd_depths : ∀ us : List V, PyData.depthAll (us.map vd) = 0
  | [] => rfl
  | v :: us => by
    show max (vd v).depth (PyData.depthAll (us.map vd)) = 0
    rw [kv_depth, vd_depths us]; rfl
theorem vd_sh (us : List V) : SeqAt.shaped (.tuple (us.map vd)) = true := by
  unfold SeqAt.shaped
  have h2 : (PyData.tuple (us.map vd)).canLay0 = true := vd_lays us
  rw [h2, Bool.true_and]
  exact decide_eq_true (show PyData.depthAll (us.map vd) + 1 ≤ 64 by rw [vd_depths]; decide)
theorem Kvs.nil : Kvs [] [] := ⟨rfl, fun j k v h => by simp at h⟩
theorem Kvs.snoc {ks : List Bool} {us : List V} {k : Bool} {v : V} (h : Kvs ks us) (hv : Kv k v) : Kvs (ks ++ [k]) (us ++ [v]) := by
  refine ⟨by rw [List.length_append, List.length_append, h.1]; rfl, fun j k' v' a b => ?_⟩
  by_cases c : j < ks.length
  · rw [List.getElem?_append_left c] at a
    rw [List.getElem?_append_left (by rw [h.1]; exact c)] at b
    exact h.2 j k' v' a b
  · rw [List.getElem?_append_right (by omega)] at a
    rw [List.getElem?_append_right (by rw [h.1]; omega), h.1] at b
    have e : j - ks.length = 0 := by
      have := (List.getElem?_eq_some_iff.mp a).1
      simp at this
      omega
    rw [e] at a b
    simp at a b
    rw [← a, ← b]
    exact hv
theorem kvs_get {ks : List Bool} {i : Nat} {x : V} (hx : (kVs ks)[i]? = some x) : ∃ b, ks[i]? = some b ∧ x = V.str (kS b) := by
  unfold kVs at hx
  rw [List.getElem?_map] at hx
  cases e : ks[i]? with
  | none => rw [e] at hx; cases hx
  | some b => rw [e] at hx; exact ⟨b, rfl, (Option.some.inj hx).symm⟩
section
variable {P : Program} {w : World} {K : PySem.W.Frag} {mg : Str → Option Value} {base : Heap}
theorem Gr.nf {f : Addr} {H H' : Hp} (g : Gr [] f H H') {D : Addr} (h : H' D = none) : D ≠ f := fun z => by
  obtain ⟨xs, e⟩ := g.fl.lst
  rw [z, e] at h
  cases h
theorem Flow.nf {f : Addr} {H : Hp} (g : Flow H f) {D : Addr} (h : H D = none) : D ≠ f := fun z => by
  obtain ⟨xs, e⟩ := g.lst
  rw [z, e] at h
  cases h
abbrev s_l_inputs : Stmt := topS 61
theorem sc_l_inputs : FnScope ["_law_flow_here", "_law_sorts", "_law_found", "_law_kind", "_law_wide", "_law_number"] ["_law_flow_here", "_law_sorts"] (defScope s_l_inputs) := ⟨rfl, rfl, rfl, by decide +kernel, rfl, by decide +kernel, by decide +kernel⟩
def spInp (K : PySem.W.Frag) : Sp := fun vs H Q _ => ∃ (f ka : Addr) (ks : List Bool), vs = [.ref f, .ref ka] ∧ Flow H f ∧ SqT K H ka (kVs ks) ∧ ks.length ≤ 3 ∧
  ∀ (t : Addr) (us : List V) (H' : Hp), Gr [] f H H' → H' t = some (.tup us) → Kvs ks us → Q (.ref t) H'
theorem ok_l_inputs (B : Bt mg) (C_l_draw : Cal P w K mg base 1 "_law_draw" ["_law_flow_here", "_law_many"] (spDraw)) (D : DefAt K mg "_law_inputs" s_l_inputs ["_law_flow_here", "_law_sorts"]) : Cal P w K mg base 2 "_law_inputs" ["_law_flow_here", "_law_sorts"] (spInp K) := by
  refine cal_of D sc_l_inputs (fun vs H Q E h => ?_) (fun f cdv A outer s H vs Q E hr h => ?_)
  · obtain ⟨f, ka, ks, rfl, _⟩ := h
    rfl
  obtain ⟨f, ka, ks, rfl, fl, hk, hk3, q⟩ := h
  have hr' : Room 1 _ := hr
  refine ⟨_, (pss_cons (ps_set (i := 2) sc_l_inputs.nd rfl (.inl rfl) (pe_lst pa_nil))
      (pss_cons (ps_for PassesOwn.never rfl (pi_tup (pv 1)) (pg_name (i := 3) sc_l_inputs.nd rfl (.inl rfl))
        (pss_cons (ps_set (i := 4) sc_l_inputs.nd rfl (.inl rfl) (pe_ix ix_list (pe_lst (pa_cons pe_int (pa_cons pe_int (pa_cons pe_int pa_nil)))) (pe_cal C_l_draw hr' (by rfl) (pa_cons (pv 0) (pa_cons pe_int pa_nil))) (fun _ _ => rfl)))
      (pss_cons (ps_set (i := 5) sc_l_inputs.nd rfl (.inl rfl) (pe_op op_sub (pe_cal C_l_draw hr' (by rfl) (pa_cons (pv 0) (pa_cons (pe_op op_add (pe_op op_mul pe_int (pv 4)) pe_int) pa_nil))) (pv 4)))
      (pss_one (ps_expr (pe_bm PySem.F.plainAttrs_list PySem.F.slot_list_append PySem.F.type_list_append mt_append (pv 2) (pa_cons (pe_ix ix_list (pe_lst (pa_cons (pv 5) (pa_cons (pe_cmpR op_eq (pe_cal C_l_draw hr' (by rfl) (pa_cons (pv 0) (pa_cons pe_int pa_nil))) pe_int (nomark _)) pa_nil))) (pe_callTy call_int1 (by rfl) B.int PyProof.Rows.boot_int (pa_cons (pe_cmpR op_eq (pv 3) pe_str (nomark _)) pa_nil)) (fun _ _ => rfl)) pa_nil)))))))
      (pss_one (ps_ret (pe_callTy call_tuple_of (by rfl) B.tuple PyProof.Rows.boot_tuple (pa_cons (pv 2) pa_nil)))))), ?_⟩
  have klen : (kVs ks).length = ks.length := List.length_map _
  refine ⟨(by show 0 ≤ sizeLine; decide), fun lf hlf => ?_⟩
  have nlf := fl.nf hlf
  have g1 : Gr [] f H (upd H lf (.lst [])) := Gr.new fl hlf
  have hk1 : SqT K (upd H lf (.lst [])) ka (kVs ks) := Tp.new hlf _ _ hk
  have hl1 : (upd H lf (.lst [])) lf = some (.lst []) := upd_same
  generalize upd H lf (.lst []) = H1 at g1 hk1 hl1
  refine ⟨_, rfl, ka, rfl, ⟨_, hk1⟩, for_tup (K := K) (a := ka) (xs := kVs ks) (fun i σ' H' => ∃ (us : List V) (y3 y4 y5 : Option V), σ' = [some (.ref f), some (.ref ka), some (.ref lf), y3, y4, y5] ∧ Gr [] f H H' ∧ SqT K H' ka (kVs ks) ∧ H' lf = some (.lst us) ∧ Kvs (ks.take i) us) ?_ ?_ ?_ ?_⟩
  · exact ⟨[], none, none, none, rfl, g1, hk1, hl1, Kvs.nil⟩
  · rintro i σ' H' _ ⟨us, y3, y4, y5, rfl, g, hk', _⟩
    exact hk'
  · rintro i x σ' H' hx ⟨us, y3, y4, y5, rfl, g, hk', hl', hkv⟩
    obtain ⟨b, hb, rfl⟩ := kvs_get hx
    have hi : i < ks.length := (List.getElem?_eq_some_iff.mp hb).1
    have ul : us.length ≤ 3 := by rw [hkv.1, List.length_take]; omega
    refine ⟨(by show 3 ≤ sizeLine; decide), fun p hp => ?_⟩
    have gp : Gr [] f H (upd H' p (.lst [.int 2, .int 20, .int 999999])) := g.trans (Gr.new g.fl hp)
    have npf := g.nf hp
    have tp0 : Tp K H' (upd H' p (.lst [.int 2, .int 20, .int 999999])) := Tp.new hp
    have hl0 : (upd H' p (.lst [.int 2, .int 20, .int 999999])) lf = some (.lst us) := by rw [upd_ne (ne_of_none hl' hp)]; exact hl'
    have hp0 : (upd H' p (.lst [.int 2, .int 20, .int 999999])) p = some (.lst [.int 2, .int 20, .int 999999]) := upd_same
    generalize upd H' p (.lst [.int 2, .int 20, .int 999999]) = H0 at gp tp0 hl0 hp0
    refine ⟨_, rfl, f, 3, rfl, gp.fl, by decide, by decide, fun j H2 j0 j1 dr2 => ?_⟩
    have hp2 : H2 p = _ := (dr2.off p npf).trans hp0
    have hl2 : H2 lf = _ := (dr2.off lf nlf).trans hl0
    have g2 := gp.trans dr2.gr
    have tp2 := tp0.trans (dr2.tp gp.fl)
    obtain ⟨wd, ewd, w0, w1⟩ : ∃ wd : Int, atI [V.int 2, V.int 20, V.int 999999] j = some (V.int wd) ∧ 0 ≤ wd ∧ wd ≤ 999999 := by
      rcases (show j = 0 ∨ j = 1 ∨ j = 2 by omega) with z | z | z
      · subst z; exact ⟨2, rfl, by decide, by decide⟩
      · subst z; exact ⟨20, rfl, by decide, by decide⟩
      · subst z; exact ⟨999999, rfl, by decide, by decide⟩
    refine ⟨p, _, j, _, rfl, rfl, SqL.of hp2, ewd, ?_⟩
    refine ⟨_, rfl, _, rfl, _, _, rfl, rfl, .inl ⟨by decide, by decide⟩, _, _, rfl, rfl, ?_⟩
    refine ⟨f, _, rfl, g2.fl, by omega, by omega, fun d H3 d0 d1 dr3 => ?_⟩
    have g3 := g2.trans dr3.gr
    have tp3 := tp2.trans (dr3.tp g2.fl)
    have hl3 : H3 lf = _ := (dr3.off lf nlf).trans hl2
    refine ⟨_, rfl, _, _, rfl, rfl, ?_⟩
    refine ⟨_, rfl, .inl ⟨rfl, _, SqL.of hl3⟩, _, rfl, _, rfl, f, 2, rfl, g3.fl, by decide, by decide, fun e H4 e0 e1 dr4 => ⟨rfl, (by show 2 ≤ sizeLine; decide), fun l2 hl2' => ?_⟩⟩
    have g4 := g3.trans dr4.gr
    have tp4 := tp3.trans (dr4.tp g3.fl)
    have hl4 : H4 lf = _ := (dr4.off lf nlf).trans hl3
    refine ⟨_, rfl, rfl, .inr ⟨_, rfl, ?_⟩⟩
    generalize hX : HO.lst [V.int (d - wd), V.bl (decide (V.int e = V.int 0))] = X
    have g5 : Gr [] f H (upd H4 l2 X) := g4.trans (Gr.new g4.fl hl2')
    have tp5 : Tp K H' (upd H4 l2 X) := tp4.trans (Tp.new hl2')
    have hl5 : (upd H4 l2 X) lf = some (.lst us) := by rw [upd_ne (ne_of_none hl4 hl2')]; exact hl4
    have h25 : (upd H4 l2 X) l2 = some (.lst [V.int (d - wd), V.bl (decide (V.int e = V.int 0))]) := by rw [← hX]; exact upd_same
    have fin : ∀ v : V, Kv b v → ∃ (l : Addr) (xs : List V) (y : V), V.ref lf = .ref l ∧ [v] = [y] ∧ (upd H4 l2 X) l = some (.lst xs) ∧ xs.length < sizeLine ∧ ∃ (us' : List V) (y3 y4 y5 : Option V), [some (.ref f), some (.ref ka), some (.ref lf), some (.str (kS b)), some (.int wd), some (.int (d - wd))] = [some (.ref f), some (.ref ka), some (.ref lf), y3, y4, y5] ∧ Gr [] f H (upd (upd H4 l2 X) l (.lst (xs ++ [y]))) ∧ SqT K (upd (upd H4 l2 X) l (.lst (xs ++ [y]))) ka (kVs ks) ∧ (upd (upd H4 l2 X) l (.lst (xs ++ [y]))) lf = some (.lst us') ∧ Kvs (ks.take (i + 1)) us' := fun v hv => by
      refine ⟨lf, us, v, rfl, rfl, hl5, smallL (by omega), us ++ [v], _, _, _, rfl, g5.put hlf nlf, (tp5.trans (Tp.lst hl5)) _ _ hk', upd_same, ?_⟩
      rw [List.take_add_one, hb]
      exact hkv.snoc hv
    cases b with
    | true => exact ⟨l2, _, 1, _, rfl, rfl, SqL.of h25, rfl, fin _ ⟨_, rfl⟩⟩
    | false => exact ⟨l2, _, 0, _, rfl, rfl, SqL.of h25, rfl, fin _ ⟨_, rfl⟩⟩
  · rintro σ' H' ⟨us, y3, y4, y5, rfl, g, hk', hl', hkv⟩
    rw [klen, List.take_length] at hkv
    refine ⟨_, rfl, lf, _, rfl, .inl ⟨SqL.of hl', fun t ht => ?_⟩⟩
    exact q t us _ (g.trans (Gr.new g.fl ht)) upd_same hkv
end
end Lm

set_option Elab.async false
set_option linter.all false
set_option maxRecDepth 100000
set_option maxHeartbeats 2000000
namespace Lm
open PySem PySem.Spec PyProof.Rows L2 LmR
theorem iteY {c : Prop} [Decidable c] {A B : Prop} (h : c) (a : A) : if c then A else B := by rw [if_pos h]; exact a
theorem nnT_pg {w : Str} {n m : Nat} (h : nnT w = some (n, m)) : ∃ p : Pg, word p = w ∧ nn p = n ∧ (parts p).length = m := by
  unfold nnT at h
  split at h
  · rename_i c
    cases h
    rcases c with rfl | rfl
    · exact ⟨.inp 0, rfl, rfl, rfl⟩
    · exact ⟨.num 0, rfl, rfl, rfl⟩
  split at h
  · rename_i c
    cases h
    subst c
    exact ⟨.plus 0 (.num 0), rfl, rfl, rfl⟩
  split at h
  · rename_i c
    cases h
    rcases c with rfl | rfl
    · exact ⟨.tr true, rfl, rfl, rfl⟩
    · exact ⟨.tr false, rfl, rfl, rfl⟩
  split at h
  · rename_i c
    cases h
    subst c
    exact ⟨.neg (.num 0), rfl, rfl, rfl⟩
  split at h
  · rename_i c
    cases h
    subst c
    exact ⟨.ite (.num 0) (.num 0) (.num 0), rfl, rfl, rfl⟩
  split at h
  · rename_i c
    cases h
    rcases c with rfl | rfl | rfl | rfl | rfl
    · exact ⟨.bin .least (.num 0) (.num 0), rfl, rfl, rfl⟩
    · exact ⟨.bin .most (.num 0) (.num 0), rfl, rfl, rfl⟩
    · exact ⟨.bin .atmost (.num 0) (.num 0), rfl, rfl, rfl⟩
    · exact ⟨.bin .both (.num 0) (.num 0), rfl, rfl, rfl⟩
    · exact ⟨.bin .either (.num 0) (.num 0), rfl, rfl, rfl⟩
  · cases h
/-- FORMS has no other word -/
def NoFm (K : PySem.W.Frag) (d : Addr) : Prop := ∀ w : Str, nnT w = none → PySem.W.nsIn K d w = some none
def keysIn (es : List DictEntry) : Bool := es.all fun e => match e.key with
  | .str x _ => (nnT x).isSome
  | _ => false
theorem noFm_mk {K : PySem.W.Frag} {d : Addr} {es : Array DictEntry} {n : Nat} (l : K.lookup d = some ⟨.type "dict", none, .dict es n, #[]⟩) (h : keysIn es.toList = true) : NoFm K d := by
  intro w hw
  have key : ∀ e ∈ es.toList, ∃ x t, e.key = .str x t ∧ (nnT x).isSome = true := fun e he => by
    have z := List.all_eq_true.mp h e he
    cases hk : e.key with
    | str x t => rw [hk] at z; exact ⟨x, t, rfl, z⟩
    | _ => rw [hk] at z; cases z
  have f : es.toList.find? (·.key.isStr w) = none := List.find?_eq_none.mpr fun e he => by
    obtain ⟨x, t, ek, hx⟩ := key e he
    rw [ek]
    intro z
    have exw : x = w := by simpa [Value.isStr] using z
    rw [exw, hw] at hx
    cases hx
  have a : es.toList.any (·.refKey) = false := List.any_eq_false.mpr fun e he => by
    obtain ⟨x, t, ek, hx⟩ := key e he
    unfold DictEntry.refKey
    rw [ek]
    simp
  unfold PySem.W.nsIn
  rw [l]
  show (match es.toList.find? (·.key.isStr w) with | some e => some (some e.val) | none => if es.toList.any (·.refKey) then none else some none) = _
  rw [f, a]
  rfl
/-! ### programs by their fronts -/
def frt : Pg → Frt
  | .inp k => ("in", some (k : Int))
  | .num c => ("num", some c)
  | .tr b => (trS b, none)
  | .plus c _ => ("plus", some c)
  | .bin w _ _ => (w.str, none)
  | .neg _ => ("not", none)
  | .ite _ _ _ => ("if", none)
def frtV : Frt → List V
  | (w, none) => [.str w]
  | (w, some n) => [.str w, .int n]
theorem frt_front (p : Pg) : frtV (frt p) = front p := by cases p <;> rfl
/-- a front that some knot has -/
def frtOk (f : Frt) (m : Nat) : Prop := ∃ n, nnT f.1 = some (n, m) ∧ (n = 0 → f.2 = none) ∧ (n ≠ 0 → ∃ i, f.2 = some i ∧ (f.1 = "in" → 0 ≤ i) ∧ i.natAbs < 10000000)
/-- from due parts on these fronts lead to so many -/
def runTo : Nat → List Frt → Nat → Prop
  | d, [], e => d = e
  | d, f :: fs, e => 0 < d ∧ ∃ m, frtOk f m ∧ runTo (d - 1 + m) fs e
theorem runTo_snoc {f : Frt} {m : Nat} (hf : frtOk f m) : ∀ {d : Nat} {fs : List Frt} {e : Nat}, runTo d fs e → 0 < e → runTo d (fs ++ [f]) (e - 1 + m)
  | d, [], e, h, he => by
    have h' : d = e := h
    subst h'
    exact ⟨he, m, hf, rfl⟩
  | d, g :: fs, e, h, he => by
    obtain ⟨h1, m', h2, h3⟩ := h
    exact ⟨h1, m', h2, runTo_snoc hf h3 he⟩
theorem runTo_mem : ∀ {d : Nat} {fs : List Frt} {e : Nat}, runTo d fs e → ∀ f ∈ fs, ∃ m, frtOk f m
  | d, g :: fs, e, h, f, hf => by
    obtain ⟨h1, m', h2, h3⟩ := h
    rcases List.mem_cons.mp hf with z | z
    · rw [z]; exact ⟨m', h2⟩
    · exact runTo_mem h3 f z
/-- its numbers have few figures -/
def frtB (p : Pg) : Prop := ∀ q ∈ kn p, ∀ n, (frt q).2 = some n → n.natAbs < 10000000
theorem frt_mk {f : Frt} {m : Nat} (h : frtOk f m) (ps : List Pg) (hp : ps.length = m) : ∃ p, frt p = f ∧ parts p = ps := by
  obtain ⟨w, o⟩ := f
  obtain ⟨n, h0, h1, h2⟩ := h
  obtain ⟨q, hw, hn, hm⟩ := nnT_pg h0
  cases q with
  | inp k =>
    have hw' : "in" = w := hw
    subst hw'
    obtain ⟨i, e, hi⟩ := h2 (by rw [← hn]; exact (show (1 : Nat) ≠ 0 by decide))
    have e' : o = some i := e
    subst e'
    have i0 := hi.1 rfl
    have e0 : ps = [] := List.eq_nil_of_length_eq_zero (by rw [hp, ← hm]; rfl)
    subst e0
    refine ⟨.inp i.toNat, ?_, rfl⟩
    show (("in" : Str), some ((i.toNat : Nat) : Int)) = (("in" : Str), some i)
    rw [Int.toNat_of_nonneg i0]
  | num c =>
    have hw' : "num" = w := hw
    subst hw'
    obtain ⟨i, e, hi⟩ := h2 (by rw [← hn]; exact (show (1 : Nat) ≠ 0 by decide))
    have e' : o = some i := e
    subst e'
    have e0 : ps = [] := List.eq_nil_of_length_eq_zero (by rw [hp, ← hm]; rfl)
    subst e0
    exact ⟨.num i, rfl, rfl⟩
  | tr b =>
    have hw' : trS b = w := hw
    subst hw'
    have e' : o = none := h1 hn.symm
    subst e'
    have e0 : ps = [] := List.eq_nil_of_length_eq_zero (by rw [hp, ← hm]; rfl)
    subst e0
    exact ⟨.tr b, rfl, rfl⟩
  | plus c a =>
    have hw' : "plus" = w := hw
    subst hw'
    obtain ⟨i, e, hi⟩ := h2 (by rw [← hn]; exact (show (1 : Nat) ≠ 0 by decide))
    have e' : o = some i := e
    subst e'
    have hl : ps.length = 1 := by rw [hp, ← hm]; rfl
    match ps, hl with
    | [x], _ => exact ⟨.plus i x, rfl, rfl⟩
  | bin bw a b =>
    have hw' : bw.str = w := hw
    subst hw'
    have e' : o = none := h1 hn.symm
    subst e'
    have hl : ps.length = 2 := by rw [hp, ← hm]; rfl
    match ps, hl with
    | [x, y], _ => exact ⟨.bin bw x y, rfl, rfl⟩
  | neg a =>
    have hw' : "not" = w := hw
    subst hw'
    have e' : o = none := h1 hn.symm
    subst e'
    have hl : ps.length = 1 := by rw [hp, ← hm]; rfl
    match ps, hl with
    | [x], _ => exact ⟨.neg x, rfl, rfl⟩
  | ite r a b =>
    have hw' : "if" = w := hw
    subst hw'
    have e' : o = none := h1 hn.symm
    subst e'
    have hl : ps.length = 3 := by rw [hp, ← hm]; rfl
    match ps, hl with
    | [x, y, z], _ => exact ⟨.ite x y z, rfl, rfl⟩
theorem forest : ∀ (fs : List Frt) (d : Nat), runTo d fs 0 → ∃ ps : List Pg, ps.length = d ∧ (knf ps).map frt = fs
  | [], d, h => ⟨[], by have h' : d = 0 := h; rw [h']; rfl, rfl⟩
  | f :: fs, d, h => by
    obtain ⟨h1, m, h2, h3⟩ := h
    obtain ⟨ps, hl, hk⟩ := forest fs _ h3
    have e : ps = ps.take m ++ ps.drop m := (List.take_append_drop m ps).symm
    obtain ⟨p, hf, hp⟩ := frt_mk h2 (ps.take m) (by rw [List.length_take]; omega)
    refine ⟨p :: ps.drop m, by rw [List.length_cons, List.length_drop]; omega, ?_⟩
    rw [knf_cons, List.map_cons, hf, hp, List.take_append_drop, hk]
theorem one_program {fs : List Frt} (h : runTo 1 fs 0) : ∃ p : Pg, (kn p).map frt = fs := by
  obtain ⟨ps, hl, hk⟩ := forest fs 1 h
  match ps, hl with
  | [p], _ => exact ⟨p, by rw [← knf_one]; exact hk⟩
theorem run_B {p : Pg} {d e : Nat} (h : runTo d ((kn p).map frt) e) : frtB p := fun q hq n hn => by
  obtain ⟨m, k, h0, h1, h2⟩ := runTo_mem h (frt q) (List.mem_map.mpr ⟨q, hq, rfl⟩)
  by_cases c : k = 0
  · rw [h1 c] at hn; cases hn
  · obtain ⟨i, e, _, b⟩ := h2 c
    rw [e] at hn
    cases hn
    exact b
/-! ### words of fronts -/
def frtW : Frt → List Str
  | (w, none) => [w]
  | (w, some n) => [w, Str.ofString (toString n)]
theorem frtV_len (f : Frt) : (frtV f).length = (frtW f).length := by
  obtain ⟨w, o⟩ := f
  cases o <;> rfl
theorem scan1_ok {ws : List Str} {i : Nat} {f : Frt} {k m : Nat} (h : scan1 ws i = .inr (f, k, m)) : frtOk f m ∧ (frtW f).length = k ∧ ws.take (i + k) = ws.take i ++ frtW f ∧ i + k ≤ ws.length ∧ ws[i]? = some f.1 := by
  unfold scan1 at h
  split at h
  · cases h
  · rename_i w hw
    have hi : i < ws.length := (List.getElem?_eq_some_iff.mp hw).1
    split at h
    · cases h
    · rename_i m' hn
      injection h with h
      injection h with h1 h2
      injection h2 with h2 h3
      subst h1 h2 h3
      refine ⟨⟨0, hn, fun _ => rfl, fun z => absurd rfl z⟩, rfl, ?_, by omega, hw⟩
      rw [List.take_add_one, hw]
      rfl
    · rename_i n' m' hn
      split at h
      · cases h
      · rename_i u hu
        split at h
        · rename_i hN
          split at h
          · cases h
          · rename_i hin
            injection h with h
            injection h with h1 h2
            injection h2 with h2 h3
            subst h1 h2 h3
            refine ⟨⟨n' + 1, hn, fun z => absurd z (by omega), fun _ => ⟨_, rfl, fun z => ?_, num_bound hN⟩⟩, rfl, ?_, ?_, hw⟩
            · have ng : isNeg (chs u) = false := by
                cases e : isNeg (chs u) with
                | false => rfl
                | true => exact absurd ⟨z, e⟩ hin
              have s := num_sign hN
              rw [ng] at s
              have := of_decide_eq_false s
              omega
            · rw [show i + 2 = i + 1 + 1 from rfl, List.take_add_one, List.take_add_one, hw, hu]
              show (ws.take i ++ [w]) ++ [u] = ws.take i ++ [w, Str.ofString (toString (numOf (chs u)))]
              rw [num_show hN]
              simp
            · have := (List.getElem?_eq_some_iff.mp hu).1
              omega
        · cases h
section
variable {P : Program} {w : World} {K : PySem.W.Frag} {mg : Str → Option Value} {base : Heap}
theorem wlen (w : Str) : w.length = (chs w).length := by simp [Str.length]
/-! ### is_number -/
theorem rp_figs (w : Str) : chs (Txt.removeprefix w "-") = figs (chs w) := by
  unfold Txt.removeprefix
  have e : Builtin.Str.subAt w "-" 0 = isNeg (chs w) := by
    rw [StrLaws.subAt_eq, List.drop_zero]
    have h1 : ("-" : Str).length = 1 := by decide +kernel
    have h2 : ("-" : Str).cps.toList = [45] := by decide +kernel
    rw [h1, h2]
    unfold isNeg chs
    cases w.cps.toList with
    | nil => rfl
    | cons c cs => simp
  rw [e]
  by_cases c : isNeg (chs w) = true
  · rw [if_pos c]
    have ef := figs_neg c
    have h1 : ("-" : Str).length = 1 := by decide +kernel
    unfold Txt.affix
    rw [h1]
    have wl : w.length = (figs (chs w)).length + 1 := by rw [wlen]; rw [ef]; rfl
    have hne : ¬ (w.length - 1 == w.length) = true := by
      intro z
      have := beq_iff_eq.mp z
      omega
    show chs (if (w.length - 1 == w.length) = true then w else Builtin.Str.strSub w 1 w.length) = _
    rw [if_neg hne]
    show (Builtin.Str.strSub w 1 w.length).cps.toList = _
    rw [StrLaws.strSub_toList]
    show ((chs w).drop 1).take (w.length - 1) = _
    rw [wl, ef]
    show (figs (chs w)).take ((figs (chs w)).length + 1 - 1) = figs (45 :: figs (chs w))
    rw [Nat.add_sub_cancel, List.take_length]
    rfl
  · rw [if_neg c, figs_pos c]
    rfl
theorem sw_zero (w : Str) : Txt.startswith w "0" = ((chs w).head? == some 48) := by
  unfold Txt.startswith
  have h1 : ("0" : Str).length = 1 := by decide +kernel
  have h2 : ("0" : Str).cps.toList = [48] := by decide +kernel
  rw [StrLaws.subAt_eq, List.drop_zero, h1, h2, wlen]
  unfold chs
  cases w.cps.toList with
  | nil => rfl
  | cons c cs => simp
theorem eq_zero (w : Str) : decide (V.str w = V.str "0") = (chs w == [48]) := by
  have h2 : chs ("0" : Str) = [48] := by decide +kernel
  rw [Bool.eq_iff_iff, decide_eq_true_iff, beq_iff_eq, ← h2]
  exact ⟨fun z => by rw [V.str.inj z], fun z => by rw [str_ext z]⟩
theorem in_figs (c : Nat) : (!(Builtin.Str.occurrences ("0123456789" : Str) ⟨#[c]⟩ 0 ("0123456789" : Str).length 1).isEmpty) = dig c := by
  rw [StrLaws.found_one]
  have h : ("0123456789" : Str).cps.toList = [48, 49, 50, 51, 52, 53, 54, 55, 56, 57] := by decide +kernel
  rw [h]
  unfold dig
  apply decide_eq_decide.mpr
  simp only [List.mem_cons, List.not_mem_nil, or_false]
  omega
abbrev s_is_number : Stmt := topS 49
theorem sc_is_number : FnScope ["word", "figures", "sign"] ["word"] (defScope s_is_number) := ⟨rfl, rfl, rfl, by decide +kernel, rfl, by decide +kernel, by decide +kernel⟩
def spIsN (K : PySem.W.Frag) : Sp := fun vs H Q _ => ∃ w : Str, vs = [.str w] ∧ w.length ≤ 100000 ∧ ∀ H', Same H H' → Q (.bl (isN (chs w))) H'
/-- the rest of both looks, at the figures -/
def isF (cs : List Nat) : Bool := decide (1 ≤ cs.length ∧ cs.length ≤ 6) && (!(cs.head? == some 48) && cs.all dig)
theorem isN_eq (cs : List Nat) : isN cs = ((cs == [48]) || isF (figs cs)) := rfl
theorem ok_is_number (B : Bt mg) {t1 t2 : Tok} (hMOST_FIGURES : mg "MOST_FIGURES" = some (.int 6 t1)) (hFIGURES : mg "FIGURES" = some (.str "0123456789" t2)) (D : DefAt K mg "is_number" s_is_number ["word"]) : Cal P w K mg base 1 "is_number" ["word"] (spIsN K) := by
  refine cal_of D sc_is_number (fun vs H Q E h => ?_) (fun f cdv A outer s H vs Q E hr h => ?_)
  · obtain ⟨w, rfl, _⟩ := h
    rfl
  obtain ⟨w, rfl, hl, q⟩ := h
  refine ⟨_, (pss_cons (ps_if (pt_cmpR op_eq (pv 0) pe_str (nomark _))
        (pss_one (ps_ret pe_bl))
        pss_nil)
      (pss_cons (ps_set (i := 1) sc_is_number.nd rfl (.inl rfl) (pe_bm PySem.F.plainAttrs_str PySem.F.slot_str_removeprefix PySem.F.type_str_removeprefix mt_removeprefix (pv 0) (pa_cons pe_str pa_nil)))
      (pss_cons (ps_if (PW.pt (pw_or (pt_cmpR op_eq (pe_callB call_len_str (by rfl) B.len PySem.boot_len (pa_cons (pv 1) pa_nil)) pe_int (nomark _)) (pw_or (pt_cmpR op_gt (pe_callB call_len_str (by rfl) B.len PySem.boot_len (pa_cons (pv 1) pa_nil)) (pe_glob (v := .int 6) (by rfl) hMOST_FIGURES ⟨_, rfl⟩) (nomark _)) (pw_or1 (pt_val (pe_bm PySem.F.plainAttrs_str PySem.F.slot_str_startswith PySem.F.type_str_startswith mt_startswith (pv 1) (pa_cons pe_str pa_nil)))))))
        (pss_one (ps_ret pe_bl))
        pss_nil)
      (pss_one (ps_ret (pe_callB (cr_all rfl) (by rfl) B.all PyProof.Rows.boot_all (pa_cons (pe_lc (own := [("sign", 2)]) (g := gName 2) rfl sc_is_number.nd (pi_str (pv 1)) (blkOk_by (own := [("sign", 2)]) (N := ["word", "figures", "sign"]) (sc := defScope s_is_number) (by decide +kernel)) (fun _ _ _ _ _ => (pg_name (i := 2) sc_is_number.nd rfl (.inl rfl))) (fun _ _ _ _ _ => pts_nil) (fun _ _ _ _ _ => (pe_cmpR op_in_str (pv 2) (pe_glob (v := .str "0123456789") (by rfl) hFIGURES ⟨_, rfl⟩) rfl))) pa_nil))))))), ?_⟩
  refine ⟨_, rfl, rfl, _, rfl, ite2 (fun z => ?_) (fun z => ?_)⟩
  · rw [eq_zero] at z
    have q' := q _ (Same.refl _)
    rw [isN_eq, z] at q'
    exact q'
  rw [eq_zero] at z
  have z' : (chs w == [48]) = false := by simpa using z
  have q1 : ∀ H', Same H H' → Q (.bl (isF (figs (chs w)))) H' := fun H' s' => by
    have q' := q H' s'
    rw [isN_eq, z', Bool.false_or] at q'
    exact q'
  refine ⟨_, rfl, rfl, w, "-", rfl, rfl, small (by omega), ?_⟩
  have ef := rp_figs w
  generalize Txt.removeprefix w "-" = fg at ef
  rw [← ef] at q1
  have fl : fg.length ≤ 100000 := by
    rw [wlen, ef, ]
    have : (figs (chs w)).length ≤ (chs w).length := by
      by_cases c : isNeg (chs w) = true
      · have e := congrArg List.length (figs_neg c)
        rw [List.length_cons] at e
        omega
      · rw [figs_pos c]; exact Nat.le_refl _
    rw [wlen] at hl
    omega
  have fls : fg.length ≤ sizeLine := small fl
  have no : isF (chs fg) = false → Q (.bl false) H := fun e => by
    have q' := q1 _ (Same.refl _)
    rw [e] at q'
    exact q'
  refine ⟨_, rfl, fg, rfl, fls, rfl, _, rfl, ite2 (fun y => ?_) (fun y => ?_)⟩
  · have y' : ((fg.length : Nat) : Int) = 0 := V.int.inj (of_decide_eq_true y)
    refine iteY rfl (no ?_)
    unfold isF
    rw [decide_eq_false (by rw [← wlen]; omega)]
    rfl
  have y' : fg.length ≠ 0 := fun e => y (decide_eq_true (by rw [e]; rfl))
  refine ⟨_, rfl, fg, rfl, fls, _, _, rfl, rfl, _, rfl, ite2 (fun x => ?_) (fun x => ?_)⟩
  · have x' : ((fg.length : Nat) : Int) > 6 := of_decide_eq_true x
    refine iteY rfl (no ?_)
    unfold isF
    rw [decide_eq_false (by rw [← wlen]; omega)]
    rfl
  have x' : ¬ ((fg.length : Nat) : Int) > 6 := fun e => x (decide_eq_true e)
  refine ⟨_, rfl, rfl, fg, "0", rfl, rfl, _, rfl, ?_⟩
  show if Txt.startswith fg "0" = true then _ else _
  rw [sw_zero]
  have e1 : isF (chs fg) = ((!((chs fg).head? == some 48)) && (chs fg).all dig) := by
    unfold isF
    rw [decide_eq_true (by rw [← wlen]; omega), Bool.true_and]
  refine ite2 (fun v => ?_) (fun v => ?_)
  · refine no ?_
    rw [e1, v]
    rfl
  have v' : ((chs fg).head? == some 48) = false := by simpa using v
  rw [v', Bool.not_false, Bool.true_and] at e1
  rw [e1] at q1
  refine ⟨_, rfl, fg, rfl, fun D hD => lc_it walk_str (fun i H' => Same H H' ∧ H' D = some (.lst ((((chs fg).take i).map dig).map V.bl))) ?_ ?_ ?_ ?_⟩
  · exact ⟨same_new hD, upd_same⟩
  · exact fun _ _ _ _ => trivial
  · rintro i x H' H'' hi ⟨sm, hD'⟩ ⟨rfl, c, hc, rfl⟩
    refine ⟨rfl, _, rfl, _, _, rfl, rfl, _, hD', ?_, ?_, ?_⟩
    · rw [List.length_map, List.length_map, List.length_take]
      rw [wlen] at fl
      exact smallL (by omega)
    · intro b o z
      rw [upd_ne (ne_of_none z hD)]
      exact sm _ _ z
    · rw [upd_same]
      have hc' : (chs fg)[i]? = some c := by
        show fg.cps.toList[i]? = some c
        rw [Array.getElem?_toList]
        exact hc
      rw [in_figs, List.take_add_one, hc', List.map_append, List.map_append]
      rfl
  · rintro H' ⟨sm, hD'⟩
    have en : (chs fg).take fg.cps.size = chs fg := List.take_of_length_le (by simp)
    rw [en] at hD'
    refine ⟨D, _, rfl, SqL.of hD', ?_⟩
    have q' := q1 H' sm
    rw [show (chs fg).all dig = ((chs fg).map dig).all id by rw [List.all_map]; rfl] at q'
    exact q'
end
end Lm

set_option Elab.async false
set_option linter.all false
set_option maxRecDepth 100000
set_option maxHeartbeats 2000000
namespace Lm
open PySem PySem.Spec PyProof.Rows L2 LmR
theorem scan_done (ws : List Str) (m i : Nat) (fs : List Frt) : scan ws m i 0 fs = if i = ws.length then .ok fs else .bad i := by
  cases m with
  | zero => unfold scan; rw [if_pos rfl]
  | succ m => unfold scan; rw [if_pos rfl]
theorem scan_zero {ws : List Str} {i due : Nat} {fs : List Frt} (h : 0 < due) : scan ws 0 i due fs = .bad i := by
  unfold scan
  rw [if_neg (by omega)]
theorem scan_inl {ws : List Str} {m i due e : Nat} {fs : List Frt} (h : 0 < due) (h1 : scan1 ws i = .inl e) : scan ws (m + 1) i due fs = .bad e := by
  unfold scan
  rw [if_neg (by omega), h1]
theorem scan_inr {ws : List Str} {m i due k a : Nat} {f : Frt} {fs : List Frt} (h : 0 < due) (h1 : scan1 ws i = .inr (f, k, a)) : scan ws (m + 1) i due fs = scan ws m (i + k) (due - 1 + a) (fs ++ [f]) := by
  conv => lhs; unfold scan
  rw [if_neg (by omega), h1]
theorem scan1_none {ws : List Str} {i : Nat} (h : ws[i]? = none) : scan1 ws i = .inl i := by
  unfold scan1
  rw [h]
theorem scan1_no {ws : List Str} {i : Nat} {w : Str} (h : ws[i]? = some w) (hn : nnT w = none) : scan1 ws i = .inl i := by
  unfold scan1
  rw [h]
  show (match nnT w with | none => _ | some (0, m) => _ | some (_ + 1, m) => _) = _
  rw [hn]
section
variable {P : Program} {w : World} {K : PySem.W.Frag} {mg : Str → Option Value} {base : Heap}
theorem catT_any {a b : Addr} {xs ys : List V} {H : Hp} {Q : VK} (ha : SqT K H a xs) (hb : SqT K H b ys) (hz : xs.length + ys.length ≤ sizeLine) (q : ∀ p H', Same H H' → SqT K H' p (xs ++ ys) → Q (.ref p) H') : rCatA K (.ref a) (.ref b) H Q :=
  ⟨a, b, xs, ys, rfl, rfl, ha, hb, hz, fun e => q b H (fun _ _ z => z) (by rw [e]; exact hb), fun _ e => q a H (fun _ _ z => z) (by rw [e, List.append_nil]; exact ha), fun _ _ p hp => q p _ (same_new hp) (.inl (.inl upd_same))⟩
/-- tuples with these fronts -/
def Frs (K : PySem.W.Frag) (H : Hp) (us : List V) (fs : List Frt) : Prop := us.length = fs.length ∧ ∀ (j : Nat) (f : Frt), fs[j]? = some f → ∃ a, us[j]? = some (.ref a) ∧ SqT K H a (frtV f)
theorem Frs.keep {H H' : Hp} {us : List V} {fs : List Frt} (h : Frs K H us fs) (t : Tp K H H') : Frs K H' us fs := ⟨h.1, fun j f e => by
  obtain ⟨a, b, c⟩ := h.2 j f e
  exact ⟨a, b, t _ _ c⟩⟩
theorem Frs.snoc {H : Hp} {us : List V} {fs : List Frt} {a : Addr} {f : Frt} (h : Frs K H us fs) (ha : SqT K H a (frtV f)) : Frs K H (us ++ [.ref a]) (fs ++ [f]) := by
  refine ⟨by rw [List.length_append, List.length_append, h.1]; rfl, fun j g e => ?_⟩
  by_cases c : j < fs.length
  · rw [List.getElem?_append_left c] at e
    obtain ⟨b, e1, e2⟩ := h.2 j g e
    exact ⟨b, by rw [List.getElem?_append_left (by rw [h.1]; exact c)]; exact e1, e2⟩
  · rw [List.getElem?_append_right (by omega)] at e
    have z : j - fs.length = 0 := by
      have := (List.getElem?_eq_some_iff.mp e).1
      simp at this
      omega
    rw [z] at e
    have e' : f = g := by simpa using e
    subst e'
    exact ⟨a, by rw [List.getElem?_append_right (by rw [h.1]; omega), h.1, z]; rfl, ha⟩
abbrev s_NoText : Stmt := (clsBody (topS 4)).getD 0 (.Pass ⟨0, 0, 0, 0⟩)
theorem sc_NoText : FnScope ["self", "at"] ["self", "at"] (defScope s_NoText) := ⟨rfl, rfl, rfl, by decide +kernel, rfl, by decide +kernel, by decide +kernel⟩
variable {c_NoText i_NoText : Addr} {f_NoText : FuncData}
theorem ini_NoText {P : Program} {w : World} {base : Heap} (R : Rf K mg "NoText" "NoText.__init__" c_NoText i_NoText f_NoText s_NoText ["at"]) : FnOk P w K mg base (L2.CX P w) 1 i_NoText f_NoText ["self", "at"] (spIni1 c_NoText "at") := by
  refine R.F.okX sc_NoText (fun vs H Q E h => ?_) (fun cdv A outer s H vs Q E hr h => ?_)
  · obtain ⟨a, x, rfl, _⟩ := h
    rfl
  obtain ⟨a, x, rfl, ha, q⟩ := h
  refine ⟨_, pss_one (ps_ost (pv 0) (pv 1)), ?_⟩
  refine ⟨_, rfl, _, rfl, a, _, rfl, R.o, R.fld _ (by simp), .inl ⟨ha, fun d hd nd => q d _ hd upd_same ?_ fun b h1 h2 => ?_⟩⟩
  · rw [upd_ne nd, upd_same]
  · rw [upd_ne h1, upd_ne h2]
abbrev s_front_at : Stmt := topS 48
theorem sc_front_at : FnScope ["words", "at", "word", "number"] ["words", "at"] (defScope s_front_at) := ⟨rfl, rfl, rfl, by decide +kernel, rfl, by decide +kernel, by decide +kernel⟩
def spFA (K : PySem.W.Frag) (C : Addr) : Sp := fun vs H Q E => ∃ (l : Addr) (ws : List Str) (i : Nat) (x : Str) (n m : Nat), vs = [.ref l, .int (i : Int)] ∧ SqL K H l (ws.map V.str) ∧ ws.length ≤ 100000 ∧ (∀ u ∈ ws, u.length ≤ 100000) ∧ ws[i]? = some x ∧ nnT x = some (n, m) ∧
  (∀ f k a, scan1 ws i = .inr (f, k, a) → ∀ t H', Same H H' → H' t = some (.tup (frtV f)) → Q (.ref t) H') ∧ ∀ e, scan1 ws i = .inl e → ∀ a H', Same H H' → H' a = some (.xd [("at", .int (e : Nat))]) → E (.ref C) (some a) H'
theorem ok_front_at (B : Bt mg) (R_NoText : Rf K mg "NoText" "NoText.__init__" c_NoText i_NoText f_NoText s_NoText ["at"]) (C_many_numbers : Cal P w K mg base 1 "many_numbers" ["word"] (spMN)) (C_is_number : Cal P w K mg base 1 "is_number" ["word"] (spIsN K)) (D : DefAt K mg "front_at" s_front_at ["words", "at"]) : CalX P w K mg base 3 "front_at" ["words", "at"] (spFA K c_NoText) := by
  refine calx_of D sc_front_at (fun vs H Q E h => ?_) (fun f cdv A outer s H vs Q E hr h => ?_)
  · obtain ⟨l, ws, i, x, n, m, rfl, _⟩ := h
    rfl
  obtain ⟨l, ws, i, x, n, m, rfl, hl, hwl, hws, hx, hn, q, qe⟩ := h
  have C_many_numbers := C_many_numbers.mono (k := 2) (by decide)
  have C_is_number := C_is_number.mono (k := 2) (by decide)
  have hr' : Room 2 _ := hr
  refine ⟨_, (pss_cons (ps_set (i := 2) sc_front_at.nd rfl (.inl rfl) (pe_ix ix_list (pv 0) (pv 1) (fun _ _ => rfl)))
      (pss_cons (ps_if (pt_cmpR op_eq (pe_cal C_many_numbers hr' (by rfl) (pa_cons (pv 2) pa_nil)) pe_int (nomark _))
        (pss_one (ps_ret (pe_tup (pa_cons (pv 2) pa_nil))))
        pss_nil)
      (pss_cons (ps_if (PW.pt (pw_or (pt_cmpR op_eq (pe_op op_add (pv 1) pe_int) (pe_callB call_len_seq (by rfl) B.len PySem.boot_len (pa_cons (pv 0) pa_nil)) (nomark _)) (pw_or1 (pt_not (pt_val (pe_cal C_is_number hr' (by rfl) (pa_cons (pe_ix ix_list (pv 0) (pe_op op_add (pv 1) pe_int) (fun _ _ => rfl)) pa_nil)))))))
        (pss_one (ps_ref R_NoText (ini_NoText R_NoText) hr rfl (takes_of rfl rfl rfl rfl) (by rfl) (pa_cons (pe_op op_add (pv 1) pe_int) pa_nil)))
        pss_nil)
      (pss_cons (ps_set (i := 3) sc_front_at.nd rfl (.inl rfl) (pe_callTy call_int_str (by rfl) B.int PyProof.Rows.boot_int (pa_cons (pe_ix ix_list (pv 0) (pe_op op_add (pv 1) pe_int) (fun _ _ => rfl)) pa_nil)))
      (pss_cons (ps_if (PW.pt (pw_and (pt_cmpR op_eq (pv 2) pe_str (nomark _)) (pw_and1 (pt_cmpR op_lt (pv 3) pe_int (nomark _)))))
        (pss_one (ps_ref R_NoText (ini_NoText R_NoText) hr rfl (takes_of rfl rfl rfl rfl) (by rfl) (pa_cons (pe_op op_add (pv 1) pe_int) pa_nil)))
        pss_nil)
      (pss_one (ps_ret (pe_tup (pa_cons (pv 2) (pa_cons (pv 3) pa_nil)))))))))), ?_⟩
  have hi : i < ws.length := (List.getElem?_eq_some_iff.mp hx).1
  have exw : (ws.map V.str)[i]? = some (.str x) := by rw [List.getElem?_map, hx]; rfl
  have ml : (ws.map V.str).length = ws.length := List.length_map _
  refine ⟨_, rfl, _, rfl, l, _, _, _, rfl, rfl, hl, at_of (j := i) rfl exw, ?_⟩
  obtain ⟨p, rfl, ep, em⟩ := nnT_pg hn
  refine ⟨_, rfl, p, rfl, rfl, _, rfl, ite2 (fun z => ?_) (fun z => ?_)⟩
  · have z' : ((nn p : Nat) : Int) = 0 := V.int.inj (of_decide_eq_true z)
    have n0 : n = 0 := by omega
    subst n0
    refine ⟨_, rfl, (by show 1 ≤ sizeLine; decide), fun t ht => q (word p, none) 1 m ?_ t _ (same_new ht) upd_same⟩
    unfold scan1
    rw [hx]
    show (match nnT (word p) with | none => _ | some (0, m) => _ | some (_ + 1, m) => _) = _
    rw [hn]
  have n1 : n ≠ 0 := fun e => z (decide_eq_true (by rw [ep, e]; rfl))
  obtain ⟨n', rfl⟩ : ∃ n', n = n' + 1 := ⟨n - 1, by omega⟩
  have s1 : scan1 ws i = match ws[i + 1]? with
      | none => .inl (i + 1)
      | some u => if isN (chs u) = true then (if word p = "in" ∧ isNeg (chs u) = true then .inl (i + 1) else .inr ((word p, some (numOf (chs u))), 2, m)) else .inl (i + 1) := by
    conv => lhs; unfold scan1
    rw [hx]
    show (match nnT (word p) with | none => _ | some (0, m) => _ | some (_ + 1, m) => _) = _
    rw [hn] <;> rfl
  have e1 : (i : Int) + 1 = ((i + 1 : Nat) : Int) := by omega
  have fail : scan1 ws i = .inl (i + 1) → ∀ H', Same H H' → ∃ (i_1 j : Int), V.int (i : Int) = .int i_1 ∧ V.int 1 = .int j ∧ ([V.int (i_1 + j)].length ≤ 1000 ∧ ∀ a, H' a = none → spIni1 c_NoText "at" (.ref a :: ([V.int (i_1 + j)] ++ [])) (upd H' a (exo a c_NoText none)) (fun v H2 => v = .non ∧ ∃ (d : Addr) (fs : List (Str × V)), H2 a = some (exo a c_NoText (some d)) ∧ H2 d = some (exd d fs) ∧ H' d = none ∧ E (.ref c_NoText) (some d) (upd (del H2 a) d (.xd fs))) (fun _ _ _ => False)) := fun hs H' sm => ⟨(i : Int), 1, rfl, rfl, mk_one fun a' H2 r => qe (i + 1) hs a' H2 (sm.trans r.same) (by rw [← e1]; exact r.2.1)⟩
  refine ⟨_, rfl, _, _, rfl, rfl, _, rfl, l, _, rfl, .inl hl, rfl, _, rfl, ite2 (fun y => ?_) (fun y => ?_)⟩
  · have y' : (i : Int) + 1 = (((ws.map V.str).length : Nat) : Int) := V.int.inj (of_decide_eq_true y)
    refine iteY rfl ⟨_, rfl, fail ?_ H (Same.refl _)⟩
    rw [s1, List.getElem?_eq_none (by omega)]
  have y' : i + 1 < ws.length := by
    have : ¬ (i : Int) + 1 = (((ws.map V.str).length : Nat) : Int) := fun e => y (decide_eq_true (show V.int ((i : Int) + 1) = V.int (((ws.map V.str).length : Nat) : Int) from congrArg V.int e))
    omega
  obtain ⟨u, hu⟩ : ∃ u, ws[i + 1]? = some u := ⟨_, List.getElem?_eq_getElem y'⟩
  have ul := hws u (List.mem_of_getElem? hu)
  have exu : (ws.map V.str)[i + 1]? = some (.str u) := by rw [List.getElem?_map, hu]; rfl
  rw [hu] at s1
  refine ⟨_, rfl, _, rfl, _, _, rfl, rfl, l, _, _, _, rfl, rfl, hl, at_of (j := i + 1) e1 exu, u, rfl, ul, fun H1 sm1 => ⟨_, rfl, ite2 (fun v => ?_) (fun v => ?_)⟩⟩
  · have v' : isN (chs u) = false := by simpa using v
    refine ⟨_, rfl, fail ?_ H1 sm1⟩
    rw [s1]
    show (if isN (chs u) = true then _ else _) = _
    rw [v']
    rfl
  have v' : isN (chs u) = true := by simpa using v
  obtain ⟨it, il⟩ := num_text v'
  have s2 : scan1 ws i = if word p = "in" ∧ isNeg (chs u) = true then .inl (i + 1) else .inr ((word p, some (numOf (chs u))), 2, m) := by
    rw [s1]
    show (if isN (chs u) = true then _ else _) = _
    rw [if_pos v']
  refine ⟨_, rfl, _, rfl, _, _, rfl, rfl, l, _, _, _, rfl, rfl, sm1.seq hl, at_of (j := i + 1) e1 exu, u, _, rfl, it, by omega, ?_⟩
  have good : ¬ (word p = "in" ∧ isNeg (chs u) = true) → [V.str (word p), V.int (numOf (chs u))].length ≤ sizeLine ∧ ∀ t, H1 t = none → Q (.ref t) (upd H1 t (.tup [V.str (word p), V.int (numOf (chs u))])) := fun hg => ⟨(by show 2 ≤ sizeLine; decide), fun t ht => q (word p, some (numOf (chs u))) 2 m (by rw [s2, if_neg hg]) t _ (sm1.trans (same_new ht)) upd_same⟩
  refine ⟨_, rfl, rfl, _, rfl, ite2 (fun x => ?_) (fun x => ?_)⟩
  · have x' : word p = "in" := V.str.inj (of_decide_eq_true x)
    refine ⟨_, rfl, _, _, rfl, rfl, _, rfl, ?_⟩
    show if decide (numOf (chs u) < 0) = true then _ else _
    rw [num_sign v']
    refine ite2 (fun t => ?_) (fun t => ?_)
    · refine ⟨_, rfl, fail ?_ H1 sm1⟩
      rw [s2, if_pos ⟨x', t⟩]
    · exact ⟨_, rfl, _, rfl, good fun z => t z.2⟩
  · have x' : ¬ word p = "in" := fun e => x (decide_eq_true (by rw [e]))
    exact iteF ⟨_, rfl, _, rfl, good fun z => x' z.1⟩
abbrev s_built : Stmt := topS 50
theorem sc_built : FnScope ["fronts", "ready", "front"] ["fronts"] (defScope s_built) := ⟨rfl, rfl, rfl, by decide +kernel, rfl, by decide +kernel, by decide +kernel⟩
def spBuilt (K : PySem.W.Frag) : Sp := fun vs H Q _ => ∃ (l : Addr) (us : List V) (p : Pg), vs = [.ref l] ∧ H l = some (.lst us) ∧ Frs K H us ((kn p).map frt) ∧ psz p ≤ 10000 ∧ ∀ (u : V) (H' : Hp), Same H H' → At K H' u p → Q u H'
theorem ok_built (B : Bt mg) (C_taken : Cal P w K mg base 1 "taken" ["pile", "many"] (spTaken)) (C_many_parts : Cal P w K mg base 1 "many_parts" ["word"] (spMP)) (D : DefAt K mg "built" s_built ["fronts"]) : Cal P w K mg base 2 "built" ["fronts"] (spBuilt K) := by
  refine cal_of D sc_built (fun vs H Q E h => ?_) (fun f cdv A outer s H vs Q E hr h => ?_)
  · obtain ⟨l, us, p, rfl, _⟩ := h
    rfl
  obtain ⟨le, es, p, rfl, hle0, hes, hsz, q⟩ := h
  have hr' : Room 1 _ := hr
  refine ⟨_, (pss_cons (ps_set (i := 1) sc_built.nd rfl (.inl rfl) (pe_lst pa_nil))
      (pss_cons (ps_for PassesOwn.never rfl (pi_reversed (by rfl) B.reversed (pa_cons (pv 0) pa_nil)) (pg_name (i := 2) sc_built.nd rfl (.inl rfl))
        (pss_one (ps_expr (pe_bm PySem.F.plainAttrs_list PySem.F.slot_list_append PySem.F.type_list_append mt_append (pv 1) (pa_cons (pe_op op_catA (pv 2) (pe_cal C_taken hr' (by rfl) (pa_cons (pv 1) (pa_cons (pe_cal C_many_parts hr' (by rfl) (pa_cons (pe_ix ix_tup (pv 2) pe_int (fun _ _ => rfl)) pa_nil)) pa_nil)))) pa_nil)))))
      (pss_one (ps_ret (pe_ix ix_list (pv 1) pe_int (fun _ _ => rfl)))))), ?_⟩
  refine ⟨(by show 0 ≤ sizeLine; decide), fun lr hlr => ?_⟩
  have s1 : Same H (upd H lr (.lst [])) := same_new hlr
  have r1 : (upd H lr (.lst [])) lr = some (.lst []) := upd_same
  generalize upd H lr (.lst []) = H1 at s1 r1
  have nler : le ≠ lr := ne_of_none hle0 hlr
  have kl := kn_len p
  have ul : es.length = (kn p).length := by rw [hes.1, List.length_map]
  refine ⟨_, rfl, le, es, rfl, SqL.of (s1 _ _ hle0), for_rev (K := K) (a := le) (xs := es) (fun i σ' H' => ∃ (fs : List Pg) (ws : List V) (y3 : Option V), σ' = [some (.ref le), some (.ref lr), y3] ∧ Same H H' ∧ (kn p).drop (es.length - i) = knf fs ∧ H' lr = some (.lst ws.reverse) ∧ Ats K H' ws fs) ?_ ?_ ?_ ?_⟩
  · exact ⟨[], [], none, rfl, s1, by rw [ul, Nat.sub_zero, List.drop_length]; rfl, r1, .nil⟩
  · rintro i σ' H' ⟨fs, ws, y3, rfl, sm, _⟩
    exact SqL.of (sm _ _ hle0)
  · rintro i xv σ' H' hi hxv ⟨fs, ws, y3, rfl, sm, hdrop, hlr', hws⟩
    have eI : es.length - 1 - i = es.length - (i + 1) := by omega
    rw [eI] at hxv
    have hlt : es.length - (i + 1) < (kn p).length := by omega
    have hx : (kn p)[es.length - (i + 1)]? = some (kn p)[es.length - (i + 1)] := List.getElem?_eq_getElem hlt
    generalize (kn p)[es.length - (i + 1)] = x at hx
    obtain ⟨a, hxv', ha⟩ := (hes.keep (Tp.same sm)).2 (es.length - (i + 1)) (frt x) (by rw [List.getElem?_map, hx]; rfl)
    rw [hxv] at hxv'
    obtain rfl : xv = .ref a := Option.some.inj hxv'
    rw [frt_front] at ha
    have e1 : es.length - (i + 1) + 1 = es.length - i := by omega
    obtain ⟨rest, rfl, hdr⟩ := knf_step hx (by rw [e1]; exact hdrop)
    have plen : (parts x).length ≤ 3 := by cases x <;> simp [parts]
    obtain ⟨w1, w2, rfl, hw1, hw2⟩ : ∃ w1 w2, ws = w1 ++ w2 ∧ Ats K H' w1 (parts x) ∧ Ats K H' w2 rest := by
      have z : ∀ (as bs : List Pg) (ws : List V), Ats K H' ws (as ++ bs) → ∃ w1 w2, ws = w1 ++ w2 ∧ Ats K H' w1 as ∧ Ats K H' w2 bs := by
        intro as
        induction as with
        | nil => intro bs ws h; exact ⟨[], ws, rfl, .nil, h⟩
        | cons q as ih =>
          intro bs ws h
          cases ws with
          | nil => cases h
          | cons u ws =>
            cases h with
            | cons h1 h2 =>
              obtain ⟨w1, w2, rfl, g1, g2⟩ := ih bs ws h2
              exact ⟨u :: w1, w2, rfl, .cons h1 g1, g2⟩
      exact z _ _ _ hws
    have wl1 : w1.length = (parts x).length := hw1.len
    rw [List.reverse_append] at hlr'
    refine ⟨_, rfl, .inl ⟨rfl, _, SqL.of hlr'⟩, _, rfl, _, rfl, _, rfl, a, _, 0, _, rfl, rfl, ha, by have z := at_word x []; rw [List.append_nil] at z; exact z, x, rfl, lr, w2.reverse, w1, by rw [wl1]; rfl, hlr', by omega, fun tt H5 ex5 hlr5 ht5 => ?_⟩
    have sm5 : Same H H5 := fun b o hb => ex5 b o (sm b o hb) (by simp [ne_of_none hb hlr])
    have tp5 : Tp K H' H5 := ex5.tp fun b hb ys z => by
      rw [List.mem_singleton.mp hb] at z
      rcases z with z | ⟨o, z⟩
      · rw [hlr'] at z; cases z
      · rw [hlr'] at z; cases z
    have ha5 := tp5 _ _ ha
    have hw15 := hw1.keep tp5
    have hw25 := hw2.keep tp5
    have rl : w2.length ≤ 10000 := by
      have z := knf_len rest
      have z2 : (kn p).length - (es.length - (i + 1)) = (knf (x :: rest)).length := by rw [← hdr, List.length_drop]
      rw [knf_cons, List.length_cons] at z2
      have z3 : knf (parts x ++ rest) = knf (parts x) ++ knf rest := by simp [knf]
      rw [z3, List.length_append] at z2
      have z4 := hw2.len
      omega
    refine catT_any (ys := w1) ha5 (.inl (.inl ht5)) ?_ fun p2 H6 s6 q6 => ?_
    · rw [front_len]
      have : nn x ≤ 1 := by cases x <;> simp [nn]
      exact small (by omega)
    have hu : At K H6 (.ref p2) x := At.make (vs := w1) q6 (hw15.keep (Tp.same s6))
    have hlr6 := s6 _ _ hlr5
    have t7 : Tp K H6 (upd H6 lr (.lst (w2.reverse ++ [.ref p2]))) := Tp.lst hlr6
    refine ⟨lr, _, _, rfl, rfl, hlr6, by rw [List.length_reverse]; exact smallL (by omega), x :: rest, .ref p2 :: w2, _, rfl, fun b o hb => ?_, hdr, by rw [upd_same, List.reverse_cons], .cons (hu.keep t7) ((hw25.keep (Tp.same s6)).keep t7)⟩
    rw [upd_ne (ne_of_none hb hlr)]
    exact s6 _ _ (sm5 b o hb)
  · rintro σ' H' ⟨fs, ws, y3, rfl, sm, hdrop, hlr', hws⟩
    rw [Nat.sub_self, List.drop_zero, ← knf_one] at hdrop
    have ef := knf_inj _ _ _ (Nat.le_refl _) hdrop
    subst ef
    obtain ⟨u, rfl, hu⟩ := Ats.one hws
    exact ⟨_, rfl, lr, _, 0, u, rfl, rfl, SqL.of hlr', rfl, q u H' sm hu⟩
abbrev s_read : Stmt := topS 47
theorem sc_read : FnScope ["text", "words", "fronts", "at", "due", "front"] ["text"] (defScope s_read) := ⟨rfl, rfl, rfl, by decide +kernel, rfl, by decide +kernel, by decide +kernel⟩
def spRead (K : PySem.W.Frag) (C : Addr) : Sp := fun vs H Q E => ∃ z : Str, vs = [.str z] ∧ z.length ≤ 50000 ∧
  (∀ p : Pg, scan (Txt.split z " ") 60 0 1 [] = .ok ((kn p).map frt) → psz p ≤ 60 → frtB p → ((kn p).map frt).flatMap frtW = Txt.split z " " → ∀ (u : V) (H' : Hp), Same H H' → At K H' u p → Q u H') ∧
  ∀ n, scan (Txt.split z " ") 60 0 1 [] = .bad n → ∀ a H', Same H H' → H' a = some (.xd [("at", .int (n : Nat))]) → E (.ref C) (some a) H'
theorem ok_read {d : Addr} (B : Bt mg) (F : Forms K w mg d) (NF : NoFm K d) (R_NoText : Rf K mg "NoText" "NoText.__init__" c_NoText i_NoText f_NoText s_NoText ["at"]) {t1 : Tok} (hMOST_KNOTS : mg "MOST_KNOTS" = some (.int 60 t1)) (C_front_at : CalX P w K mg base 3 "front_at" ["words", "at"] (spFA K c_NoText)) (C_built : Cal P w K mg base 2 "built" ["fronts"] (spBuilt K)) (C_many_parts : Cal P w K mg base 1 "many_parts" ["word"] (spMP)) (D : DefAt K mg "read" s_read ["text"]) : CalX P w K mg base 4 "read" ["text"] (spRead K c_NoText) := by
  refine calx_of D sc_read (fun vs H Q E h => ?_) (fun f cdv A outer s H vs Q E hr h => ?_)
  · obtain ⟨z, rfl, _⟩ := h
    rfl
  obtain ⟨z, rfl, hz, q, qe⟩ := h
  have C_built := C_built.mono (k := 3) (by decide)
  have C_many_parts := C_many_parts.mono (k := 3) (by decide)
  have hr' : Room 3 _ := hr
  have hr := hr'.mono (show 2 ≤ 3 by decide)
  have hFORMS := F.g
  obtain ⟨es, n0, kd⟩ := F.k
  refine ⟨_, (pss_cons (ps_set (i := 1) sc_read.nd rfl (.inl rfl) (pe_bm PySem.F.plainAttrs_str PySem.F.slot_str_split PySem.F.type_str_split mt_split (pv 0) (pa_cons pe_str pa_nil)))
      (pss_cons (ps_set (i := 2) sc_read.nd rfl (.inl rfl) (pe_lst pa_nil))
      (pss_cons (ps_set (i := 3) sc_read.nd rfl (.inl rfl) pe_int)
      (pss_cons (ps_set (i := 4) sc_read.nd rfl (.inl rfl) pe_int)
      (pss_cons (ps_while (passes_of rfl) (pt_cmpR op_gt (pv 4) pe_int (nomark _))
        (pss_cons (ps_if (PW.pt (pw_or (pt_cmpR op_eq (pv 3) (pe_callB call_len_seq (by rfl) B.len PySem.boot_len (pa_cons (pv 1) pa_nil)) (nomark _)) (pw_or (pt_cmpR op_eq (pe_callB call_len_seq (by rfl) B.len PySem.boot_len (pa_cons (pv 2) pa_nil)) (pe_glob (v := .int 60) (by rfl) hMOST_KNOTS ⟨_, rfl⟩) (nomark _)) (pw_or1 (pt_cmpR (op_notIn_kd kd) (pe_ix ix_list (pv 1) (pv 3) (fun _ _ => rfl)) (pe_gr (by rfl) hFORMS) rfl)))))
        (pss_one (ps_ref R_NoText (ini_NoText R_NoText) hr rfl (takes_of rfl rfl rfl rfl) (by rfl) (pa_cons (pv 3) pa_nil)))
        pss_nil)
      (pss_cons (ps_set (i := 5) sc_read.nd rfl (.inl rfl) (pe_calX C_front_at (takes_of rfl rfl rfl rfl) hr' (by rfl) (pa_cons (pv 1) (pa_cons (pv 3) pa_nil))))
      (pss_cons (ps_expr (pe_bm PySem.F.plainAttrs_list PySem.F.slot_list_append PySem.F.type_list_append mt_append (pv 2) (pa_cons (pv 5) pa_nil)))
      (pss_cons (ps_aug (i := 3) sc_read.nd rfl (.inl rfl) (pe_callB call_len_seq (by rfl) B.len PySem.boot_len (pa_cons (pv 5) pa_nil)) ip_add)
      (pss_one (ps_aug (i := 4) sc_read.nd rfl (.inl rfl) (pe_op op_sub (pe_cal C_many_parts hr' (by rfl) (pa_cons (pe_ix ix_tup (pv 5) pe_int (fun _ _ => rfl)) pa_nil)) pe_int) ip_add)))))))
      (pss_cons (ps_if (pt_cmpR op_lt (pv 3) (pe_callB call_len_seq (by rfl) B.len PySem.boot_len (pa_cons (pv 1) pa_nil)) (nomark _))
        (pss_one (ps_ref R_NoText (ini_NoText R_NoText) hr rfl (takes_of rfl rfl rfl rfl) (by rfl) (pa_cons (pv 3) pa_nil)))
        pss_nil)
      (pss_one (ps_ret (pe_cal C_built hr' (by rfl) (pa_cons (pv 2) pa_nil)))))))))), ?_⟩
  have wsl := PyProof.Rows.split_le z " "
  have wsw : ∀ u ∈ Txt.split z " ", u.length ≤ 100000 := fun u hu => by
    have z1 := PyProof.Rows.split_weight z " " (by decide +kernel)
    have z2 : u.length ≤ ((Txt.split z " ").map (·.length)).sum := by
      have : ∀ (l : List Str), u ∈ l → u.length ≤ (l.map (·.length)).sum := by
        intro l
        induction l with
        | nil => intro h; cases h
        | cons x xs ih =>
          intro h
          rcases List.mem_cons.mp h with e | e
          · rw [e, List.map_cons, List.sum_cons]; omega
          · have := ih e
            rw [List.map_cons, List.sum_cons]; omega
      exact this _ hu
    omega
  refine ⟨_, rfl, rfl, z, " ", rfl, rfl, by decide +kernel, small (by omega), fun lw hlw => ?_⟩
  generalize Txt.split z " " = ws at q qe wsl wsw
  have s1 : Same H (upd H lw (.lst (ws.map V.str))) := same_new hlw
  have e1 : (upd H lw (.lst (ws.map V.str))) lw = some (.lst (ws.map V.str)) := upd_same
  generalize upd H lw (.lst (ws.map V.str)) = H1 at s1 e1
  refine ⟨(by show 0 ≤ sizeLine; decide), fun lf hlf => ?_⟩
  have s2 : Same H1 (upd H1 lf (.lst [])) := same_new hlf
  have e2 : (upd H1 lf (.lst [])) lf = some (.lst []) := upd_same
  have lf0 : H lf = none := s1.free hlf
  have nwf : lw ≠ lf := ne_of_none e1 hlf
  have ew2 := s2 _ _ e1
  have s02 := s1.trans s2
  generalize upd H1 lf (.lst []) = H2 at s02 e2 ew2
  have ml : (ws.map V.str).length = ws.length := List.length_map _
  refine ⟨fun m σ H' => ∃ (i due : Nat) (fs : List Frt) (us : List V) (y5 : Option V), σ = [some (.str z), some (.ref lw), some (.ref lf), some (.int (i : Int)), some (.int (due : Int)), y5] ∧ Same H H' ∧ H' lw = some (.lst (ws.map V.str)) ∧ H' lf = some (.lst us) ∧ Frs K H' us fs ∧ fs.length + m = 60 ∧ runTo 1 fs due ∧ fs.flatMap frtW = ws.take i ∧ i ≤ ws.length ∧ scan ws m i due fs = scan ws 60 0 1 [], ?_, ?_⟩
  · exact ⟨60, 0, 1, [], [], none, rfl, s02, ew2, e2, ⟨rfl, fun j f h => by simp at h⟩, rfl, rfl, rfl, Nat.zero_le _, rfl⟩
  · rintro m σ H' ⟨i, due, fs, us, y5, rfl, sm, hw', hf', hfs, hlen, hrun, htk, hile, hsc⟩
    refine ⟨_, rfl, _, _, rfl, rfl, _, rfl, ite2 (fun c => ?_) (fun c => ?_)⟩
    · have c' : (due : Int) > 0 := of_decide_eq_true c
      have dpos : 0 < due := by omega
      refine ⟨fun σ' H2 => ∃ m', m' < m ∧ ∃ (i due : Nat) (fs : List Frt) (us : List V) (y5 : Option V), σ' = [some (.str z), some (.ref lw), some (.ref lf), some (.int (i : Int)), some (.int (due : Int)), y5] ∧ Same H H2 ∧ H2 lw = some (.lst (ws.map V.str)) ∧ H2 lf = some (.lst us) ∧ Frs K H2 us fs ∧ fs.length + m' = 60 ∧ runTo 1 fs due ∧ fs.flatMap frtW = ws.take i ∧ i ≤ ws.length ∧ scan ws m' i due fs = scan ws 60 0 1 [], fun σ' H2 h => h, ?_⟩
      have ul : us.length = fs.length := hfs.1
      have fail : scan ws 60 0 1 [] = .bad i → _ := fun hb => mk_one (C := c_NoText) (f := "at") (x := .int (i : Int)) (H := H') (Q := E) fun a' H2 r => qe i hb a' H2 (sm.trans r.same) r.2.1
      refine ⟨_, rfl, _, rfl, lw, _, rfl, .inl (SqL.of hw'), rfl, _, rfl, ite2 (fun y => ?_) (fun y => ?_)⟩
      · have y' : (i : Int) = (((ws.map V.str).length : Nat) : Int) := V.int.inj (of_decide_eq_true y)
        refine iteY rfl ⟨_, rfl, fail ?_⟩
        rw [← hsc]
        cases m with
        | zero => exact scan_zero dpos
        | succ m => exact scan_inl dpos (scan1_none (List.getElem?_eq_none (by omega)))
      have hlt : i < ws.length := by
        have : ¬ (i : Int) = (((ws.map V.str).length : Nat) : Int) := fun e => y (decide_eq_true (by rw [e]))
        omega
      refine ⟨_, rfl, lf, us, rfl, .inl (SqL.of hf'), rfl, _, rfl, ite2 (fun y => ?_) (fun y => ?_)⟩
      · have y' : ((us.length : Nat) : Int) = 60 := V.int.inj (of_decide_eq_true y)
        refine iteY rfl ⟨_, rfl, fail ?_⟩
        rw [← hsc, show m = 0 by omega]
        exact scan_zero dpos
      obtain ⟨m, rfl⟩ : ∃ m', m = m' + 1 := ⟨m - 1, by
        have : ¬ ((us.length : Nat) : Int) = 60 := fun e => y (decide_eq_true (by rw [e]))
        omega⟩
      obtain ⟨x, hx⟩ : ∃ x, ws[i]? = some x := ⟨_, List.getElem?_eq_getElem hlt⟩
      have exw : (ws.map V.str)[i]? = some (.str x) := by rw [List.getElem?_map, hx]; rfl
      cases hn : nnT x with
      | none =>
        refine ⟨_, rfl, _, rfl, lw, _, _, _, rfl, rfl, SqL.of hw', at_of (j := i) rfl exw, x, none, rfl, rfl, NF x hn, _, rfl, iteY rfl ⟨_, rfl, fail ?_⟩⟩
        rw [← hsc]
        exact scan_inl dpos (scan1_no hx hn)
      | some nm =>
        obtain ⟨nx, mx⟩ := nm
        obtain ⟨pp, rfl, en, em⟩ := nnT_pg hn
        obtain ⟨ta, tb, eF, _, _⟩ := F.e pp
        refine ⟨_, rfl, _, rfl, lw, _, _, _, rfl, rfl, SqL.of hw', at_of (j := i) rfl exw, word pp, _, rfl, rfl, eF, _, rfl, iteF ?_⟩
        refine ⟨_, rfl, _, rfl, lw, ws, i, word pp, nx, mx, rfl, SqL.of hw', by omega, wsw, hx, hn, fun fr k a hs t H3 s3 ht => ?_, fun e hs a H3 s3 ha => ?_⟩
        · obtain ⟨fok, flen, ftk, fle, fw⟩ := scan1_ok hs
          have efr : fr.1 = word pp := by rw [hx] at fw; exact (Option.some.inj fw).symm
          have hf3 := s3 _ _ hf'
          have ntf : t ≠ lf := fun zz => by rw [zz, hf3] at ht; cases ht
          refine ⟨_, rfl, .inl ⟨rfl, _, SqL.of hf3⟩, _, rfl, lf, us, _, rfl, rfl, hf3, smallL (by omega), ?_⟩
          have t4 : Tp K H3 (upd H3 lf (.lst (us ++ [.ref t]))) := Tp.lst hf3
          have e4 : (upd H3 lf (.lst (us ++ [.ref t]))) lf = some (.lst (us ++ [.ref t])) := upd_same
          have ht4 : SqT K (upd H3 lf (.lst (us ++ [.ref t]))) t (frtV fr) := t4 _ _ (.inl (.inl ht))
          have sm4 : Same H (upd H3 lf (.lst (us ++ [.ref t]))) := fun b o zb => by
            rw [upd_ne (ne_of_none zb lf0)]
            exact s3 _ _ (sm b o zb)
          have hw4 : (upd H3 lf (.lst (us ++ [.ref t]))) lw = some (.lst (ws.map V.str)) := by rw [upd_ne nwf]; exact s3 _ _ hw'
          have fr4 := ((hfs.keep (Tp.same s3)).keep t4).snoc ht4
          generalize upd H3 lf (.lst (us ++ [.ref t])) = H4 at e4 ht4 sm4 hw4 fr4
          have vl : (frtV fr).length = k := by rw [frtV_len]; exact flen
          have ea : a = mx := by
            obtain ⟨n1, hh, _⟩ := fok
            rw [efr, hn] at hh
            cases hh
            rfl
          refine ⟨_, rfl, _, rfl, t, _, rfl, .inr ht4, _, _, rfl, rfl, ?_⟩
          have at0 : atI (frtV fr) 0 = some (.str (word pp)) := by
            obtain ⟨fw', fo⟩ := fr
            have e' : fw' = word pp := efr
            subst e'
            cases fo <;> rfl
          refine ⟨_, rfl, _, rfl, t, _, 0, _, rfl, rfl, ht4, at0, pp, rfl, _, _, rfl, rfl, _, _, rfl, rfl, ?_⟩
          refine ⟨m, Nat.lt_succ_self _, i + k, due - 1 + a, fs ++ [fr], us ++ [.ref t], some (.ref t), ?_, sm4, hw4, e4, fr4, by rw [List.length_append, List.length_singleton]; omega, runTo_snoc fok hrun dpos, by rw [List.flatMap_append, htk, ftk]; simp, fle, ?_⟩
          · show [some (V.str z), some (.ref lw), some (.ref lf), some (.int ((i : Int) + (((frtV fr).length : Nat) : Int))), some (.int ((due : Int) + ((((parts pp).length : Nat) : Int) - 1))), some (.ref t)] = _
            rw [vl, em, ← ea, show (i : Int) + ((k : Nat) : Int) = ((i + k : Nat) : Int) by omega, show (due : Int) + (((a : Nat) : Int) - 1) = ((due - 1 + a : Nat) : Int) by omega]
          · rw [← scan_inr dpos hs]
            exact hsc
        · refine qe e ?_ a H3 (sm.trans s3) ha
          rw [← hsc]
          exact scan_inl dpos hs
    · have c' : ¬ (due : Int) > 0 := fun e => c (decide_eq_true e)
      have d0 : due = 0 := by omega
      subst d0
      rw [scan_done] at hsc
      refine ⟨_, rfl, _, rfl, lw, _, rfl, .inl (SqL.of hw'), _, _, rfl, rfl, _, rfl, ite2 (fun y => ?_) (fun y => ?_)⟩
      · have y' : (i : Int) < (((ws.map V.str).length : Nat) : Int) := of_decide_eq_true y
        rw [if_neg (by omega)] at hsc
        exact ⟨_, rfl, mk_one fun a' H2 r => qe i hsc.symm a' H2 (sm.trans r.same) r.2.1⟩
      · have y' : ¬ (i : Int) < (((ws.map V.str).length : Nat) : Int) := fun e => y (decide_eq_true e)
        have ei : i = ws.length := by omega
        rw [if_pos ei] at hsc
        obtain ⟨p, hp⟩ := one_program hrun
        subst hp
        have pz : psz p ≤ 60 := by rw [← kn_len]; rw [List.length_map] at hlen; omega
        refine ⟨_, rfl, lf, us, p, rfl, hf', hfs, by omega, fun u H3 s3 hu => q p hsc.symm pz (run_B hrun) ?_ u H3 (sm.trans s3) hu⟩
        rw [htk, ei, List.take_length]
end
end Lm

set_option Elab.async false
set_option linter.all false
set_option maxRecDepth 100000
set_option maxHeartbeats 2000000
namespace Lm
open PySem PySem.Spec PyProof.Rows L2 LmR
def wordsOf (p : Pg) : List Str := (kn p).flatMap fun q => frtW (frt q)
def txt (p : Pg) : Str := Str.join " " (wordsOf p)
theorem frtW_ne (f : Frt) : frtW f ≠ [] := by
  obtain ⟨w, o⟩ := f
  cases o <;> simp [frtW]
theorem wordsOf_ne (p : Pg) : wordsOf p ≠ [] := by
  unfold wordsOf
  rw [kn_eq, List.flatMap_cons]
  have := frtW_ne (frt p)
  simp [this]
/-- all signs of its words -/
def wsum (p : Pg) : Nat := ((wordsOf p).map (·.length)).sum
theorem words_len (p : Pg) : (wordsOf p).length ≤ 2 * psz p := by
  unfold wordsOf
  rw [← kn_len]
  induction kn p with
  | nil => simp
  | cons q qs ih =>
    rw [List.flatMap_cons, List.length_append, List.length_cons]
    have : (frtW (frt q)).length ≤ 2 := by cases q <;> simp [frt, frtW]
    omega
theorem txt_len (p : Pg) : (txt p).length ≤ wsum p + 2 * psz p := by
  have h := StrLaws.join_length_le " " (wordsOf p)
  have h1 : (" " : Str).length = 1 := by decide +kernel
  have h2 := words_len p
  rw [h1, Nat.mul_one] at h
  unfold txt wsum
  omega
theorem log_small {n : Nat} (h : n < 10000000) : n.log2 < 1920 := by
  by_cases c : n = 0
  · rw [c]; decide
  · have z := (Nat.log2_lt c).mpr (show n < 2 ^ 24 from Nat.lt_of_lt_of_le h (by decide))
    omega
theorem str_num {i : Int} (h1 : -1000 ≤ i) (h2 : i ≤ 1000) : (Str.ofString (toString i)).length ≤ 11 ∧ i.natAbs.log2 < 1920 := by
  refine ⟨?_, log_small (by omega)⟩
  by_cases c : 0 ≤ i
  · have z := PySem.W.KT.len_num c (show i < 10 ^ 10 by omega)
    omega
  · obtain ⟨m, rfl⟩ : ∃ m : Nat, i = Int.negSucc m := ⟨(-i - 1).toNat, by omega⟩
    have z := PySem.W.KT.len_num (n := ((m + 1 : Nat) : Int)) (by omega) (by omega)
    have e : chs (Str.ofString (toString (Int.negSucc m))) = 45 :: chs (Str.ofString (toString ((m + 1 : Nat) : Int))) := by
      rw [ofString_chs, ofString_chs]
      show ("-" ++ Nat.repr (m + 1)).toList.map Char.toNat = 45 :: (Nat.repr (m + 1)).toList.map Char.toNat
      rw [String.toList_append, List.map_append]
      rfl
    rw [wlen, e, List.length_cons, ← wlen]
    omega
theorem nb_kn : ∀ (n : Nat) (p q : Pg), psz p ≤ n → Nb p → q ∈ kn p → Nb q
  | 0, p, _, hn, _, _ => by have := psz_pos p; omega
  | n + 1, p, q, hn, hb, hq => by
    rw [kn_eq] at hq
    rcases List.mem_cons.mp hq with e | e
    · rw [e]; exact hb
    · obtain ⟨s, hs, hq⟩ := List.mem_flatMap.mp e
      have z := psz_part p s hs
      refine nb_kn n s q (by omega) ?_ hq
      cases p with
      | inp k => simp [parts] at hs
      | num k => simp [parts] at hs
      | tr k => simp [parts] at hs
      | plus c a => simp only [parts, List.mem_singleton] at hs; subst hs; exact hb.2
      | bin w a b =>
        simp only [parts, List.mem_cons, List.not_mem_nil, or_false] at hs
        rcases hs with rfl | rfl
        · exact hb.1
        · exact hb.2
      | neg a => simp only [parts, List.mem_singleton] at hs; subst hs; exact hb
      | ite r a b =>
        simp only [parts, List.mem_cons, List.not_mem_nil, or_false] at hs
        rcases hs with rfl | rfl | rfl
        · exact hb.1
        · exact hb.2.1
        · exact hb.2.2
/-- what the law's programs have: few figures, short words -/
theorem wn_text {ks : List Bool} {p : Pg} (h : Wn ks p) (hk : ks.length ≤ 1000) : frtB p ∧ wsum p ≤ 24 * psz p := by
  have each : ∀ q ∈ kn p, (∀ n, (frt q).2 = some n → n.natAbs ≤ 1000) ∧ ((frtW (frt q)).map (·.length)).sum ≤ 24 := fun q hq => by
    have hb := nb_kn _ p q (Nat.le_refl _) h.2 hq
    have hw := kn_wk ks p q h.1 hq
    cases q with
    | inp k =>
      have hk' : k < ks.length := hw
      refine ⟨fun n e => by cases e; omega, ?_⟩
      have z := (str_num (i := (k : Int)) (by omega) (by omega)).1
      show ("in" : Str).length + ((Str.ofString (toString (k : Int))).length + 0) ≤ 24
      rw [show ("in" : Str).length = 2 by decide +kernel]
      omega
    | num c =>
      refine ⟨fun n e => by cases e; have := hb.1; have := hb.2; omega, ?_⟩
      have z := (str_num hb.1 hb.2).1
      show ("num" : Str).length + ((Str.ofString (toString c)).length + 0) ≤ 24
      rw [show ("num" : Str).length = 3 by decide +kernel]
      omega
    | plus c a =>
      refine ⟨fun n e => by cases e; have := hb.1.1; have := hb.1.2; omega, ?_⟩
      have z := (str_num hb.1.1 hb.1.2).1
      show ("plus" : Str).length + ((Str.ofString (toString c)).length + 0) ≤ 24
      rw [show ("plus" : Str).length = 4 by decide +kernel]
      omega
    | tr b => exact ⟨fun n e => (by cases b <;> cases e), (by cases b <;> decide +kernel)⟩
    | bin bw a b =>
      refine ⟨fun n e => (by cases e), ?_⟩
      show (bw.str).length + 0 ≤ 24
      cases bw <;> decide +kernel
    | neg a => exact ⟨fun n e => (by cases e), (by show ("not" : Str).length + 0 ≤ 24; decide +kernel)⟩
    | ite r a b => exact ⟨fun n e => (by cases e), (by show ("if" : Str).length + 0 ≤ 24; decide +kernel)⟩
  refine ⟨fun q hq n e => by have := (each q hq).1 n e; omega, ?_⟩
  have sum : ∀ l : List Pg, (∀ q ∈ l, ((frtW (frt q)).map (·.length)).sum ≤ 24) → ((l.flatMap fun q => frtW (frt q)).map (·.length)).sum ≤ 24 * l.length := by
    intro l
    induction l with
    | nil => intro _; simp
    | cons x xs ih =>
      intro h
      have h1 := h x List.mem_cons_self
      have h2 := ih fun q hq => h q (List.mem_cons_of_mem _ hq)
      rw [List.flatMap_cons, List.map_append, List.sum_append, List.length_cons]
      omega
  have z := sum (kn p) fun q hq => (each q hq).2
  rw [kn_len] at z
  exact z
/-- its numbers have at most six figures -/
def frt6 (p : Pg) : Prop := ∀ q ∈ kn p, ∀ n, (frt q).2 = some n → n.natAbs < 1000000
theorem frt6.b {p : Pg} (h : frt6 p) : frtB p := fun q hq n e => by have := h q hq n e; omega
theorem wn_six {ks : List Bool} {p : Pg} (h : Wn ks p) (hk : ks.length ≤ 1000) : frt6 p := fun q hq n e => by
  have hb := nb_kn _ p q (Nat.le_refl _) h.2 hq
  have hw := kn_wk ks p q h.1 hq
  cases q with
  | inp k =>
    have hk' : k < ks.length := hw
    cases e
    omega
  | num c => cases e; have := hb.1; have := hb.2; omega
  | plus c a => cases e; have := hb.1.1; have := hb.1.2; omega
  | tr b => cases e
  | bin bw a b => cases e
  | neg a => cases e
  | ite r a b => cases e
/-! ### the text of a number -/
theorem dig_char2 : ∀ d : Nat, d < 10 → (Nat.digitChar d).toNat = 48 + d := by decide
theorem digs : ∀ (k n : Nat), 0 < n → n < 10 ^ k → ((Nat.toDigits 10 n).map Char.toNat) ≠ [] ∧ ((Nat.toDigits 10 n).map Char.toNat).length ≤ k ∧ ((Nat.toDigits 10 n).map Char.toNat).head? ≠ some 48 ∧ (∀ c ∈ (Nat.toDigits 10 n).map Char.toNat, 48 ≤ c ∧ c ≤ 57) ∧ NumText.digitsVal ((Nat.toDigits 10 n).map Char.toNat) = n
  | 0, n, h, h1 => by simp at h1; omega
  | k + 1, n, h, h1 => by
    by_cases c : n < 10
    · rw [Nat.toDigits_of_lt_base c]
      have e := dig_char2 n c
      refine ⟨by simp, by simp, ?_, ?_, ?_⟩
      · show some (Nat.digitChar n).toNat ≠ some 48
        rw [e]
        intro z
        have := Option.some.inj z
        omega
      · intro x hx
        have : x = (Nat.digitChar n).toNat := by simpa using hx
        rw [this, e]
        omega
      · show NumText.digitsVal [(Nat.digitChar n).toNat] = n
        rw [e]
        show 0 * 10 + (48 + n - 48) = n
        omega
    · have ih := digs k (n / 10) (by omega) (by rw [Nat.pow_succ] at h1; omega)
      have t := Nat.toDigits_append_toDigits (b := 10) (n := n / 10) (d := n % 10) (by decide) (by omega) (by omega)
      have e0 : 10 * (n / 10) + n % 10 = n := by omega
      rw [e0] at t
      rw [← t, List.map_append, Nat.toDigits_of_lt_base (show n % 10 < 10 by omega)]
      generalize (Nat.toDigits 10 (n / 10)).map Char.toNat = xs at ih
      have e := dig_char2 (n % 10) (by omega)
      obtain ⟨i1, i2, i3, i4, i5⟩ := ih
      show (xs ++ [(Nat.digitChar (n % 10)).toNat]) ≠ [] ∧ (xs ++ [(Nat.digitChar (n % 10)).toNat]).length ≤ k + 1 ∧ (xs ++ [(Nat.digitChar (n % 10)).toNat]).head? ≠ some 48 ∧ (∀ c ∈ xs ++ [(Nat.digitChar (n % 10)).toNat], 48 ≤ c ∧ c ≤ 57) ∧ NumText.digitsVal (xs ++ [(Nat.digitChar (n % 10)).toNat]) = n
      refine ⟨by simp, by rw [List.length_append, List.length_singleton]; omega, ?_, ?_, ?_⟩
      · cases xs with
        | nil => exact absurd rfl i1
        | cons x xs => exact i3
      · intro c hc
        rcases List.mem_append.mp hc with z | z
        · exact i4 c z
        · rw [List.mem_singleton.mp z, e]
          omega
      · rw [dv_snoc, i5, e]
        omega
theorem isN_of {cs : List Nat} (h1 : figs cs ≠ []) (h2 : (figs cs).length ≤ 6) (h3 : (figs cs).head? ≠ some 48) (h4 : ∀ c ∈ figs cs, 48 ≤ c ∧ c ≤ 57) : isN cs = true := by
  unfold isN
  rw [Bool.or_eq_true]
  refine .inr ?_
  rw [Bool.and_eq_true, Bool.and_eq_true]
  refine ⟨decide_eq_true ⟨?_, h2⟩, ?_, List.all_eq_true.mpr fun c hc => decide_eq_true (h4 c hc)⟩
  · cases hf : figs cs with
    | nil => exact absurd hf h1
    | cons x xs => rw [List.length_cons]; omega
  · cases hh : ((figs cs).head? == some 48) with
    | false => rfl
    | true => exact absurd (by simpa using hh) h3
theorem num_chs (i : Int) (h : i.natAbs < 1000000) : isN (chs (Str.ofString (toString i))) = true ∧ numOf (chs (Str.ofString (toString i))) = i ∧ 32 ∉ chs (Str.ofString (toString i)) := by
  cases i with
  | ofNat n =>
    by_cases c : n = 0
    · subst c
      decide +kernel
    · have e : chs (Str.ofString (toString (Int.ofNat n))) = (Nat.toDigits 10 n).map Char.toNat := PySem.W.KIN.signs_num n
      have hn : n < 1000000 := h
      obtain ⟨i1, i2, i3, i4, i5⟩ := digs 6 n (by omega) (by omega)
      rw [e]
      generalize (Nat.toDigits 10 n).map Char.toNat = cs at i1 i2 i3 i4 i5
      have ng : ¬ isNeg cs = true := fun z => by
        have := figs_neg z
        have := i4 45 (by rw [this]; exact List.mem_cons_self)
        omega
      have ef := figs_pos ng
      refine ⟨isN_of (by rw [ef]; exact i1) (by rw [ef]; exact i2) (by rw [ef]; exact i3) (by rw [ef]; exact i4), ?_, fun z => ?_⟩
      · unfold numOf
        rw [if_neg ng, ef, i5]
        rfl
      · have := i4 32 z
        omega
  | negSucc m =>
    have e : chs (Str.ofString (toString (Int.negSucc m))) = 45 :: (Nat.toDigits 10 (m + 1)).map Char.toNat := by
      rw [ofString_chs]
      show ("-" ++ Nat.repr (m + 1)).toList.map Char.toNat = 45 :: (Nat.toDigits 10 (m + 1)).map Char.toNat
      rw [String.toList_append, List.map_append, Nat.toList_repr]
      rfl
    have hn : m + 1 < 1000000 := h
    obtain ⟨i1, i2, i3, i4, i5⟩ := digs 6 (m + 1) (by omega) (by omega)
    rw [e]
    generalize (Nat.toDigits 10 (m + 1)).map Char.toNat = cs at i1 i2 i3 i4 i5
    have ef : figs (45 :: cs) = cs := rfl
    refine ⟨isN_of (by rw [ef]; exact i1) (by rw [ef]; exact i2) (by rw [ef]; exact i3) (by rw [ef]; exact i4), ?_, fun z => ?_⟩
    · unfold numOf
      rw [if_pos (show isNeg (45 :: cs) = true from rfl), ef, i5]
      omega
    · rcases List.mem_cons.mp z with z | z
      · omega
      · have := i4 32 z
        omega
/-! ### a program's words, scanned -/
theorem word_sp (p : Pg) : 32 ∉ chs (word p) := by
  cases p with
  | tr b => cases b <;> decide +kernel
  | bin bw a b =>
    show 32 ∉ chs bw.str
    cases bw <;> decide +kernel
  | inp k => show 32 ∉ chs "in"; decide +kernel
  | num k => show 32 ∉ chs "num"; decide +kernel
  | plus k a => show 32 ∉ chs "plus"; decide +kernel
  | neg a => show 32 ∉ chs "not"; decide +kernel
  | ite a b c => show 32 ∉ chs "if"; decide +kernel
theorem frtW_sp {f : Frt} {m : Nat} (h : frtOk f m) (hb : ∀ n, f.2 = some n → n.natAbs < 1000000) : ∀ u ∈ frtW f, 32 ∉ chs u := fun u hu => by
  obtain ⟨fw, fo⟩ := f
  obtain ⟨n, h0, _⟩ := h
  obtain ⟨p, rfl, _⟩ := nnT_pg h0
  cases fo with
  | none =>
    rw [List.mem_singleton.mp (show u ∈ [word p] from hu)]
    exact word_sp p
  | some i =>
    rcases List.mem_cons.mp (show u ∈ [word p, Str.ofString (toString i)] from hu) with z | z
    · rw [z]; exact word_sp p
    · rw [List.mem_singleton.mp z]
      exact (num_chs i (hb i rfl)).2.2
theorem scan1_words {ws : List Str} {i m : Nat} {f : Frt} {R : List Str} (h : frtOk f m) (hb : ∀ n, f.2 = some n → n.natAbs < 1000000) (hd : ws.drop i = frtW f ++ R) : scan1 ws i = .inr (f, (frtW f).length, m) := by
  obtain ⟨fw, fo⟩ := f
  obtain ⟨n, h0, h1, h2⟩ := h
  have g : ∀ j, ws[i + j]? = (frtW (fw, fo) ++ R)[j]? := fun j => by rw [← hd, List.getElem?_drop]
  cases fo with
  | none =>
    have hw : ws[i]? = some fw := g 0
    have n0 : n = 0 := by
      by_cases c : n = 0
      · exact c
      · obtain ⟨k, e, _⟩ := h2 c
        cases e
    subst n0
    unfold scan1
    rw [hw]
    show (match nnT fw with | none => _ | some (0, m) => _ | some (_ + 1, m) => _) = _
    have h0' : nnT fw = some (0, m) := h0
    rw [h0']
    rfl
  | some k =>
    have hw : ws[i]? = some fw := g 0
    have hu : ws[i + 1]? = some (Str.ofString (toString k)) := g 1
    obtain ⟨n', rfl⟩ : ∃ n', n = n' + 1 := ⟨n - 1, by
      have : n ≠ 0 := fun z => by have := h1 z; cases this
      omega⟩
    obtain ⟨k', e, hin, _⟩ := h2 (by omega)
    cases e
    obtain ⟨c1, c2, _⟩ := num_chs k (hb k rfl)
    have ng : ¬ (fw = "in" ∧ isNeg (chs (Str.ofString (toString k))) = true) := fun z => by
      have := hin z.1
      have s := num_sign c1
      rw [c2, z.2] at s
      have := of_decide_eq_true s
      omega
    unfold scan1
    rw [hw]
    show (match nnT fw with | none => _ | some (0, m) => _ | some (_ + 1, m) => _) = _
    have h0' : nnT fw = some (n' + 1, m) := h0
    rw [h0', hu]
    show (if isN (chs (Str.ofString (toString k))) = true then (if fw = "in" ∧ isNeg (chs (Str.ofString (toString k))) = true then (Sum.inl (i + 1) : Nat ⊕ (Frt × Nat × Nat)) else Sum.inr ((fw, some (numOf (chs (Str.ofString (toString k))))), 2, m)) else Sum.inl (i + 1)) = _
    rw [if_pos c1, if_neg ng, c2]
    rfl
theorem scan_words {ws : List Str} : ∀ (fs : List Frt) (m i due : Nat) (acc : List Frt), runTo due fs 0 → fs.length ≤ m → (∀ f ∈ fs, ∀ n, f.2 = some n → n.natAbs < 1000000) → i ≤ ws.length → ws.drop i = fs.flatMap frtW → scan ws m i due acc = .ok (acc ++ fs)
  | [], m, i, due, acc, hr, _, _, hi, hd => by
    have e : due = 0 := hr
    subst e
    have hl : i = ws.length := by
      have := congrArg List.length hd
      rw [List.length_drop] at this
      simp at this
      omega
    rw [scan_done, if_pos hl, List.append_nil]
  | f :: fs, m, i, due, acc, hr, hm, hb, hi, hd => by
    obtain ⟨d0, k, fok, hr'⟩ := hr
    obtain ⟨m', rfl⟩ : ∃ m', m = m' + 1 := ⟨m - 1, by rw [List.length_cons] at hm; omega⟩
    rw [List.flatMap_cons] at hd
    have s1 := scan1_words fok (hb f List.mem_cons_self) hd
    rw [scan_inr d0 s1]
    have dl := congrArg List.length hd
    rw [List.length_drop, List.length_append] at dl
    rw [scan_words fs m' _ _ (acc ++ [f]) hr' (by rw [List.length_cons] at hm; omega) (fun g hg => hb g (List.mem_cons_of_mem _ hg)) (by omega) (by rw [← List.drop_drop, hd, List.drop_left]), List.append_assoc]
    rfl
theorem nnT_word (p : Pg) : nnT (word p) = some (nn p, (parts p).length) := by
  cases p with
  | tr b =>
    show nnT (trS b) = some (0, 0)
    cases b <;> decide +kernel
  | bin bw a b =>
    show nnT bw.str = some (0, 2)
    cases bw <;> decide +kernel
  | inp k => show nnT "in" = some (1, 0); decide +kernel
  | num k => show nnT "num" = some (1, 0); decide +kernel
  | plus k a => show nnT "plus" = some (1, 1); decide +kernel
  | neg a => show nnT "not" = some (0, 1); decide +kernel
  | ite a b c => show nnT "if" = some (0, 3); decide +kernel
theorem frt_word (p : Pg) : (frt p).1 = word p := by cases p <;> rfl
theorem frt_ok (p : Pg) (hb : ∀ n, (frt p).2 = some n → n.natAbs < 1000000) : frtOk (frt p) (parts p).length := by
  refine ⟨nn p, by rw [frt_word]; exact nnT_word p, fun z => ?_, fun z => ?_⟩
  · cases p <;> first | rfl | cases z
  · cases p with
    | inp k => exact ⟨_, rfl, fun _ => Int.natCast_nonneg _, by have := hb _ rfl; omega⟩
    | num c => exact ⟨_, rfl, fun e => absurd e (show ¬ ("num" : Str) = "in" by decide +kernel), by have := hb _ rfl; omega⟩
    | plus c a => exact ⟨_, rfl, fun e => absurd e (show ¬ ("plus" : Str) = "in" by decide +kernel), by have := hb _ rfl; omega⟩
    | tr b => exact absurd rfl z
    | bin bw a b => exact absurd rfl z
    | neg a => exact absurd rfl z
    | ite a b c => exact absurd rfl z
theorem run_knf : ∀ (n : Nat) (ps : List Pg), (knf ps).length ≤ n → (∀ q ∈ knf ps, ∀ n, (frt q).2 = some n → n.natAbs < 1000000) → runTo ps.length ((knf ps).map frt) 0
  | n, [], _, _ => rfl
  | 0, q :: fs, l, _ => by rw [knf_cons] at l; simp at l
  | n + 1, q :: fs, l, hb => by
    rw [knf_cons] at l hb ⊢
    refine ⟨by rw [List.length_cons]; omega, (parts q).length, frt_ok q (hb q List.mem_cons_self), ?_⟩
    have ih := run_knf n (parts q ++ fs) (by rw [List.length_cons] at l; omega) fun s hs => hb s (List.mem_cons_of_mem _ hs)
    rw [List.length_append] at ih
    rw [show (q :: fs).length - 1 + (parts q).length = (parts q).length + fs.length by rw [List.length_cons]; omega]
    exact ih
theorem flatMap_words (l : List Pg) : (l.map frt).flatMap frtW = l.flatMap fun q => frtW (frt q) := by
  induction l with
  | nil => rfl
  | cons x xs ih => rw [List.map_cons, List.flatMap_cons, List.flatMap_cons, ih]
theorem txt_join (p : Pg) : txt p = Txt.join " " (wordsOf p) := by
  show _ = Builtin.Str.glued " " _
  rw [StrLaws.glued_eq_join]
  rfl
theorem split_txt {p : Pg} (hb : frt6 p) : Txt.split (txt p) " " = wordsOf p := by
  rw [txt_join]
  refine TL.split_join (s := 32) (S := []) (by decide +kernel) (by decide +kernel) (wordsOf_ne p) fun u hu => ?_
  obtain ⟨q, hq, hu⟩ := List.mem_flatMap.mp hu
  exact frtW_sp (frt_ok q (hb q hq)) (hb q hq) u hu
theorem scan_txt {p : Pg} (h60 : psz p ≤ 60) (hb : frt6 p) : scan (Txt.split (txt p) " ") 60 0 1 [] = .ok ((kn p).map frt) := by
  rw [split_txt hb]
  have r := run_knf _ [p] (Nat.le_refl _) (by rw [knf_one]; exact hb)
  rw [knf_one] at r
  have z := scan_words (ws := wordsOf p) ((kn p).map frt) 60 0 1 [] r (by rw [List.length_map, kn_len]; exact h60) (fun f hf n e => by
    obtain ⟨q, hq, rfl⟩ := List.mem_map.mp hf
    exact hb q hq n e) (Nat.zero_le _) (by rw [List.drop_zero, flatMap_words]; rfl)
  exact z
/-! ### knots by their fronts -/
def tag : Pg → Nat
  | .inp _ => 0
  | .num _ => 1
  | .tr _ => 2
  | .plus _ _ => 3
  | .bin _ _ _ => 4
  | .neg _ => 5
  | .ite _ _ _ => 6
def tagW (w : Str) : Nat := if w = "in" then 0 else if w = "num" then 1 else if w = "yes" ∨ w = "no" then 2 else if w = "plus" then 3 else if w = "not" then 5 else if w = "if" then 6 else 4
theorem tag_word (p : Pg) : tagW (word p) = tag p := by
  cases p with
  | tr b =>
    show tagW (trS b) = 2
    cases b <;> decide +kernel
  | bin bw a b =>
    show tagW bw.str = 4
    cases bw <;> decide +kernel
  | inp k => show tagW "in" = 0; decide +kernel
  | num k => show tagW "num" = 1; decide +kernel
  | plus k a => show tagW "plus" = 3; decide +kernel
  | neg a => show tagW "not" = 5; decide +kernel
  | ite a b c => show tagW "if" = 6; decide +kernel
theorem trS_inj {a b : Bool} (h : trS a = trS b) : a = b := by
  cases a <;> cases b <;> first | rfl | exact absurd h (by decide +kernel)
theorem bw_inj {a b : Bw} (h : a.str = b.str) : a = b := by
  cases a <;> cases b <;> first | rfl | exact absurd h (by decide +kernel)
theorem frt_inj {p q : Pg} (h1 : frt p = frt q) (h2 : parts p = parts q) : p = q := by
  have hw : word p = word q := by rw [← frt_word, ← frt_word, h1]
  have ht : tag p = tag q := by rw [← tag_word, ← tag_word, hw]
  have hn := congrArg Prod.snd h1
  cases p with
  | inp k => cases q <;> first | (cases ht; done) | (rename_i k'; have e : some (k : Int) = some (k' : Int) := hn; have e' := Option.some.inj e; have e2 : k = k' := (by omega); rw [e2])
  | num k => cases q <;> first | (cases ht; done) | (rename_i k'; have e : some k = some k' := hn; rw [Option.some.inj e])
  | tr b => cases q <;> first | (cases ht; done) | (rename_i b'; rw [trS_inj (show trS b = trS b' from hw)])
  | plus c a => cases q <;> first | (cases ht; done) | (rename_i c' a'; have e : some c = some c' := hn; rw [Option.some.inj e, (List.cons.inj (show [a] = [a'] from h2)).1])
  | bin bw a b => cases q <;> first | (cases ht; done) | (rename_i bw' a' b'; have z := List.cons.inj (show [a, b] = [a', b'] from h2); rw [bw_inj (show bw.str = bw'.str from hw), z.1, (List.cons.inj z.2).1])
  | neg a => cases q <;> first | (cases ht; done) | (rename_i a'; rw [(List.cons.inj (show [a] = [a'] from h2)).1])
  | ite a b c => cases q <;> first | (cases ht; done) | (rename_i a' b' c'; have z := List.cons.inj (show [a, b, c] = [a', b', c'] from h2); have y := List.cons.inj z.2; rw [z.1, y.1, (List.cons.inj y.2).1])
theorem parts_len {p q : Pg} (h : frt p = frt q) : (parts p).length = (parts q).length := by
  have e : word p = word q := by rw [← frt_word, ← frt_word, h]
  have a := nnT_word p
  rw [e, nnT_word q] at a
  have := Option.some.inj a
  exact (congrArg Prod.snd this).symm
theorem frts_inj : ∀ (n : Nat) (fs gs : List Pg), (knf fs).length ≤ n → fs.length = gs.length → (knf fs).map frt = (knf gs).map frt → fs = gs
  | n, [], gs, _, hl, _ => (List.eq_nil_of_length_eq_zero hl.symm).symm
  | 0, q :: fs, _, l, _, _ => by rw [knf_cons] at l; simp at l
  | n + 1, q :: fs, [], _, hl, _ => by cases hl
  | n + 1, q :: fs, r :: gs, l, hl, h => by
    rw [knf_cons, knf_cons, List.map_cons, List.map_cons] at h
    obtain ⟨h1, h2⟩ := List.cons.inj h
    have pl := parts_len h1
    rw [knf_cons, List.length_cons] at l
    have e := frts_inj n (parts q ++ fs) (parts r ++ gs) (by omega) (by rw [List.length_append, List.length_append, pl]; simp at hl; omega) h2
    have e2 := List.append_inj e pl
    rw [frt_inj h1 e2.1, e2.2]
theorem kn_frt_inj {p q : Pg} (h : (kn p).map frt = (kn q).map frt) : p = q := by
  rw [← knf_one, ← knf_one] at h
  exact (List.cons.inj (frts_inj _ [p] [q] (Nat.le_refl _) rfl h)).1
section
variable {X : Cx}
/-- str of a text or a number -/
theorem call_str_any : CallR X (.type "str") (fun xs H Q => (∃ i, xs = [.int i] ∧ i.natAbs.log2 < 1920 ∧ Q (.str (toString i)) H) ∨ ∃ a, xs = [.str a] ∧ Q (.str a) H) := by
  intro pins s σ H xs us Q I r h
  rcases h with h | h
  · exact call_str_int pins s σ H xs us Q I r h
  · exact SkE.call_str_str pins s σ H xs us Q I r h
end
section
variable {P : Program} {w : World} {K : PySem.W.Frag} {mg : Str → Option Value} {base : Heap}
/-- how the front's things are shown -/
def shV : V → V
  | .int i => .str (toString i)
  | v => v
theorem front_sh (p : Pg) : (front p).map shV = (frtW (frt p)).map V.str := by cases p <;> rfl
abbrev s_show : Stmt := topS 46
theorem sc_show : FnScope ["program", "words", "knot", "thing"] ["program"] (defScope s_show) := ⟨rfl, rfl, rfl, by decide +kernel, rfl, by decide +kernel, by decide +kernel⟩
def spShow (K : PySem.W.Frag) : Sp := fun vs H Q _ => ∃ (v : V) (p : Pg), vs = [v] ∧ At K H v p ∧ psz p ≤ 10000 ∧ frtB p ∧ wsum p ≤ 100000 ∧ ∀ H', Same H H' → Q (.str (txt p)) H'
theorem ok_show (B : Bt mg) (C_knots : Cal P w K mg base 3 "knots" ["program"] (spKnots K)) (C_front_of : Cal P w K mg base 2 "front_of" ["knot"] (spFO K)) (D : DefAt K mg "show" s_show ["program"]) : Cal P w K mg base 4 "show" ["program"] (spShow K) := by
  refine cal_of D sc_show (fun vs H Q E h => ?_) (fun f cdv A outer s H vs Q E hr h => ?_)
  · obtain ⟨v, p, rfl, _⟩ := h
    rfl
  obtain ⟨v, p, rfl, hv, hsz, hB, hws, q⟩ := h
  have C_front_of := C_front_of.mono (k := 3) (by decide)
  have hr' : Room 3 _ := hr
  refine ⟨_, (pss_cons (ps_set (i := 1) sc_show.nd rfl (.inl rfl) (pe_lst pa_nil))
      (pss_cons (ps_for PassesOwn.never rfl (pi_list (pe_cal C_knots hr' (by rfl) (pa_cons (pv 0) pa_nil))) (pg_name (i := 2) sc_show.nd rfl (.inl rfl))
        (pss_one (ps_expr (pe_bm PySem.F.plainAttrs_list PySem.F.slot_list_extend PySem.F.type_list_extend mt_extend (pv 1) (pa_cons (pe_lc (own := [("thing", 3)]) (g := gName 3) rfl sc_show.nd (pi_tup (pe_cal C_front_of hr' (by rfl) (pa_cons (pv 2) pa_nil))) (blkOk_by (own := [("thing", 3)]) (N := ["program", "words", "knot", "thing"]) (sc := defScope s_show) (by decide +kernel)) (fun _ _ _ _ _ => (pg_name (i := 3) sc_show.nd rfl (.inl rfl))) (fun _ _ _ _ _ => pts_nil) (fun _ _ _ _ _ => (pe_callTy call_str_any (by rfl) B.str PyProof.Rows.boot_str (pa_cons (pv 3) pa_nil)))) pa_nil)))))
      (pss_one (ps_ret (pe_bm PySem.F.plainAttrs_str PySem.F.slot_str_join PySem.F.type_str_join mt_join pe_str (pa_cons (pv 1) pa_nil)))))), ?_⟩
  refine ⟨(by show 0 ≤ sizeLine; decide), fun lw hlw => ?_⟩
  have s1 : Same H (upd H lw (.lst [])) := same_new hlw
  have e1 : (upd H lw (.lst [])) lw = some (.lst []) := upd_same
  generalize upd H lw (.lst []) = H1 at s1 e1
  refine ⟨_, rfl, v, p, rfl, hv.keep (Tp.same s1), hsz, fun lk us H2 s2 lk0 hlk hus => ?_⟩
  have s02 := s1.trans s2
  have nwk : lw ≠ lk := fun z => by rw [← z, e1] at lk0; cases lk0
  have ul : us.length = psz p := by rw [hus.len, kn_len]
  refine ⟨lk, rfl, ⟨_, SqL.of hlk⟩, for_list (K := K) (a := lk) (xs := us) (fun i σ' H' => ∃ (y2 y3 : Option V), σ' = [some v, some (.ref lw), y2, y3] ∧ Same H H' ∧ H' lk = some (.lst us) ∧ Ats K H' us (kn p) ∧ H' lw = some (.lst ((((kn p).take i).flatMap fun q => frtW (frt q)).map V.str))) ?_ ?_ ?_ ?_⟩
  · exact ⟨none, none, rfl, s02, hlk, hus, s2 _ _ e1⟩
  · rintro i σ' H' _ ⟨y2, y3, rfl, sm, hlk', _⟩
    exact SqL.of hlk'
  · rintro i x σ' H' hx ⟨y2, y3, rfl, sm, hlk', hus', hlw'⟩
    obtain ⟨r, hr1, har⟩ := hus'.get i x hx
    have hi : i < us.length := (List.getElem?_eq_some_iff.mp hx).1
    have hB' := hB r (List.mem_of_getElem? hr1)
    refine ⟨_, rfl, .inl ⟨rfl, _, SqL.of hlw'⟩, _, rfl, x, r, rfl, har, fun t H3 s3 ht => ?_⟩
    refine ⟨t, rfl, ⟨_, ht⟩, fun D hD => lc_tup (K := K) (a := t) (xs := front r) (fun j H' => Same H3 H' ∧ H' D = some (.lst (((front r).take j).map shV))) ?_ ?_ ?_ ?_⟩
    · exact ⟨same_new hD, upd_same⟩
    · rintro j H' _ ⟨sm', _⟩
      exact Tp.same sm' _ _ ht
    · rintro j y H4 hy ⟨sm4, hD4⟩
      have fl : (front r).length ≤ 2 := by cases r <;> simp [front]
      have fin : ∃ acc, H4 D = some (.lst acc) ∧ acc.length < sizeLine ∧ (Same H3 (upd H4 D (.lst (acc ++ [shV y]))) ∧ (upd H4 D (.lst (acc ++ [shV y]))) D = some (.lst (((front r).take (j + 1)).map shV))) := by
        refine ⟨_, hD4, by rw [List.length_map, List.length_take]; exact smallL (by omega), fun b o z => ?_, ?_⟩
        · rw [upd_ne (ne_of_none z hD)]
          exact sm4 _ _ z
        · rw [upd_same, List.take_add_one, hy, List.map_append]
          rfl
      have hmem := List.mem_of_getElem? hy
      have cs : (∃ a, y = V.str a) ∨ ∃ i, y = V.int i ∧ i.natAbs < 10000000 := by
        cases r with
        | inp k =>
          simp only [front, List.mem_cons, List.not_mem_nil, or_false] at hmem
          rcases hmem with z | z
          · exact .inl ⟨_, z⟩
          · exact .inr ⟨_, z, hB' _ rfl⟩
        | num c =>
          simp only [front, List.mem_cons, List.not_mem_nil, or_false] at hmem
          rcases hmem with z | z
          · exact .inl ⟨_, z⟩
          · exact .inr ⟨_, z, hB' _ rfl⟩
        | plus c a =>
          simp only [front, List.mem_cons, List.not_mem_nil, or_false] at hmem
          rcases hmem with z | z
          · exact .inl ⟨_, z⟩
          · exact .inr ⟨_, z, hB' _ rfl⟩
        | tr b => exact .inl ⟨_, List.mem_singleton.mp hmem⟩
        | bin bw a b => exact .inl ⟨_, List.mem_singleton.mp hmem⟩
        | neg a => exact .inl ⟨_, List.mem_singleton.mp hmem⟩
        | ite a b c => exact .inl ⟨_, List.mem_singleton.mp hmem⟩
      rcases cs with ⟨a, rfl⟩ | ⟨i, rfl, hb⟩
      · exact ⟨rfl, _, rfl, .inr ⟨_, rfl, fin⟩⟩
      · exact ⟨rfl, _, rfl, .inl ⟨_, rfl, log_small hb, fin⟩⟩
    rintro H5 ⟨s5, hD5⟩
    rw [List.take_length, front_sh] at hD5
    have hlw5 := (s3.trans s5) _ _ hlw'
    have wl := words_len p
    have tl : (((kn p).take i).flatMap fun q => frtW (frt q)).length ≤ 2 * psz p := by
      have z : ∀ l : List Pg, (l.flatMap fun q => frtW (frt q)).length ≤ 2 * l.length := by
        intro l
        induction l with
        | nil => simp
        | cons q qs ih =>
          rw [List.flatMap_cons, List.length_append, List.length_cons]
          have : (frtW (frt q)).length ≤ 2 := by cases q <;> simp [frt, frtW]
          omega
      have := z ((kn p).take i)
      rw [List.length_take, kn_len] at this
      omega
    have fl2 : (frtW (frt r)).length ≤ 2 := by cases r <;> simp [frt, frtW]
    refine ⟨lw, D, _, _, rfl, rfl, hlw5, hD5, by rw [List.length_map, List.length_map]; exact small (by omega), _, _, rfl, fun b o z => ?_, ?_, ?_, ?_⟩
    · rw [upd_ne (ne_of_none z hlw)]
      exact (s3.trans s5) _ _ (sm b o z)
    · rw [upd_ne nwk.symm]
      exact (s3.trans s5) _ _ hlk'
    · exact (hus'.keep (Tp.same (s3.trans s5))).keep (Tp.lst hlw5)
    · rw [upd_same, List.take_add_one, hr1, List.flatMap_append, List.map_append]
      congr 3
      simp
  · rintro σ' H' ⟨y2, y3, rfl, sm, hlk', hus', hlw'⟩
    have e : (((kn p).take us.length).flatMap fun q => frtW (frt q)) = wordsOf p := by rw [hus.len, List.take_length]; rfl
    rw [e] at hlw'
    refine ⟨rfl, _, rfl, " ", lw, wordsOf p, rfl, rfl, .inl (SqL.of hlw'), ?_, ?_⟩
    · have h1 : (" " : Str).length = 1 := by decide +kernel
      have wl := words_len p
      rw [h1]
      unfold wsum at hws
      omega
    · rw [← txt_join]
      exact q _ sm
end
end Lm

set_option Elab.async false
set_option linter.all false
set_option maxRecDepth 100000
set_option maxHeartbeats 2000000
namespace Lm
open PySem PySem.Spec PyProof.Rows L2 LmR
theorem dpall_app {K : PySem.W.Frag} {H : Hp} : ∀ {xs ys : List V} {ds es : List PyData}, DpAll K H xs ds → DpAll K H ys es → DpAll K H (xs ++ ys) (ds ++ es)
  | [], _, _, _, .nil, b => b
  | _ :: _, _, _, _, .cons a r, b => .cons a (dpall_app r b)
theorem flats_app : ∀ ds es : List PyData, flat.flats ds = true → flat.flats es = true → flat.flats (ds ++ es) = true
  | [], _, _, b => b
  | d :: ds, es, a, b => by
    rw [flat.flats, Bool.and_eq_true] at a
    rw [List.cons_append, flat.flats, a.1, flats_app ds es a.2 b]
    rfl
theorem flats_get2 : ∀ ds : List PyData, flat.flats ds = true → ∀ (i : Nat) (d : PyData), ds[i]? = some d → flat d = true
  | [], _, _, _, h => by simp at h
  | d :: ds, a, i, e, h => by
    rw [flat.flats, Bool.and_eq_true] at a
    cases i with
    | zero => simp at h; rw [← h]; exact a.1
    | succ i => exact flats_get2 ds a.2 i e (by simpa using h)
theorem fd_tup {K : PySem.W.Frag} {H : Hp} {t : Addr} {vs : List V} {ds : List PyData} (h : H t = some (.tup vs)) (r : DpAll K H vs ds) (f : flat.flats ds = true) : Fd K H (.ref t) (.tuple ds) := ⟨f, .tup (.inl (.inl h)) r⟩
theorem cut_take {xs : List V} {j : Nat} (h : j ≤ xs.length) : cutV xs none (some (j : Int)) = xs.take j := by
  unfold cutV
  rw [HT.sIx_none, show HT.sIx xs.length xs.length (some (j : Int)) = min j xs.length from HT.sIx_nat _ _ j]
  rw [Nat.min_eq_left h, List.drop_zero, Nat.sub_zero]
section
variable {K : PySem.W.Frag}
theorem cutV_all {xs : List V} {lo hi : Option Int} (h : HT.sIx xs.length 0 lo = 0 ∧ HT.sIx xs.length xs.length hi = xs.length) : cutV xs lo hi = xs := by
  unfold cutV
  rw [h.1, h.2, List.drop_zero, Nat.sub_zero, List.take_length]
theorem slA_any {a : Addr} {xs : List V} {lo hi : Option Int} {H : Hp} {Q : VK} (ha : SqT K H a xs) (q : ∀ p H', Same H H' → SqT K H' p (cutV xs lo hi) → Q (.ref p) H') : rSlA K (.ref a) lo hi H Q :=
  ⟨a, xs, rfl, ha, fun h => q a H (fun _ _ z => z) (by rw [cutV_all h]; exact ha), fun _ p hp => q p _ (same_new hp) (.inl (.inl upd_same))⟩
theorem catA_any {a b : Addr} {xs ys : List V} {H : Hp} {Q : VK} (ha : SqT K H a xs) (hb : SqT K H b ys) (hz : xs.length + ys.length ≤ sizeLine) (q : ∀ p H', Same H H' → SqT K H' p (xs ++ ys) → Q (.ref p) H') : rCatA K (.ref a) (.ref b) H Q :=
  ⟨a, b, xs, ys, rfl, rfl, ha, hb, hz, fun e => q b H (fun _ _ z => z) (by rw [e]; exact hb), fun _ e => q a H (fun _ _ z => z) (by rw [e, List.append_nil]; exact ha), fun _ _ p hp => q p _ (same_new hp) (.inl (.inl upd_same))⟩
theorem dpall_drop {H : Hp} : ∀ (n : Nat) {xs : List V} {ds : List PyData}, DpAll K H xs ds → DpAll K H (xs.drop n) (ds.drop n)
  | 0, _, _, r => r
  | n + 1, [], [], .nil => .nil
  | n + 1, _ :: _, _ :: _, .cons a r => dpall_drop n r
theorem dpall_take {H : Hp} : ∀ (n : Nat) {xs : List V} {ds : List PyData}, DpAll K H xs ds → DpAll K H (xs.take n) (ds.take n)
  | 0, _, _, _ => .nil
  | n + 1, [], [], .nil => .nil
  | n + 1, _ :: _, _ :: _, .cons a r => .cons a (dpall_take n r)
theorem dszs_drop : ∀ (n : Nat) (ds : List PyData), dsz.dszs (ds.drop n) ≤ dsz.dszs ds
  | 0, _ => Nat.le_refl _
  | n + 1, [] => Nat.le_refl _
  | n + 1, d :: ds => by
    have := dszs_drop n ds
    simp only [List.drop_succ_cons, dsz.dszs]
    omega
theorem dszs_take : ∀ (n : Nat) (ds : List PyData), dsz.dszs (ds.take n) ≤ dsz.dszs ds
  | 0, _ => Nat.zero_le _
  | n + 1, [] => Nat.le_refl _
  | n + 1, d :: ds => by
    have := dszs_take n ds
    simp only [List.take_succ_cons, dsz.dszs]
    omega
theorem flats_drop : ∀ (n : Nat) (ds : List PyData), flat.flats ds = true → flat.flats (ds.drop n) = true
  | 0, _, h => h
  | n + 1, [], h => h
  | n + 1, d :: ds, h => by
    rw [flat.flats, Bool.and_eq_true] at h
    exact flats_drop n ds h.2
theorem flats_take : ∀ (n : Nat) (ds : List PyData), flat.flats ds = true → flat.flats (ds.take n) = true
  | 0, _, _ => rfl
  | n + 1, [], h => h
  | n + 1, d :: ds, h => by
    rw [flat.flats, Bool.and_eq_true] at h
    rw [List.take_succ_cons, flat.flats, h.1, flats_take n ds h.2]
    rfl
/-- what is picked out of a list of data -/
theorem pick {H : Hp} {xs : List V} {ds : List PyData} (r : DpAll K H xs ds) (f : flat.flats ds = true) {i : Int} (h0 : 0 ≤ i) (h1 : i < (ds.length : Nat)) : ∃ v d, atI xs i = some v ∧ Fd K H v d ∧ d ∈ ds := by
  have hl := dpall_len r
  have hlt : i.toNat < xs.length := by omega
  obtain ⟨d, hd, hD⟩ := dpall_get r i.toNat xs[i.toNat] (List.getElem?_eq_getElem hlt)
  refine ⟨xs[i.toNat], d, at_of (j := i.toNat) (by omega) (List.getElem?_eq_getElem hlt), ⟨flats_get2 ds f _ d hd, hD⟩, List.mem_of_getElem? hd⟩
theorem cut_dp {H : Hp} {xs : List V} {ds : List PyData} (r : DpAll K H xs ds) (lo hi : Option Int) : ∃ es, DpAll K H (cutV xs lo hi) es ∧ (flat.flats ds = true → flat.flats es = true) ∧ dsz.dszs es ≤ dsz.dszs ds ∧ es.length ≤ ds.length := by
  unfold cutV
  refine ⟨_, dpall_take _ (dpall_drop _ r), fun f => flats_take _ _ (flats_drop _ _ f), Nat.le_trans (dszs_take _ _) (dszs_drop _ _), ?_⟩
  rw [List.length_take, List.length_drop]
  omega
end
end Lm

set_option Elab.async false
set_option linter.all false
set_option maxRecDepth 100000
set_option maxHeartbeats 2000000
namespace Lm
open PySem PySem.Spec PyProof.Rows L2 LmR
theorem gr_same {ws : List Addr} {f : Addr} {H H' : Hp} (fl : Flow H f) (s : Same H H') : Gr ws f H H' := ⟨Ex.of_same s, by
  obtain ⟨x, y, z, e, r⟩ := fl
  exact ⟨x, y, z, s _ _ e, r⟩⟩
theorem fl_nf {f : Addr} {H : Hp} (g : Flow H f) {D : Addr} (h : H D = none) : D ≠ f := fun z => by
  obtain ⟨xs, e⟩ := g.lst
  rw [z, e] at h
  cases h
theorem gr_put {ws : List Addr} {f : Addr} {H H' : Hp} {p : Addr} {o : HO} (g : Gr ws f H H') (h : H p = none) (n : p ≠ f) : Gr ws f H (upd H' p o) := by
  refine ⟨fun b u hb nb => ?_, ?_⟩
  · rw [upd_ne (ne_of_none hb h)]
    exact g.ex b u hb nb
  · obtain ⟨x, y, z, e, r⟩ := g.fl
    exact ⟨x, y, z, by rw [upd_ne n.symm]; exact e, r⟩
theorem iteY3 {c : Prop} [Decidable c] {A B : Prop} (h : c) (a : A) : if c then A else B := by rw [if_pos h]; exact a
/-- a key's data -/
def vK : V → PyData
  | .int i => .int i
  | .str s => .str s
  | _ => .none
def isKey (v : V) : Prop := (∃ i, v = .int i) ∨ ∃ s, v = .str s
theorem key_dp {K : PySem.W.Frag} {H : Hp} {v : V} (h : isKey v) : Dp K H v (vK v) := by
  rcases h with ⟨i, rfl⟩ | ⟨s, rfl⟩
  · exact .int i
  · exact .str s
theorem vK_flat (v : V) : flat (vK v) = true := by cases v <;> rfl
theorem vK_sz (v : V) : dsz (vK v) = 1 := by cases v <;> rfl
def pdat (ps : List (PyData × Int)) : List PyData := ps.map fun p => .tuple [p.1, .int p.2]
theorem pdat_flat : ∀ ps : List (PyData × Int), (∀ p ∈ ps, flat p.1 = true) → flat.flats (pdat ps) = true
  | [], _ => rfl
  | p :: ps, h => by
    have h1 := h p List.mem_cons_self
    have h2 := pdat_flat ps fun q hq => h q (List.mem_cons_of_mem _ hq)
    show (flat (.tuple [p.1, .int p.2]) && flat.flats (pdat ps)) = true
    rw [h2, Bool.and_true]
    simp [flat, flat.flats, h1]
/-- the words that a stock may have -/
def stockWs : List Str := ["yes", "no", "least", "most", "atmost", "not", "both", "either", "if"]
theorem map_erase {α β : Type} (f : α → β) : ∀ (l : List α) (k : Nat), (l.map f).eraseIdx k = (l.eraseIdx k).map f
  | [], k => by simp
  | x :: l, 0 => rfl
  | x :: l, k + 1 => by
    show f x :: (l.map f).eraseIdx k = f x :: (l.eraseIdx k).map f
    rw [map_erase f l k]
theorem six_nat {d : Int} {n : Nat} (h0 : 0 ≤ d) (h1 : d < (n : Int)) : seqIndex? d n = some d.toNat := by
  unfold seqIndex?
  simp
  omega
section
variable {P : Program} {w : World} {K : PySem.W.Frag} {mg : Str → Option Value} {base : Heap}
abbrev s_l_pairs : Stmt := topS 62
theorem sc_l_pairs : FnScope ["_law_flow_here", "_law_few", "_law_thing"] ["_law_flow_here", "_law_few"] (defScope s_l_pairs) := ⟨rfl, rfl, rfl, by decide +kernel, rfl, by decide +kernel, by decide +kernel⟩
def spLPairs (K : PySem.W.Frag) : Sp := fun vs H Q _ => ∃ (f l : Addr) (ks : List V), vs = [.ref f, .ref l] ∧ Flow H f ∧ H l = some (.lst ks) ∧ l ≠ f ∧ ks.length ≤ 10 ∧ (∀ v ∈ ks, isKey v) ∧
  ∀ (t : Addr) (ps : List (PyData × Int)) (H' : Hp), Gr [] f H H' → Fd K H' (.ref t) (.tuple (pdat ps)) → ps.map (·.1) = ks.map vK → (∀ p ∈ ps, 1 ≤ p.2 ∧ p.2 ≤ 9) → Q (.ref t) H'
theorem ok_l_pairs (B : Bt mg) (C_l_draw : Cal P w K mg base 1 "_law_draw" ["_law_flow_here", "_law_many"] (spDraw)) (D : DefAt K mg "_law_pairs" s_l_pairs ["_law_flow_here", "_law_few"]) : Cal P w K mg base 2 "_law_pairs" ["_law_flow_here", "_law_few"] (spLPairs K) := by
  refine cal_of D sc_l_pairs (fun vs H Q E h => ?_) (fun f cdv A outer s H vs Q E hr h => ?_)
  · obtain ⟨f, l, ks, rfl, _⟩ := h
    rfl
  obtain ⟨f, l, ks, rfl, fl, hl, nlf, hk, hkey, q⟩ := h
  have hr' : Room 1 _ := hr
  refine ⟨_, (pss_one (ps_ret (pe_callTy call_tuple_of (by rfl) B.tuple PyProof.Rows.boot_tuple (pa_cons (pe_lc (own := [("_law_thing", 2)]) (g := gName 2) rfl sc_l_pairs.nd (pi_list (pv 1)) (blkOk_by (own := [("_law_thing", 2)]) (N := ["_law_flow_here", "_law_few", "_law_thing"]) (sc := defScope s_l_pairs) (by decide +kernel)) (fun _ _ _ _ _ => (pg_name (i := 2) sc_l_pairs.nd rfl (.inl rfl))) (fun _ _ _ _ _ => pts_nil) (fun _ _ _ _ _ => (pe_tup (pa_cons (pv 2) (pa_cons (pe_op op_add pe_int (pe_cal C_l_draw hr' (by rfl) (pa_cons (pv 0) (pa_cons (pe_ix (ix_listK (K := K) rfl) (pe_lst (pa_cons pe_int (pa_cons pe_int (pa_cons pe_int pa_nil)))) (pe_cal C_l_draw hr' (by rfl) (pa_cons (pv 0) (pa_cons pe_int pa_nil))) (fun _ _ => rfl)) pa_nil)))) pa_nil))))) pa_nil)))), ?_⟩
  refine ⟨_, rfl, l, rfl, ⟨_, SqL.of hl⟩, fun D hD => lc_list (K := K) (a := l) (xs := ks) (fun j H' => Gr [] f H H' ∧ ∃ (ts : List V) (ps : List (PyData × Int)), H' D = some (.lst ts) ∧ DpAll K H' ts (pdat ps) ∧ ps.map (·.1) = (ks.take j).map vK ∧ ∀ p ∈ ps, 1 ≤ p.2 ∧ p.2 ≤ 9) ?_ ?_ ?_ ?_⟩
  · exact ⟨Gr.new fl hD, [], [], upd_same, .nil, rfl, fun p hp => absurd hp (by simp)⟩
  · rintro j H' _ ⟨g, _⟩
    exact SqL.of (g.ex _ _ hl (by simp [nlf]))
  · rintro j x H' hx ⟨g, ts, ps, hD', hts, hps, hw⟩
    have nDf := fl_nf fl hD
    have hi : j < ks.length := (List.getElem?_eq_some_iff.mp hx).1
    have kx := hkey x (List.mem_of_getElem? hx)
    have pfl : flat.flats (pdat ps) = true := pdat_flat ps fun p hp => by
      have z : p.1 ∈ ps.map (·.1) := List.mem_map.mpr ⟨p, hp, rfl⟩
      rw [hps] at z
      obtain ⟨y, _, e⟩ := List.mem_map.mp z
      rw [← e]
      exact vK_flat y
    have tl : ts.length ≤ 10 := by
      have z := dpall_len hts
      have y := congrArg List.length hps
      rw [List.length_map, List.length_map, List.length_take] at y
      have x : (pdat ps).length = ps.length := List.length_map _
      omega
    refine ⟨rfl, _, rfl, _, rfl, (by show 3 ≤ sizeLine; decide), fun p hp => ?_⟩
    have npf := fl_nf g.fl hp
    have gp : Gr [] f H (upd H' p (.lst [.int 1, .int 2, .int 3])) := g.trans (Gr.new g.fl hp)
    have tp0 : Tp K H' (upd H' p (.lst [.int 1, .int 2, .int 3])) := Tp.new hp
    have hp0 : (upd H' p (.lst [.int 1, .int 2, .int 3])) p = some (.lst [.int 1, .int 2, .int 3]) := upd_same
    have hD0 : (upd H' p (.lst [.int 1, .int 2, .int 3])) D = some (.lst ts) := by rw [upd_ne (ne_of_none hD' hp)]; exact hD'
    generalize upd H' p (.lst [.int 1, .int 2, .int 3]) = H0 at gp tp0 hp0 hD0
    refine ⟨_, rfl, f, 3, rfl, gp.fl, by decide, by decide, fun i H2 i0 i1 dr2 => ?_⟩
    have hp2 : H2 p = _ := (dr2.off p npf).trans hp0
    have hD2 : H2 D = _ := (dr2.off D nDf).trans hD0
    have g2 := gp.trans dr2.gr
    have tp2 := tp0.trans (dr2.tp gp.fl)
    obtain ⟨wd, ewd, w0, w1⟩ : ∃ wd : Int, atI [V.int 1, V.int 2, V.int 3] i = some (V.int wd) ∧ 1 ≤ wd ∧ wd ≤ 9 := by
      rcases (show i = 0 ∨ i = 1 ∨ i = 2 by omega) with z | z | z
      · subst z; exact ⟨1, rfl, by decide, by decide⟩
      · subst z; exact ⟨2, rfl, by decide, by decide⟩
      · subst z; exact ⟨3, rfl, by decide, by decide⟩
    refine ⟨p, _, i, _, rfl, rfl, SqL.of hp2, ewd, f, wd, rfl, g2.fl, by omega, by omega, fun d H3 d0 d1 dr3 => ⟨_, _, rfl, rfl, (by show 2 ≤ sizeLine; decide), fun t ht => ?_⟩⟩
    have g3 := g2.trans dr3.gr
    have tp3 := tp2.trans (dr3.tp g2.fl)
    have hD3 : H3 D = _ := (dr3.off D nDf).trans hD2
    have g4 : Gr [] f H (upd H3 t (.tup [x, .int (1 + d)])) := g3.trans (Gr.new g3.fl ht)
    have tp4 : Tp K H' (upd H3 t (.tup [x, .int (1 + d)])) := tp3.trans (Tp.new ht)
    have et : (upd H3 t (.tup [x, .int (1 + d)])) t = some (.tup [x, .int (1 + d)]) := upd_same
    have hD4 : (upd H3 t (.tup [x, .int (1 + d)])) D = some (.lst ts) := by rw [upd_ne (ne_of_none hD3 ht)]; exact hD3
    generalize upd H3 t (.tup [x, .int (1 + d)]) = H4 at g4 tp4 et hD4
    have t5 : Tp K H4 (upd H4 D (.lst (ts ++ [.ref t]))) := Tp.lst hD4
    refine ⟨ts, hD4, smallL (by omega), gr_put g4 hD nDf, ts ++ [.ref t], ps ++ [(vK x, 1 + d)], upd_same, ?_, ?_, fun p hp => ?_⟩
    · rw [show pdat (ps ++ [(vK x, 1 + d)]) = pdat ps ++ [.tuple [vK x, .int (1 + d)]] by unfold pdat; rw [List.map_append]; rfl]
      exact dpall_app (dps_keep (tp4.trans t5) _ _ pfl hts) (.cons (.tup (t5 _ _ (.inl (.inl et))) (.cons (key_dp kx) (.cons (.int _) .nil))) .nil)
    · rw [List.map_append, hps, List.take_add_one, hx, List.map_append]
      rfl
    · rcases List.mem_append.mp hp with z | z
      · exact hw p z
      · rw [List.mem_singleton.mp z]
        exact ⟨by show 1 ≤ 1 + d; omega, by show 1 + d ≤ 9; omega⟩
  rintro H1 ⟨g1, ts, ps, hD1, hts, hps, hw⟩
  rw [List.take_length] at hps
  have pfl : flat.flats (pdat ps) = true := pdat_flat ps fun p hp => by
    have z : p.1 ∈ ps.map (·.1) := List.mem_map.mpr ⟨p, hp, rfl⟩
    rw [hps] at z
    obtain ⟨y, _, e⟩ := List.mem_map.mp z
    rw [← e]
    exact vK_flat y
  refine ⟨D, ts, rfl, .inl ⟨SqL.of hD1, fun t ht => ?_⟩⟩
  exact q t ps _ (g1.trans (Gr.new g1.fl ht)) ⟨pfl, .tup (.inl (.inl upd_same)) (dps_keep (Tp.new ht) _ _ pfl hts)⟩ hps hw
abbrev s_l_unlike : Stmt := topS 63
theorem sc_l_unlike : FnScope ["_law_flow_here", "_law_many", "_law_least", "_law_found", "_law_k", "_law_number", "_law_turn"] ["_law_flow_here", "_law_many", "_law_least"] (defScope s_l_unlike) := ⟨rfl, rfl, rfl, by decide +kernel, rfl, by decide +kernel, by decide +kernel⟩
def spUnl (K : PySem.W.Frag) : Sp := fun vs H Q _ => ∃ (f : Addr) (m least : Int), vs = [.ref f, .int m, .int least] ∧ Flow H f ∧ 0 ≤ m ∧ (m ≤ 3 ∧ least = 0 ∨ m ≤ 2 ∧ least = 1) ∧
  ∀ (L : Addr) (ns : List Int) (H' : Hp), Gr [] f H H' → H L = none → H' L = some (.lst (ns.map V.int)) → (ns.length : Int) = m → (∀ n ∈ ns, -1010 ≤ n ∧ n ≤ 1010) → ns.Nodup → (least = 1 → ∀ n ∈ ns, n ≠ 0) → Q (.ref L) H'
theorem nodup_snoc {α : Type} {l : List α} {x : α} (h : l.Nodup) (n : x ∉ l) : (l ++ [x]).Nodup := List.nodup_append.mpr ⟨h, List.nodup_cons.mpr ⟨by simp, List.nodup_nil⟩, fun a ha b hb e => n (by rw [List.mem_singleton] at hb; rw [← hb, ← e]; exact ha)⟩
theorem ints_flat : ∀ ns : List Int, (ns.map V.int).all flatV = true
  | [] => rfl
  | n :: ns => by rw [List.map_cons, List.all_cons, ints_flat ns]; rfl
/-- numbers that may not be taken -/
def badL (ns : List Int) (least : Int) : List Int := ns ++ (if least = 1 then [0] else [])
def JU (bs : List Int) (t : Nat) (n : Int) : Prop := (2 ≤ t → n ∉ bs) ∧ (t = 1 → n ∉ bs ∨ ∃ n0 ∈ bs, n = if n0 > 990 then -3 else n0 + 1)
theorem JU.stay {bs : List Int} {t : Nat} {n : Int} (h : n ∉ bs) : JU bs (t + 1) n := ⟨fun _ => h, fun _ => .inl h⟩
theorem JU.go {bs : List Int} {t : Nat} {n : Int} (j : JU bs t n) (hb : n ∈ bs) (hl : bs.length ≤ 2) : JU bs (t + 1) (if n > 990 then 0 - 3 - (t : Int) else n + 1) := by
  refine ⟨fun h2 => ?_, fun h1 => ?_⟩
  · by_cases t1 : t = 1
    · subst t1
      rcases j.2 rfl with z | ⟨n0, h0, e⟩
      · exact absurd hb z
      · intro hc
        match bs, hl, hb, h0, hc with
        | [], _, hb, _, _ => cases hb
        | [x], _, hb, h0, hc =>
          rw [List.mem_singleton] at hb h0 hc
          split at e <;> split at hc <;> omega
        | [x, y], _, hb, h0, hc =>
          simp only [List.mem_cons, List.not_mem_nil, or_false] at hb h0 hc
          split at e <;> split at hc <;> omega
    · exact absurd hb (j.1 (by omega))
  · have t0 : t = 0 := by omega
    subst t0
    refine .inr ⟨n, hb, ?_⟩
    split <;> simp
theorem inV_int (n : Int) : ∀ ns : List Int, inV (.int n) (ns.map V.int) = true ↔ n ∈ ns := fun ns => by
  unfold inV
  rw [List.any_map, List.any_eq_true]
  constructor
  · rintro ⟨x, hx, e⟩
    have : x = n := by simpa [eqV] using e
    rw [← this]; exact hx
  · intro h
    exact ⟨n, h, by simp [eqV]⟩
theorem ok_l_unlike (B : Bt mg) (C_l_numeral : Cal P w K mg base 2 "_law_numeral" ["_law_flow_here"] (spNumeral)) (D : DefAt K mg "_law_unlike" s_l_unlike ["_law_flow_here", "_law_many", "_law_least"]) : Cal P w K mg base 3 "_law_unlike" ["_law_flow_here", "_law_many", "_law_least"] (spUnl K) := by
  refine cal_of D sc_l_unlike (fun vs H Q E h => ?_) (fun f cdv A outer s H vs Q E hr h => ?_)
  · obtain ⟨f, m, least, rfl, _⟩ := h
    rfl
  obtain ⟨f, m, least, rfl, fl, m0, mcs, q⟩ := h
  have m10 : m ≤ 10 := by omega
  have hr' : Room 2 _ := hr
  refine ⟨_, (pss_cons (ps_set (i := 3) sc_l_unlike.nd rfl (.inl rfl) (pe_lst pa_nil))
      (pss_cons (ps_for PassesOwn.never rfl (pi_range1 (by rfl) B.range (pa_cons (pv 1) pa_nil)) (pg_name (i := 4) sc_l_unlike.nd rfl (.inl rfl))
        (pss_cons (ps_set (i := 5) sc_l_unlike.nd rfl (.inl rfl) (pe_cal C_l_numeral hr' (by rfl) (pa_cons (pv 0) pa_nil)))
      (pss_cons (ps_for PassesOwn.never rfl (pi_range1 (by rfl) B.range (pa_cons pe_int pa_nil)) (pg_name (i := 6) sc_l_unlike.nd rfl (.inl rfl))
        (pss_one (ps_if (PW.pt (pw_or (pt_cmpR op_in_seq (pv 5) (pv 3) rfl) (pw_or1 (pt_cmpR op_lt (pe_callB call_abs (by rfl) B.abs (by decide +kernel) (pa_cons (pv 5) pa_nil)) (pv 2) (nomark _)))))
        (pss_one (ps_set (i := 5) sc_l_unlike.nd rfl (.inl rfl) (pe_ix ix_list (pe_lst (pa_cons (pe_op op_add (pv 5) pe_int) (pa_cons (pe_op op_sub (pe_op op_sub pe_int pe_int) (pv 6)) pa_nil))) (pe_callTy call_int1 (by rfl) B.int PyProof.Rows.boot_int (pa_cons (pe_cmpR op_gt (pv 5) pe_int (nomark _)) pa_nil)) (fun _ _ => rfl))))
        pss_nil)))
      (pss_one (ps_expr (pe_bm PySem.F.plainAttrs_list PySem.F.slot_list_append PySem.F.type_list_append mt_append (pv 3) (pa_cons (pv 5) pa_nil)))))))
      (pss_one (ps_ret (pv 3))))), ?_⟩
  refine ⟨(by show 0 ≤ sizeLine; decide), fun L hL => ?_⟩
  have nLf := fl_nf fl hL
  have g1 : Gr [] f H (upd H L (.lst [])) := Gr.new fl hL
  have hL1 : (upd H L (.lst [])) L = some (.lst []) := upd_same
  generalize upd H L (.lst []) = H1 at g1 hL1
  refine ⟨_, rfl, m, rfl, by omega, by omega, for_range (lo := 0) (n := m.toNat) (fun i σ' H' => (∃ y4 y5 y6 : Option V, σ' = [some (.ref f), some (.int m), some (.int least), some (.ref L), y4, y5, y6]) ∧ Gr [] f H H' ∧ ∃ ns : List Int, H' L = some (.lst (ns.map V.int)) ∧ ns.length = i ∧ (∀ n ∈ ns, -1010 ≤ n ∧ n ≤ 1010) ∧ ns.Nodup ∧ (least = 1 → ∀ n ∈ ns, n ≠ 0)) ⟨⟨_, _, _, rfl⟩, g1, [], hL1, rfl, fun n hn => absurd hn (by simp), List.nodup_nil, fun _ n hn => absurd hn (by simp)⟩ ?_ ?_⟩
  · rintro i σ' H' hi ⟨⟨y4, y5, y6, rfl⟩, g, ns, hL', hl, hb, hnd, hnz⟩
    have bl : (badL ns least).length ≤ 2 := by
      unfold badL
      rw [List.length_append]
      rcases mcs with ⟨m3, rfl⟩ | ⟨m2, rfl⟩
      · rw [if_neg (by decide)]; show ns.length + 0 ≤ 2; omega
      · rw [if_pos rfl]; show ns.length + 1 ≤ 2; omega
    refine ⟨_, rfl, f, rfl, g.fl, fun n0 H2 b0 b1 g2 => ?_⟩
    have hL2 : H2 L = some (.lst (ns.map V.int)) := g2.ex _ _ hL' (by simp [nLf])
    have gg := g.trans g2
    refine ⟨4, rfl, by decide, by decide, for_range (lo := 0) (n := 4) (fun t σ' H' => (∃ (n : Int) (y6 : Option V), -1010 ≤ n ∧ n ≤ 1000 + (t : Int) ∧ JU (badL ns least) t n ∧ σ' = [some (.ref f), some (.int m), some (.int least), some (.ref L), some (.int (0 + (i : Int))), some (.int n), y6]) ∧ Gr [] f H H' ∧ H' L = some (.lst (ns.map V.int))) ⟨⟨_, _, by omega, by omega, ⟨fun z => absurd z (by decide), fun z => absurd z (by decide)⟩, rfl⟩, gg, hL2⟩ ?_ ?_⟩
    · rintro t σ' H6 ht ⟨⟨n, z6, c0, c1, ju, rfl⟩, g6, hL6⟩
      have t4 : t < 4 := ht
      refine ⟨_, rfl, _, rfl, L, _, rfl, .inl (SqL.of hL6), rfl, ints_flat ns, _, rfl, ite2 (fun c => ?_) (fun c => ?_)⟩
      · have nb : n ∈ badL ns least := List.mem_append_left _ ((inV_int n ns).mp c)
        have jg := ju.go nb bl
        refine iteY3 rfl ?_
        refine ⟨_, rfl, _, _, rfl, rfl, _, _, rfl, rfl, _, rfl, _, _, rfl, rfl, (by show 2 ≤ sizeLine; decide), fun p hp => ?_⟩
        have nLp : L ≠ p := ne_of_none hL6 hp
        have g7 : Gr [] f H (upd H6 p (.lst [.int (n + 1), .int (0 - 3 - (0 + (t : Int)))])) := g6.trans (Gr.new g6.fl hp)
        have hL7 : (upd H6 p (.lst [.int (n + 1), .int (0 - 3 - (0 + (t : Int)))])) L = some (.lst (ns.map V.int)) := by rw [upd_ne nLp]; exact hL6
        refine ⟨_, rfl, _, _, rfl, rfl, .inr ⟨_, rfl, ?_⟩⟩
        by_cases c9 : n > 990
        · have e9 : decide (n > 990) = true := decide_eq_true c9
          rw [if_pos c9] at jg
          refine ⟨p, _, 1, _, rfl, ?_, SqL.of upd_same, rfl, ⟨_, _, by omega, by omega, by rw [Int.zero_add]; exact jg, rfl⟩, g7, hL7⟩
          show V.int (if decide (n > 990) = true then 1 else 0) = V.int 1
          rw [e9]; rfl
        · have e9 : decide (n > 990) = false := decide_eq_false c9
          rw [if_neg c9] at jg
          refine ⟨p, _, 0, _, rfl, ?_, SqL.of upd_same, rfl, ⟨_, _, by omega, by omega, jg, rfl⟩, g7, hL7⟩
          show V.int (if decide (n > 990) = true then 1 else 0) = V.int 0
          rw [e9]; rfl
      · refine ⟨_, rfl, n, rfl, _, rfl, _, _, rfl, rfl, _, rfl, ite2 (fun c2 => ?_) (fun c2 => ?_)⟩
        · have nb : n ∈ badL ns least := by
            have z := of_decide_eq_true c2
            rcases mcs with ⟨m3, rfl⟩ | ⟨m2, rfl⟩
            · exfalso; revert z; split <;> omega
            · have n0 : n = 0 := by revert z; split <;> omega
              rw [n0]; exact List.mem_append_right _ (by rw [if_pos rfl]; exact List.mem_cons_self)
          have jg := ju.go nb bl
          refine ⟨_, rfl, _, _, rfl, rfl, _, _, rfl, rfl, _, rfl, _, _, rfl, rfl, (by show 2 ≤ sizeLine; decide), fun p hp => ?_⟩
          have nLp : L ≠ p := ne_of_none hL6 hp
          have g7 : Gr [] f H (upd H6 p (.lst [.int (n + 1), .int (0 - 3 - (0 + (t : Int)))])) := g6.trans (Gr.new g6.fl hp)
          have hL7 : (upd H6 p (.lst [.int (n + 1), .int (0 - 3 - (0 + (t : Int)))])) L = some (.lst (ns.map V.int)) := by rw [upd_ne nLp]; exact hL6
          refine ⟨_, rfl, _, _, rfl, rfl, .inr ⟨_, rfl, ?_⟩⟩
          by_cases c9 : n > 990
          · have e9 : decide (n > 990) = true := decide_eq_true c9
            rw [if_pos c9] at jg
            refine ⟨p, _, 1, _, rfl, ?_, SqL.of upd_same, rfl, ⟨_, _, by omega, by omega, by rw [Int.zero_add]; exact jg, rfl⟩, g7, hL7⟩
            show V.int (if decide (n > 990) = true then 1 else 0) = V.int 1
            rw [e9]; rfl
          · have e9 : decide (n > 990) = false := decide_eq_false c9
            rw [if_neg c9] at jg
            refine ⟨p, _, 0, _, rfl, ?_, SqL.of upd_same, rfl, ⟨_, _, by omega, by omega, jg, rfl⟩, g7, hL7⟩
            show V.int (if decide (n > 990) = true then 1 else 0) = V.int 0
            rw [e9]; rfl
        · have nb : n ∉ badL ns least := fun z => by
            rcases List.mem_append.mp z with z | z
            · exact c ((inV_int n ns).mpr z)
            · split at z
              · rw [List.mem_singleton] at z
                refine c2 (decide_eq_true ?_)
                rw [z]
                rename_i l1
                rw [l1]; decide
              · cases z
          exact ⟨⟨_, _, by omega, by omega, JU.stay nb, rfl⟩, g6, hL6⟩
    · rintro σ' H6 ⟨⟨n, z6, c0, c1, ju, rfl⟩, g6, hL6⟩
      have nb := ju.1 (by decide)
      refine ⟨_, rfl, .inl ⟨rfl, _, SqL.of hL6⟩, _, rfl, L, _, _, rfl, rfl, hL6, by rw [List.length_map]; exact smallL (by omega), ?_⟩
      refine ⟨⟨_, _, _, rfl⟩, gr_put g6 hL nLf, ns ++ [n], by rw [upd_same, List.map_append]; rfl, by rw [List.length_append, hl]; rfl, fun x hx => ?_, nodup_snoc hnd (fun z => nb (List.mem_append_left _ z)), fun l1 x hx => ?_⟩
      · rcases List.mem_append.mp hx with z | z
        · exact hb x z
        · rw [List.mem_singleton.mp z]
          have : n ≤ 1000 + 4 := c1
          omega
      · rcases List.mem_append.mp hx with z | z
        · exact hnz l1 x z
        · rw [List.mem_singleton.mp z]
          intro n0
          exact nb (List.mem_append_right _ (by rw [if_pos l1, n0]; exact List.mem_cons_self))
  · rintro σ' H' ⟨⟨y4, y5, y6, rfl⟩, g, ns, hL', hl, hb, hnd, hnz⟩
    exact ⟨_, rfl, q L ns H' g hL hL' (by omega) hb hnd hnz⟩
abbrev s_l_stock : Stmt := topS 64
theorem sc_l_stock : FnScope ["_law_flow_here", "_law_words", "_law_few", "_law_k", "_law_numbers", "_law_steps"] ["_law_flow_here"] (defScope s_l_stock) := ⟨rfl, rfl, rfl, by decide +kernel, rfl, by decide +kernel, by decide +kernel⟩
/-- a stock, drawn -/
def stkD (ps1 ps2 ps3 : List (PyData × Int)) : PyData := .tuple [.tuple (pdat ps1), .tuple (pdat ps2), .tuple (pdat ps3)]
structure StkOk (ps1 ps2 ps3 : List (PyData × Int)) : Prop where
  k1 : ∃ ns : List Int, ps1.map (·.1) = ns.map PyData.int ∧ ns.length ≤ 3 ∧ ∀ n ∈ ns, -1010 ≤ n ∧ n ≤ 1010
  k2 : ∃ ns : List Int, ps2.map (·.1) = ns.map PyData.int ∧ ns.length ≤ 2 ∧ ∀ n ∈ ns, -1010 ≤ n ∧ n ≤ 1010
  k3 : ∃ ws : List Str, ps3.map (·.1) = ws.map PyData.str ∧ ws.length ≤ 6 ∧ ∀ x ∈ ws, x ∈ stockWs
  w1 : ∀ p ∈ ps1, 1 ≤ p.2 ∧ p.2 ≤ 9
  w2 : ∀ p ∈ ps2, 1 ≤ p.2 ∧ p.2 ≤ 9
  w3 : ∀ p ∈ ps3, 1 ≤ p.2 ∧ p.2 ≤ 9
/-- all unlike, no step of nought -/
structure StkUn (ps1 ps2 ps3 : List (PyData × Int)) : Prop where
  d1 : ∀ ns : List Int, ps1.map (·.1) = ns.map PyData.int → ns.Nodup
  d2 : ∀ ns : List Int, ps2.map (·.1) = ns.map PyData.int → ns.Nodup ∧ ∀ n ∈ ns, n ≠ 0
  d3 : ∀ ws : List Str, ps3.map (·.1) = ws.map PyData.str → ws.Nodup
theorem map_int_inj : ∀ {ns ms : List Int}, ns.map PyData.int = ms.map PyData.int → ns = ms
  | [], [], _ => rfl
  | [], _ :: _, h => by cases h
  | _ :: _, [], h => by cases h
  | n :: ns, m :: ms, h => by
    injection h with h1 h2
    injection h1 with h1
    rw [h1, map_int_inj h2]
theorem map_str_inj : ∀ {ns ms : List Str}, ns.map PyData.str = ms.map PyData.str → ns = ms
  | [], [], _ => rfl
  | [], _ :: _, h => by cases h
  | _ :: _, [], h => by cases h
  | n :: ns, m :: ms, h => by
    injection h with h1 h2
    injection h1 with h1
    rw [h1, map_str_inj h2]
def spStock (K : PySem.W.Frag) : Sp := fun vs H Q _ => ∃ f : Addr, vs = [.ref f] ∧ Flow H f ∧ ∀ (t : Addr) (ps1 ps2 ps3 : List (PyData × Int)) (H' : Hp), Gr [] f H H' → Fd K H' (.ref t) (stkD ps1 ps2 ps3) → StkOk ps1 ps2 ps3 → StkUn ps1 ps2 ps3 → Q (.ref t) H'
theorem words_split : Txt.split "yes no least most atmost not both either if" " " = stockWs := by decide +kernel
theorem nodup_erase {α : Type} : ∀ (l : List α), l.Nodup → ∀ (k : Nat) (h : k < l.length), l[k] ∉ l.eraseIdx k
  | x :: l, nd, 0, _ => (List.nodup_cons.mp nd).1
  | x :: l, nd, k + 1, h => fun z => by
    have h' : k < l.length := by simpa using h
    have nd2 := List.nodup_cons.mp nd
    rcases List.mem_cons.mp z with e | e
    · exact nd2.1 (by rw [← e]; exact List.getElem_mem h')
    · exact nodup_erase l nd2.2 k h' e
theorem erase_mem {α : Type} {l : List α} {k : Nat} {x : α} (h : x ∈ l.eraseIdx k) : x ∈ l := List.mem_of_mem_eraseIdx h
theorem map_vK_int (ns : List Int) : (ns.map V.int).map vK = ns.map PyData.int := by rw [List.map_map]; rfl
theorem map_vK_str (ns : List Str) : (ns.map V.str).map vK = ns.map PyData.str := by rw [List.map_map]; rfl
theorem ok_l_stock (B : Bt mg) (C_l_draw : Cal P w K mg base 1 "_law_draw" ["_law_flow_here", "_law_many"] (spDraw)) (C_l_unlike : Cal P w K mg base 3 "_law_unlike" ["_law_flow_here", "_law_many", "_law_least"] (spUnl K)) (C_l_pairs : Cal P w K mg base 2 "_law_pairs" ["_law_flow_here", "_law_few"] (spLPairs K)) (D : DefAt K mg "_law_stock" s_l_stock ["_law_flow_here"]) : Cal P w K mg base 4 "_law_stock" ["_law_flow_here"] (spStock K) := by
  refine cal_of D sc_l_stock (fun vs H Q E h => ?_) (fun f cdv A outer s H vs Q E hr h => ?_)
  · obtain ⟨f, rfl, _⟩ := h
    rfl
  obtain ⟨f, rfl, fl, q⟩ := h
  have C_l_draw := C_l_draw.mono (k := 3) (by decide)
  have C_l_pairs := C_l_pairs.mono (k := 3) (by decide)
  have hr' : Room 3 _ := hr
  refine ⟨_, (pss_cons (ps_set (i := 1) sc_l_stock.nd rfl (.inl rfl) (pe_bm PySem.F.plainAttrs_str PySem.F.slot_str_split PySem.F.type_str_split mt_split pe_str (pa_cons pe_str pa_nil)))
      (pss_cons (ps_set (i := 2) sc_l_stock.nd rfl (.inl rfl) (pe_lst pa_nil))
      (pss_cons (ps_for PassesOwn.never rfl (pi_range1 (by rfl) B.range (pa_cons (pe_cal C_l_draw hr' (by rfl) (pa_cons (pv 0) (pa_cons pe_int pa_nil))) pa_nil)) (pg_name (i := 3) sc_l_stock.nd rfl (.inl rfl))
        (pss_one (ps_expr (pe_bm PySem.F.plainAttrs_list PySem.F.slot_list_append PySem.F.type_list_append mt_append (pv 2) (pa_cons (pe_bm PySem.F.plainAttrs_list PySem.F.slot_list_pop PySem.F.type_list_pop mt_popAt (pv 1) (pa_cons (pe_cal C_l_draw hr' (by rfl) (pa_cons (pv 0) (pa_cons (pe_callB call_len_seq (by rfl) B.len PySem.boot_len (pa_cons (pv 1) pa_nil)) pa_nil))) pa_nil)) pa_nil)))))
      (pss_cons (ps_set (i := 4) sc_l_stock.nd rfl (.inl rfl) (pe_cal C_l_unlike hr' (by rfl) (pa_cons (pv 0) (pa_cons (pe_cal C_l_draw hr' (by rfl) (pa_cons (pv 0) (pa_cons pe_int pa_nil))) (pa_cons pe_int pa_nil)))))
      (pss_cons (ps_set (i := 5) sc_l_stock.nd rfl (.inl rfl) (pe_cal C_l_unlike hr' (by rfl) (pa_cons (pv 0) (pa_cons (pe_cal C_l_draw hr' (by rfl) (pa_cons (pv 0) (pa_cons pe_int pa_nil))) (pa_cons pe_int pa_nil)))))
      (pss_one (ps_ret (pe_tup (pa_cons (pe_cal C_l_pairs hr' (by rfl) (pa_cons (pv 0) (pa_cons (pv 4) pa_nil))) (pa_cons (pe_cal C_l_pairs hr' (by rfl) (pa_cons (pv 0) (pa_cons (pv 5) pa_nil))) (pa_cons (pe_cal C_l_pairs hr' (by rfl) (pa_cons (pv 0) (pa_cons (pv 2) pa_nil))) pa_nil))))))))))), ?_⟩
  refine ⟨rfl, "yes no least most atmost not both either if", " ", rfl, rfl, by decide +kernel, by decide +kernel, fun lw hlw => ?_⟩
  rw [words_split]
  have nwf := fl_nf fl hlw
  have g1 : Gr [] f H (upd H lw (.lst (stockWs.map V.str))) := Gr.new fl hlw
  have e1 : (upd H lw (.lst (stockWs.map V.str))) lw = some (.lst (stockWs.map V.str)) := upd_same
  generalize upd H lw (.lst (stockWs.map V.str)) = H1 at g1 e1
  refine ⟨(by show 0 ≤ sizeLine; decide), fun ls hls => ?_⟩
  have nsf := fl_nf g1.fl hls
  have nws : lw ≠ ls := ne_of_none e1 hls
  have ls0 : H ls = none := g1.ex.free hls (by simp [nsf])
  have g2 : Gr [] f H (upd H1 ls (.lst [])) := g1.trans (Gr.new g1.fl hls)
  have e2 : (upd H1 ls (.lst [])) ls = some (.lst []) := upd_same
  have ew2 : (upd H1 ls (.lst [])) lw = some (.lst (stockWs.map V.str)) := by rw [upd_ne nws]; exact e1
  generalize upd H1 ls (.lst []) = H2 at g2 e2 ew2
  refine ⟨_, rfl, f, 7, rfl, g2.fl, by decide, by decide, fun m H3 m0 m1 dr3 => ?_⟩
  have g3 := g2.trans dr3.gr
  have e3 : H3 ls = _ := (dr3.off ls nsf).trans e2
  have ew3 : H3 lw = _ := (dr3.off lw nwf).trans ew2
  refine ⟨m, rfl, by omega, by omega, for_range (lo := 0) (n := m.toNat) (fun i σ' H' => (∃ y3 y4 y5 : Option V, σ' = [some (.ref f), some (.ref lw), some (.ref ls), y3, y4, y5]) ∧ Gr [] f H H' ∧ ∃ ws us : List Str, H' lw = some (.lst (ws.map V.str)) ∧ H' ls = some (.lst (us.map V.str)) ∧ ws.length + i = 9 ∧ us.length = i ∧ (∀ x ∈ ws, x ∈ stockWs) ∧ (∀ x ∈ us, x ∈ stockWs) ∧ ws.Nodup ∧ us.Nodup ∧ ∀ x ∈ us, x ∉ ws) ⟨⟨_, _, _, rfl⟩, g3, stockWs, [], ew3, e3, rfl, rfl, fun x hx => hx, fun x hx => absurd hx (by simp), (by decide +kernel), List.nodup_nil, fun x hx => absurd hx (by simp)⟩ ?_ ?_⟩
  · rintro i σ' H' hi ⟨⟨y3, y4, y5, rfl⟩, g, ws, us, hw, hs, wl, ul, hws, hus, nw, nu, dj⟩
    have i7 : i < 7 := by omega
    refine ⟨_, rfl, .inl ⟨rfl, _, SqL.of hs⟩, _, rfl, .inl ⟨rfl, _, SqL.of hw⟩, _, rfl, _, rfl, lw, _, rfl, .inl (SqL.of hw), ?_⟩
    refine ⟨f, _, rfl, g.fl, by rw [List.length_map]; omega, by rw [List.length_map]; omega, fun d H4 d0 d1 dr4 => ?_⟩
    have g4 := g.trans dr4.gr
    have hw4 : H4 lw = _ := (dr4.off lw nwf).trans hw
    have hs4 : H4 ls = _ := (dr4.off ls nsf).trans hs
    rw [List.length_map] at d1
    have dl : d.toNat < ws.length := by omega
    have e5 : (ws.map V.str)[d.toNat]? = some (.str ws[d.toNat]) := by rw [List.getElem?_map, List.getElem?_eq_getElem dl]; rfl
    have si : seqIndex? d (ws.map V.str).length = some d.toNat := by
      rw [List.length_map]
      exact six_nat d0 (by omega)
    refine ⟨lw, _, d, d.toNat, _, rfl, rfl, hw4, by omega, by omega, si, e5, ?_⟩
    have g5 : Gr [] f H (upd H4 lw (.lst ((ws.map V.str).eraseIdx d.toNat))) := gr_put g4 hlw nwf
    have hw5 : (upd H4 lw (.lst ((ws.map V.str).eraseIdx d.toNat))) lw = some (.lst ((ws.eraseIdx d.toNat).map V.str)) := by rw [upd_same, map_erase]
    have hs5 : (upd H4 lw (.lst ((ws.map V.str).eraseIdx d.toNat))) ls = some (.lst (us.map V.str)) := by rw [upd_ne nws.symm]; exact hs4
    generalize upd H4 lw (.lst ((ws.map V.str).eraseIdx d.toNat)) = H5 at g5 hw5 hs5
    refine ⟨ls, _, _, rfl, rfl, hs5, by rw [List.length_map]; exact smallL (by omega), ?_⟩
    refine ⟨⟨_, _, _, rfl⟩, gr_put g5 ls0 nsf, ws.eraseIdx d.toNat, us ++ [ws[d.toNat]], by rw [upd_ne nws]; exact hw5, by rw [upd_same, List.map_append]; rfl, by rw [List.length_eraseIdx_of_lt dl]; omega, by rw [List.length_append, ul]; rfl, fun x hx => hws x (erase_mem hx), fun x hx => ?_, nw.sublist (List.eraseIdx_sublist ..), nodup_snoc nu (fun z => dj _ z (List.getElem_mem dl)), fun x hx => ?_⟩
    · rcases List.mem_append.mp hx with z | z
      · exact hus x z
      · rw [List.mem_singleton.mp z]
        exact hws _ (List.getElem_mem dl)
    · rcases List.mem_append.mp hx with z | z
      · exact fun y => dj x z (erase_mem y)
      · rw [List.mem_singleton.mp z]
        exact nodup_erase ws nw _ dl
  · rintro σ' H4 ⟨⟨y3, y4, y5, rfl⟩, g4, ws, us, hw4, hs4, wl, ul, hws, hus, nw, nu, dj⟩
    refine ⟨_, rfl, _, rfl, f, 4, rfl, g4.fl, by decide, by decide, fun m1' H5 a0 a1 dr5 => ?_⟩
    have g5 := g4.trans dr5.gr
    have hs5 : H5 ls = _ := (dr5.off ls nsf).trans hs4
    refine ⟨f, m1', 0, rfl, g5.fl, a0, by omega, fun L1 ns1 H6 g6 L10 hL1 l1 b1 nd1 _ => ?_⟩
    have g06 := g5.trans g6
    have n1f := fl_nf g5.fl L10
    have hs6 : H6 ls = _ := g6.ex _ _ hs5 (by simp [nsf])
    refine ⟨_, rfl, _, rfl, f, 3, rfl, g06.fl, by decide, by decide, fun m2' H7 c0 c1 dr7 => ?_⟩
    have g07 := g06.trans dr7.gr
    have hL7 : H7 L1 = _ := (dr7.off L1 n1f).trans hL1
    have hs7 : H7 ls = _ := (dr7.off ls nsf).trans hs6
    refine ⟨f, m2', 1, rfl, g07.fl, c0, by omega, fun L2 ns2 H8 g8 L20 hL2 l2 b2 nd2 nz2 => ?_⟩
    have g08 := g07.trans g8
    have n2f := fl_nf g07.fl L20
    have hL8 : H8 L1 = _ := g8.ex _ _ hL7 (by simp [n1f])
    have hs8 : H8 ls = _ := g8.ex _ _ hs7 (by simp [nsf])
    -- three tuples
    refine ⟨_, rfl, _, rfl, f, L1, _, rfl, g08.fl, hL8, n1f, by rw [List.length_map]; omega, fun v hv => ?_, fun t1 ps1 H9 g9 h1 k1 w1 => ?_⟩
    · obtain ⟨n, _, rfl⟩ := List.mem_map.mp hv
      exact .inl ⟨n, rfl⟩
    have g09 := g08.trans g9
    have hL9 : H9 L2 = _ := g9.ex _ _ hL2 (by simp [n2f])
    have hs9 : H9 ls = _ := g9.ex _ _ hs8 (by simp [nsf])
    refine ⟨_, rfl, _, rfl, f, L2, _, rfl, g09.fl, hL9, n2f, by rw [List.length_map]; omega, fun v hv => ?_, fun t2 ps2 Ha ga h2 k2 w2 => ?_⟩
    · obtain ⟨n, _, rfl⟩ := List.mem_map.mp hv
      exact .inl ⟨n, rfl⟩
    have g0a := g09.trans ga
    have hsa : Ha ls = _ := ga.ex _ _ hs9 (by simp [nsf])
    refine ⟨_, rfl, _, rfl, f, ls, _, rfl, g0a.fl, hsa, nsf, by rw [List.length_map]; omega, fun v hv => ?_, fun t3 ps3 Hb gb h3 k3 w3 => ⟨(by show 3 ≤ sizeLine; decide), fun t ht => ?_⟩⟩
    · obtain ⟨n, _, rfl⟩ := List.mem_map.mp hv
      exact .inr ⟨n, rfl⟩
    have sn := same_new (o := .tup [.ref t1, .ref t2, .ref t3]) ht
    have h1' := (h1.keep (ga.tp g09.fl)).keep (gb.tp g0a.fl) |>.keep (Tp.same sn)
    have h2' := (h2.keep (gb.tp g0a.fl)).keep (Tp.same sn)
    have h3' := h3.keep (Tp.same sn)
    rw [map_vK_int] at k1 k2
    rw [map_vK_str] at k3
    refine q t ps1 ps2 ps3 _ ((g0a.trans gb).trans (Gr.new gb.fl ht)) ?_ ⟨⟨ns1, k1, by omega, b1⟩, ⟨ns2, k2, by omega, b2⟩, ⟨us, k3, by omega, hus⟩, w1, w2, w3⟩ ⟨fun ns e => ?_, fun ns e => ?_, fun ns e => ?_⟩
    rotate_left
    · rw [k1] at e; rw [← map_int_inj e]; exact nd1
    · rw [k2] at e; rw [← map_int_inj e]; exact ⟨nd2, nz2 rfl⟩
    · rw [k3] at e; rw [← map_str_inj e]; exact nu
    exact fd_tup upd_same (.cons h1'.2 (.cons h2'.2 (.cons h3'.2 .nil))) (by simp [flat.flats, h1'.1, h2'.1, h3'.1])
end
end Lm

set_option Elab.async false
set_option linter.all false
set_option maxRecDepth 100000
set_option maxHeartbeats 2000000
namespace Lm
open PySem PySem.Spec PyProof.Rows L2 LmR
/-! ### stocks -/
structure Stk where
  a : List (V × Int)
  b : List (V × Int)
  c : List (V × Int)
def Stk.part (S : Stk) : Nat → List (V × Int)
  | 0 => S.a
  | 1 => S.b
  | _ => S.c
def kd (l : List (V × Int)) : List PyData := l.map fun x => .tuple [vK x.1, .int x.2]
def Stk.D (S : Stk) : PyData := .tuple [.tuple (kd S.a), .tuple (kd S.b), .tuple (kd S.c)]
structure Stk.Ok (S : Stk) : Prop where
  a : ∀ x ∈ S.a, ∃ i, x.1 = V.int i ∧ -1010 ≤ i ∧ i ≤ 1010
  b : ∀ x ∈ S.b, ∃ i, x.1 = V.int i ∧ -1010 ≤ i ∧ i ≤ 1010
  c : ∀ x ∈ S.c, ∃ s, x.1 = V.str s ∧ s ∈ stockWs
  la : S.a.length ≤ 10
  lb : S.b.length ≤ 10
  lc : S.c.length ≤ 10
  w : ∀ n, ∀ x ∈ S.part n, 1 ≤ x.2 ∧ x.2 ≤ 9
theorem Stk.Ok.key {S : Stk} (h : S.Ok) (n : Nat) : ∀ x ∈ S.part n, isKey x.1 := fun x hx => by
  match n, hx with
  | 0, hx => obtain ⟨i, e, _⟩ := h.a x hx; exact .inl ⟨i, e⟩
  | 1, hx => obtain ⟨i, e, _⟩ := h.b x hx; exact .inl ⟨i, e⟩
  | n + 2, hx => obtain ⟨s, e, _⟩ := h.c x hx; exact .inr ⟨s, e⟩
theorem Stk.Ok.len {S : Stk} (h : S.Ok) (n : Nat) : (S.part n).length ≤ 10 := by
  match n with
  | 0 => exact h.la
  | 1 => exact h.lb
  | n + 2 => exact h.lc
/-- the first pair with this key: its number, its weight -/
def lookS (v : V) : List (V × Int) → Option (Nat × Int)
  | [] => none
  | x :: l => if x.1 = v then some (0, x.2) else (lookS v l).map fun r => (r.1 + 1, r.2)
theorem lookS_cons (v : V) (x : V × Int) (l : List (V × Int)) : lookS v (x :: l) = if x.1 = v then some (0, x.2) else (lookS v l).map fun r => (r.1 + 1, r.2) := rfl
def prt : Pg → Nat
  | .num _ => 0
  | .plus _ _ => 1
  | _ => 2
def keyP : Pg → V
  | .num c => .int c
  | .plus c _ => .int c
  | p => .str (word p)
/-- a knot's place and weight -/
def stnd (S : Stk) : Pg → Option (Nat × Nat × Int)
  | .inp k => some (0, k, 1)
  | p => (lookS (keyP p) (S.part (prt p))).map fun r => (prt p + 1, r.1, r.2)
theorem stnd_not (S : Stk) (p : Pg) (h : ∀ k, p ≠ .inp k) : stnd S p = (lookS (keyP p) (S.part (prt p))).map fun r => (prt p + 1, r.1, r.2) := by
  cases p with
  | inp k => exact absurd rfl (h k)
  | _ => rfl
def StdAt (K : PySem.W.Frag) (H : Hp) (u : V) : Option (Nat × Nat × Int) → Prop
  | none => u = .non
  | some (x, y, l) => ∃ t t2 : Addr, u = .ref t ∧ SqT K H t [.ref t2, .int l] ∧ SqT K H t2 [.int (x : Nat), .int (y : Nat)]
/-- a program's weight -/
def wtL (S : Stk) : List Pg → Option Int
  | [] => some 0
  | q :: qs => match stnd S q with
    | none => none
    | some (_, _, l) => (wtL S qs).map fun r => l + r
def optI : Option Int → V
  | none => .non
  | some i => .int i
theorem wtL_none {S : Stk} {q : Pg} {qs : List Pg} (h : stnd S q = none) : wtL S (q :: qs) = none := by
  show (match stnd S q with | none => none | some (_, _, l) => (wtL S qs).map fun r => l + r) = _
  rw [h]
theorem wtL_some {S : Stk} {q : Pg} {qs : List Pg} {x y : Nat} {l : Int} (h : stnd S q = some (x, y, l)) : wtL S (q :: qs) = (wtL S qs).map fun r => l + r := by
  show (match stnd S q with | none => none | some (_, _, l) => (wtL S qs).map fun r => l + r) = _
  rw [h]
/-- the pairs of a part, read -/
theorem kd_read {K : PySem.W.Frag} {H : Hp} {xs : List V} {l : List (V × Int)} (r : DpAll K H xs (kd l)) (hk : ∀ x ∈ l, isKey x.1) (j : Nat) (x : V) (hx : xs[j]? = some x) : ∃ (b : Addr) (y : V × Int), l[j]? = some y ∧ x = .ref b ∧ SqT K H b [y.1, .int y.2] := by
  obtain ⟨d, hd, hD⟩ := dpall_get r j x hx
  unfold kd at hd
  rw [List.getElem?_map] at hd
  cases e : l[j]? with
  | none => rw [e] at hd; cases hd
  | some y =>
    rw [e] at hd
    have ed := Option.some.inj hd
    subst ed
    cases hD with
    | tup qb rb => cases rb with
      | cons r1 r => cases r with
        | cons r2 r =>
          cases r
          cases r2
          have k := hk y (List.mem_of_getElem? e)
          refine ⟨_, y, rfl, rfl, ?_⟩
          rcases k with ⟨i, ei⟩ | ⟨s, es⟩
          · rw [ei] at r1 ⊢
            cases r1
            exact qb
          · rw [es] at r1 ⊢
            cases r1
            exact qb
theorem part_read {K : PySem.W.Frag} {H : Hp} {t : Addr} {S : Stk} (h : Fd K H (.ref t) S.D) : ∃ v1 v2 v3, SqT K H t [v1, v2, v3] ∧ ∀ n, n ≤ 2 → ∃ (v : V) (b : Addr) (ys : List V), [v1, v2, v3][n]? = some v ∧ v = .ref b ∧ SqT K H b ys ∧ DpAll K H ys (kd (S.part n)) := by
  obtain ⟨v1, v2, v3, q, r1, r2, r3⟩ : ∃ v1 v2 v3, SqT K H t [v1, v2, v3] ∧ Dp K H v1 (.tuple (kd S.a)) ∧ Dp K H v2 (.tuple (kd S.b)) ∧ Dp K H v3 (.tuple (kd S.c)) := by
    cases h.2 with
    | tup q r => cases r with
      | cons r1 r => cases r with
        | cons r2 r => cases r with
          | cons r3 r => cases r; exact ⟨_, _, _, q, r1, r2, r3⟩
  have one : ∀ {v : V} {ds : List PyData}, Dp K H v (.tuple ds) → ∃ (b : Addr) (ys : List V), v = .ref b ∧ SqT K H b ys ∧ DpAll K H ys ds := fun h => by
    cases h with
    | tup q r => exact ⟨_, _, rfl, q, r⟩
  refine ⟨v1, v2, v3, q, fun n hn => ?_⟩
  rcases (show n = 0 ∨ n = 1 ∨ n = 2 by omega) with z | z | z <;> subst z
  · obtain ⟨b, ys, e, a1, a2⟩ := one r1
    exact ⟨v1, b, ys, rfl, e, a1, a2⟩
  · obtain ⟨b, ys, e, a1, a2⟩ := one r2
    exact ⟨v2, b, ys, rfl, e, a1, a2⟩
  · obtain ⟨b, ys, e, a1, a2⟩ := one r3
    exact ⟨v3, b, ys, rfl, e, a1, a2⟩
section
variable {P : Program} {w : World} {K : PySem.W.Frag} {mg : Str → Option Value} {base : Heap}
abbrev s_place_of : Stmt := topS 33
theorem sc_place_of : FnScope ["knot"] ["knot"] (defScope s_place_of) := ⟨rfl, rfl, rfl, by decide +kernel, rfl, by decide +kernel, by decide +kernel⟩
def spPlace (K : PySem.W.Frag) : Sp := fun vs H Q _ => ∃ (v : V) (p : Pg), vs = [v] ∧ At K H v p ∧ (∀ k, p ≠ .inp k) ∧ ∀ t H', Same H H' → H' t = some (.tup [.int (prt p : Nat), keyP p]) → Q (.ref t) H'
theorem ok_place_of (D : DefAt K mg "place_of" s_place_of ["knot"]) : Cal P w K mg base 1 "place_of" ["knot"] (spPlace K) := by
  refine cal_of D sc_place_of (fun vs H Q E h => ?_) (fun f cdv A outer s H vs Q E hr h => ?_)
  · obtain ⟨v, p, rfl, _⟩ := h
    rfl
  obtain ⟨v, p, rfl, hv, hin, q⟩ := h
  refine ⟨_, (pss_cons (ps_if (pt_cmpR op_eq (pe_ix ix_tup (pv 0) pe_int (fun _ _ => rfl)) pe_str (nomark _))
        (pss_one (ps_ret (pe_tup (pa_cons pe_int (pa_cons (pe_ix ix_tup (pv 0) pe_int (fun _ _ => rfl)) pa_nil)))))
        pss_nil)
      (pss_cons (ps_if (pt_cmpR op_eq (pe_ix ix_tup (pv 0) pe_int (fun _ _ => rfl)) pe_str (nomark _))
        (pss_one (ps_ret (pe_tup (pa_cons pe_int (pa_cons (pe_ix ix_tup (pv 0) pe_int (fun _ _ => rfl)) pa_nil)))))
        pss_nil)
      (pss_one (ps_ret (pe_tup (pa_cons pe_int (pa_cons (pe_ix ix_tup (pv 0) pe_int (fun _ _ => rfl)) pa_nil))))))), ?_⟩
  obtain ⟨a, vs, rfl, ha, hvs⟩ := hv.open
  refine ⟨_, rfl, a, _, 0, _, rfl, rfl, ha, at_word p vs, rfl, _, rfl, ite2 (fun c => ?_) (fun c => ?_)⟩
  · have hw : word p = "num" := V.str.inj (of_decide_eq_true c)
    cases p with
    | num k => exact ⟨_, rfl, a, _, 1, _, rfl, rfl, ha, at_of (j := 1) rfl rfl, (by show 2 ≤ sizeLine; decide), fun t ht => q t _ (same_new ht) upd_same⟩
    | inp k => exact absurd rfl (hin k)
    | tr b => exact absurd hw (show ¬ trS b = "num" by cases b <;> decide +kernel)
    | plus k x => exact absurd hw (show ¬ ("plus" : Str) = "num" by decide +kernel)
    | bin bw x y => exact absurd hw (show ¬ bw.str = "num" by cases bw <;> decide +kernel)
    | neg x => exact absurd hw (show ¬ ("not" : Str) = "num" by decide +kernel)
    | ite x y z => exact absurd hw (show ¬ ("if" : Str) = "num" by decide +kernel)
  have n1 : word p ≠ "num" := fun e => c (decide_eq_true (by rw [e]))
  refine ⟨_, rfl, a, _, 0, _, rfl, rfl, ha, at_word p vs, rfl, _, rfl, ite2 (fun c => ?_) (fun c => ?_)⟩
  · have hw : word p = "plus" := V.str.inj (of_decide_eq_true c)
    cases p with
    | plus k x => exact ⟨_, rfl, a, _, 1, _, rfl, rfl, ha, at_of (j := 1) rfl rfl, (by show 2 ≤ sizeLine; decide), fun t ht => q t _ (same_new ht) upd_same⟩
    | num k => exact absurd rfl n1
    | inp k => exact absurd rfl (hin k)
    | tr b => exact absurd hw (show ¬ trS b = "plus" by cases b <;> decide +kernel)
    | bin bw x y => exact absurd hw (show ¬ bw.str = "plus" by cases bw <;> decide +kernel)
    | neg x => exact absurd hw (show ¬ ("not" : Str) = "plus" by decide +kernel)
    | ite x y z => exact absurd hw (show ¬ ("if" : Str) = "plus" by decide +kernel)
  have n2 : word p ≠ "plus" := fun e => c (decide_eq_true (by rw [e]))
  have e1 : prt p = 2 ∧ keyP p = .str (word p) := by
    cases p with
    | num k => exact absurd rfl n1
    | plus k x => exact absurd rfl n2
    | _ => exact ⟨rfl, rfl⟩
  rw [e1.1, e1.2] at q
  exact ⟨_, rfl, a, _, 0, _, rfl, rfl, ha, at_word p vs, (by show 2 ≤ sizeLine; decide), fun t ht => q t _ (same_new ht) upd_same⟩
abbrev s_standing_of : Stmt := topS 32
theorem sc_standing_of : FnScope ["knot", "stock", "part", "key", "at", "own", "load"] ["knot", "stock"] (defScope s_standing_of) := ⟨rfl, rfl, rfl, by decide +kernel, rfl, by decide +kernel, by decide +kernel⟩
def spStand (K : PySem.W.Frag) : Sp := fun vs H Q _ => ∃ (v : V) (p : Pg) (t : Addr) (S : Stk), vs = [v, .ref t] ∧ At K H v p ∧ Fd K H (.ref t) S.D ∧ S.Ok ∧ ∀ u H', Same H H' → StdAt K H' u (stnd S p) → Q u H'
theorem ok_standing_of (B : Bt mg) (C_place_of : Cal P w K mg base 1 "place_of" ["knot"] (spPlace K)) (D : DefAt K mg "standing_of" s_standing_of ["knot", "stock"]) : Cal P w K mg base 2 "standing_of" ["knot", "stock"] (spStand K) := by
  refine cal_of D sc_standing_of (fun vs H Q E h => ?_) (fun f cdv A outer s H vs Q E hr h => ?_)
  · obtain ⟨v, p, t, S, rfl, _⟩ := h
    rfl
  obtain ⟨v, p, t, S, rfl, hv, ht, hS, q⟩ := h
  have hr' : Room 1 _ := hr
  refine ⟨_, (pss_cons (ps_if (pt_cmpR op_eq (pe_ix ix_tup (pv 0) pe_int (fun _ _ => rfl)) pe_str (nomark _))
        (pss_one (ps_ret (pe_tup (pa_cons (pe_tup (pa_cons pe_int (pa_cons (pe_ix ix_tup (pv 0) pe_int (fun _ _ => rfl)) pa_nil))) (pa_cons pe_int pa_nil)))))
        pss_nil)
      (pss_cons (ps_asg (pe_cal C_place_of hr' (by rfl) (pa_cons (pv 0) pa_nil)) (pg_tup rfl (pgs_cons (pg_name (i := 2) sc_standing_of.nd rfl (.inl rfl)) (pgs_cons (pg_name (i := 3) sc_standing_of.nd rfl (.inl rfl)) pgs_nil))))
      (pss_cons (ps_for PassesOwn.never rfl (pi_enumT (by rfl) B.enumerate (pa_cons (pe_ix ix_tup (pv 1) (pv 2) (fun _ _ => rfl)) pa_nil)) (pg_tup rfl (pgs_cons (pg_name (i := 4) sc_standing_of.nd rfl (.inl rfl)) (pgs_cons (pg_tup rfl (pgs_cons (pg_name (i := 5) sc_standing_of.nd rfl (.inl rfl)) (pgs_cons (pg_name (i := 6) sc_standing_of.nd rfl (.inl rfl)) pgs_nil))) pgs_nil)))
        (pss_one (ps_if (pt_cmpR op_eq (pv 5) (pv 3) (nomark _))
        (pss_one (ps_ret (pe_tup (pa_cons (pe_tup (pa_cons (pe_op op_add (pv 2) pe_int) (pa_cons (pv 4) pa_nil))) (pa_cons (pv 6) pa_nil)))))
        pss_nil)))
      (pss_one (ps_ret pe_non))))), ?_⟩
  obtain ⟨a, vs, rfl, ha, hvs⟩ := hv.open
  refine ⟨_, rfl, a, _, 0, _, rfl, rfl, ha, at_word p vs, rfl, _, rfl, ite2 (fun c => ?_) (fun c => ?_)⟩
  · have hw : word p = "in" := V.str.inj (of_decide_eq_true c)
    cases p with
    | inp k =>
      refine ⟨_, rfl, a, _, 1, _, rfl, rfl, ha, at_of (j := 1) rfl rfl, (by show 2 ≤ sizeLine; decide), fun t2 ht2 => ⟨(by show 2 ≤ sizeLine; decide), fun t3 ht3 => q _ _ ((same_new ht2).trans (same_new ht3)) ⟨t3, t2, rfl, .inl (.inl upd_same), .inl (.inl ?_)⟩⟩⟩
      rw [upd_ne (ne_of_none upd_same ht3)]
      exact upd_same
    | num k => exact absurd hw (show ¬ ("num" : Str) = "in" by decide +kernel)
    | plus k x => exact absurd hw (show ¬ ("plus" : Str) = "in" by decide +kernel)
    | tr b => exact absurd hw (show ¬ trS b = "in" by cases b <;> decide +kernel)
    | bin bw x y => exact absurd hw (show ¬ bw.str = "in" by cases bw <;> decide +kernel)
    | neg x => exact absurd hw (show ¬ ("not" : Str) = "in" by decide +kernel)
    | ite x y z => exact absurd hw (show ¬ ("if" : Str) = "in" by decide +kernel)
  have hin : ∀ k, p ≠ .inp k := fun k e => c (decide_eq_true (by rw [e]; rfl))
  have est := stnd_not S p hin
  refine ⟨_, rfl, .ref a, p, rfl, hv, hin, fun t1 H1 s1 h1 => ⟨t1, _, rfl, .inl (.inl h1), rfl, _, _, rfl, _, _, rfl, rfl, ?_⟩⟩
  obtain ⟨v1, v2, v3, qt, rd⟩ := part_read (ht.keep (Tp.same s1))
  have pp : prt p ≤ 2 := by cases p <;> simp [prt]
  obtain ⟨vk, b, ys, ek, rfl, qb, rb⟩ := rd (prt p) pp
  have hyl : ys.length = (S.part (prt p)).length := by
    rw [dpall_len rb]
    exact List.length_map _
  refine ⟨_, rfl, _, rfl, t, _, _, _, rfl, rfl, qt, at_of (j := prt p) rfl ek, b, ys, rfl, qb, for_enumT (K := K) (xs := ys) (fun i σ H' => (∃ y4 y5 y6 : Option V, σ = [some (.ref a), some (.ref t), some (.int (prt p : Nat)), some (keyP p), y4, y5, y6]) ∧ Same H1 H' ∧ lookS (keyP p) (S.part (prt p)) = (lookS (keyP p) ((S.part (prt p)).drop i)).map fun r => (r.1 + i, r.2)) ?_ ?_ ?_ ?_⟩
  · refine ⟨⟨_, _, _, rfl⟩, Same.refl _, ?_⟩
    rw [List.drop_zero]
    cases lookS (keyP p) (S.part (prt p)) <;> rfl
  · rintro i σ H' ⟨_, s', _⟩
    exact Tp.same s' _ _ qb
  · rintro i x σ H' T hx ⟨⟨y4, y5, y6, rfl⟩, s', el⟩ hT
    obtain ⟨c', y, hy, rfl, qc⟩ := kd_read rb (hS.key _) i x hx
    have sm := same_new (o := .tup [.int (i : Nat), .ref c']) hT
    have eT : (upd H' T (.tup [.int (i : Nat), .ref c'])) T = some (.tup [.int (i : Nat), .ref c']) := upd_same
    have s2 := s'.trans sm
    generalize upd H' T (.tup [.int (i : Nat), .ref c']) = H2 at s2 eT
    have hst : (S.part (prt p)).drop i = y :: (S.part (prt p)).drop (i + 1) := by
      obtain ⟨hi, e⟩ := List.getElem?_eq_some_iff.mp hy
      rw [List.drop_eq_getElem_cons hi, e]
    rw [hst] at el
    refine ⟨T, _, rfl, .inl (.inl eT), rfl, _, _, rfl, _, _, rfl, c', _, rfl, Tp.same s2 _ _ qc, rfl, _, _, rfl, _, _, rfl, rfl, rfl, ?_⟩
    have fl1 : flatV y.1 = true := by
      rcases hS.key _ y (List.mem_of_getElem? hy) with ⟨i, e⟩ | ⟨z, e⟩ <;> rw [e] <;> rfl
    have sc : scal y.1 (keyP p) = true := by
      have hm := List.mem_of_getElem? hy
      cases p with
      | num k => obtain ⟨i, e, _⟩ := hS.a y hm; rw [e]; rfl
      | plus k x => obtain ⟨i, e, _⟩ := hS.b y hm; rw [e]; rfl
      | inp k => exact absurd rfl (hin k)
      | tr b => obtain ⟨z, e, _⟩ := hS.c y hm; rw [e]; rfl
      | bin bw x y => obtain ⟨z, e, _⟩ := hS.c _ hm; rw [e]; rfl
      | neg x => obtain ⟨z, e, _⟩ := hS.c y hm; rw [e]; rfl
      | ite x y z => obtain ⟨z, e, _⟩ := hS.c _ hm; rw [e]; rfl
    refine ⟨_, rfl, _, rfl, ?_⟩
    by_cases cy : y.1 = keyP p
    · have el' : lookS (keyP p) (S.part (prt p)) = some (i, y.2) := by
        rw [el, lookS_cons, if_pos cy]
        show some (0 + i, y.2) = _
        rw [Nat.zero_add]
      rw [el'] at est
      refine ⟨sc, _, rfl, ?_⟩
      show if decide (y.1 = keyP p) = true then _ else _
      rw [if_pos (decide_eq_true cy)]
      refine ⟨_, rfl, _, _, rfl, rfl, _, rfl, (by show 2 ≤ sizeLine; decide), fun t2 ht2 => ⟨_, rfl, (by show 2 ≤ sizeLine; decide), fun t3 ht3 => q _ _ ((s1.trans s2).trans ((same_new ht2).trans (same_new ht3))) ?_⟩⟩
      rw [est]
      refine ⟨t3, t2, rfl, .inl (.inl upd_same), .inl (.inl ?_)⟩
      rw [upd_ne (ne_of_none upd_same ht3)]
      exact upd_same
    · refine ⟨sc, _, rfl, ?_⟩
      show if decide (y.1 = keyP p) = true then _ else _
      rw [if_neg (by rw [decide_eq_false cy]; decide)]
      refine ⟨⟨_, _, _, rfl⟩, s2, ?_⟩
      rw [el, lookS_cons, if_neg cy]
      cases lookS (keyP p) ((S.part (prt p)).drop (i + 1)) with
      | none => rfl
      | some r =>
        show some (r.1 + 1 + i, r.2) = some (r.1 + (i + 1), r.2)
        rw [Nat.add_assoc, Nat.add_comm 1 i]
  · rintro σ H' ⟨⟨y4, y5, y6, rfl⟩, s', el⟩
    rw [hyl, List.drop_length] at el
    refine q _ _ (s1.trans s') ?_
    rw [est, el]
    rfl
abbrev s_weight : Stmt := topS 29
theorem sc_weight : FnScope ["program", "stock", "total", "knot", "standing"] ["program", "stock"] (defScope s_weight) := ⟨rfl, rfl, rfl, by decide +kernel, rfl, by decide +kernel, by decide +kernel⟩
def spWeight (K : PySem.W.Frag) : Sp := fun vs H Q _ => ∃ (v : V) (p : Pg) (t : Addr) (S : Stk), vs = [v, .ref t] ∧ At K H v p ∧ psz p ≤ 10000 ∧ Fd K H (.ref t) S.D ∧ S.Ok ∧ ∀ H', Same H H' → Q (optI (wtL S (kn p))) H'
theorem ok_weight {aS : Addr} (C_knots : Cal P w K mg base 3 "knots" ["program"] (spKnots K)) (C_standing_of : Cal P w K mg base 2 "standing_of" ["knot", "stock"] (spStand K)) (D : DefKw K mg "weight" s_weight ["program", "stock"] 1 ["stock"] [.ref aS]) : CalKw P w K mg base 4 "weight" ["program", "stock"] 1 ["stock"] [.ref aS] (spWeight K) := by
  refine calkw_of D sc_weight (fun vs H Q E h => ?_) (fun f cdv A outer s H vs Q E hr h => ?_)
  · obtain ⟨v, p, t, S, rfl, _⟩ := h
    rfl
  obtain ⟨v, p, t, S, rfl, hv, hz, ht, hS, q⟩ := h
  have C_standing_of := C_standing_of.mono (k := 3) (by decide)
  have hr' : Room 3 _ := hr
  refine ⟨_, (pss_cons (ps_set (i := 2) sc_weight.nd rfl (.inl rfl) pe_int)
      (pss_cons (ps_for PassesOwn.never rfl (pi_list (pe_cal C_knots hr' (by rfl) (pa_cons (pv 0) pa_nil))) (pg_name (i := 3) sc_weight.nd rfl (.inl rfl))
        (pss_cons (ps_set (i := 4) sc_weight.nd rfl (.inl rfl) (pe_cal C_standing_of hr' (by rfl) (pa_cons (pv 3) (pa_cons (pv 1) pa_nil))))
      (pss_cons (ps_if (pt_cmpR op_isN (pv 4) pe_non (nomark _))
        (pss_one (ps_ret pe_non))
        pss_nil)
      (pss_one (ps_aug (i := 2) sc_weight.nd rfl (.inl rfl) (pe_ix ix_tup (pv 4) pe_int (fun _ _ => rfl)) ip_add)))))
      (pss_one (ps_ret (pv 2))))), ?_⟩
  refine ⟨_, rfl, v, p, rfl, hv, hz, fun lk us H2 s2 lk0 hlk hus => ?_⟩
  have ul : us.length = (kn p).length := hus.len
  refine ⟨lk, rfl, ⟨_, SqL.of hlk⟩, for_list (K := K) (a := lk) (xs := us) (fun i σ H' => (∃ (tot : Int) (y3 y4 : Option V), σ = [some v, some (.ref t), some (.int tot), y3, y4] ∧ wtL S (kn p) = (wtL S ((kn p).drop i)).map fun r => tot + r) ∧ Same H2 H') ?_ ?_ ?_ ?_⟩
  · refine ⟨⟨0, _, _, rfl, ?_⟩, Same.refl _⟩
    rw [List.drop_zero]
    cases wtL S (kn p) with
    | none => rfl
    | some r => show some r = some (0 + r); rw [Int.zero_add]
  · rintro i σ H' _ ⟨_, s'⟩
    exact SqL.of (s' _ _ hlk)
  · rintro i x σ H' hx ⟨⟨tot, y3, y4, rfl, el⟩, s'⟩
    obtain ⟨r, hr1, har⟩ := (hus.keep (Tp.same s')).get i x hx
    have hst : (kn p).drop i = r :: (kn p).drop (i + 1) := by
      obtain ⟨hi, e⟩ := List.getElem?_eq_some_iff.mp hr1
      rw [List.drop_eq_getElem_cons hi, e]
    rw [hst] at el
    refine ⟨_, rfl, _, rfl, x, r, t, S, rfl, har, ht.keep (Tp.same (s2.trans s')), hS, fun u H3 s3 hu => ?_⟩
    cases est : stnd S r with
    | none =>
      rw [est] at hu
      have hu' : u = .non := hu
      subst hu'
      rw [wtL_none est] at el
      refine ⟨_, rfl, rfl, _, rfl, iteT ?_⟩
      have q' := q H3 (s2.trans (s'.trans s3))
      rw [el] at q'
      exact q'
    | some z =>
      obtain ⟨x', y', l⟩ := z
      rw [est] at hu
      obtain ⟨t1, t2, rfl, q1, q2⟩ := hu
      rw [wtL_some est] at el
      refine ⟨_, rfl, rfl, _, rfl, iteF ⟨_, rfl, _, rfl, t1, _, 1, _, rfl, rfl, q1, rfl, _, _, rfl, rfl, ⟨_, _, _, rfl, ?_⟩, s'.trans s3⟩⟩
      rw [el]
      cases wtL S ((kn p).drop (i + 1)) with
      | none => rfl
      | some r' => show some (tot + (l + r')) = some (tot + l + r'); rw [Int.add_assoc]
  · rintro σ H' ⟨⟨tot, y3, y4, rfl, el⟩, s'⟩
    rw [ul, List.drop_length] at el
    have q' := q H' (s2.trans s')
    rw [el] at q'
    have e : ((wtL S []).map fun r => tot + r) = some tot := by show some (tot + 0) = _; rw [Int.add_zero]
    rw [e] at q'
    exact ⟨_, rfl, q'⟩
end
end Lm

set_option Elab.async false
set_option linter.all false
set_option maxRecDepth 100000
set_option maxHeartbeats 4000000
namespace Lm
open PySem PySem.Spec PyProof.Rows L2 LmR
theorem op_in_seqK {X : Cx} {K : PySem.W.Frag} (h : X.K = K) : OpR X (compareOp .In) (rIn K false) := h ▸ op_in_seq
theorem op_notIn_seqK {X : Cx} {K : PySem.W.Frag} (h : X.K = K) : OpR X (compareOp .NotIn) (rIn K true) := h ▸ op_notIn_seq
/-- of the kinds and of the stock -/
def Ofs (S : Stk) (ks : List Bool) (p : Pg) : Prop := Wk ks p ∧ ∀ q ∈ kn p, stnd S q ≠ none
theorem look_in {v : V} : ∀ {l : List (V × Int)}, (∃ x ∈ l, x.1 = v) → lookS v l ≠ none
  | [], h => by obtain ⟨x, hx, _⟩ := h; cases hx
  | y :: l, h => by
    rw [lookS_cons]
    by_cases c : y.1 = v
    · rw [if_pos c]; intro z; cases z
    · rw [if_neg c]
      have ih : lookS v l ≠ none := look_in (by
        obtain ⟨x, hx, e⟩ := h
        rcases List.mem_cons.mp hx with z | z
        · rw [z] at e; exact absurd e c
        · exact ⟨x, z, e⟩)
      intro z
      cases hz : lookS v l with
      | none => exact ih hz
      | some r => rw [hz] at z; cases z
def InC (S : Stk) (w : Str) : Prop := ∃ x ∈ S.c, x.1 = V.str w
def ChOk (S : Stk) : Ch → Prop
  | .plus => S.b ≠ []
  | c => InC S c.str
/-- a word of the stock that takes parts -/
theorem ch_of {S : Stk} {w : Str} (h : InC S w) (hw : w ∈ stockWs) (h1 : w ≠ "yes") (h2 : w ≠ "no") : ∃ c : Ch, V.str w = .str c.str ∧ ChOk S c := by
  simp only [stockWs, List.mem_cons, List.not_mem_nil, or_false] at hw
  rcases hw with rfl | rfl | rfl | rfl | rfl | rfl | rfl | rfl | rfl
  · exact absurd rfl h1
  · exact absurd rfl h2
  · exact ⟨.bin .least, rfl, h⟩
  · exact ⟨.bin .most, rfl, h⟩
  · exact ⟨.bin .atmost, rfl, h⟩
  · exact ⟨.neg, rfl, h⟩
  · exact ⟨.bin .both, rfl, h⟩
  · exact ⟨.bin .either, rfl, h⟩
  · exact ⟨.ite, rfl, h⟩
/-- what a word tells, asked for this kind -/
def telB (b : Bool) : Ch → Bool
  | .plus => false
  | .bin .least => false
  | .bin .most => false
  | .ite => b
  | _ => true
theorem tel_fits {b : Bool} {c : Ch} (h : telB b c = b) : c.fits b := by
  cases c with
  | plus => exact h.symm
  | bin w => cases w <;> exact h
  | neg => exact h.symm
  | ite => exact True.intro
def tellKV (b : Bool) : List (Key × V) := mergeK [] [(Sum.inr "plus", .str "num"), (Sum.inr "least", .str "num"), (Sum.inr "most", .str "num"), (Sum.inr "if", .str (kS b))]
theorem tell_get (b : Bool) (c : Ch) : (valV (tellKV b) (Sum.inr c.str)).getD (.str "truth") = .str (kS (telB b c)) := by
  cases c with
  | plus => rfl
  | neg => rfl
  | ite => rfl
  | bin w => cases w <;> rfl
theorem kS_inj {a b : Bool} (h : V.str (kS a) = V.str (kS b)) : a = b := by
  cases a <;> cases b <;> first | rfl | exact absurd h (by decide +kernel)
/-- a leaf of the stock -/
def Lv (K : PySem.W.Frag) (S : Stk) (ks : List Bool) (b : Bool) (H : Hp) (v : V) : Prop := ∃ p, At K H v p ∧ Ofs S ks p ∧ own ks p = b ∧ psz p = 1
theorem Lv.keep {K : PySem.W.Frag} {S : Stk} {ks : List Bool} {b : Bool} {H H' : Hp} {v : V} (h : Lv K S ks b H v) (t : Tp K H H') : Lv K S ks b H' v := by
  obtain ⟨p, a, r⟩ := h
  exact ⟨p, a.keep t, r⟩
/-- what is made of parts of the kinds due -/
theorem Ch.mkO {K : PySem.W.Frag} {H : Hp} {S : Stk} {ks : List Bool} {k : Bool} {num : Int} (c : Ch) (hf : c.fits k) (hc : ChOk S c) {t : Addr} {vs : List V} {ps : List Pg} (ha : Ats K H vs ps) (hw : ∀ p ∈ ps, Ofs S ks p) (hn : c = .plus → ∃ x ∈ S.b, x.1 = .int num) (hk : ps.map (own ks) = c.ps k)
    (ht : H t = some (.tup (c.front num ++ vs))) : ∃ p, At K H (.ref t) p ∧ Ofs S ks p ∧ own ks p = k ∧ psz p = 1 + (ps.map psz).sum := by
  have all : ∀ p, parts p = ps → stnd S p ≠ none → ∀ q ∈ kn p, stnd S q ≠ none := fun p hp hs q hq => by
    rw [kn_eq] at hq
    rcases List.mem_cons.mp hq with z | z
    · rw [z]; exact hs
    · obtain ⟨r, hr, hq⟩ := List.mem_flatMap.mp z
      rw [hp] at hr
      exact (hw r hr).2 q hq
  have st : ∀ p : Pg, (∀ k, p ≠ .inp k) → lookS (keyP p) (S.part (prt p)) ≠ none → stnd S p ≠ none := fun p h1 h2 => by
    rw [stnd_not S p h1]
    intro z
    cases hz : lookS (keyP p) (S.part (prt p)) with
    | none => exact h2 hz
    | some r => rw [hz] at z; cases z
  cases c with
  | plus =>
    obtain ⟨a, rfl, e⟩ := map1 hk
    obtain ⟨v, rfl, h⟩ := ha.one
    exact ⟨.plus num a, .tup (.inl (.inl ht)) (.cons (.str _) (.cons (.int _) (.cons h .nil))), ⟨⟨(hw a (by simp)).1, e⟩, all _ rfl (st _ (fun k z => nomatch z) (look_in (hn rfl)))⟩, hf.symm, by simp [psz]; omega⟩
  | bin w =>
    obtain ⟨a, b, rfl, e1, e2⟩ := map2 hk
    obtain ⟨u, v, rfl, h1, h2⟩ := ha.two
    exact ⟨.bin w a b, .tup (.inl (.inl ht)) (.cons (.str _) (.cons h1 (.cons h2 .nil))), ⟨⟨(hw a (by simp)).1, (hw b (by simp)).1, e1, e2⟩, all _ rfl (st _ (fun k z => nomatch z) (look_in hc))⟩, hf, by simp [psz]; omega⟩
  | neg =>
    obtain ⟨a, rfl, e⟩ := map1 hk
    obtain ⟨v, rfl, h⟩ := ha.one
    exact ⟨.neg a, .tup (.inl (.inl ht)) (.cons (.str _) (.cons h .nil)), ⟨⟨(hw a (by simp)).1, e⟩, all _ rfl (st _ (fun k z => nomatch z) (look_in hc))⟩, hf.symm, by simp [psz]; omega⟩
  | ite =>
    obtain ⟨p, a, b, rfl, e1, e2, e3⟩ := map3 hk
    obtain ⟨u, v, z, rfl, h1, h2, h3⟩ := ha.three
    exact ⟨.ite p a b, .tup (.inl (.inl ht)) (.cons (.str _) (.cons h1 (.cons h2 (.cons h3 .nil)))), ⟨⟨(hw p (by simp)).1, (hw a (by simp)).1, (hw b (by simp)).1, e1, by rw [e2, e3]⟩, all _ rfl (st _ (fun k z => nomatch z) (look_in hc))⟩, e2, by simp [psz]; omega⟩
/-- words that take parts, in a list -/
def WsAt (S : Stk) (ok : Ch → Prop) (vs : List V) : Prop := ∀ v ∈ vs, ∃ c : Ch, v = .str c.str ∧ ChOk S c ∧ ok c
/-- a leaf goes behind the leaves -/
theorem lv_add {K : PySem.W.Frag} {S : Stk} {ks : List Bool} {b : Bool} {H0 H' : Hp} {D p : Addr} {o : HO} {acc : List V} (hD : H0 D = none) (sm : Same H0 H') (hA : H' D = some (.lst acc)) (hP : ∀ v ∈ acc, Lv K S ks b H' v) (hp : H' p = none)
    (hl : ∀ H'' : Hp, H'' p = some o → Lv K S ks b H'' (.ref p)) :
    (upd H' p o) D = some (.lst acc) ∧ Same H0 (upd (upd H' p o) D (.lst (acc ++ [.ref p]))) ∧ ∀ v ∈ acc ++ [.ref p], Lv K S ks b (upd (upd H' p o) D (.lst (acc ++ [.ref p]))) v := by
  have sp : Same H' (upd H' p o) := same_new hp
  have hD' : (upd H' p o) D = some (.lst acc) := sp _ _ hA
  have tp : Tp K H' (upd (upd H' p o) D (.lst (acc ++ [.ref p]))) := (Tp.same sp).trans (Tp.lst hD')
  have npD : p ≠ D := fun z => by
    rw [z, hA] at hp
    cases hp
  refine ⟨hD', fun b o z => ?_, fun v hv => ?_⟩
  · rw [upd_ne (ne_of_none z hD)]
    exact sp _ _ (sm _ _ z)
  · rcases List.mem_append.mp hv with z | z
    · exact (hP v z).keep tp
    · rw [List.mem_singleton.mp z]
      exact hl _ (by rw [upd_ne npD, upd_same])
theorem lv_inp {K : PySem.W.Frag} {S : Stk} {ks : List Bool} {b : Bool} {H : Hp} {p : Addr} {i : Nat} (hi : ks[i]? = some b) (hp : H p = some (.tup [.str "in", .int (i : Int)])) : Lv K S ks b H (.ref p) := by
  refine ⟨.inp i, .tup (.inl (.inl hp)) (.cons (.str _) (.cons (.int _) .nil)), ⟨(List.getElem?_eq_some_iff.mp hi).1, fun q hq => ?_⟩, ?_, rfl⟩
  · rw [kn_eq] at hq
    rw [show q = .inp i by simpa [parts] using hq]
    intro z
    cases z
  · show ks.getD i false = b
    rw [List.getD_eq_getElem?_getD, hi]
    rfl
theorem lv_num {K : PySem.W.Frag} {S : Stk} {ks : List Bool} {H : Hp} {p : Addr} {i : Int} (hi : ∃ x ∈ S.a, x.1 = V.int i) (hp : H p = some (.tup [.str "num", .int i])) : Lv K S ks false H (.ref p) := by
  refine ⟨.num i, .tup (.inl (.inl hp)) (.cons (.str _) (.cons (.int _) .nil)), ⟨True.intro, fun q hq => ?_⟩, rfl, rfl⟩
  rw [kn_eq] at hq
  rw [show q = .num i by simpa [parts] using hq, stnd_not S (.num i) (fun k z => nomatch z)]
  intro z
  have := look_in hi
  cases hz : lookS (V.int i) S.a with
  | none => exact this hz
  | some r =>
    have z' : (lookS (V.int i) S.a).map (fun r => (0 + 1, r.1, r.2)) = none := z
    rw [hz] at z'
    cases z'
theorem lv_tr {K : PySem.W.Frag} {S : Stk} {ks : List Bool} {H : Hp} {p : Addr} {w : Bool} (hi : InC S (word (.tr w))) (hp : H p = some (.tup [.str (word (.tr w))])) : Lv K S ks true H (.ref p) := by
  refine ⟨.tr w, .tup (.inl (.inl (by rw [hp]; cases w <;> rfl))) (.cons (.str _) .nil), ⟨True.intro, fun q hq => ?_⟩, rfl, rfl⟩
  rw [kn_eq] at hq
  rw [show q = .tr w by simpa [parts] using hq, stnd_not S (.tr w) (fun k z => nomatch z)]
  intro z
  have := look_in hi
  cases hz : lookS (V.str (word (.tr w))) S.c with
  | none => exact this hz
  | some r =>
    have z' : (lookS (V.str (word (.tr w))) S.c).map (fun r => (2 + 1, r.1, r.2)) = none := z
    rw [hz] at z'
    cases z'
theorem ifS_cut {tt : TT} {A B : TS} {D : Ends} {σ : L2.St} {H : Hp} (I J : Hp → Prop) (h : ∀ Q : Bool → Hp → Prop, (∀ H', I H' → Q true H') → (∀ H', J H' → Q false H') → tt σ H Q) (ha : ∀ H', I H' → A D σ H') (hb : ∀ H', J H' → B D σ H') : tIfS tt A B D σ H :=
  h _ (fun H' i => iteT (ha H' i)) (fun H' j => iteF (hb H' j))
theorem Ch.str_inj {c d : Ch} (h : V.str c.str = V.str d.str) : c = d := by
  cases c with
  | plus => cases d with
    | plus => rfl
    | bin w => cases w <;> exact absurd h (by decide +kernel)
    | neg => exact absurd h (by decide +kernel)
    | ite => exact absurd h (by decide +kernel)
  | neg => cases d with
    | neg => rfl
    | bin w => cases w <;> exact absurd h (by decide +kernel)
    | plus => exact absurd h (by decide +kernel)
    | ite => exact absurd h (by decide +kernel)
  | ite => cases d with
    | ite => rfl
    | bin w => cases w <;> exact absurd h (by decide +kernel)
    | plus => exact absurd h (by decide +kernel)
    | neg => exact absurd h (by decide +kernel)
  | bin w => cases d with
    | bin u => cases w <;> cases u <;> first | rfl | exact absurd h (by decide +kernel)
    | plus => cases w <;> exact absurd h (by decide +kernel)
    | neg => cases w <;> exact absurd h (by decide +kernel)
    | ite => cases w <;> exact absurd h (by decide +kernel)
/-- the parts of a word, written down -/
def PL (Hb H : Hp) (b : Bool) (kvs : List (Key × V)) (c : Ch) : Prop := ∃ pl, valV kvs (Sum.inr c.str) = some (.ref pl) ∧ Hb pl = none ∧ H pl = some (.lst ((c.ps b).map fun b => V.str (kS b)))
theorem pl_ne {Hb H1 H2 : Hp} {b : Bool} {kvs : List (Key × V)} {c c' : Ch} {v : V} (ne : c' ≠ c) (old : ∀ pl o, Hb pl = none → H1 pl = some (.lst o) → H2 pl = some (.lst o)) (h : PL Hb H1 b kvs c') : PL Hb H2 b (putK kvs (Sum.inr c.str) v) c' := by
  obtain ⟨pl, e1, e2, e3⟩ := h
  refine ⟨pl, ?_, e2, old _ _ e2 e3⟩
  rw [valV_put, if_neg fun z => ne (Ch.str_inj (congrArg V.str (Sum.inr.inj z)))]
  exact e1
theorem pl_step {Hb H1 H2 : Hp} {b : Bool} {kvs : List (Key × V)} {c : Ch} {xs : List V} {pl : Addr} {i : Nat} (hx : xs[i]? = some (.str c.str)) (h1 : Hb pl = none) (h2 : H2 pl = some (.lst ((c.ps b).map fun b => V.str (kS b)))) (old : ∀ pl o, Hb pl = none → H1 pl = some (.lst o) → H2 pl = some (.lst o))
    (h : ∀ x ∈ xs.take i, ∀ c' : Ch, x = .str c'.str → c' ≠ c → PL Hb H1 b kvs c') : ∀ x ∈ xs.take (i + 1), ∀ c' : Ch, x = .str c'.str → PL Hb H2 b (putK kvs (Sum.inr c.str) (.ref pl)) c' := by
  intro x hx' c' e
  by_cases ec : c' = c
  · subst ec
    exact ⟨pl, by rw [valV_put, if_pos rfl], h1, h2⟩
  · rw [List.take_add_one, hx] at hx'
    rcases List.mem_append.mp hx' with z | z
    · exact pl_ne ec old (h x z c' e ec)
    · have z' : x = V.str c.str := by simpa using z
      exact absurd (Ch.str_inj (e.symm.trans z')) ec
theorem lay_enc' : ∀ p : Pg, (enc p).canLay0 = true
  | .inp k => by show (PyData.strOk "in" && (true && true)) = true; decide +kernel
  | .num c => by show (PyData.strOk "num" && (true && true)) = true; decide +kernel
  | .tr b => by cases b <;> decide +kernel
  | .plus c a => by
    show (PyData.strOk "plus" && (true && ((enc a).canLay0 && true))) = true
    rw [lay_enc' a]; decide +kernel
  | .bin w a b => by
    show (PyData.strOk w.str && ((enc a).canLay0 && ((enc b).canLay0 && true))) = true
    rw [lay_enc' a, lay_enc' b]; cases w <;> decide +kernel
  | .neg a => by
    show (PyData.strOk "not" && ((enc a).canLay0 && true)) = true
    rw [lay_enc' a]; decide +kernel
  | .ite p a b => by
    show (PyData.strOk "if" && ((enc p).canLay0 && ((enc a).canLay0 && ((enc b).canLay0 && true)))) = true
    rw [lay_enc' p, lay_enc' a, lay_enc' b]; decide +kernel
theorem depth_enc' : ∀ p : Pg, (enc p).depth ≤ dep p
  | .inp k => by show max 0 (max 0 0) + 1 ≤ 1; decide
  | .num c => by show max 0 (max 0 0) + 1 ≤ 1; decide
  | .tr b => by show max 0 0 + 1 ≤ 1; decide
  | .plus c a => by
    have := depth_enc' a
    show max 0 (max 0 (max (enc a).depth 0)) + 1 ≤ dep a + 1
    omega
  | .bin w a b => by
    have := depth_enc' a; have := depth_enc' b
    show max 0 (max (enc a).depth (max (enc b).depth 0)) + 1 ≤ max (dep a) (dep b) + 1
    omega
  | .neg a => by
    have := depth_enc' a
    show max 0 (max (enc a).depth 0) + 1 ≤ dep a + 1
    omega
  | .ite p a b => by
    have := depth_enc' a; have := depth_enc' b; have := depth_enc' p
    show max 0 (max (enc p).depth (max (enc a).depth (max (enc b).depth 0))) + 1 ≤ max (dep p) (max (dep a) (dep b)) + 1
    omega
theorem lays_all : ∀ ds : List PyData, (∀ d ∈ ds, d.canLay0 = true ∧ d.depth ≤ 60) → PyData.canLayAll0 ds = true ∧ PyData.depthAll ds ≤ 60
  | [], _ => ⟨rfl, Nat.zero_le _⟩
  | d :: ds, h => by
    obtain ⟨h1, h2⟩ := lays_all ds fun x hx => h x (List.mem_cons_of_mem _ hx)
    obtain ⟨k1, k2⟩ := h d List.mem_cons_self
    refine ⟨?_, ?_⟩
    · show (d.canLay0 && PyData.canLayAll0 ds) = true
      rw [k1, h1]
      rfl
    · show max d.depth (PyData.depthAll ds) ≤ 60
      omega
theorem sh_list (ds : List PyData) (h : ∀ d ∈ ds, d.canLay0 = true ∧ d.depth ≤ 60) : SeqAt.shaped (.list ds) = true := by
  obtain ⟨h1, h2⟩ := lays_all ds h
  unfold SeqAt.shaped
  have h3 : (PyData.list ds).canLay0 = true := h1
  rw [h3, Bool.true_and]
  exact decide_eq_true (show PyData.depthAll ds + 1 ≤ 64 by omega)
/-- programs, or None -/
inductive OAts (K : PySem.W.Frag) (H : Hp) : List V → List (Option Pg) → Prop
  | nil : OAts K H [] []
  | non {vs : List V} {os : List (Option Pg)} : OAts K H vs os → OAts K H (.non :: vs) (none :: os)
  | cons {v : V} {p : Pg} {vs : List V} {os : List (Option Pg)} : At K H v p → OAts K H vs os → OAts K H (v :: vs) (some p :: os)
theorem OAts.keep {K : PySem.W.Frag} {H H' : Hp} (t : Tp K H H') {vs : List V} {os : List (Option Pg)} (h : OAts K H vs os) : OAts K H' vs os := by
  induction h with
  | nil => exact .nil
  | non _ ih => exact .non ih
  | cons a _ ih => exact .cons (a.keep t) ih
theorem OAts.snoc {K : PySem.W.Frag} {H : Hp} {u : V} {o : Option Pg} (hu : OAts K H [u] [o]) {vs : List V} {os : List (Option Pg)} (h : OAts K H vs os) : OAts K H (vs ++ [u]) (os ++ [o]) := by
  induction h with
  | nil => exact hu
  | non _ ih => exact .non ih
  | cons a _ ih => exact .cons a ih
def encO : Option Pg → PyData
  | none => .none
  | some p => enc p
theorem OAts.dps {K : PySem.W.Frag} {H : Hp} {vs : List V} {os : List (Option Pg)} (h : OAts K H vs os) : DpAll K H vs (os.map encO) := by
  induction h with
  | nil => exact .nil
  | non _ ih => exact .cons .non ih
  | cons a _ ih => exact .cons a ih
theorem OAts.len {K : PySem.W.Frag} {H : Hp} {vs : List V} {os : List (Option Pg)} (h : OAts K H vs os) : vs.length = os.length := by
  induction h with
  | nil => rfl
  | non _ ih => exact congrArg (· + 1) ih
  | cons _ _ ih => exact congrArg (· + 1) ih
theorem OAts.all {K : PySem.W.Frag} {H : Hp} {vs : List V} {os : List (Option Pg)} (h : OAts K H vs os) : os.any Option.isNone = false → ∃ ps, os = ps.map some ∧ Ats K H vs ps := by
  induction h with
  | nil => exact fun _ => ⟨[], rfl, .nil⟩
  | non _ ih => exact fun z => by simp at z
  | cons a _ ih =>
    intro z
    obtain ⟨ps, rfl, r⟩ := ih (by simpa using z)
    exact ⟨_ :: ps, rfl, .cons a r⟩
theorem eqv_enc (p : Pg) : PyData.eqv (enc p) .none = false := by
  cases p <;> rfl
theorem anyO : ∀ os : List (Option Pg), (os.map encO).any (fun z => PyData.eqv z .none) = os.any Option.isNone
  | [] => rfl
  | none :: os => rfl
  | some p :: os => by
    show (PyData.eqv (enc p) .none || (os.map encO).any _) = (false || _)
    rw [eqv_enc, anyO os]
def Ch.frontD (num : Int) : Ch → List PyData
  | .plus => [.str "plus", .int num]
  | .bin w => [.str w.str]
  | .neg => [.str "not"]
  | .ite => [.str "if"]
theorem front_dp {K : PySem.W.Frag} {H : Hp} (num : Int) (c : Ch) : DpAll K H (c.front num) (c.frontD num) := by
  cases c with
  | plus => exact .cons (.str _) (.cons (.int _) .nil)
  | bin w => exact .cons (.str _) .nil
  | neg => exact .cons (.str _) .nil
  | ite => exact .cons (.str _) .nil
theorem front_any (num : Int) (c : Ch) : (c.frontD num).any (fun z => PyData.eqv z .none) = false := by
  cases c <;> rfl
theorem front_lay (num : Int) (c : Ch) : ∀ d ∈ c.frontD num, d.canLay0 = true ∧ d.depth ≤ 60 := by
  intro d hd
  cases c with
  | plus =>
    rcases List.mem_cons.mp hd with rfl | hd
    · exact ⟨by decide +kernel, by decide⟩
    · rw [List.mem_singleton.mp hd]
      exact ⟨rfl, Nat.zero_le _⟩
  | bin w => rw [List.mem_singleton.mp hd]; cases w <;> exact ⟨by decide +kernel, Nat.zero_le _⟩
  | neg => rw [List.mem_singleton.mp hd]; exact ⟨by decide +kernel, Nat.zero_le _⟩
  | ite => rw [List.mem_singleton.mp hd]; exact ⟨by decide +kernel, Nat.zero_le _⟩
def pszO : Option Pg → Nat
  | none => 0
  | some p => psz p
theorem boolQ {Q : Bool → Hp → Prop} {c : Bool} {H : Hp} (h1 : c = true → Q true H) (h2 : c = false → Q false H) : Q c H := by
  cases c
  · exact h2 rfl
  · exact h1 rfl
theorem le_sum {n : Nat} : ∀ {l : List Nat}, n ∈ l → n ≤ l.sum
  | [], h => by cases h
  | m :: l, h => by
    rw [List.sum_cons]
    rcases List.mem_cons.mp h with rfl | h
    · omega
    · have := le_sum h
      omega
/-- what came of the parts -/
structure Got (S : Stk) (ks : List Bool) (due : List Bool) (os : List (Option Pg)) (left room : Int) : Prop where
  of : ∀ p, some p ∈ os → Ofs S ks p
  own : ∀ (j : Nat) (p : Pg), os[j]? = some (some p) → due[j]? = some (own ks p)
  sum : ((os.map pszO).sum : Int) + left ≤ room - 1
theorem Got.nil {S : Stk} {ks due : List Bool} {room : Int} : Got S ks due [] (room - 1) room := ⟨fun p h => (by cases h), fun j p h => (by simp at h), (by simp)⟩
theorem Got.snoc {S : Stk} {ks due : List Bool} {os : List (Option Pg)} {left room : Int} (g : Got S ks due os left room) {o : Option Pg} {b : Bool} {m : Int} (hb : due[os.length]? = some b) (h0 : 0 ≤ m) (h : ∀ p, o = some p → Ofs S ks p ∧ Lm.own ks p = b ∧ (psz p : Int) ≤ m) : Got S ks due (os ++ [o]) (left - m) room := by
  refine ⟨fun p hp => ?_, fun j p hj => ?_, ?_⟩
  · rcases List.mem_append.mp hp with z | z
    · exact g.of p z
    · exact (h p (List.mem_singleton.mp z).symm).1
  · by_cases c : j < os.length
    · rw [List.getElem?_append_left c] at hj
      exact g.own j p hj
    · rw [List.getElem?_append_right (Nat.le_of_not_lt c)] at hj
      have j0 : j - os.length = 0 := by
        have := (List.getElem?_eq_some_iff.mp hj).1
        simpa using this
      rw [j0] at hj
      have ej : j = os.length := by omega
      rw [ej, (h p (Option.some.inj hj)).2.1, hb]
  · have hs := g.sum
    rw [List.map_append, List.sum_append]
    cases o with
    | none => simp [pszO]; omega
    | some p =>
      have := (h p rfl).2.2
      simp [pszO]
      omega
theorem Got.map {S : Stk} {ks due : List Bool} {ps : List Pg} {left room : Int} (g : Got S ks due (ps.map some) left room) (hl : ps.length = due.length) : (∀ p ∈ ps, Ofs S ks p) ∧ ps.map (Lm.own ks) = due ∧ ((ps.map psz).sum : Int) + left ≤ room - 1 := by
  refine ⟨fun p hp => g.of p (List.mem_map.mpr ⟨p, hp, rfl⟩), ?_, ?_⟩
  · refine List.ext_getElem? fun j => ?_
    rw [List.getElem?_map]
    cases e : ps[j]? with
    | none =>
      have : ps.length ≤ j := List.getElem?_eq_none_iff.mp e
      exact (List.getElem?_eq_none_iff.mpr (by omega)).symm
    | some p => exact (g.own j p (by rw [List.getElem?_map, e]; rfl)).symm
  · have hs := g.sum
    rw [List.map_map] at hs
    exact hs
section
variable {P : Program} {w : World} {K : PySem.W.Frag} {mg : Str → Option Value} {base : Heap}
abbrev s_l_of_stock : Stmt := topS 65
theorem sc_l_of_stock : FnScope ["_law_flow_here", "_law_shop", "_law_sorts", "_law_kind", "_law_room", "_law_down", "_law_words", "_law_tells", "_law_leaves", "_law_parts", "_law_word", "_law_left", "_law_found", "_law_k", "_law_first_of", "_law_share", "_law_heavy", "_law_number"] ["_law_flow_here", "_law_shop", "_law_sorts", "_law_kind", "_law_room", "_law_down"] (defScope s_l_of_stock) := ⟨rfl, rfl, rfl, by decide +kernel, rfl, by decide +kernel, by decide +kernel⟩
def spOS (K : PySem.W.Frag) (n : Nat) : Sp := fun vs H Q _ => ∃ (f t ka : Addr) (S : Stk) (ks : List Bool) (b : Bool) (room down : Int), vs = [.ref f, .ref t, .ref ka, .str (kS b), .int room, .int down] ∧ Flow H f ∧ Fd K H (.ref t) S.D ∧ S.Ok ∧ SqT K H ka (kVs ks) ∧ ks.length ≤ 3 ∧ 1 ≤ room ∧ room ≤ 24 ∧ 0 ≤ down ∧ down < n ∧
  ∀ u H', Gr [] f H H' → (u = .non ∨ ∃ p, At K H' u p ∧ Ofs S ks p ∧ own ks p = b ∧ (psz p : Int) ≤ room) → Q u H'
theorem ok_l_of_stock1 {n : Nat} (B : Bt mg) (C_l_draw : Cal P w K mg base 1 "_law_draw" ["_law_flow_here", "_law_many"] (spDraw)) (C_l_of_stock : Cal P w K mg base (n + 1) "_law_of_stock" ["_law_flow_here", "_law_shop", "_law_sorts", "_law_kind", "_law_room", "_law_down"] (spOS K n)) (D : DefAt K mg "_law_of_stock" s_l_of_stock ["_law_flow_here", "_law_shop", "_law_sorts", "_law_kind", "_law_room", "_law_down"]) : Cal P w K mg base (n + 1 + 1) "_law_of_stock" ["_law_flow_here", "_law_shop", "_law_sorts", "_law_kind", "_law_room", "_law_down"] (spOS K (n + 1)) := by
  refine cal_of D sc_l_of_stock (fun vs H Q E h => ?_) (fun f cdv A outer s H vs Q E hr h => ?_)
  · obtain ⟨f, t, ka, S, ks, b, room, down, rfl, _⟩ := h
    rfl
  have hu65 : (A.deeper (envOfC "_law_of_stock" (defScope s_l_of_stock) s.heap.objs.size f cdv)).units + 65 < cLine := by
    have := hr.un
    omega
  obtain ⟨f, t, ka, S, ks, b, room, down, rfl, fl, ht, hS, hk, hk3, r1, r2, d0, d1, q⟩ := h
  have C_l_draw := C_l_draw.mono (k := n + 1) (by omega)
  have hr' : Room (n + 1) _ := hr
  refine ⟨_, (pss_cons (ps_set (i := 6) sc_l_of_stock.nd rfl (.inl rfl) (pe_op op_cat (pe_lc (own := [("_law_word", 10), ("_law_heavy", 16)]) (g := gTup K 2 (gCons (gName 10) (gCons (gName 16) gNil))) rfl sc_l_of_stock.nd (pi_tup (pe_ix ix_tup (pv 1) pe_int (fun _ _ => rfl))) (blkOk_by (own := [("_law_word", 10), ("_law_heavy", 16)]) (N := ["_law_flow_here", "_law_shop", "_law_sorts", "_law_kind", "_law_room", "_law_down", "_law_words", "_law_tells", "_law_leaves", "_law_parts", "_law_word", "_law_left", "_law_found", "_law_k", "_law_first_of", "_law_share", "_law_heavy", "_law_number"]) (sc := defScope s_l_of_stock) (by decide +kernel)) (fun _ _ _ _ _ => (pg_tupK (K := K) rfl rfl (pgs_cons (pg_name (i := 10) sc_l_of_stock.nd rfl (.inl rfl)) (pgs_cons (pg_name (i := 16) sc_l_of_stock.nd rfl (.inl rfl)) pgs_nil)))) (fun _ _ _ _ _ => (pts_one (pt_cmpR (op_notIn_seqK (K := K) rfl) (pv 10) (pe_tup (pa_cons pe_str (pa_cons pe_str pa_nil))) rfl))) (fun _ _ _ _ _ => (pv 10))) (pe_op op_rep (pe_lst (pa_cons pe_str pa_nil)) (pe_callTy call_int1 (by rfl) B.int PyProof.Rows.boot_int (pa_cons (pe_cmpR op_gt (pe_callB call_len_seq (by rfl) B.len PySem.boot_len (pa_cons (pe_ix ix_tup (pv 1) pe_int (fun _ _ => rfl)) pa_nil)) pe_int (nomark _)) pa_nil)))))
      (pss_cons (ps_set (i := 7) sc_l_of_stock.nd rfl (.inr rfl) (pe_disp (pps_cons pe_str pe_str (pps_cons pe_str pe_str (pps_cons pe_str pe_str (pps_cons pe_str (pv 3) pps_nil)))) (by rfl) (by rfl) (fun z => by cases z) (by decide)))
      (pss_cons (ps_setLc (i := 6) (own := [("_law_word", 10)]) (g := gName 10) rfl sc_l_of_stock.nd rfl rfl (sw_true rfl rfl rfl (by decide +kernel)) (pi_list (pv 6)) (blkOk_by (own := [("_law_word", 10)]) (N := ["_law_flow_here", "_law_shop", "_law_sorts", "_law_kind", "_law_room", "_law_down", "_law_words", "_law_tells", "_law_leaves", "_law_parts", "_law_word", "_law_left", "_law_found", "_law_k", "_law_first_of", "_law_share", "_law_heavy", "_law_number"]) (sc := defScope s_l_of_stock) (by decide +kernel)) (fun _ _ _ _ _ => (pg_name (i := 10) sc_l_of_stock.nd rfl (.inl rfl))) (fun _ _ _ _ _ => (pts_one (pt_cmpR op_eq (pe_dget2 (hu_of hr) (pv 7) (pv 10) pe_str (by constructor <;> rfl)) (pv 3) (nomark _)))) (fun _ _ _ _ _ => (pv 10)))
      (pss_cons (ps_setLc (i := 8) (own := [("_law_k", 13)]) (g := gName 13) rfl sc_l_of_stock.nd rfl rfl (sw_true rfl rfl rfl (by decide +kernel)) (pi_range1 (by rfl) B.range (pa_cons (pe_callB call_len_seq (by rfl) B.len PySem.boot_len (pa_cons (pv 2) pa_nil)) pa_nil)) (blkOk_by (own := [("_law_k", 13)]) (N := ["_law_flow_here", "_law_shop", "_law_sorts", "_law_kind", "_law_room", "_law_down", "_law_words", "_law_tells", "_law_leaves", "_law_parts", "_law_word", "_law_left", "_law_found", "_law_k", "_law_first_of", "_law_share", "_law_heavy", "_law_number"]) (sc := defScope s_l_of_stock) (by decide +kernel)) (fun _ _ _ _ _ => (pg_name (i := 13) sc_l_of_stock.nd rfl (.inl rfl))) (fun _ _ _ _ _ => (pts_one (pt_cmpR op_eq (pe_ix (ix_tupK (K := K) rfl) (pv 2) (pv 13) (fun _ _ => rfl)) (pv 3) (nomark _)))) (fun _ _ _ _ _ => (pe_tup (pa_cons pe_str (pa_cons (pv 13) pa_nil)))))
      (pss_cons (ps_set (i := 8) sc_l_of_stock.nd rfl (.inl rfl) (pe_op op_cat (pv 8) (pe_lc (own := [("_law_number", 17), ("_law_heavy", 16)]) (g := gTup K 2 (gCons (gName 17) (gCons (gName 16) gNil))) rfl sc_l_of_stock.nd (pi_tup (pe_ix ix_tup (pv 1) pe_int (fun _ _ => rfl))) (blkOk_by (own := [("_law_number", 17), ("_law_heavy", 16)]) (N := ["_law_flow_here", "_law_shop", "_law_sorts", "_law_kind", "_law_room", "_law_down", "_law_words", "_law_tells", "_law_leaves", "_law_parts", "_law_word", "_law_left", "_law_found", "_law_k", "_law_first_of", "_law_share", "_law_heavy", "_law_number"]) (sc := defScope s_l_of_stock) (by decide +kernel)) (fun _ _ _ _ _ => (pg_tupK (K := K) rfl rfl (pgs_cons (pg_name (i := 17) sc_l_of_stock.nd rfl (.inl rfl)) (pgs_cons (pg_name (i := 16) sc_l_of_stock.nd rfl (.inl rfl)) pgs_nil)))) (fun _ _ _ _ _ => (pts_one (pt_cmpR op_eq (pv 3) pe_str (nomark _)))) (fun _ _ _ _ _ => (pe_tup (pa_cons pe_str (pa_cons (pv 17) pa_nil)))))))
      (pss_cons (ps_set (i := 8) sc_l_of_stock.nd rfl (.inl rfl) (pe_op op_cat (pv 8) (pe_lc (own := [("_law_word", 10), ("_law_heavy", 16)]) (g := gTup K 2 (gCons (gName 10) (gCons (gName 16) gNil))) rfl sc_l_of_stock.nd (pi_tup (pe_ix ix_tup (pv 1) pe_int (fun _ _ => rfl))) (blkOk_by (own := [("_law_word", 10), ("_law_heavy", 16)]) (N := ["_law_flow_here", "_law_shop", "_law_sorts", "_law_kind", "_law_room", "_law_down", "_law_words", "_law_tells", "_law_leaves", "_law_parts", "_law_word", "_law_left", "_law_found", "_law_k", "_law_first_of", "_law_share", "_law_heavy", "_law_number"]) (sc := defScope s_l_of_stock) (by decide +kernel)) (fun _ _ _ _ _ => (pg_tupK (K := K) rfl rfl (pgs_cons (pg_name (i := 10) sc_l_of_stock.nd rfl (.inl rfl)) (pgs_cons (pg_name (i := 16) sc_l_of_stock.nd rfl (.inl rfl)) pgs_nil)))) (fun _ _ _ _ _ => (pts_one (PW.pt (pw_and (pt_cmpR (op_in_seqK (K := K) rfl) (pv 10) (pe_tup (pa_cons pe_str (pa_cons pe_str pa_nil))) rfl) (pw_and1 (pt_cmpR op_eq (pv 3) pe_str (nomark _))))))) (fun _ _ _ _ _ => (pe_tup (pa_cons (pv 10) pa_nil))))))
      (pss_cons (ps_set (i := 9) sc_l_of_stock.nd rfl (.inr rfl) pe_dnewK)
      (pss_cons (ps_for PassesOwn.never rfl (pi_list (pv 6)) (pg_name (i := 10) sc_l_of_stock.nd rfl (.inl rfl))
        (pss_cons (ps_dput (hu_of hr) (pv 9) (pv 10) (pe_dget1 (hu_of hr) (pe_disp (pps_cons pe_str (pe_lst (pa_cons pe_str pa_nil)) (pps_cons pe_str (pe_lst (pa_cons pe_str pa_nil)) (pps_cons pe_str (pe_op op_rep (pe_lst (pa_cons pe_str pa_nil)) pe_int) (pps_cons pe_str (pe_op op_rep (pe_lst (pa_cons pe_str pa_nil)) pe_int) pps_nil)))) (by rfl) (by rfl) (fun z => by cases z) (by decide)) (pv 10) (by constructor <;> rfl)) rfl)
      (pss_one (ps_if (pt_cmpR op_isN (pe_dget (hu_of hr) (pv 9) (pv 10) (fun _ _ => rfl)) pe_non (nomark _))
        (pss_one (ps_dput (hu_of hr) (pv 9) (pv 10) (pe_ix ix_list (pe_lst (pa_cons (pe_lst (pa_cons pe_str (pa_cons pe_str pa_nil))) (pa_cons (pe_lst (pa_cons pe_str (pa_cons (pv 3) (pa_cons (pv 3) pa_nil)))) pa_nil))) (pe_callTy call_int1 (by rfl) B.int PyProof.Rows.boot_int (pa_cons (pe_cmpR op_eq (pv 10) pe_str (nomark _)) pa_nil)) (fun _ _ => rfl)) rfl))
        pss_nil))))
      (pss_cons (ps_setLc (i := 6) (own := [("_law_word", 10)]) (g := gName 10) rfl sc_l_of_stock.nd rfl rfl (sw_true rfl rfl rfl (by decide +kernel)) (pi_list (pv 6)) (blkOk_by (own := [("_law_word", 10)]) (N := ["_law_flow_here", "_law_shop", "_law_sorts", "_law_kind", "_law_room", "_law_down", "_law_words", "_law_tells", "_law_leaves", "_law_parts", "_law_word", "_law_left", "_law_found", "_law_k", "_law_first_of", "_law_share", "_law_heavy", "_law_number"]) (sc := defScope s_l_of_stock) (by decide +kernel)) (fun _ _ _ _ _ => (pg_name (i := 10) sc_l_of_stock.nd rfl (.inl rfl))) (fun _ _ _ _ _ => (pts_one (PW.pt (pw_and (pt_cmpR op_lt (pe_callB (call_len_seqK (K := K) rfl) (by rfl) B.len PySem.boot_len (pa_cons (pe_dget (hu_of hr) (pv 9) (pv 10) (fun _ _ => rfl)) pa_nil)) (pv 4) (nomark _)) (pw_and1 (pt_cmpR op_gt (pv 5) pe_int (nomark _))))))) (fun _ _ _ _ _ => (pv 10)))
      (C8.pss_cut (ps_if (PW.pt (pw_and (pt_cmpR op_gt (pe_callB call_len_seq (by rfl) B.len PySem.boot_len (pa_cons (pv 6) pa_nil)) pe_int (nomark _)) (pw_and1 (PW.pt (pw_or (pt_cmpR op_eq (pe_callB call_len_seq (by rfl) B.len PySem.boot_len (pa_cons (pv 8) pa_nil)) pe_int (nomark _)) (pw_or1 (pt_cmpR op_gt (pe_cal C_l_draw hr' (by rfl) (pa_cons (pv 0) (pa_cons pe_int pa_nil))) pe_int (nomark _))))))))
        (pss_cons (ps_par (i := 10) (j := 11) rfl sc_l_of_stock.nd rfl rfl (by decide) rfl rfl (pa_cons (pe_ix ix_list (pv 6) (pe_cal C_l_draw hr' (by rfl) (pa_cons (pv 0) (pa_cons (pe_callB call_len_seq (by rfl) B.len PySem.boot_len (pa_cons (pv 6) pa_nil)) pa_nil))) (fun _ _ => rfl)) (pa_cons (pe_op op_sub (pv 4) pe_int) pa_nil)) rfl)
      (pss_cons (ps_set (i := 12) sc_l_of_stock.nd rfl (.inl rfl) (pe_lst (pa_cons (pv 10) pa_nil)))
      (C8.pss_cut (ps_if (pt_cmpR op_eq (pv 10) pe_str (nomark _))
        (pss_one (ps_expr (pe_bm PySem.F.plainAttrs_list PySem.F.slot_list_append PySem.F.type_list_append mt_append (pv 12) (pa_cons (pe_ix ix_tup (pe_ix ix_tup (pe_ix ix_tup (pv 1) pe_int (fun _ _ => rfl)) (pe_cal C_l_draw hr' (by rfl) (pa_cons (pv 0) (pa_cons (pe_callB call_len_seq (by rfl) B.len PySem.boot_len (pa_cons (pe_ix ix_tup (pv 1) pe_int (fun _ _ => rfl)) pa_nil)) pa_nil))) (fun _ _ => rfl)) pe_int (fun _ _ => rfl)) pa_nil))))
        pss_nil)
      (pss_cons (ps_for PassesOwn.never rfl (pi_enum (by rfl) B.enumerate (pa_cons (pe_dget (hu_of hr) (pv 9) (pv 10) (fun _ _ => rfl)) pa_nil)) (pg_tup rfl (pgs_cons (pg_name (i := 13) sc_l_of_stock.nd rfl (.inl rfl)) (pgs_cons (pg_name (i := 14) sc_l_of_stock.nd rfl (.inl rfl)) pgs_nil)))
        (pss_cons (ps_set (i := 15) sc_l_of_stock.nd rfl (.inl rfl) (pe_op op_add pe_int (pe_cal C_l_draw hr' (by rfl) (pa_cons (pv 0) (pa_cons (pe_op op_sub (pv 11) (pe_op op_sub (pe_op op_sub (pe_callB call_len_seq (by rfl) B.len PySem.boot_len (pa_cons (pe_dget (hu_of hr) (pv 9) (pv 10) (fun _ _ => rfl)) pa_nil)) (pv 13)) pe_int)) pa_nil)))))
      (pss_cons (ps_set (i := 11) sc_l_of_stock.nd rfl (.inl rfl) (pe_op op_sub (pv 11) (pv 15)))
      (pss_one (ps_expr (pe_bm PySem.F.plainAttrs_list PySem.F.slot_list_append PySem.F.type_list_append mt_append (pv 12) (pa_cons (pe_cal C_l_of_stock hr' (by rfl) (pa_cons (pv 0) (pa_cons (pv 1) (pa_cons (pv 2) (pa_cons (pv 14) (pa_cons (pv 15) (pa_cons (pe_op op_sub (pv 5) pe_int) pa_nil))))))) pa_nil)))))))
      (pss_one (ps_if (pt_cmpR (L2.op_notInD hu65) pe_non (pv 12) rfl)
        (pss_one (ps_ret (pe_callTy call_tuple_of (by rfl) B.tuple PyProof.Rows.boot_tuple (pa_cons (pv 12) pa_nil))))
        pss_nil))))))
        pss_nil)
      (pss_one (ps_ret (pe_ifExp (pt_cmpR op_gt (pe_callB call_len_seq (by rfl) B.len PySem.boot_len (pa_cons (pv 8) pa_nil)) pe_int (nomark _)) (pe_ix ix_list (pv 8) (pe_cal C_l_draw hr' (by rfl) (pa_cons (pv 0) (pa_cons (pe_callB call_len_seq (by rfl) B.len PySem.boot_len (pa_cons (pv 8) pa_nil)) pa_nil))) (fun _ _ => rfl)) pe_non))))))))))))), ?_⟩
  obtain ⟨v1, v2, v3, qt, rd⟩ := part_read ht
  obtain ⟨w1, b1, x1, e1, rfl, q1, p1⟩ := rd 0 (by decide)
  obtain ⟨w2, b2, x2, e2, rfl, q2, p2⟩ := rd 1 (by decide)
  obtain ⟨w3, b3, x3, e3, rfl, q3, p3⟩ := rd 2 (by decide)
  have e1' := Option.some.inj e1
  have e2' := Option.some.inj e2
  have e3' := Option.some.inj e3
  subst e1' e2' e3'
  have l1 : x1.length = S.a.length := (dpall_len p1).trans (List.length_map _)
  have l2 : x2.length = S.b.length := (dpall_len p2).trans (List.length_map _)
  have l3 : x3.length = S.c.length := (dpall_len p3).trans (List.length_map _)
  have la := hS.la
  have lb := hS.lb
  have lc := hS.lc
  -- words
  refine ⟨_, rfl, t, _, 2, _, rfl, rfl, qt, rfl, b3, rfl, ⟨_, q3⟩, fun D1 hD1 => lc_tup (K := K) (a := b3) (xs := x3) (fun j H' => Same H H' ∧ ∃ us, H' D1 = some (.lst us) ∧ us.length ≤ j ∧ WsAt S (fun _ => True) us) ?_ ?_ ?_ ?_⟩
  · exact ⟨same_new hD1, [], upd_same, Nat.le_refl _, fun v hv => by cases hv⟩
  · rintro j H' _ ⟨s', _⟩
    exact Tp.same s' _ _ q3
  · rintro j x H' hx ⟨s', us, hD', ul, hus⟩
    obtain ⟨bb, y, hy, rfl, qb⟩ := kd_read p3 (hS.key 2) j x hx
    have jl : j < x3.length := (List.getElem?_eq_some_iff.mp hx).1
    have hy' := List.mem_of_getElem? (show S.c[j]? = some y from hy)
    obtain ⟨wd, ew, hwd⟩ := hS.c y hy'
    refine ⟨bb, _, rfl, Tp.same s' _ _ qb, rfl, _, _, rfl, _, _, rfl, rfl, ?_⟩
    refine ⟨rfl, _, rfl, (by show 2 ≤ sizeLine; decide), fun tt htt => ⟨tt, _, rfl, .inr (.inl (.inl upd_same)), by rw [ew]; rfl, rfl, _, rfl, ?_⟩⟩
    have s2 := same_new (o := .tup [.str "yes", .str "no"]) htt
    generalize upd H' tt (.tup [.str "yes", .str "no"]) = H2 at s2
    have hD2 := s2 _ _ hD'
    refine ite2 (fun c => ?_) (fun c => ⟨s'.trans s2, us, hD2, by omega, hus⟩)
    have c' : (!inV y.1 [.str "yes", .str "no"]) = true := c
    rw [ew] at c'
    have n1 : wd ≠ "yes" := fun e => by rw [e] at c'; exact absurd c' (by decide +kernel)
    have n2 : wd ≠ "no" := fun e => by rw [e] at c'; exact absurd c' (by decide +kernel)
    obtain ⟨cc, ecc, hcc⟩ := ch_of ⟨y, hy', ew⟩ hwd n1 n2
    refine ⟨_, rfl, us, hD2, smallL (by omega), fun b o z => ?_, us ++ [y.1], upd_same, by rw [List.length_append]; show us.length + 1 ≤ _; omega, fun v hv => ?_⟩
    · rw [upd_ne (ne_of_none z hD1)]
      exact s2 _ _ (s' _ _ z)
    · rcases List.mem_append.mp hv with z | z
      · exact hus v z
      · rw [List.mem_singleton.mp z, ew]
        exact ⟨cc, ecc, hcc, True.intro⟩
  rintro H1 ⟨s1, us1, hD1', ul1, hus1⟩
  refine ⟨(by show 1 ≤ sizeLine; decide), fun lp hlp => ?_⟩
  have s2 := same_new (o := .lst [.str "plus"]) hlp
  have elp : (upd H1 lp (.lst [.str "plus"])) lp = some (.lst [.str "plus"]) := upd_same
  generalize upd H1 lp (.lst [.str "plus"]) = H2 at s2 elp
  have s02 := s1.trans s2
  refine ⟨_, rfl, t, _, 1, _, rfl, rfl, Tp.same s02 _ _ qt, rfl, b2, x2, rfl, .inr (Tp.same s02 _ _ q2), _, _, rfl, rfl, .inr ⟨_, rfl, ?_⟩⟩
  generalize ek : (if decide (0 < (x2.length : Int)) = true then (1 : Int) else 0) = k1
  have hk1 : k1 = 0 ∨ (k1 = 1 ∧ S.b ≠ []) := by
    rw [← ek]
    split
    · rename_i z
      refine .inr ⟨rfl, fun z' => ?_⟩
      rw [z'] at l2
      have z2 := of_decide_eq_true z
      rw [l2] at z2
      exact absurd z2 (by decide)
    · exact .inl rfl
  have hzs : (List.replicate k1.toNat [V.str "plus"]).flatten.length ≤ 1 ∧ WsAt S (fun _ => True) (List.replicate k1.toNat [V.str "plus"]).flatten := by
    rcases hk1 with rfl | ⟨rfl, hb⟩
    · exact ⟨by decide, fun v hv => by simp at hv⟩
    · exact ⟨by decide, fun v hv => ⟨.plus, (by simpa using hv : v = V.str "plus"), hb, True.intro⟩⟩
  refine ⟨lp, k1, _, rfl, rfl, elp, by omega, by omega, (by show 1 * k1.toNat ≤ sizeLine; rcases hk1 with rfl | ⟨rfl, _⟩ <;> decide), fun lq hlq => ?_⟩
  generalize (List.replicate k1.toNat [V.str "plus"]).flatten = zs at hzs
  have elq : (upd H2 lq (.lst zs)) lq = some (.lst zs) := upd_same
  have s3 := same_new (o := .lst zs) hlq
  generalize upd H2 lq (.lst zs) = H3 at s3 elq
  have s03 := s02.trans s3
  have hw1 : ∃ ws, us1 ++ zs = ws ∧ ws.length ≤ 11 ∧ WsAt S (fun _ => True) ws := ⟨_, rfl, by rw [List.length_append]; omega, fun v hv => (List.mem_append.mp hv).elim (hus1 v) (hzs.2 v)⟩
  refine ⟨D1, lq, us1, zs, rfl, rfl, (s2.trans s3) _ _ hD1', elq, Nat.le_of_lt (smallL (by omega)), fun dw hdw => ?_⟩
  obtain ⟨ws1, ew1, lw1, hws1⟩ := hw1
  rw [ew1]
  have edw : (upd H3 dw (.lst ws1)) dw = some (.lst ws1) := upd_same
  have s4 := s03.trans (same_new (o := .lst ws1) hdw)
  generalize upd H3 dw (.lst ws1) = H4 at s4 edw
  clear s2 s3 s03 s02 elp elq hzs hk1 ek hD1' hus1 s1 hlp hlq hdw
  -- tells
  refine fun dt hdt => ⟨_, rfl, upd_same, [(Sum.inr "plus", .str "num"), (Sum.inr "least", .str "num"), (Sum.inr "most", .str "num"), (Sum.inr "if", .str (kS b))], rfl, (by show 4 ≤ 15; decide), ?_⟩
  have edt : (upd (upd H4 dt (.dK [])) dt (.dK (mergeK [] [(Sum.inr "plus", .str "num"), (Sum.inr "least", .str "num"), (Sum.inr "most", .str "num"), (Sum.inr "if", .str (kS b))]))) dt = some (.dK (mergeK [] [(Sum.inr "plus", .str "num"), (Sum.inr "least", .str "num"), (Sum.inr "most", .str "num"), (Sum.inr "if", .str (kS b))])) := upd_same
  have s5 : Same H4 (upd (upd H4 dt (.dK [])) dt (.dK (mergeK [] [(Sum.inr "plus", .str "num"), (Sum.inr "least", .str "num"), (Sum.inr "most", .str "num"), (Sum.inr "if", .str (kS b))]))) := fun b o z => by
    rw [upd_ne (ne_of_none z hdt), upd_ne (ne_of_none z hdt)]
    exact z
  generalize upd (upd H4 dt (.dK [])) dt (.dK (mergeK [] [(Sum.inr "plus", .str "num"), (Sum.inr "least", .str "num"), (Sum.inr "most", .str "num"), (Sum.inr "if", .str (kS b))])) = H5 at s5 edt
  replace edt : H5 dt = some (.dK (tellKV b)) := edt
  replace edw := s5 _ _ edw
  replace s5 := s4.trans s5
  clear s4 hdt
  -- the words that tell the kind
  refine ⟨_, rfl, dw, rfl, ⟨_, SqL.of edw⟩, fun D2 hD2 => lc_list (K := K) (a := dw) (xs := ws1) (fun j H' => Same H5 H' ∧ ∃ us, H' D2 = some (.lst us) ∧ us.length ≤ j ∧ WsAt S (fun c => telB b c = b) us) ?_ ?_ ?_ ?_⟩
  · exact ⟨same_new hD2, [], upd_same, Nat.le_refl _, fun v hv => by cases hv⟩
  · rintro j H' _ ⟨s', _⟩
    exact SqL.of (s' _ _ edw)
  · rintro j x H' hx ⟨s', us, hD', ul, hus⟩
    have jl : j < ws1.length := (List.getElem?_eq_some_iff.mp hx).1
    obtain ⟨c, rfl, hc, _⟩ := hws1 x (List.mem_of_getElem? hx)
    refine ⟨rfl, _, rfl, dt, rfl, .inl ⟨_, .inl (s' _ _ edt)⟩, _, rfl, _, DGet.k (k := Sum.inr c.str) (s' _ _ edt), ?_⟩
    rw [tell_get]
    refine ⟨_, rfl, rfl, _, rfl, ite2 (fun z => ?_) (fun z => ⟨s', us, hD', by omega, hus⟩)⟩
    have z' := kS_inj (of_decide_eq_true z)
    refine ⟨_, rfl, us, hD', smallL (by omega), fun b o q => ?_, us ++ [.str c.str], upd_same, by rw [List.length_append]; show us.length + 1 ≤ _; omega, fun v hv => ?_⟩
    · rw [upd_ne (ne_of_none q hD2)]
      exact s' _ _ q
    · rcases List.mem_append.mp hv with y | y
      · exact hus v y
      · rw [List.mem_singleton.mp y]
        exact ⟨c, rfl, hc, z'⟩
  rintro H6 ⟨s6, ws2, hD2', lw2, hws2⟩
  replace s6 := s5.trans s6
  clear s5 edt edw hws1
  have lw2' : ws2.length ≤ 11 := by omega
  -- leaves: the inputs
  refine ⟨_, rfl, ka, _, rfl, .inr (Tp.same s6 _ _ hk), (((kVs ks).length : Nat) : Int), rfl, by have := hk3; unfold kVs; rw [List.length_map]; omega, by unfold kVs; rw [List.length_map]; omega, fun D3 hD3 => lc_range (lo := 0) (n := (((kVs ks).length : Nat) : Int).toNat) (fun i H' => Same H6 H' ∧ ∃ acc, H' D3 = some (.lst acc) ∧ acc.length ≤ i ∧ ∀ v ∈ acc, Lv K S ks b H' v) ?_ ?_ ?_⟩
  · exact ⟨same_new hD3, [], upd_same, Nat.le_refl _, fun v hv => by cases hv⟩
  · rintro i H' hi ⟨sm, acc, hA, hl, hP⟩
    have hi' : i < ks.length := by
      unfold kVs at hi
      rw [List.length_map] at hi
      omega
    have ek : (kVs ks)[i]? = some (.str (kS ks[i])) := by
      unfold kVs
      rw [List.getElem?_map, List.getElem?_eq_getElem hi']
      rfl
    refine ⟨rfl, _, rfl, _, rfl, ka, _, _, _, rfl, rfl, Tp.same (s6.trans sm) _ _ hk, at_of (j := i) (by omega) ek, _, rfl, rfl, _, rfl, ite2 (fun c => ?_) (fun c => ⟨sm, acc, hA, by omega, hP⟩)⟩
    have c2 : ks[i] = b := kS_inj (of_decide_eq_true c)
    refine ⟨_, rfl, (by show 2 ≤ sizeLine; decide), fun p hp => ?_⟩
    obtain ⟨a1, a2, a3⟩ := lv_add (o := .tup [.str "in", .int (0 + (i : Int))]) hD3 sm hA hP hp fun H'' e => lv_inp (i := i) (by rw [List.getElem?_eq_getElem hi', c2]) (by rw [e, Int.zero_add])
    exact ⟨acc, a1, smallL (by omega), a2, _, upd_same, by rw [List.length_append]; show acc.length + 1 ≤ _; omega, a3⟩
  rintro H7 ⟨s7, lv1, hD3', ll1, hlv1⟩
  have ll1' : lv1.length ≤ 3 := by
    unfold kVs at ll1
    rw [List.length_map] at ll1
    omega
  replace hD2' := s7 _ _ hD2'
  replace s7 := s6.trans s7
  clear s6
  -- leaves: the numbers
  refine ⟨_, rfl, _, rfl, t, _, 0, _, rfl, rfl, Tp.same s7 _ _ qt, rfl, b1, rfl, ⟨_, Tp.same s7 _ _ q1⟩, fun D4 hD4 => lc_tup (K := K) (a := b1) (xs := x1) (fun j H' => Same H7 H' ∧ ∃ acc, H' D4 = some (.lst acc) ∧ acc.length ≤ j ∧ ∀ v ∈ acc, Lv K S ks b H' v) ?_ ?_ ?_ ?_⟩
  · exact ⟨same_new hD4, [], upd_same, Nat.le_refl _, fun v hv => by cases hv⟩
  · rintro j H' _ ⟨s', _⟩
    exact Tp.same (s7.trans s') _ _ q1
  · rintro j x H' hx ⟨sm, acc, hA, hl, hP⟩
    obtain ⟨bb, y, hy, rfl, qb⟩ := kd_read p1 (hS.key 0) j x hx
    have jl : j < x1.length := (List.getElem?_eq_some_iff.mp hx).1
    have hy' := List.mem_of_getElem? (show S.a[j]? = some y from hy)
    obtain ⟨num, en, _⟩ := hS.a y hy'
    refine ⟨bb, _, rfl, Tp.same (s7.trans sm) _ _ qb, rfl, _, _, rfl, _, _, rfl, rfl, ?_⟩
    refine ⟨rfl, _, rfl, rfl, _, rfl, ite2 (fun c => ?_) (fun c => ⟨sm, acc, hA, by omega, hP⟩)⟩
    have c2 : b = false := kS_inj (of_decide_eq_true c)
    refine ⟨_, rfl, (by show 2 ≤ sizeLine; decide), fun p hp => ?_⟩
    obtain ⟨a1, a2, a3⟩ := lv_add (o := .tup [.str "num", y.1]) hD4 sm hA hP hp fun H'' e => by
      rw [c2]
      exact lv_num (i := num) ⟨y, hy', en⟩ (by rw [e, en])
    exact ⟨acc, a1, smallL (by omega), a2, _, upd_same, by rw [List.length_append]; show acc.length + 1 ≤ _; omega, a3⟩
  rintro H8 ⟨s8, lv2, hD4', ll2, hlv2⟩
  have hlv8 : ∀ v ∈ lv1 ++ lv2, Lv K S ks b H8 v := fun v hv => (List.mem_append.mp hv).elim (fun z => (hlv1 v z).keep (Tp.same s8)) (hlv2 v)
  replace hD2' := s8 _ _ hD2'
  replace hD3' := s8 _ _ hD3'
  replace s8 := s7.trans s8
  clear s7 hlv1 hlv2
  refine ⟨D3, D4, lv1, lv2, rfl, rfl, hD3', hD4', Nat.le_of_lt (smallL (by omega)), fun dl hdl => ?_⟩
  obtain ⟨lv3, e3', l3', hlv3⟩ : ∃ lv3, lv1 ++ lv2 = lv3 ∧ lv3.length ≤ 13 ∧ ∀ v ∈ lv3, Lv K S ks b H8 v := ⟨_, rfl, by rw [List.length_append]; omega, hlv8⟩
  rw [e3']
  have s9 := same_new (o := .lst lv3) hdl
  have edl : (upd H8 dl (.lst lv3)) dl = some (.lst lv3) := upd_same
  generalize upd H8 dl (.lst lv3) = H9 at s9 edl
  replace hlv3 : ∀ v ∈ lv3, Lv K S ks b H9 v := fun v hv => (hlv3 v hv).keep (Tp.same s9)
  replace hD2' := s9 _ _ hD2'
  replace s9 := s8.trans s9
  clear s8 hlv8 hD3' hD4' e3' hdl
  -- leaves: yes and no
  refine ⟨_, rfl, _, rfl, t, _, 2, _, rfl, rfl, Tp.same s9 _ _ qt, rfl, b3, rfl, ⟨_, Tp.same s9 _ _ q3⟩, fun D5 hD5 => lc_tup (K := K) (a := b3) (xs := x3) (fun j H' => Same H9 H' ∧ ∃ acc, H' D5 = some (.lst acc) ∧ acc.length ≤ j ∧ ∀ v ∈ acc, Lv K S ks b H' v) ?_ ?_ ?_ ?_⟩
  · exact ⟨same_new hD5, [], upd_same, Nat.le_refl _, fun v hv => by cases hv⟩
  · rintro j H' _ ⟨s', _⟩
    exact Tp.same (s9.trans s') _ _ q3
  · rintro j x H' hx ⟨sm, acc, hA, hl, hP⟩
    obtain ⟨bb, y, hy, rfl, qb⟩ := kd_read p3 (hS.key 2) j x hx
    have jl : j < x3.length := (List.getElem?_eq_some_iff.mp hx).1
    have hy' := List.mem_of_getElem? (show S.c[j]? = some y from hy)
    obtain ⟨wd, ew, hwd⟩ := hS.c y hy'
    refine ⟨bb, _, rfl, Tp.same (s9.trans sm) _ _ qb, rfl, _, _, rfl, _, _, rfl, rfl, ?_⟩
    refine ⟨rfl, _, rfl, (by show 2 ≤ sizeLine; decide), fun tt htt => ⟨tt, _, rfl, .inr (.inl (.inl upd_same)), by rw [ew]; rfl, rfl, _, rfl, ?_⟩⟩
    have s2 := same_new (o := .tup [.str "yes", .str "no"]) htt
    generalize upd H' tt (.tup [.str "yes", .str "no"]) = H2 at s2
    have sm2 := sm.trans s2
    have hA2 := s2 _ _ hA
    have hP2 : ∀ v ∈ acc, Lv K S ks b H2 v := fun v hv => (hP v hv).keep (Tp.same s2)
    have no : Same H9 H2 ∧ ∃ acc, H2 D5 = some (.lst acc) ∧ acc.length ≤ j + 1 ∧ ∀ v ∈ acc, Lv K S ks b H2 v := ⟨sm2, acc, hA2, by omega, hP2⟩
    refine ite2 (fun c => ?_) (fun c => no)
    refine ⟨_, rfl, rfl, _, rfl, ite2 (fun c2 => ?_) (fun c2 => no)⟩
    have c3 : b = true := kS_inj (of_decide_eq_true c2)
    have c' : inV y.1 [.str "yes", .str "no"] = true := c
    obtain ⟨wb, ewb⟩ : ∃ wb : Bool, y.1 = .str (word (.tr wb)) := by
      rw [ew] at c'
      simp only [stockWs, List.mem_cons, List.not_mem_nil, or_false] at hwd
      rcases hwd with rfl | rfl | rfl | rfl | rfl | rfl | rfl | rfl | rfl
      · exact ⟨true, ew⟩
      · exact ⟨false, ew⟩
      all_goals exact absurd c' (by decide +kernel)
    refine ⟨_, rfl, (by show 1 ≤ sizeLine; decide), fun p hp => ?_⟩
    obtain ⟨a1, a2, a3⟩ := lv_add (o := .tup [y.1]) hD5 sm2 hA2 hP2 hp fun H'' e => by
      rw [c3]
      exact lv_tr (w := wb) ⟨y, hy', ewb⟩ (by rw [e, ewb])
    exact ⟨acc, a1, smallL (by omega), a2, _, upd_same, by rw [List.length_append]; show acc.length + 1 ≤ _; omega, a3⟩
  rintro H10 ⟨s10, lv4, hD5', ll4, hlv4⟩
  have hlv10 : ∀ v ∈ lv3 ++ lv4, Lv K S ks b H10 v := fun v hv => (List.mem_append.mp hv).elim (fun z => (hlv3 v z).keep (Tp.same s10)) (hlv4 v)
  replace hD2' := s10 _ _ hD2'
  replace edl := s10 _ _ edl
  replace s10 := s9.trans s10
  clear s9 hlv3 hlv4
  refine ⟨dl, D5, lv3, lv4, rfl, rfl, edl, hD5', Nat.le_of_lt (smallL (by omega)), fun dm hdm => ?_⟩
  obtain ⟨ls, els, lls, hls⟩ : ∃ ls, lv3 ++ lv4 = ls ∧ ls.length ≤ 23 ∧ ∀ v ∈ ls, Lv K S ks b H10 v := ⟨_, rfl, by rw [List.length_append]; omega, hlv10⟩
  rw [els]
  have s11 := same_new (o := .lst ls) hdm
  have edm : (upd H10 dm (.lst ls)) dm = some (.lst ls) := upd_same
  generalize upd H10 dm (.lst ls) = H11 at s11 edm
  replace hls : ∀ v ∈ ls, Lv K S ks b H11 v := fun v hv => (hls v hv).keep (Tp.same s11)
  replace hD2' := s11 _ _ hD2'
  replace s11 := s10.trans s11
  clear s10 hlv10 edl hD5' els hdm
  -- parts
  refine fun dp hdp => ?_
  refine ⟨_, rfl, D2, rfl, ⟨_, SqL.of ((same_new hdp) _ _ hD2')⟩, for_list (K := K) (a := D2) (xs := ws2) (fun i σ' H' => ∃ (y10 : Option V) (kvs : List (Key × V)), σ' = [some (V.ref f), some (.ref t), some (.ref ka), some (.str (kS b)), some (.int room), some (.int down), some (.ref D2), some (.ref dt), some (.ref dm), some (.ref dp), y10, none, none, none, none, none, none, none] ∧ Same H11 H' ∧ H' dp = some (.dK kvs) ∧ kvs.length ≤ 2 * i ∧ ∀ x ∈ ws2.take i, ∀ c : Ch, x = .str c.str → PL H11 H' b kvs c) ?_ ?_ ?_ ?_⟩
  · exact ⟨none, [], rfl, same_new hdp, upd_same, Nat.zero_le _, fun x hx => by simp at hx⟩
  · rintro i σ' H' _ ⟨y10, kvs, rfl, s', _⟩
    exact SqL.of (s' _ _ hD2')
  · rintro i x σ' H' hx ⟨y10, kvs, rfl, s', edp, lk, hpl⟩
    have il : i < ws2.length := (List.getElem?_eq_some_iff.mp hx).1
    obtain ⟨c, rfl, hc, hct⟩ := hws2 x (List.mem_of_getElem? hx)
    refine fun dd hdd => ?_
    have sA := same_new (o := .dK []) hdd
    have edd : (upd H' dd (.dK [])) dd = some (.dK []) := upd_same
    generalize upd H' dd (.dK []) = A1 at sA edd
    refine ⟨(by show 1 ≤ sizeLine; decide), fun p1 hp1 => ?_⟩
    have sB := same_new (o := .lst [V.str "num"]) hp1
    have e1 : (upd A1 p1 (.lst [V.str "num"])) p1 = some (.lst [V.str "num"]) := upd_same
    generalize upd A1 p1 (.lst [V.str "num"]) = A2 at sB e1
    refine ⟨(by show 1 ≤ sizeLine; decide), fun p2 hp2 => ?_⟩
    have sC := same_new (o := .lst [V.str "truth"]) hp2
    have e2 : (upd A2 p2 (.lst [V.str "truth"])) p2 = some (.lst [V.str "truth"]) := upd_same
    generalize upd A2 p2 (.lst [V.str "truth"]) = A3 at sC e2
    refine ⟨(by show 1 ≤ sizeLine; decide), fun q3 hq3 => ?_⟩
    have sD := same_new (o := .lst [V.str "truth"]) hq3
    have e3 : (upd A3 q3 (.lst [V.str "truth"])) q3 = some (.lst [V.str "truth"]) := upd_same
    generalize upd A3 q3 (.lst [V.str "truth"]) = A4 at sD e3
    refine ⟨q3, 2, _, rfl, rfl, e3, by decide, by decide, (by show 1 * 2 ≤ sizeLine; decide), fun p3 hp3 => ?_⟩
    have sE := same_new (o := .lst (List.replicate (Int.toNat 2) [V.str "truth"]).flatten) hp3
    have e4 : (upd A4 p3 (.lst (List.replicate (Int.toNat 2) [V.str "truth"]).flatten)) p3 = some (.lst [V.str "truth", V.str "truth"]) := upd_same
    generalize upd A4 p3 (.lst (List.replicate (Int.toNat 2) [V.str "truth"]).flatten) = A5 at sE e4
    refine ⟨(by show 1 ≤ sizeLine; decide), fun q4 hq4 => ?_⟩
    have sF := same_new (o := .lst [V.str "truth"]) hq4
    have e5 : (upd A5 q4 (.lst [V.str "truth"])) q4 = some (.lst [V.str "truth"]) := upd_same
    generalize upd A5 q4 (.lst [V.str "truth"]) = A6 at sF e5
    refine ⟨q4, 2, _, rfl, rfl, e5, by decide, by decide, (by show 1 * 2 ≤ sizeLine; decide), fun p4 hp4 => ?_⟩
    have sG := same_new (o := .lst (List.replicate (Int.toNat 2) [V.str "truth"]).flatten) hp4
    have e6 : (upd A6 p4 (.lst (List.replicate (Int.toNat 2) [V.str "truth"]).flatten)) p4 = some (.lst [V.str "truth", V.str "truth"]) := upd_same
    generalize upd A6 p4 (.lst (List.replicate (Int.toNat 2) [V.str "truth"]).flatten) = A7 at sG e6
    have z1 := (sC.trans (sD.trans (sE.trans (sF.trans sG)))) _ _ e1
    have z2 := (sD.trans (sE.trans (sF.trans sG))) _ _ e2
    have z3 := (sF.trans sG) _ _ e4
    have zD := (sB.trans (sC.trans (sD.trans (sE.trans (sF.trans sG))))) _ _ edd
    have n1 : H11 p1 = none := (s'.trans sA).free hp1
    have n2 : H11 p2 = none := (s'.trans (sA.trans sB)).free hp2
    have n3 : H11 p3 = none := (s'.trans (sA.trans (sB.trans (sC.trans sD)))).free hp3
    have n4 : H11 p4 = none := (s'.trans (sA.trans (sB.trans (sC.trans (sD.trans (sE.trans sF)))))).free hp4
    have sM : Same H' A7 := sA.trans (sB.trans (sC.trans (sD.trans (sE.trans (sF.trans sG)))))
    have d1 : p1 ≠ dd := fun z => by rw [z, zD] at z1; cases z1
    have d2 : p2 ≠ dd := fun z => by rw [z, zD] at z2; cases z2
    have d3 : p3 ≠ dd := fun z => by rw [z, zD] at z3; cases z3
    have d4 : p4 ≠ dd := fun z => by rw [z, zD] at e6; cases e6
    clear sA sB sC sD sE sF sG edd e1 e2 e3 e4 e5 hp1 hp2 hq3 hp3 hq4 hp4
    refine ⟨zD, [(Sum.inr "plus", .ref p1), (Sum.inr "not", .ref p2), (Sum.inr "both", .ref p3), (Sum.inr "either", .ref p4)], rfl, (by show 4 ≤ 15; decide), ?_⟩
    have sN : Same H' (upd A7 dd (.dK (mergeK [] [(Sum.inr "plus", .ref p1), (Sum.inr "not", .ref p2), (Sum.inr "both", .ref p3), (Sum.inr "either", .ref p4)]))) := fun b o z => by
      rw [upd_ne (ne_of_none z hdd)]
      exact sM b o z
    have f1 : (upd A7 dd (.dK (mergeK [] [(Sum.inr "plus", .ref p1), (Sum.inr "not", .ref p2), (Sum.inr "both", .ref p3), (Sum.inr "either", .ref p4)]))) p1 = _ := (upd_ne d1).trans z1
    have f2 : (upd A7 dd (.dK (mergeK [] [(Sum.inr "plus", .ref p1), (Sum.inr "not", .ref p2), (Sum.inr "both", .ref p3), (Sum.inr "either", .ref p4)]))) p2 = _ := (upd_ne d2).trans z2
    have f3 : (upd A7 dd (.dK (mergeK [] [(Sum.inr "plus", .ref p1), (Sum.inr "not", .ref p2), (Sum.inr "both", .ref p3), (Sum.inr "either", .ref p4)]))) p3 = _ := (upd_ne d3).trans z3
    have f4 : (upd A7 dd (.dK (mergeK [] [(Sum.inr "plus", .ref p1), (Sum.inr "not", .ref p2), (Sum.inr "both", .ref p3), (Sum.inr "either", .ref p4)]))) p4 = _ := (upd_ne d4).trans e6
    have fD : (upd A7 dd (.dK (mergeK [] [(Sum.inr "plus", .ref p1), (Sum.inr "not", .ref p2), (Sum.inr "both", .ref p3), (Sum.inr "either", .ref p4)]))) dd = some (.dK (mergeK [] [(Sum.inr "plus", .ref p1), (Sum.inr "not", .ref p2), (Sum.inr "both", .ref p3), (Sum.inr "either", .ref p4)])) := upd_same
    generalize upd A7 dd (.dK (mergeK [] [(Sum.inr "plus", .ref p1), (Sum.inr "not", .ref p2), (Sum.inr "both", .ref p3), (Sum.inr "either", .ref p4)])) = A8 at sN f1 f2 f3 f4 fD
    clear z1 z2 z3 zD sM d1 d2 d3 d4 e6 hdd
    refine ⟨dd, rfl, .inl ⟨_, .inl fD⟩, _, rfl, _, DGet.k (k := Sum.inr c.str) fD, ?_⟩
    have hv : (∃ pl, (valV (mergeK [] [(Sum.inr "plus", .ref p1), (Sum.inr "not", .ref p2), (Sum.inr "both", .ref p3), (Sum.inr "either", .ref p4)]) (Sum.inr c.str)).getD .non = .ref pl ∧ H11 pl = none ∧ A8 pl = some (.lst ((c.ps b).map fun b => V.str (kS b)))) ∨ ((valV (mergeK [] [(Sum.inr "plus", .ref p1), (Sum.inr "not", .ref p2), (Sum.inr "both", .ref p3), (Sum.inr "either", .ref p4)]) (Sum.inr c.str)).getD .non = .non ∧ ((c.ps b = [false, false] ∧ V.str c.str ≠ V.str "if") ∨ c = .ite)) := by
      cases c with
      | plus => exact .inl ⟨p1, rfl, n1, f1⟩
      | neg => exact .inl ⟨p2, rfl, n2, f2⟩
      | ite => exact .inr ⟨rfl, .inr rfl⟩
      | bin w =>
        cases w with
        | both => exact .inl ⟨p3, rfl, n3, f3⟩
        | either => exact .inl ⟨p4, rfl, n4, f4⟩
        | least => exact .inr ⟨rfl, .inl ⟨rfl, by decide +kernel⟩⟩
        | most => exact .inr ⟨rfl, .inl ⟨rfl, by decide +kernel⟩⟩
        | atmost => exact .inr ⟨rfl, .inl ⟨rfl, by decide +kernel⟩⟩
    generalize (valV (mergeK [] [(Sum.inr "plus", .ref p1), (Sum.inr "not", .ref p2), (Sum.inr "both", .ref p3), (Sum.inr "either", .ref p4)]) (Sum.inr c.str)).getD .non = v0 at hv
    have edp8 := sN _ _ edp
    clear f1 f2 f3 f4 fD n1 n2 n3 n4
    have bd : dp ≠ f := fun z => by
      obtain ⟨xs, e⟩ := fl.lst
      rw [z, s11 _ _ e] at hdp
      cases hdp
    have lk' : kvs.length < 22 := by omega
    refine ⟨_, rfl, _, rfl, dp, _, rfl, DPut.k (k := Sum.inr c.str) edp8 (smallL (by omega)), ?_⟩
    have o9 : ∀ pl o, H11 pl = none → H' pl = some (.lst o) → (upd A8 dp (.dK (putK kvs (Sum.inr c.str) v0))) pl = some (.lst o) := fun pl o _ z => by
      rw [upd_ne fun y => by rw [y, edp] at z; cases z]
      exact sN _ _ z
    have s9 : Same H11 (upd A8 dp (.dK (putK kvs (Sum.inr c.str) v0))) := fun q o z => by
      rw [upd_ne (ne_of_none z hdp)]
      exact sN _ _ (s' _ _ z)
    have e9 : (upd A8 dp (.dK (putK kvs (Sum.inr c.str) v0))) dp = some (.dK (putK kvs (Sum.inr c.str) v0)) := upd_same
    have k9 : ∀ pl o, A8 pl = some (.lst o) → (upd A8 dp (.dK (putK kvs (Sum.inr c.str) v0))) pl = some (.lst o) := fun pl o z => by
      rw [upd_ne fun y => by rw [y, edp8] at z; cases z]
      exact z
    generalize upd A8 dp (.dK (putK kvs (Sum.inr c.str) v0)) = A9 at o9 s9 e9 k9
    refine ⟨_, rfl, _, rfl, dp, v0, rfl, .inl ⟨_, Sum.inr c.str, .inl e9, rfl, by rw [valV_put, if_pos rfl]⟩, rfl, _, rfl, ?_⟩
    rcases hv with ⟨pl, rfl, nl, el⟩ | ⟨rfl, hcc⟩
    · refine iteF ?_
      exact ⟨_, _, rfl, s9, e9, by have := length_putK kvs (Sum.inr c.str) (V.ref pl); omega, pl_step hx nl (k9 _ _ el) o9 fun x' hx' c' e' _ => hpl x' hx' c' e'⟩
    · refine iteT ?_
      refine ⟨(by show 2 ≤ sizeLine; decide), fun m1 hm1 => ?_⟩
      have sA := same_new (o := .lst [V.str "num", V.str "num"]) hm1
      have e1 : (upd A9 m1 (.lst [V.str "num", V.str "num"])) m1 = some (.lst [V.str "num", V.str "num"]) := upd_same
      generalize upd A9 m1 (.lst [V.str "num", V.str "num"]) = B1 at sA e1
      refine ⟨_, rfl, _, rfl, (by show 3 ≤ sizeLine; decide), fun m2 hm2 => ?_⟩
      have sB := same_new (o := .lst [V.str "truth", V.str (kS b), V.str (kS b)]) hm2
      have e2 : (upd B1 m2 (.lst [V.str "truth", V.str (kS b), V.str (kS b)])) m2 = some (.lst [V.str "truth", V.str (kS b), V.str (kS b)]) := upd_same
      generalize upd B1 m2 (.lst [V.str "truth", V.str (kS b), V.str (kS b)]) = B2 at sB e2
      refine ⟨(by show 2 ≤ sizeLine; decide), fun m3 hm3 => ?_⟩
      have sC := same_new (o := .lst [V.ref m1, V.ref m2]) hm3
      have e3 : (upd B2 m3 (.lst [V.ref m1, V.ref m2])) m3 = some (.lst [V.ref m1, V.ref m2]) := upd_same
      generalize upd B2 m3 (.lst [V.ref m1, V.ref m2]) = B3 at sC e3
      have n1 : H11 m1 = none := s9.free hm1
      have n2 : H11 m2 = none := (s9.trans sA).free hm2
      have f1 := (sB.trans sC) _ _ e1
      have f2 := sC _ _ e2
      have sN2 := sA.trans (sB.trans sC)
      have fp := sN2 _ _ e9
      have fin : ∀ m : Addr, H11 m = none → B3 m = some (.lst ((c.ps b).map fun b => V.str (kS b))) → ∃ (y10 : Option V) (kvs' : List (Key × V)), [some (V.ref f), some (.ref t), some (.ref ka), some (.str (kS b)), some (.int room), some (.int down), some (.ref D2), some (.ref dt), some (.ref dm), some (.ref dp), some (V.str c.str), none, none, none, none, none, none, none] = [some (V.ref f), some (.ref t), some (.ref ka), some (.str (kS b)), some (.int room), some (.int down), some (.ref D2), some (.ref dt), some (.ref dm), some (.ref dp), y10, none, none, none, none, none, none, none] ∧ Same H11 (upd B3 dp (.dK (putK (putK kvs (Sum.inr c.str) V.non) (Sum.inr c.str) (.ref m)))) ∧ (upd B3 dp (.dK (putK (putK kvs (Sum.inr c.str) V.non) (Sum.inr c.str) (.ref m)))) dp = some (.dK kvs') ∧ kvs'.length ≤ 2 * (i + 1) ∧ ∀ x ∈ ws2.take (i + 1), ∀ c' : Ch, x = .str c'.str → PL H11 (upd B3 dp (.dK (putK (putK kvs (Sum.inr c.str) V.non) (Sum.inr c.str) (.ref m)))) b kvs' c' := fun m nm em => by
        refine ⟨_, _, rfl, fun q o z => ?_, upd_same, ?_, ?_⟩
        · rw [upd_ne (ne_of_none z hdp)]
          exact sN2 _ _ (s9 _ _ z)
        · have h1 := length_putK kvs (Sum.inr c.str) V.non
          have h2 := length_putK (putK kvs (Sum.inr c.str) V.non) (Sum.inr c.str) (V.ref m)
          omega
        · have old : ∀ pl o, A9 pl = some (.lst o) → (upd B3 dp (.dK (putK (putK kvs (Sum.inr c.str) V.non) (Sum.inr c.str) (.ref m)))) pl = some (.lst o) := fun pl o z => by
            rw [upd_ne fun y => by rw [y, e9] at z; cases z]
            exact sN2 _ _ z
          refine pl_step (H1 := A9) hx nm ?_ (fun pl o _ z => old pl o z) fun x' hx' c' e' ne => pl_ne ne o9 (hpl x' hx' c' e')
          rw [upd_ne fun y => by rw [y, fp] at em; cases em]
          exact em
      refine ⟨_, rfl, rfl, .inr ⟨_, rfl, ?_⟩⟩
      rcases hcc with ⟨ep, ne⟩ | rfl
      · rw [show (if decide (V.str c.str = V.str "if") = true then (1 : Int) else 0) = 0 from if_neg fun z => ne (of_decide_eq_true z)]
        exact ⟨m3, _, 0, .ref m1, rfl, rfl, SqL.of e3, rfl, _, rfl, _, rfl, dp, _, rfl, DPut.k (k := Sum.inr c.str) fp (smallL (by have := length_putK kvs (Sum.inr c.str) V.non; omega)), fin m1 n1 (by rw [ep]; exact f1)⟩
      · rw [show (if decide (V.str Ch.ite.str = V.str "if") = true then (1 : Int) else 0) = 1 from if_pos (decide_eq_true rfl)]
        exact ⟨m3, _, 1, .ref m2, rfl, rfl, SqL.of e3, rfl, _, rfl, _, rfl, dp, _, rfl, DPut.k (k := Sum.inr Ch.ite.str) fp (smallL (by have := length_putK kvs (Sum.inr Ch.ite.str) V.non; omega)), fin m2 n2 f2⟩
  rintro σ' H12 ⟨y10, kvs, rfl, s12, edp, lk, hpl⟩
  rw [List.take_length] at hpl
  replace hls : ∀ v ∈ ls, Lv K S ks b H12 v := fun v hv => (hls v hv).keep (Tp.same s12)
  replace edm := s12 _ _ edm
  replace hD2' := s12 _ _ hD2'
  have fre : ∀ pl, H11 pl = none → pl ≠ f := fun pl e z => by
    obtain ⟨xs, e'⟩ := fl.lst
    rw [z, s11 _ _ e'] at e
    cases e
  replace s12 := s11.trans s12
  clear s11
  -- the words that there is room for
  refine ⟨_, rfl, D2, rfl, ⟨_, SqL.of hD2'⟩, fun D6 hD6 => lc_list (K := K) (a := D2) (xs := ws2) (fun j H' => Same H12 H' ∧ ∃ us, H' D6 = some (.lst us) ∧ us.length ≤ j ∧ WsAt S (fun c => (telB b c = b ∧ ((c.ps b).length : Int) < room ∧ 0 < down) ∧ V.str c.str ∈ ws2) us) ?_ ?_ ?_ ?_⟩
  · exact ⟨same_new hD6, [], upd_same, Nat.le_refl _, fun v hv => by cases hv⟩
  · rintro j H' _ ⟨s', _⟩
    exact SqL.of (s' _ _ hD2')
  · rintro j x H' hx ⟨s', us, hD', ul, hus⟩
    have jl : j < ws2.length := (List.getElem?_eq_some_iff.mp hx).1
    have hxm := List.mem_of_getElem? hx
    obtain ⟨c, rfl, hc, hct⟩ := hws2 x hxm
    obtain ⟨pl, ev, _, epl⟩ := hpl _ hxm c rfl
    have no : Same H12 H' ∧ ∃ us, H' D6 = some (.lst us) ∧ us.length ≤ j + 1 ∧ WsAt S (fun c => (telB b c = b ∧ ((c.ps b).length : Int) < room ∧ 0 < down) ∧ V.str c.str ∈ ws2) us := ⟨s', us, hD', by omega, hus⟩
    refine ⟨rfl, _, rfl, _, rfl, dp, .ref pl, rfl, .inl ⟨_, Sum.inr c.str, .inl (s' _ _ edp), rfl, ev.symm⟩, pl, _, rfl, .inl (SqL.of (s' _ _ epl)), _, rfl, _, _, rfl, rfl, _, rfl, ite2 (fun z1 => ?_) (fun _ => no)⟩
    refine ⟨_, rfl, _, _, rfl, rfl, _, rfl, ite2 (fun z2 => ?_) (fun _ => no)⟩
    have z1' := of_decide_eq_true z1
    rw [List.length_map] at z1'
    have z2' : down > 0 := of_decide_eq_true z2
    refine ⟨_, rfl, us, hD', smallL (by omega), fun b o q => ?_, us ++ [.str c.str], upd_same, by rw [List.length_append]; show us.length + 1 ≤ _; omega, fun v hv => ?_⟩
    · rw [upd_ne (ne_of_none q hD6)]
      exact s' _ _ q
    · rcases List.mem_append.mp hv with y | y
      · exact hus v y
      · rw [List.mem_singleton.mp y]
        exact ⟨c, rfl, hc, ⟨hct, z1', z2'⟩, hxm⟩
  rintro H13 ⟨s13, ws3, hD6', lw3, hws3⟩
  replace hls : ∀ v ∈ ls, Lv K S ks b H13 v := fun v hv => (hls v hv).keep (Tp.same s13)
  replace edm := s13 _ _ edm
  replace edp := s13 _ _ edp
  have hpl' : ∀ c : Ch, V.str c.str ∈ ws2 → PL H11 H13 b kvs c := fun c hc => by
    obtain ⟨pl, a1, a2, a3⟩ := hpl _ hc c rfl
    exact ⟨pl, a1, a2, s13 _ _ a3⟩
  have sH := s12.trans s13
  clear hpl s12 s13 hws2 lw2 hD2'
  have fl13 : Flow H13 f := by
    obtain ⟨x, y, z, e, r⟩ := fl
    exact ⟨x, y, z, sH _ _ e, r⟩
  have g13 : Gr [] f H H13 := ⟨Ex.of_same sH, fl13⟩
  have ht13 : Fd K H13 (.ref t) S.D := ht.keep (Tp.same sH)
  have hk13 : SqT K H13 ka (kVs ks) := Tp.same sH _ _ hk
  have qt13 := Tp.same (K := K) sH _ _ qt
  have q213 := Tp.same (K := K) sH _ _ q2
  have ndm : dm ≠ f := fun z => by
    obtain ⟨xa, xb, xc, e, _⟩ := fl13
    rw [z, e] at edm
    cases ls with
    | nil => cases edm
    | cons v r =>
      have e1 := Option.some.inj edm
      obtain ⟨p, ap, _⟩ := hls v List.mem_cons_self
      injection e1 with e1
      injection e1 with e1 e2
      rw [← e1] at ap
      cases p <;> cases ap
  have ndp : dp ≠ f := fun z => by
    obtain ⟨xs, e⟩ := fl13.lst
    rw [z, e] at edp
    cases edp
  have nD6 : D6 ≠ f := fun z => by
    obtain ⟨xa, xb, xc, e, _⟩ := fl13
    rw [z, e] at hD6'
    cases ws3 with
    | nil => cases hD6'
    | cons v r =>
      have e1 := Option.some.inj hD6'
      obtain ⟨c, ec, _⟩ := hws3 v List.mem_cons_self
      injection e1 with e1
      injection e1 with e1 e2
      rw [ec] at e1
      cases e1
  have lw3' : ws3.length ≤ 11 := by omega
  refine ⟨fun σ' H' => ∃ (z6 z7 z9 z10 z11 z12 z13 z14 z15 z16 z17 : Option V), σ' = [some (V.ref f), some (.ref t), some (.ref ka), some (.str (kS b)), some (.int room), some (.int down), z6, z7, some (.ref dm), z9, z10, z11, z12, z13, z14, z15, z16, z17] ∧ Gr [] f H13 H', ?_, ?_⟩
  · refine ifS_cut (fun H' => 0 < ws3.length ∧ Gr [] f H13 H') (fun H' => Gr [] f H13 H') ?_ ?_ ?_
    · intro Q' yes no
      have g0 : Gr [] f H13 H13 := ⟨Ex.refl _ _, fl13⟩
      refine ⟨_, rfl, D6, ws3, rfl, .inl (SqL.of hD6'), _, _, rfl, rfl, _, rfl, ite2 (fun c => ?_) (fun c => no _ g0)⟩
      have c' : ((ws3.length : Nat) : Int) > 0 := of_decide_eq_true c
      refine ⟨_, rfl, dm, ls, rfl, .inl (SqL.of edm), rfl, _, rfl, ite2 (fun c2 => yes _ ⟨by omega, g0⟩) (fun c2 => ?_)⟩
      exact ⟨_, rfl, f, 4, rfl, fl13, by decide, by decide, fun d H14 _ _ dr => ⟨_, _, rfl, rfl, _, rfl, boolQ (fun _ => yes _ ⟨by omega, dr.gr⟩) (fun _ => no _ dr.gr)⟩⟩
    · rintro H14 ⟨hne, g14⟩
      refine ⟨_, rfl, _, rfl, _, rfl, D6, ws3, rfl, .inl (SqL.of (g14.ex _ _ hD6' (by simp [nD6]))), f, _, rfl, g14.fl, by omega, by omega, fun j H15 j0 j1 dr => ?_⟩
      have g15 := g14.trans dr.gr
      have hj : j.toNat < ws3.length := by omega
      obtain ⟨c, ec, hcc, ⟨hct, hroom, hdown⟩, hin⟩ := hws3 ws3[j.toNat] (List.getElem_mem hj)
      refine ⟨D6, ws3, j, .str c.str, rfl, rfl, SqL.of (g15.ex _ _ hD6' (by simp [nD6])), at_of (j := j.toNat) (by omega) (by rw [← ec]; exact List.getElem?_eq_getElem hj), _, rfl, _, _, rfl, rfl, _, _, rfl, ?_⟩
      obtain ⟨pl, evl, npl0, epl⟩ := hpl' c hin
      have npl := fre pl npl0
      clear dr g14 hws3 hpl'
      refine ⟨_, rfl, (by show 1 ≤ sizeLine; decide), fun fo hfo => ?_⟩
      have nfo : fo ≠ f := by
        obtain ⟨xs, e⟩ := g15.fl.lst
        exact (ne_of_none e hfo).symm
      have fo13 : H13 fo = none := g15.ex.free hfo (by simp [nfo])
      have g16 : Gr [] f H13 (upd H15 fo (.lst [V.str c.str])) := g15.trans (Gr.new g15.fl hfo)
      have fo16 : (upd H15 fo (.lst [V.str c.str])) fo = some (.lst [V.str c.str]) := upd_same
      generalize upd H15 fo (.lst [V.str c.str]) = H16 at g16 fo16
      clear g15 hfo
      refine ⟨fun σ' H' => ∃ num : Int, (c = .plus → ∃ x ∈ S.b, x.1 = .int num) ∧ σ' = [some (V.ref f), some (.ref t), some (.ref ka), some (.str (kS b)), some (.int room), some (.int down), some (.ref D6), some (.ref dt), some (.ref dm), some (.ref dp), some (.str c.str), some (.int (room - 1)), some (.ref fo), none, none, none, none, none] ∧ Gr [] f H13 H' ∧ H' fo = some (.lst (c.front num)), ?_, ?_⟩
      · refine ⟨_, rfl, rfl, _, rfl, ite2 (fun z => ?_) (fun z => ?_)⟩
        · have z' : V.str c.str = V.str Ch.plus.str := of_decide_eq_true z
          have ecp := Ch.str_inj z'
          subst ecp
          have hb : S.b ≠ [] := hcc
          have lb0 : 0 < x2.length := by
            rw [l2]
            exact List.length_pos_iff.mpr hb
          have tp16 : Tp K H13 H16 := g16.tp fl13
          refine ⟨_, rfl, .inl ⟨rfl, _, SqL.of fo16⟩, _, rfl, t, _, 1, _, rfl, rfl, tp16 _ _ qt13, rfl, _, rfl, _, rfl, t, _, 1, _, rfl, rfl, tp16 _ _ qt13, rfl, b2, x2, rfl, .inr (tp16 _ _ q213), f, _, rfl, g16.fl, by omega, by omega, fun j H17 j0 j1 dr => ?_⟩
          have g17 := g16.trans dr.gr
          have tp17 : Tp K H13 H17 := g17.tp fl13
          have hj : j.toNat < x2.length := by omega
          obtain ⟨bb, y, hy, ex, qb⟩ := kd_read p2 (hS.key 1) j.toNat x2[j.toNat] (List.getElem?_eq_getElem hj)
          have hy' := List.mem_of_getElem? (show S.b[j.toNat]? = some y from hy)
          obtain ⟨num, en, _⟩ := hS.b y hy'
          refine ⟨b2, x2, j, .ref bb, rfl, rfl, tp17 _ _ q213, at_of (j := j.toNat) (by omega) (by rw [← ex]; exact List.getElem?_eq_getElem hj), bb, _, 0, _, rfl, rfl, tp17 _ _ (Tp.same sH _ _ qb), rfl, ?_⟩
          have fo17 : H17 fo = some (.lst [V.str Ch.plus.str]) := dr.gr (ws := []) |>.ex _ _ fo16 (by simp [nfo])
          refine ⟨fo, _, _, rfl, rfl, fo17, (by show 1 < sizeLine; decide), num, fun _ => ⟨y, hy', en⟩, rfl, g17.put fo13 nfo, ?_⟩
          rw [upd_same, en]
          rfl
        · refine ⟨0, fun e => absurd (decide_eq_true (by rw [e]; rfl)) z, rfl, g16, ?_⟩
          rw [fo16]
          cases c with
          | plus => exact absurd (decide_eq_true rfl) z
          | neg => rfl
          | ite => rfl
          | bin w => rfl
      rintro _ H17 ⟨num, hnum, rfl, g17, fo17⟩
      clear g16 fo16
      have flen : (c.front num).length ≤ 2 := by cases c <;> simp [Ch.front]
      have plen : (c.ps b).length ≤ 3 := by cases c <;> simp [Ch.ps]
      have hlen : ((c.ps b).map fun b => V.str (kS b)).length = (c.ps b).length := List.length_map _
      have dg : ∀ {H' : Hp}, Gr [] f H13 H' → DGet H' dp (V.str c.str) (some (.ref pl)) := fun g => .inl ⟨_, Sum.inr c.str, .inl (g.ex _ _ edp (by simp [ndp])), rfl, evl.symm⟩
      have pll : ∀ {H' : Hp}, Gr [] f H13 H' → H' pl = some (.lst ((c.ps b).map fun b => V.str (kS b))) := fun g => g.ex _ _ epl (by simp [npl])
      refine ⟨_, rfl, _, rfl, dp, .ref pl, rfl, dg g17, pl, _, rfl, SqL.of (pll g17), for_enum (K := K) (a := pl) (xs := (c.ps b).map fun b => V.str (kS b)) (fun i σ' H' => ∃ (left : Int) (vs : List V) (os : List (Option Pg)) (y1 y2 y3 : Option V), σ' = [some (V.ref f), some (.ref t), some (.ref ka), some (.str (kS b)), some (.int room), some (.int down), some (.ref D6), some (.ref dt), some (.ref dm), some (.ref dp), some (.str c.str), some (.int left), some (.ref fo), y1, y2, y3, none, none] ∧
          Gr [] f H13 H' ∧ H' fo = some (.lst (c.front num ++ vs)) ∧ OAts K H' vs os ∧ os.length = i ∧ Got S ks (c.ps b) os left room ∧ ((c.ps b).length : Int) - i ≤ left) ?_ ?_ ?_ ?_⟩
      · exact ⟨room - 1, [], [], none, none, none, rfl, g17, by rw [List.append_nil]; exact fo17, .nil, rfl, Got.nil, by omega⟩
      · rintro i σ' H' ⟨left, vs, os, y1, y2, y3, rfl, g, _⟩
        exact SqL.of (pll g)
      · rintro i x T σ' H' hx ⟨left, vs, os, y1, y2, y3, rfl, g, fo', ha, hl, hgot, hleft⟩ hT
        obtain ⟨bk, hb, rfl⟩ : ∃ bk, (c.ps b)[i]? = some bk ∧ x = V.str (kS bk) := by
          rw [List.getElem?_map] at hx
          cases e : (c.ps b)[i]? with
          | none => rw [e] at hx; cases hx
          | some bk => rw [e] at hx; exact ⟨bk, rfl, (Option.some.inj hx).symm⟩
        have hi : i < (c.ps b).length := (List.getElem?_eq_some_iff.mp hb).1
        have sT : Same H' (upd H' T (.tup [.int (i : Nat), V.str (kS bk)])) := same_new hT
        have gT : Gr [] f H13 (upd H' T (.tup [.int (i : Nat), V.str (kS bk)])) := g.trans (Gr.new g.fl hT)
        refine ⟨T, _, rfl, .inl (.inl upd_same), rfl, _, _, rfl, _, [], rfl, rfl, ?_⟩
        have foT := sT _ _ fo'
        have haT := ha.keep (Tp.same sT)
        generalize upd H' T (.tup [.int (i : Nat), V.str (kS bk)]) = HT at gT foT haT
        have hsum := hgot.sum
        have hs0 : 0 ≤ ((os.map pszO).sum : Int) := by omega
        -- share
        refine ⟨_, rfl, _, rfl, _, rfl, _, rfl, dp, .ref pl, rfl, dg gT, pl, _, rfl, .inl (SqL.of (pll gT)), _, rfl, _, _, rfl, rfl, _, _, rfl, rfl, _, _, rfl, rfl, f, _, rfl, gT.fl, ?_, ?_, fun d Hd dd0 dd1 drd => ⟨_, _, rfl, rfl, ?_⟩⟩
        · rw [hlen]; omega
        · rw [hlen]; omega
        rw [hlen] at dd1
        have gd := gT.trans drd.gr
        have tpd : Tp K HT Hd := (drd.gr (ws := [])).tp gT.fl
        have fod : Hd fo = some (.lst (c.front num ++ vs)) := (drd.gr (ws := [])).ex _ _ foT (by simp [nfo])
        have had := haT.keep tpd
        have tp13d : Tp K H13 Hd := gd.tp fl13
        -- left, found
        refine ⟨_, rfl, _, rfl, _, _, rfl, rfl, ?_⟩
        refine ⟨_, rfl, .inl ⟨rfl, _, SqL.of fod⟩, _, rfl, _, rfl, _, rfl, _, rfl, _, rfl, _, rfl, _, _, rfl, rfl, ?_⟩
        refine ⟨f, t, ka, S, ks, bk, 1 + d, down - 1, rfl, gd.fl, ht13.keep tp13d, hS, tp13d _ _ hk13, hk3, by omega, by omega, by omega, by omega, fun u He ge hu => ?_⟩
        have gH := gd.trans ge
        have tpe : Tp K Hd He := ge.tp gd.fl
        have foe : He fo = some (.lst (c.front num ++ vs)) := ge.ex _ _ fod (by simp [nfo])
        have hae := had.keep tpe
        have lvs : vs.length = i := hae.len.trans hl
        have tpf : Tp K He (upd He fo (.lst (c.front num ++ vs ++ [u]))) := Tp.lst foe
        obtain ⟨o, hou, hoP⟩ : ∃ o : Option Pg, OAts K He [u] [o] ∧ ∀ p, o = some p → Ofs S ks p ∧ own ks p = bk ∧ (psz p : Int) ≤ 1 + d := by
          rcases hu with rfl | ⟨p, ap, op, wp, sp⟩
          · exact ⟨none, .non .nil, fun p z => nomatch z⟩
          · exact ⟨some p, .cons ap .nil, fun q z => by cases z; exact ⟨op, wp, sp⟩⟩
        refine ⟨fo, _, _, rfl, rfl, foe, by rw [List.length_append]; exact smallL (by omega), left - (1 + d), vs ++ [u], os ++ [o], _, _, _, rfl, gH.put fo13 nfo, by rw [upd_same, List.append_assoc], (OAts.snoc hou hae).keep tpf, by rw [List.length_append, hl]; rfl, hgot.snoc (by rw [hl]; exact hb) (by omega) hoP, by omega⟩
      · rintro σ' H' ⟨left, vs, os, y1, y2, y3, rfl, g, fo', ha, hl, hgot, hleft⟩
        rw [hlen] at hl hleft
        have hs0 : 0 ≤ ((os.map pszO).sum : Int) := by omega
        refine ⟨_, rfl, .none, c.frontD num ++ os.map encO, .non, .lst (SqL.of fo') (dpall_app (front_dp num c) ha.dps), by decide +kernel, sh_list _ fun d hd => ?_, _, rfl, ?_⟩
        · rcases List.mem_append.mp hd with z | z
          · exact front_lay num c d z
          · obtain ⟨o, ho, rfl⟩ := List.mem_map.mp z
            cases o with
            | none => exact ⟨rfl, Nat.zero_le _⟩
            | some p =>
              have h1 : pszO (some p) ≤ (os.map pszO).sum := le_sum (List.mem_map.mpr ⟨_, ho, rfl⟩)
              have h2 := depth_enc' p
              have h3 := dep_le p
              have h4 := hgot.sum
              have h5 : pszO (some p) = psz p := rfl
              exact ⟨lay_enc' p, by show (enc p).depth ≤ 60; omega⟩
        · show if (!((c.frontD num ++ os.map encO).any fun z => PyData.eqv z .none)) = true then _ else _
          rw [List.any_append, front_any, anyO, Bool.false_or]
          cases hm : os.any Option.isNone with
          | true => exact iteF ⟨_, _, _, _, _, _, _, _, _, _, _, rfl, g⟩
          | false =>
            refine iteT ?_
            obtain ⟨ps, rfl, hps⟩ := ha.all hm
            rw [List.length_map] at hl
            obtain ⟨m1, m2, m3⟩ := hgot.map hl
            refine ⟨_, rfl, fo, _, rfl, .inl ⟨SqL.of fo', fun tq htq => ?_⟩⟩
            have st : Same H' (upd H' tq (.tup (c.front num ++ vs))) := same_new htq
            obtain ⟨p, ap, wp, op, sp⟩ := Ch.mkO (num := num) c (tel_fits hct) hcc (hps.keep (Tp.same st)) m1 hnum m2 upd_same
            exact q _ _ (g13.trans (g.trans (Gr.new g.fl htq))) (.inr ⟨p, ap, wp, op, by omega⟩)
    · intro H14 g14
      exact ⟨_, _, _, _, _, _, _, _, _, _, _, rfl, g14⟩
  rintro _ H14 ⟨z6, z7, z9, z10, z11, z12, z13, z14, z15, z16, z17, rfl, g14⟩
  have gH := g13.trans g14
  have edm14 := g14.ex _ _ edm (by simp [ndm])
  refine ⟨_, rfl, dm, ls, rfl, .inl (SqL.of edm14), _, _, rfl, rfl, _, rfl, ite2 (fun c => ?_) (fun c => q _ _ gH (.inl rfl))⟩
  have c' : ((ls.length : Nat) : Int) > 0 := of_decide_eq_true c
  refine ⟨_, rfl, _, rfl, _, rfl, dm, ls, rfl, .inl (SqL.of edm14), f, _, rfl, g14.fl, c', by omega, fun j H15 j0 j1 dr => ?_⟩
  have hj : j.toNat < ls.length := by omega
  obtain ⟨p, ap, op, wp, sp⟩ := hls ls[j.toNat] (List.getElem_mem hj)
  have g15 := g14.trans dr.gr
  exact ⟨dm, ls, j, ls[j.toNat], rfl, rfl, SqL.of (g15.ex _ _ edm (by simp [ndm])), at_of (j := j.toNat) (by omega) (List.getElem?_eq_getElem hj), q _ _ (g13.trans g15) (.inr ⟨p, ap.keep (g15.tp fl13), op, wp, by rw [sp]; omega⟩)⟩
end
end Lm

set_option Elab.async false
set_option linter.all false
set_option maxRecDepth 100000
set_option maxHeartbeats 2000000
namespace Lm
open PySem PySem.Spec PyProof.Rows L2 LmR
def optD : Option Int → PyData
  | none => .none
  | some i => .int i
theorem opt_dp {K : PySem.W.Frag} {H : Hp} (o : Option Int) : Dp K H (optI o) (optD o) := by
  cases o with
  | none => exact .non
  | some i => exact .int i
theorem opt_flat (o : Option Int) : flat (optD o) = true := by cases o <;> rfl
theorem opt_sz (o : Option Int) : dsz (.tuple [optD o]) ≤ 90000 := by cases o <;> exact Nat.le_of_ble_eq_true rfl
theorem opt_fd {K : PySem.W.Frag} {H : Hp} {t : Addr} (o : Option Int) (h : SqT K H t [optI o]) : Fd K H (.ref t) (.tuple [optD o]) :=
  ⟨by show (flat (optD o) && true) = true; rw [opt_flat]; rfl, .tup h (.cons (opt_dp o) .nil)⟩
section
variable {P : Program} {w : World} {K : PySem.W.Frag} {mg : Str → Option Value} {base : Heap}
theorem ok_l_of_stock (B : Bt mg) (C_l_draw : Cal P w K mg base 1 "_law_draw" ["_law_flow_here", "_law_many"] (spDraw)) (D : DefAt K mg "_law_of_stock" s_l_of_stock ["_law_flow_here", "_law_shop", "_law_sorts", "_law_kind", "_law_room", "_law_down"]) : ∀ n : Nat, Cal P w K mg base (n + 1) "_law_of_stock" ["_law_flow_here", "_law_shop", "_law_sorts", "_law_kind", "_law_room", "_law_down"] (spOS K n)
  | 0 => cal_no D fun vs H Q E h => by
    obtain ⟨f, t, ka, S, ks, b, room, down, _, _, _, _, _, _, _, _, h1, h2, _⟩ := h
    omega
  | n + 1 => ok_l_of_stock1 B C_l_draw (ok_l_of_stock B C_l_draw D n) D
end
end Lm

set_option Elab.async false
set_option linter.all false
set_option maxRecDepth 100000
set_option maxHeartbeats 4000000
namespace Lm
open PySem PySem.Spec PyProof.Rows L2 LmR
def toldStock : PyData := .tuple [.tuple [.tuple [.int 0, .int 1], .tuple [.int 1, .int 1]], .tuple [.tuple [.int 1, .int 1], .tuple [.int (-1), .int 1]], .tuple [.tuple [.str "least", .int 1], .tuple [.str "most", .int 1], .tuple [.str "atmost", .int 1], .tuple [.str "if", .int 1]]]
structure StockG (K : PySem.W.Frag) (mg : Str → Option Value) (a : Addr) : Prop where
  g : mg "STOCK" = some (.ref a)
  t : ∀ H, Dp K H (.ref a) toldStock
theorem told_flat : flat toldStock = true := by decide +kernel
def tS : Stk := ⟨[(.int 0, 1), (.int 1, 1)], [(.int 1, 1), (.int (-1), 1)], [(.str "least", 1), (.str "most", 1), (.str "atmost", 1), (.str "if", 1)]⟩
theorem tS_D : tS.D = toldStock := rfl
theorem tS_ok : tS.Ok := by
  refine ⟨fun x hx => ?_, fun x hx => ?_, fun x hx => ?_, by decide, by decide, by decide, fun n x hx => ?_⟩
  · simp only [tS, List.mem_cons, List.not_mem_nil, or_false] at hx
    rcases hx with rfl | rfl
    · exact ⟨0, rfl, by decide, by decide⟩
    · exact ⟨1, rfl, by decide, by decide⟩
  · simp only [tS, List.mem_cons, List.not_mem_nil, or_false] at hx
    rcases hx with rfl | rfl
    · exact ⟨1, rfl, by decide, by decide⟩
    · exact ⟨-1, rfl, by decide, by decide⟩
  · simp only [tS, List.mem_cons, List.not_mem_nil, or_false] at hx
    rcases hx with rfl | rfl | rfl | rfl
    · exact ⟨_, rfl, by simp [stockWs]⟩
    · exact ⟨_, rfl, by simp [stockWs]⟩
    · exact ⟨_, rfl, by simp [stockWs]⟩
    · exact ⟨_, rfl, by simp [stockWs]⟩
  · match n, hx with
    | 0, hx =>
      simp only [tS, Stk.part, List.mem_cons, List.not_mem_nil, or_false] at hx
      rcases hx with rfl | rfl <;> exact ⟨by decide, by decide⟩
    | 1, hx =>
      simp only [tS, Stk.part, List.mem_cons, List.not_mem_nil, or_false] at hx
      rcases hx with rfl | rfl <;> exact ⟨by decide, by decide⟩
    | n + 2, hx =>
      simp only [tS, Stk.part, List.mem_cons, List.not_mem_nil, or_false] at hx
      rcases hx with rfl | rfl | rfl | rfl <;> exact ⟨by decide, by decide⟩
theorem ex_seq {K : PySem.W.Frag} {H H' : Hp} {f a : Addr} {xs : List V} (hf : H f = none) (ex : Ex [f] H H') (h : SqL K H a xs) : SqL K H' a xs := by
  rcases h with (h | ⟨o, h⟩) | h
  · exact .inl (.inl (ex _ _ h (by simp [ne_of_none h hf])))
  · exact .inl (.inr ⟨o, ex _ _ h (by simp [ne_of_none h hf])⟩)
  · exact .inr h
/-- pairs of keys, as a stock's part -/
def unK : PyData → V
  | .int i => .int i
  | .str s => .str s
  | _ => .non
def unP (ps : List (PyData × Int)) : List (V × Int) := ps.map fun p => (unK p.1, p.2)
theorem unP_int : ∀ {ps : List (PyData × Int)} {ns : List Int}, ps.map (·.1) = ns.map PyData.int → pdat ps = kd (unP ps) ∧ ∀ x ∈ unP ps, ∃ i ∈ ns, x.1 = V.int i
  | [], _, _ => ⟨rfl, fun x hx => by cases hx⟩
  | p :: ps, [], h => by cases h
  | p :: ps, n :: ns, h => by
    obtain ⟨pd, pw⟩ := p
    injection h with h1 h2
    have h1' : pd = .int n := h1
    subst h1'
    obtain ⟨a, b⟩ := unP_int h2
    refine ⟨?_, fun x hx => ?_⟩
    · show PyData.tuple [.int n, .int pw] :: pdat ps = PyData.tuple [.int n, .int pw] :: kd (unP ps)
      rw [a]
    · rcases List.mem_cons.mp hx with rfl | hx
      · exact ⟨n, List.mem_cons_self, rfl⟩
      · obtain ⟨i, hi, e⟩ := b x hx
        exact ⟨i, List.mem_cons_of_mem _ hi, e⟩
theorem unP_str : ∀ {ps : List (PyData × Int)} {ns : List Str}, ps.map (·.1) = ns.map PyData.str → pdat ps = kd (unP ps) ∧ ∀ x ∈ unP ps, ∃ i ∈ ns, x.1 = V.str i
  | [], _, _ => ⟨rfl, fun x hx => by cases hx⟩
  | p :: ps, [], h => by cases h
  | p :: ps, n :: ns, h => by
    obtain ⟨pd, pw⟩ := p
    injection h with h1 h2
    have h1' : pd = .str n := h1
    subst h1'
    obtain ⟨a, b⟩ := unP_str h2
    refine ⟨?_, fun x hx => ?_⟩
    · show PyData.tuple [.str n, .int pw] :: pdat ps = PyData.tuple [.str n, .int pw] :: kd (unP ps)
      rw [a]
    · rcases List.mem_cons.mp hx with rfl | hx
      · exact ⟨n, List.mem_cons_self, rfl⟩
      · obtain ⟨i, hi, e⟩ := b x hx
        exact ⟨i, List.mem_cons_of_mem _ hi, e⟩
theorem unP_w {ps : List (PyData × Int)} (h : ∀ p ∈ ps, 1 ≤ p.2 ∧ p.2 ≤ 9) : ∀ x ∈ unP ps, 1 ≤ x.2 ∧ x.2 ≤ 9 := fun x hx => by
  obtain ⟨p, hp, rfl⟩ := List.mem_map.mp hx
  exact h p hp
theorem unP_len (ps : List (PyData × Int)) : (unP ps).length = ps.length := List.length_map _
theorem stk_of {ps1 ps2 ps3 : List (PyData × Int)} (h : StkOk ps1 ps2 ps3) : ∃ S : Stk, stkD ps1 ps2 ps3 = S.D ∧ S.Ok := by
  obtain ⟨n1, e1, l1, b1⟩ := h.k1
  obtain ⟨n2, e2, l2, b2⟩ := h.k2
  obtain ⟨n3, e3, l3, b3⟩ := h.k3
  have f1 := congrArg List.length e1
  have f2 := congrArg List.length e2
  have f3 := congrArg List.length e3
  rw [List.length_map, List.length_map] at f1 f2 f3
  refine ⟨⟨unP ps1, unP ps2, unP ps3⟩, ?_, ?_⟩
  · show PyData.tuple [.tuple (pdat ps1), .tuple (pdat ps2), .tuple (pdat ps3)] = PyData.tuple [.tuple (kd (unP ps1)), .tuple (kd (unP ps2)), .tuple (kd (unP ps3))]
    rw [(unP_int e1).1, (unP_int e2).1, (unP_str e3).1]
  · refine ⟨fun x hx => ?_, fun x hx => ?_, fun x hx => ?_, ?_, ?_, ?_, fun n x hx => ?_⟩
    · obtain ⟨i, hi, e⟩ := (unP_int e1).2 x hx
      exact ⟨i, e, b1 i hi⟩
    · obtain ⟨i, hi, e⟩ := (unP_int e2).2 x hx
      exact ⟨i, e, b2 i hi⟩
    · obtain ⟨i, hi, e⟩ := (unP_str e3).2 x hx
      exact ⟨i, e, b3 i hi⟩
    · show (unP ps1).length ≤ 10
      rw [unP_len]; omega
    · show (unP ps2).length ≤ 10
      rw [unP_len]; omega
    · show (unP ps3).length ≤ 10
      rw [unP_len]; omega
    · match n, hx with
      | 0, hx => exact unP_w h.w1 x hx
      | 1, hx => exact unP_w h.w2 x hx
      | n + 2, hx => exact unP_w h.w3 x hx
/-- a program of at most 24 knots -/
def Pg24 (K : PySem.W.Frag) (H : Hp) (v : V) : Prop := ∃ p, At K H v p ∧ psz p ≤ 24
theorem Pg24.keep {K : PySem.W.Frag} {H H' : Hp} {v : V} (h : Pg24 K H v) (t : Tp K H H') : Pg24 K H' v := by
  obtain ⟨p, a, z⟩ := h
  exact ⟨p, a.keep t, z⟩
theorem optI_ne (o : Option Int) : decide (optI o = optI o) = true := decide_eq_true rfl
section
variable {P : Program} {w : World} {K : PySem.W.Frag} {mg : Str → Option Value} {base : Heap}
end
end Lm

set_option Elab.async false
set_option linter.all false
set_option maxRecDepth 100000
set_option maxHeartbeats 2000000
namespace Lm
open PySem PySem.Spec PyProof.Rows L2 LmR
/-- a knot's weight and rank -/
def stq (S : Stk) (q : Pg) : Int × (Int × Int) := match stnd S q with
  | some (x, y, l) => (l, ((x : Nat) : Int), ((y : Nat) : Int))
  | none => (0, 0, 0)
theorem stq_some {S : Stk} {q : Pg} {x y : Nat} {l : Int} (h : stnd S q = some (x, y, l)) : stq S q = (l, ((x : Nat) : Int), ((y : Nat) : Int)) := by unfold stq; rw [h]
/-- a program's weight and ranks -/
def ordP (S : Stk) (p : Pg) : Int × List (Int × Int) := (((kn p).map fun q => (stq S q).1).sum, (kn p).map fun q => (stq S q).2)
/-- of the stock -/
def OfS (S : Stk) (p : Pg) : Prop := ∀ q ∈ kn p, stnd S q ≠ none
abbrev ltO (a b : Int × List (Int × Int)) : Bool := PySem.W.DatumOrd.lt a b
def StsAt (K : PySem.W.Frag) (H : Hp) (S : Stk) (ws : List V) (ps : List Pg) : Prop := ws.length = ps.length ∧ ∀ (j : Nat) (u : V) (q : Pg), ws[j]? = some u → ps[j]? = some q → ∃ t t2 : Addr, u = .ref t ∧ SqT K H t [.ref t2, .int (stq S q).1] ∧ SqT K H t2 [.int (stq S q).2.1, .int (stq S q).2.2]
theorem StsAt.keep {K : PySem.W.Frag} {H H' : Hp} {S : Stk} {ws : List V} {ps : List Pg} (h : StsAt K H S ws ps) (t : Tp K H H') : StsAt K H' S ws ps := ⟨h.1, fun j u q h1 h2 => by
  obtain ⟨a, b, e, q1, q2⟩ := h.2 j u q h1 h2
  exact ⟨a, b, e, t _ _ q1, t _ _ q2⟩⟩
theorem StsAt.snoc {K : PySem.W.Frag} {H : Hp} {S : Stk} {ws : List V} {ps : List Pg} {u : V} {q : Pg} (h : StsAt K H S ws ps) (hu : ∃ t t2 : Addr, u = .ref t ∧ SqT K H t [.ref t2, .int (stq S q).1] ∧ SqT K H t2 [.int (stq S q).2.1, .int (stq S q).2.2]) : StsAt K H S (ws ++ [u]) (ps ++ [q]) := by
  refine ⟨by rw [List.length_append, List.length_append, h.1]; rfl, fun j u' q' h1 h2 => ?_⟩
  by_cases c : j < ws.length
  · rw [List.getElem?_append_left c] at h1
    rw [List.getElem?_append_left (by rw [← h.1]; exact c)] at h2
    exact h.2 j u' q' h1 h2
  · rw [List.getElem?_append_right (Nat.le_of_not_lt c)] at h1
    rw [List.getElem?_append_right (by rw [← h.1]; exact Nat.le_of_not_lt c)] at h2
    rw [← h.1] at h2
    have j0 : j - ws.length = 0 := by
      have := (List.getElem?_eq_some_iff.mp h1).1
      simpa using this
    rw [j0] at h1 h2
    have e1 : u = u' := Option.some.inj h1
    have e2 : q = q' := Option.some.inj h2
    rw [← e1, ← e2]
    exact hu
section
variable {P : Program} {w : World} {K : PySem.W.Frag} {mg : Str → Option Value} {base : Heap}
abbrev s_order_of : Stmt := topS 31
theorem sc_order_of : FnScope ["program", "stock", "standings", "knot", "rank", "load"] ["program", "stock"] (defScope s_order_of) := ⟨rfl, rfl, rfl, by decide +kernel, rfl, by decide +kernel, by decide +kernel⟩
def spOrd (K : PySem.W.Frag) : Sp := fun vs H Q _ => ∃ (v : V) (p : Pg) (t : Addr) (S : Stk), vs = [v, .ref t] ∧ At K H v p ∧ psz p ≤ 1000 ∧ Fd K H (.ref t) S.D ∧ S.Ok ∧ OfS S p ∧ ∀ (u : V) (H' : Hp), Same H H' → Dp K H' u (PySem.W.Datum.toD (ordP S p)) → Q u H'
theorem ok_order_of (B : Bt mg) (C_knots : Cal P w K mg base 3 "knots" ["program"] (spKnots K)) (C_standing_of : Cal P w K mg base 2 "standing_of" ["knot", "stock"] (spStand K)) (D : DefAt K mg "order_of" s_order_of ["program", "stock"]) : Cal P w K mg base 4 "order_of" ["program", "stock"] (spOrd K) := by
  refine cal_of D sc_order_of (fun vs H Q E h => ?_) (fun f cdv A outer s H vs Q E hr h => ?_)
  · obtain ⟨v, p, t, S, rfl, _⟩ := h
    rfl
  obtain ⟨v, p, t, S, rfl, hv, hz, ht, hS, hO, q⟩ := h
  have C_standing_of := C_standing_of.mono (k := 3) (by decide)
  have hr' : Room 3 _ := hr
  refine ⟨_, (pss_cons (ps_setLc (i := 2) (own := [("knot", 3)]) (g := gName 3) rfl sc_order_of.nd rfl rfl (sw_true rfl rfl rfl (by decide +kernel)) (pi_list (pe_cal C_knots hr' (by rfl) (pa_cons (pv 0) pa_nil))) (blkOk_by (own := [("knot", 3)]) (N := ["program", "stock", "standings", "knot", "rank", "load"]) (sc := defScope s_order_of) (by decide +kernel)) (fun _ _ _ _ _ => (pg_name (i := 3) sc_order_of.nd rfl (.inl rfl))) (fun _ _ _ _ _ => pts_nil) (fun _ _ _ _ _ => (pe_cal C_standing_of hr' (by rfl) (pa_cons (pv 3) (pa_cons (pv 1) pa_nil)))))
      (pss_one (ps_ret (pe_tup (pa_cons (pe_callB (cr_sum rfl) (by rfl) B.sum (by decide +kernel) (pa_cons (pe_lc (own := [("rank", 4), ("load", 5)]) (g := gTup K 2 (gCons (gName 4) (gCons (gName 5) gNil))) rfl sc_order_of.nd (pi_list (pv 2)) (blkOk_by (own := [("rank", 4), ("load", 5)]) (N := ["program", "stock", "standings", "knot", "rank", "load"]) (sc := defScope s_order_of) (by decide +kernel)) (fun _ _ _ _ _ => (pg_tupK (K := K) rfl rfl (pgs_cons (pg_name (i := 4) sc_order_of.nd rfl (.inl rfl)) (pgs_cons (pg_name (i := 5) sc_order_of.nd rfl (.inl rfl)) pgs_nil)))) (fun _ _ _ _ _ => pts_nil) (fun _ _ _ _ _ => (pv 5))) pa_nil)) (pa_cons (pe_lc (own := [("rank", 4), ("load", 5)]) (g := gTup K 2 (gCons (gName 4) (gCons (gName 5) gNil))) rfl sc_order_of.nd (pi_list (pv 2)) (blkOk_by (own := [("rank", 4), ("load", 5)]) (N := ["program", "stock", "standings", "knot", "rank", "load"]) (sc := defScope s_order_of) (by decide +kernel)) (fun _ _ _ _ _ => (pg_tupK (K := K) rfl rfl (pgs_cons (pg_name (i := 4) sc_order_of.nd rfl (.inl rfl)) (pgs_cons (pg_name (i := 5) sc_order_of.nd rfl (.inl rfl)) pgs_nil)))) (fun _ _ _ _ _ => pts_nil) (fun _ _ _ _ _ => (pv 4))) pa_nil)))))), ?_⟩
  refine ⟨_, rfl, v, p, rfl, hv, by omega, fun lk us H1 s1 lk0 hlk hus => ?_⟩
  have ul : us.length = (kn p).length := hus.len
  have kz : (kn p).length ≤ 1000 := by rw [kn_len]; exact hz
  refine ⟨lk, rfl, ⟨_, SqL.of hlk⟩, fun D hD => lc_list (K := K) (a := lk) (xs := us) (fun j H' => Same H1 H' ∧ ∃ ws, H' D = some (.lst ws) ∧ StsAt K H' S ws ((kn p).take j)) ?_ ?_ ?_ ?_⟩
  · exact ⟨same_new hD, [], upd_same, rfl, fun j u o h => by simp at h⟩
  · rintro j H' _ ⟨s', _⟩
    exact SqL.of (s' _ _ hlk)
  · rintro j x H' hx ⟨s', ws, hD', hws⟩
    obtain ⟨r, hr1, har⟩ := (hus.keep (Tp.same s')).get j x hx
    have jl : j < us.length := (List.getElem?_eq_some_iff.mp hx).1
    refine ⟨rfl, _, rfl, _, rfl, x, r, t, S, rfl, har, ht.keep (Tp.same (s1.trans s')), hS, fun u H2 s2 hu => ?_⟩
    have hD2 := s2 _ _ hD'
    have t3 : Tp K H2 (upd H2 D (.lst (ws ++ [u]))) := Tp.lst hD2
    refine ⟨ws, hD2, by rw [hws.1, List.length_take]; exact smallL (by omega), fun b o z => ?_, ws ++ [u], upd_same, ?_⟩
    · rw [upd_ne (ne_of_none z hD)]
      exact s2 _ _ (s' _ _ z)
    · rw [List.take_add_one, hr1]
      refine StsAt.snoc ((hws.keep (Tp.same s2)).keep t3) ?_
      cases est : stnd S r with
      | none => exact absurd est (hO r (List.mem_of_getElem? hr1))
      | some z =>
        obtain ⟨x', y', l⟩ := z
        rw [est] at hu
        obtain ⟨t1, t2, rfl, q1, q2⟩ := hu
        rw [stq_some est]
        exact ⟨t1, t2, rfl, t3 _ _ q1, t3 _ _ q2⟩
  rintro H2 ⟨s2, ws, hD2, hws⟩
  rw [ul, List.take_length] at hws
  have s02 := s1.trans s2
  have each : ∀ (j : Nat) (x : V) (H' : Hp), Same H2 H' → ws[j]? = some x → ∃ (b t2 : Addr) (r : Pg), (kn p)[j]? = some r ∧ x = .ref b ∧ SqT K H' b [.ref t2, .int (stq S r).1] ∧ SqT K H' t2 [.int (stq S r).2.1, .int (stq S r).2.2] := fun j x H' s' hx => by
    have jl : j < (kn p).length := by rw [← hws.1]; exact (List.getElem?_eq_some_iff.mp hx).1
    obtain ⟨a, b, e, q1, q2⟩ := (hws.keep (Tp.same s')).2 j x (kn p)[j] hx (List.getElem?_eq_getElem jl)
    exact ⟨a, b, _, List.getElem?_eq_getElem jl, e, q1, q2⟩
  refine ⟨_, rfl, D, rfl, ⟨_, SqL.of hD2⟩, fun D2 hDD => lc_list (K := K) (a := D) (xs := ws) (fun j H' => Same H2 H' ∧ H' D2 = some (.lst ((((kn p).take j).map fun q => (stq S q).1).map V.int))) ?_ ?_ ?_ ?_⟩
  · exact ⟨same_new hDD, upd_same⟩
  · rintro j H' _ ⟨s', _⟩
    exact SqL.of (s' _ _ hD2)
  · rintro j x H' hx ⟨s', hD'⟩
    have jl : j < ws.length := (List.getElem?_eq_some_iff.mp hx).1
    obtain ⟨b, t2, r, er, rfl, qb, _⟩ := each j x H' s' hx
    refine ⟨b, _, rfl, qb, rfl, _, _, rfl, _, _, rfl, rfl, rfl, _, rfl, _, hD', by rw [List.length_map, List.length_map, List.length_take]; exact smallL (by omega), fun b o z => ?_, ?_⟩
    · rw [upd_ne (ne_of_none z hDD)]
      exact s' _ _ z
    · rw [upd_same, List.take_add_one, er, List.map_append, List.map_append]
      rfl
  rintro H3 ⟨s3, hD3⟩
  rw [hws.1, List.take_length] at hD3
  refine ⟨D2, _, rfl, SqL.of hD3, ?_⟩
  refine ⟨_, rfl, D, rfl, ⟨_, SqL.of (s3 _ _ hD2)⟩, fun D3 hD3' => lc_list (K := K) (a := D) (xs := ws) (fun j H' => Same H3 H' ∧ ∃ rs, H' D3 = some (.lst rs) ∧ rs.length = ((kn p).take j).length ∧ DpAll K H' rs (((kn p).take j).map fun q => PySem.W.Datum.toD (stq S q).2)) ?_ ?_ ?_ ?_⟩
  · exact ⟨same_new hD3', [], upd_same, rfl, .nil⟩
  · rintro j H' _ ⟨s', _⟩
    exact SqL.of (s' _ _ (s3 _ _ hD2))
  · rintro j x H' hx ⟨s', rs, hD', hrl, hrs⟩
    have jl : j < ws.length := (List.getElem?_eq_some_iff.mp hx).1
    obtain ⟨b, t2, r, er, rfl, qb, q2⟩ := each j x H' (s3.trans s') hx
    have t3 : Tp K H' (upd H' D3 (.lst (rs ++ [.ref t2]))) := Tp.lst hD'
    refine ⟨b, _, rfl, qb, rfl, _, _, rfl, _, _, rfl, rfl, rfl, _, rfl, _, hD', by rw [hrl, List.length_take]; exact smallL (by omega), fun b o z => ?_, rs ++ [.ref t2], upd_same, ?_, ?_⟩
    · rw [upd_ne (ne_of_none z hD3')]
      exact s' _ _ z
    · rw [List.take_add_one, er, List.length_append, List.length_append, hrl]
      rfl
    · rw [List.take_add_one, er, List.map_append]
      refine dpall_app (dps_keep t3 _ _ ?_ hrs) (.cons (.tup (t3 _ _ q2) (.cons (.int _) (.cons (.int _) .nil))) .nil)
      generalize (kn p).take j = l
      induction l with
      | nil => rfl
      | cons c l ih => exact ih
  rintro H4 ⟨s4, rs, hD4, _, hrs⟩
  rw [hws.1, List.take_length] at hrs
  refine ⟨(by show 2 ≤ sizeLine; decide), fun t2 ht2 => q _ _ (s02.trans (s3.trans (s4.trans (same_new ht2)))) ?_⟩
  have t5 : Tp K H4 (upd H4 t2 (.tup [.int ((kn p).map fun q => (stq S q).1).sum, .ref D3])) := Tp.new ht2
  refine .tup (.inl (.inl upd_same)) (.cons (.int _) (.cons (.lst (SqL.of (same_new ht2 _ _ hD4)) ?_) .nil))
  have fl : ∀ l : List Pg, flat.flats (l.map fun q => PySem.W.Datum.toD (stq S q).2) = true := fun l => by
    induction l with
    | nil => rfl
    | cons c l ih => exact ih
  have e : ((kn p).map fun q => (stq S q).2).map PySem.W.Datum.toD = (kn p).map fun q => PySem.W.Datum.toD (stq S q).2 := by rw [List.map_map]; rfl
  show DpAll _ _ rs (((kn p).map fun q => (stq S q).2).map PySem.W.Datum.toD)
  rw [e]
  exact dps_keep t5 _ _ (fl _) hrs
abbrev s_comes_first : Stmt := topS 30
theorem sc_comes_first : FnScope ["one", "other", "stock"] ["one", "other", "stock"] (defScope s_comes_first) := ⟨rfl, rfl, rfl, by decide +kernel, rfl, by decide +kernel, by decide +kernel⟩
def spCF (K : PySem.W.Frag) : Sp := fun vs H Q _ => ∃ (v u : V) (p r : Pg) (t : Addr) (S : Stk), vs = [v, u, .ref t] ∧ At K H v p ∧ psz p ≤ 1000 ∧ At K H u r ∧ psz r ≤ 1000 ∧ Fd K H (.ref t) S.D ∧ S.Ok ∧ OfS S p ∧ OfS S r ∧ ∀ H' : Hp, Same H H' → Q (.bl (ltO (ordP S p) (ordP S r))) H'
theorem ok_comes_first {aS : Addr} (C_order_of : Cal P w K mg base 4 "order_of" ["program", "stock"] (spOrd K)) (D : DefKw K mg "comes_first" s_comes_first ["one", "other", "stock"] 2 ["stock"] [.ref aS]) : CalKw P w K mg base 5 "comes_first" ["one", "other", "stock"] 2 ["stock"] [.ref aS] (spCF K) := by
  refine calkw_of D sc_comes_first (fun vs H Q E h => ?_) (fun f cdv A outer s H vs Q E hr h => ?_)
  · obtain ⟨v, u, p, r, t, S, rfl, _⟩ := h
    rfl
  have hu8 : (A.deeper (envOfC "comes_first" (defScope s_comes_first) s.heap.objs.size f cdv)).units + PySem.W.Datum.depth (Int × List (Int × Int)) < cLine := by
    have h1 := hr.un
    have h2 : PySem.W.Datum.depth (Int × List (Int × Int)) ≤ 10 := by decide
    omega
  obtain ⟨v, u, p, r, t, S, rfl, hv, hz, hu, hzu, ht, hS, hO, hOr, q⟩ := h
  have hr' : Room 4 _ := hr
  refine ⟨_, (pss_one (ps_ret (pe_cmpR (op_ltDat (α := Int × List (Int × Int)) hu8) (pe_cal C_order_of hr' (by rfl) (pa_cons (pv 0) (pa_cons (pv 2) pa_nil))) (pe_cal C_order_of hr' (by rfl) (pa_cons (pv 1) (pa_cons (pv 2) pa_nil))) (nomark _)))), ?_⟩
  refine ⟨_, rfl, _, rfl, v, p, t, S, rfl, hv, hz, ht, hS, hO, fun x1 H1 s1 d1 => ?_⟩
  refine ⟨_, rfl, _, rfl, u, r, t, S, rfl, hu.keep (Tp.same s1), hzu, ht.keep (Tp.same s1), hS, hOr, fun x2 H2 s2 d2 => ?_⟩
  exact ⟨_, _, dp_same s2 _ _ d1, d2, q _ (s1.trans s2)⟩
end
end Lm

set_option Elab.async false
set_option linter.all false
set_option maxRecDepth 100000
set_option maxHeartbeats 4000000
set_option pp.maxSteps 600
set_option pp.deepTerms.threshold 6
namespace Lm
open PySem PySem.Spec PyProof.Rows L2 LmR
/-- a def that may refuse, where it doesn't -/
theorem CalX.calm {P : Program} {w : World} {K : PySem.W.Frag} {mg : Str → Option Value} {base : Heap} {k : Nat} {x : Str} {ps : List Str} {sp : Sp} (c : CalX P w K mg base k x ps sp) : Cal P w K mg base k x ps (fun vs H Q _ => sp vs H Q fun _ _ _ => False) := by
  obtain ⟨f, fd, F, g, kp, b⟩ := c
  refine ⟨f, fd, ⟨fun vs H Q E z => F.len _ _ _ _ z, fun A outer s H args us vs Q E r e bb v z => codeAny_mono (F.run A outer s H args us vs Q _ r e bb v z) fun res s' h => ?_⟩, g, kp, b⟩
  cases res with
  | ok c => cases c <;> exact h
  | error e =>
    obtain ⟨_, _, _, _, _, _, _, _, _, _, _, _, hE⟩ := h
    exact hE.elim
structure Kinds (K : PySem.W.Frag) (mg : Str → Option Value) (a : Addr) : Prop where
  g : mg "KINDS" = some (.ref a)
  t : ∀ H, SqT K H a [.str "num", .str "truth"]
/-! ### a stock whose things are unlike is let by -/
theorem inV_not {v : V} {vs : List V} (h : ∀ u ∈ vs, eqV u v = false) : inV v vs = false := by
  unfold inV
  rw [List.any_eq_false]
  intro u hu
  rw [h u hu]; exact Bool.false_ne_true
theorem amiss_no {k : Nat} : ∀ (ps : List (PyData × Int)) (ah : List V) (n : Nat), (∀ p ∈ ps, 1 ≤ p.2 ∧ mayV k (keyV p.1) = true) → (ps.map fun p => keyV p.1).Pairwise (fun u v => eqV u v = false) → (∀ p ∈ ps, ∀ u ∈ ah, eqV u (keyV p.1) = false) → amissD k (pdat ps) ah n = none
  | [], _, _, _, _, _ => rfl
  | p :: ps, ah, n, h, hp, ha => by
    have h1 := h p List.mem_cons_self
    have e1 : inV (keyV p.1) ah = false := inV_not (ha p List.mem_cons_self)
    have e2 : decide (p.2 < 1) = false := decide_eq_false (by omega)
    show (if (inV (keyV p.1) ah || (decide (p.2 < 1) || !mayV k (keyV p.1))) = true then some n else amissD k (pdat ps) (ah ++ [keyV p.1]) (n + 1)) = none
    rw [e1, e2, h1.2]
    have hp' := List.pairwise_cons.mp hp
    refine (if_neg (by decide)).trans (amiss_no ps _ _ (fun q hq => h q (List.mem_cons_of_mem _ hq)) hp'.2 fun q hq u hu => ?_)
    rcases List.mem_append.mp hu with z | z
    · exact ha q (List.mem_cons_of_mem _ hq) u z
    · rw [List.mem_singleton.mp z]
      exact hp'.1 _ (List.mem_map.mpr ⟨q, hq, rfl⟩)
theorem pw_int : ∀ {ns : List Int}, ns.Nodup → (ns.map V.int).Pairwise (fun u v => eqV u v = false)
  | [], _ => .nil
  | n :: ns, h => by
    have h' := List.nodup_cons.mp h
    refine .cons (fun v hv => ?_) (pw_int h'.2)
    obtain ⟨m, hm, rfl⟩ := List.mem_map.mp hv
    have : n ≠ m := fun e => h'.1 (e ▸ hm)
    simpa [eqV] using this
theorem pw_str : ∀ {ns : List Str}, ns.Nodup → (ns.map V.str).Pairwise (fun u v => eqV u v = false)
  | [], _ => .nil
  | n :: ns, h => by
    have h' := List.nodup_cons.mp h
    refine .cons (fun v hv => ?_) (pw_str h'.2)
    obtain ⟨m, hm, rfl⟩ := List.mem_map.mp hv
    have : n ≠ m := fun e => h'.1 (e ▸ hm)
    simpa [eqV] using this
theorem pairs_all (b : Bool) : ∀ ps : List (PyData × Int), (∀ p ∈ ps, (if b then isStr p.1 else wholeD p.1) = true) → (pdat ps).all (pairD b) = true
  | [], _ => rfl
  | p :: ps, h => by
    show (pairD b (.tuple [p.1, .int p.2]) && (pdat ps).all (pairD b)) = true
    rw [pairs_all b ps fun q hq => h q (List.mem_cons_of_mem _ hq), Bool.and_true]
    show (wholeD (.int p.2) && (if b then isStr p.1 else wholeD p.1)) = true
    rw [h p List.mem_cons_self]; rfl
theorem key_ints {ps : List (PyData × Int)} {ns : List Int} (h : ps.map (·.1) = ns.map PyData.int) : (ps.map fun p => keyV p.1) = ns.map V.int ∧ ∀ p ∈ ps, ∃ n ∈ ns, p.1 = .int n := by
  constructor
  · have e : (ps.map fun p => keyV p.1) = (ps.map (·.1)).map keyV := by rw [List.map_map]; rfl
    rw [e, h, List.map_map]; rfl
  · intro p hp
    have z : p.1 ∈ ps.map (·.1) := List.mem_map.mpr ⟨p, hp, rfl⟩
    rw [h] at z
    obtain ⟨n, hn, e⟩ := List.mem_map.mp z
    exact ⟨n, hn, e.symm⟩
theorem key_strs {ps : List (PyData × Int)} {ns : List Str} (h : ps.map (·.1) = ns.map PyData.str) : (ps.map fun p => keyV p.1) = ns.map V.str ∧ ∀ p ∈ ps, ∃ n ∈ ns, p.1 = .str n := by
  constructor
  · have e : (ps.map fun p => keyV p.1) = (ps.map (·.1)).map keyV := by rw [List.map_map]; rfl
    rw [e, h, List.map_map]; rfl
  · intro p hp
    have z : p.1 ∈ ps.map (·.1) := List.mem_map.mpr ⟨p, hp, rfl⟩
    rw [h] at z
    obtain ⟨n, hn, e⟩ := List.mem_map.mp z
    exact ⟨n, hn, e.symm⟩
theorem pairs_tup (b : Bool) (ds : List PyData) : pairsD b (.tuple ds) = ds.all (pairD b) := rfl
theorem stock_good {p1 p2 p3 : List (PyData × Int)} (o : StkOk p1 p2 p3) (u : StkUn p1 p2 p3) : stockD (stkD p1 p2 p3) = none := by
  obtain ⟨n1, e1, _, _⟩ := o.k1
  obtain ⟨n2, e2, _, _⟩ := o.k2
  obtain ⟨n3, e3, _, m3⟩ := o.k3
  have t1 := pairs_all false p1 fun p hp => by obtain ⟨n, _, e⟩ := (key_ints e1).2 p hp; rw [e]; rfl
  have t2 := pairs_all false p2 fun p hp => by obtain ⟨n, _, e⟩ := (key_ints e2).2 p hp; rw [e]; rfl
  have t3 := pairs_all true p3 fun p hp => by obtain ⟨n, _, e⟩ := (key_strs e3).2 p hp; rw [e]; rfl
  have tr : tripleD (stkD p1 p2 p3) = true := by
    show (pairsD false (.tuple (pdat p1)) && (pairsD false (.tuple (pdat p2)) && pairsD true (.tuple (pdat p3)))) = true
    rw [pairs_tup, pairs_tup, pairs_tup, t1, t2, t3]; rfl
  have a1 : amissD 0 (pdat p1) [] 0 = none := amiss_no p1 [] 0 (fun p hp => by
    obtain ⟨n, _, e⟩ := (key_ints e1).2 p hp
    refine ⟨(o.w1 p hp).1, ?_⟩
    rw [e]; rfl) (by rw [(key_ints e1).1]; exact pw_int (u.d1 _ e1)) (fun p _ u hu => by cases hu)
  have a2 : amissD 1 (pdat p2) [] 0 = none := amiss_no p2 [] 0 (fun p hp => by
    obtain ⟨n, hn, e⟩ := (key_ints e2).2 p hp
    refine ⟨(o.w2 p hp).1, ?_⟩
    rw [e]
    have := (u.d2 _ e2).2 n hn
    simp [mayV, keyV, this]) (by rw [(key_ints e2).1]; exact pw_int (u.d2 _ e2).1) (fun p _ u hu => by cases hu)
  have a3 : amissD 2 (pdat p3) [] 0 = none := amiss_no p3 [] 0 (fun p hp => by
    obtain ⟨n, hn, e⟩ := (key_strs e3).2 p hp
    refine ⟨(o.w3 p hp).1, ?_⟩
    rw [e]
    show mayV 2 (.str n) = true
    have : inV (.str n) (stockW.map V.str) = true := by
      unfold inV
      rw [List.any_map, List.any_eq_true]
      exact ⟨n, m3 n hn, by simp [eqV]⟩
    simp [mayV, this]) (by rw [(key_strs e3).1]; exact pw_str (u.d3 _ e3)) (fun p _ u hu => by cases hu)
  have es : stockD (stkD p1 p2 p3) = stFrom [pdat p1, pdat p2, pdat p3] 0 := by unfold stockD; rw [tr]; rfl
  rw [es, stF_none a1, stF_none a2, stF_none a3]
  rfl
theorem pdat_sz : ∀ ps : List (PyData × Int), (∀ p ∈ ps, dsz p.1 = 1) → dsz.dszs (pdat ps) ≤ 5 * ps.length
  | [], _ => Nat.zero_le _
  | p :: ps, h => by
    have h1 := pdat_sz ps fun q hq => h q (List.mem_cons_of_mem _ hq)
    have h2 := h p List.mem_cons_self
    show dsz.dszs (PyData.tuple [p.1, .int p.2] :: pdat ps) ≤ _
    simp [dsz, dsz.dszs, h2] at h1 ⊢
    omega
def oID : Option Int → PyData
  | none => .none
  | some i => .int i
theorem oID_dp {K : PySem.W.Frag} {H : Hp} (o : Option Int) : Dp K H (optI o) (oID o) := by
  cases o
  · exact .non
  · exact .int _
theorem opt_scal (o : Option Int) : scal (optI o) (optI o) = true := by cases o <;> rfl
theorem deps_enc (n : Nat) : ∀ ps : List Pg, (∀ p ∈ ps, dep p ≤ n) → PyData.depthAll (ps.map enc) ≤ n
  | [], _ => Nat.zero_le _
  | p :: ps, h => by
    have h1 := deps_enc n ps fun q hq => h q (List.mem_cons_of_mem _ hq)
    have h2 := depth_enc' p
    have h3 := h p List.mem_cons_self
    show max (enc p).depth (PyData.depthAll (ps.map enc)) ≤ n
    omega
theorem dep_psub (n : Nat) (ss : List Pg) (h : ∀ s ∈ ss, dep s ≤ n) (hn : 1 ≤ n) : ∀ p : Pg, dep (psub ss p) ≤ dep p + n
  | .inp k => by
    show dep (ss.getD k (.inp k)) ≤ 1 + n
    rw [List.getD_eq_getElem?_getD]
    cases e : ss[k]? with
    | none => show 1 ≤ 1 + n; omega
    | some s => have := h s (List.mem_of_getElem? e); show dep s ≤ 1 + n; omega
  | .num c => by show 1 ≤ 1 + n; omega
  | .tr c => by show 1 ≤ 1 + n; omega
  | .plus c a => by have := dep_psub n ss h hn a; show dep (psub ss a) + 1 ≤ dep a + 1 + n; omega
  | .neg a => by have := dep_psub n ss h hn a; show dep (psub ss a) + 1 ≤ dep a + 1 + n; omega
  | .bin w a b => by
    have := dep_psub n ss h hn a
    have := dep_psub n ss h hn b
    show max (dep (psub ss a)) (dep (psub ss b)) + 1 ≤ max (dep a) (dep b) + 1 + n
    omega
  | .ite p a b => by
    have := dep_psub n ss h hn p
    have := dep_psub n ss h hn a
    have := dep_psub n ss h hn b
    show max (dep (psub ss p)) (max (dep (psub ss a)) (dep (psub ss b))) + 1 ≤ max (dep p) (max (dep a) (dep b)) + 1 + n
    omega
theorem ps_of {K : PySem.W.Frag} {H : Hp} {us : List V} {ps : List Pg} (h : Ats K H us ps) : DpAll K H us (ps.map enc) := h
/-- all that is told -/
def allD (ks : List Bool) (p : Pg) (q : Pg) (us : List V) (o : Option Int) : PyData := .list [.bool true, .str (kS (own ks p)), .list ((kn p).map enc), enc q, .str (txt p), enc p, vd (pval us p), .bool true, oID o]
theorem allD_plain (ks : List Bool) (p q : Pg) (us : List V) (o : Option Int) : (allD ks p q us o).plain = true := by
  have l1 := plains_flat _ (flats_encs (kn p))
  have l2 := plain_flat _ (flat_enc q)
  have l3 := plain_flat _ (flat_enc p)
  have l4 := plain_flat _ (kv_flat (pval us p))
  have l5 : (oID o).plain = true := by cases o <;> rfl
  show (true && (true && (PyData.plainAll ((kn p).map enc) && ((enc q).plain && (true && ((enc p).plain && ((vd (pval us p)).plain && (true && ((oID o).plain && true))))))))) = true
  rw [l1, l2, l3, l4, l5]; rfl
theorem allD_depth (ks : List Bool) {p q : Pg} (us : List V) (o : Option Int) (hp : dep p ≤ 60) (hk : ∀ x ∈ kn p, dep x ≤ 60) (hq : dep q ≤ 60) : (allD ks p q us o).depth ≤ 64 := by
  have d1 := deps_enc 60 (kn p) hk
  have d2 := depth_enc' q
  have d3 := depth_enc' p
  have d4 := kv_depth (pval us p)
  have d5 : (oID o).depth = 0 := by cases o <;> rfl
  show max 0 (max 0 (max (PyData.depthAll ((kn p).map enc) + 1) (max (enc q).depth (max 0 (max (enc p).depth (max (vd (pval us p)).depth (max 0 (max (oID o).depth 0)))))))) + 1 ≤ 64
  omega
section
variable {P : Program} {w : World} {K : PySem.W.Frag} {mg : Str → Option Value} {base : Heap}
abbrev s_look_head : Stmt := topS 9
theorem sc_look_head : FnScope ["head", "at", "kind"] ["head"] (defScope s_look_head) := ⟨rfl, rfl, rfl, by decide +kernel, rfl, by decide +kernel, by decide +kernel⟩
def spLKH (K : PySem.W.Frag) : Sp := fun vs H Q _ => ∃ (t ka : Addr) (ks : List Bool) (b : Bool), vs = [.ref t] ∧ SqT K H t [.ref ka, .str (kS b)] ∧ SqT K H ka (kVs ks) ∧ ks.length ≤ 3 ∧ ∀ H', Same H H' → Q (.bl true) H'
theorem kinds_dp {K : PySem.W.Frag} {H : Hp} : ∀ ks : List Bool, DpAll K H (kVs ks) (ks.map fun b => PyData.str (kS b))
  | [] => .nil
  | b :: ks => .cons (.str _) (kinds_dp ks)
theorem kinds_fl : ∀ ks : List Bool, flat.flats (ks.map fun b => PyData.str (kS b)) = true
  | [] => rfl
  | b :: ks => kinds_fl ks
theorem ok_look_head {aK : Addr} (B : Bt mg) (KK : Kinds K mg aK) (D : DefAt K mg "look_head" s_look_head ["head"]) : Cal P w K mg base 1 "look_head" ["head"] (spLKH K) := by
  refine cal_of D sc_look_head (fun vs H Q E h => ?_) (fun f cdv A outer s H vs Q E hr h => ?_)
  · obtain ⟨t, ka, ks, b, rfl, _⟩ := h
    rfl
  obtain ⟨t, ka, ks, b, rfl, qa, qb, hk3, q⟩ := h
  have hKINDS := KK.g
  refine ⟨_, (pss_cons (ps_if (PW.pt (pw_or (pt_not (pt_val (pe_callB call_isi (by rfl) B.isinstance (by decide +kernel) (pa_cons (pv 0) (pa_cons (pe_bltn (v := .ty "tuple") (by rfl) B.tuple PyProof.Rows.boot_tuple rfl) pa_nil))))) (pw_or (pt_cmpR op_ne (pe_callB call_len_seq (by rfl) B.len PySem.boot_len (pa_cons (pv 0) pa_nil)) pe_int (nomark _)) (pw_or1 (pt_not (pt_val (pe_callB call_isi (by rfl) B.isinstance (by decide +kernel) (pa_cons (pe_ix ix_tup (pv 0) pe_int (fun _ _ => rfl)) (pa_cons (pe_bltn (v := .ty "tuple") (by rfl) B.tuple PyProof.Rows.boot_tuple rfl) pa_nil)))))))))
        (pss_one ps_never)
        pss_nil)
      (pss_cons (ps_for PassesOwn.never rfl (pi_enumT (by rfl) B.enumerate (pa_cons (pe_tup (StX.pa_star (pe_ix ix_tup (pv 0) pe_int (fun _ _ => rfl)) (pa_cons (pe_ix ix_tup (pv 0) pe_int (fun _ _ => rfl)) pa_nil))) pa_nil)) (pg_tup rfl (pgs_cons (pg_name (i := 1) sc_look_head.nd rfl (.inl rfl)) (pgs_cons (pg_name (i := 2) sc_look_head.nd rfl (.inl rfl)) pgs_nil)))
        (pss_one (ps_if (pt_cmpR (op_notInD rfl (hu_of hr)) (pv 2) (pe_glob (v := .ref _) (by rfl) hKINDS rfl) rfl)
        (pss_one ps_never)
        pss_nil)))
      (pss_one (ps_ret pe_bl)))), ?_⟩
  have hv : Fd K H (.ref t) (.tuple [.tuple (ks.map fun b => PyData.str (kS b)), .str (kS b)]) := ⟨by simp [flat, flat.flats, kinds_fl], .tup qa (.cons (.tup qb (kinds_dp ks)) (.cons (.str _) .nil))⟩
  have h1 : Fd K H (.ref ka) (.tuple (ks.map fun b => PyData.str (kS b))) := ⟨by simp [flat, kinds_fl], .tup qb (kinds_dp ks)⟩
  refine ⟨_, rfl, .ref t, _, _, _, _, rfl, .ty _, hv.ty, kit_tup _ hv.1, _, rfl, ite2 (fun c => absurd c (by simp [isTup])) (fun c => ?_)⟩
  refine ⟨_, rfl, t, _, rfl, .inr qa, rfl, _, rfl, ite2 (fun c2 => absurd c2 (by simp)) (fun c2 => ?_)⟩
  refine ⟨_, rfl, t, _, 0, _, rfl, rfl, qa, rfl, _, _, _, _, _, rfl, .ty _, h1.ty, kit_tup _ h1.1, _, rfl, ite2 (fun c3 => absurd c3 (by simp [isTup])) (fun c3 => ?_)⟩
  have kl : (kVs ks).length = ks.length := List.length_map _
  refine ⟨_, rfl, t, _, 0, _, rfl, rfl, qa, rfl, ka, kVs ks, rfl, .inl qb, _, rfl, t, _, 1, _, rfl, rfl, qa, rfl, ?_, fun t2 ht => ⟨t2, _, rfl, .inl (.inl upd_same), ?_⟩⟩
  · show (kVs ks ++ [V.str (kS b)]).length ≤ sizeLine
    rw [List.length_append, kl]
    exact small (by show ks.length + 1 ≤ 100000; omega)
  have s1 : Same H (upd H t2 (.tup (kVs ks ++ [V.str (kS b)]))) := same_new ht
  refine for_enumT (K := K) (xs := kVs ks ++ [V.str (kS b)]) (fun i σ H' => (∃ y1 y2 : Option V, σ = [some (V.ref t), y1, y2]) ∧ Same (upd H t2 (.tup (kVs ks ++ [V.str (kS b)]))) H') ?_ ?_ ?_ ?_
  · exact ⟨⟨_, _, rfl⟩, fun _ _ h => h⟩
  · rintro i σ H' ⟨_, sm⟩
    exact .inl (.inl (sm _ _ upd_same))
  · rintro i x σ H' T hx ⟨⟨y1, y2, rfl⟩, sm⟩ hT
    have sm2 : Same H' (upd H' T (.tup [.int (i : Nat), x])) := same_new hT
    refine ⟨T, _, rfl, .inl (.inl upd_same), rfl, _, _, rfl, _, _, rfl, rfl, ?_⟩
    obtain ⟨c, rfl⟩ : ∃ c : Bool, x = V.str (kS c) := by
      rcases List.mem_append.mp (List.mem_of_getElem? hx) with z | z
      · obtain ⟨c, _, e⟩ := List.mem_map.mp z
        exact ⟨c, e.symm⟩
      · exact ⟨b, List.mem_singleton.mp z⟩
    refine ⟨_, rfl, aK, ["num", "truth"], .str (kS c), rfl, KK.t _, ⟨rfl, .str _⟩, _, rfl, ite2 (fun c' => absurd c' (by cases c <;> decide +kernel)) (fun c' => ⟨⟨_, _, rfl⟩, sm.trans sm2⟩)⟩
  · rintro σ H' ⟨⟨y1, y2, rfl⟩, sm⟩
    exact q _ (s1.trans sm)
end
end Lm

set_option Elab.async false
set_option linter.all false
set_option maxRecDepth 100000
set_option maxHeartbeats 4000000
set_option pp.maxSteps 600
set_option pp.deepTerms.threshold 6
namespace Lm
open PySem PySem.Spec PyProof.Rows L2 LmR
/-- programs that may be put in for inputs of the kinds ks -/
structure Sub4 (K : PySem.W.Frag) (H : Hp) (ks os : List Bool) (t : Addr) (us : List V) (ss : List Pg) : Prop where
  sq : SqT K H t us
  ats : Ats K H us ss
  own : ss.map (own os) = ks
  each : ∀ s ∈ ss, Wk os s ∧ psz s ≤ 4
theorem Sub4.keep {K : PySem.W.Frag} {H H' : Hp} {ks os : List Bool} {t : Addr} {us : List V} {ss : List Pg} (h : Sub4 K H ks os t us ss) (tp : Tp K H H') : Sub4 K H' ks os t us ss := ⟨tp _ _ h.sq, h.ats.keep tp, h.own, h.each⟩
section
variable {P : Program} {w : World} {K : PySem.W.Frag} {mg : Str → Option Value} {base : Heap}
abbrev s_law : Stmt := topS 66
theorem sc_law : FnScope ["_law_script", "_law_k", "_law_flow_here", "_law_sorts", "_law_whole", "_law_few", "_law_given", "_law_shop", "_law_script_text", "_law_found", "_law_due", "_law_first_of", "_law_last_of", "_law_kind"] ["_law_script"] (defScope s_law) := ⟨rfl, rfl, rfl, by decide +kernel, rfl, by decide +kernel, by decide +kernel⟩
def spLaw (K : PySem.W.Frag) : Sp := fun vs H Q _ => ∃ (a : Addr) (ns : List Int), vs = [.ref a] ∧ SqL K H a (ns.map V.int) ∧ ns.length ≤ 63 ∧ ∀ H', Q (.bl true) H'
theorem ok_law {aS CT CS : Addr} (B : Bt mg) (SG : StockG K mg aS) (C_l_flow : Cal P w K mg base 2 "_law_flow" ["_law_script", "_law_k"] (spFlow K)) (C_l_draw : Cal P w K mg base 1 "_law_draw" ["_law_flow_here", "_law_many"] (spDraw)) (C_l_some : Cal P w K mg base 29 "_law_some" ["_law_flow_here"] (spSomeN K)) (C_l_program : Cal P w K mg base 28 "_law_program" ["_law_flow_here", "_law_sorts", "_law_kind", "_law_room"] (spProgram K)) (C_l_inputs : Cal P w K mg base 2 "_law_inputs" ["_law_flow_here", "_law_sorts"] (spInp K)) (C_l_stock : Cal P w K mg base 4 "_law_stock" ["_law_flow_here"] (spStock K)) (C_l_of_stock : Cal P w K mg base 12 "_law_of_stock" ["_law_flow_here", "_law_shop", "_law_sorts", "_law_kind", "_law_room", "_law_down"] (spOS K 11)) (C_look_head : Cal P w K mg base 1 "look_head" ["head"] (spLKH K)) (C_kind_of : Cal P w K mg base 4 "kind_of" ["kinds", "program"] (spKO K)) (C_knots : Cal P w K mg base 3 "knots" ["program"] (spKnots K)) (C_put : Cal P w K mg base 4 "put" ["program", "some"] (spPut K)) (C_value : Cal P w K mg base 4 "value" ["program", "inputs"] (spVal K)) (C_show : Cal P w K mg base 4 "show" ["program"] (spShow K)) (CX_read : CalX P w K mg base 4 "read" ["text"] (spRead K CT)) (CX_look_stock : CalX P w K mg base 5 "look_stock" ["stock"] (spLookS K CS)) (C_weight : CalKw P w K mg base 4 "weight" ["program", "stock"] 1 ["stock"] [.ref aS] (spWeight K)) (C_comes_first : CalKw P w K mg base 5 "comes_first" ["one", "other", "stock"] 2 ["stock"] [.ref aS] (spCF K))
    (DN_look_head_head : DefN K mg "look_head" s_look_head ["head"] ["head"] []) (DN_kind_of_program_kinds : DefN K mg "kind_of" s_kind_of ["kinds", "program"] ["program", "kinds"] []) (DN_knots_program : DefN K mg "knots" s_knots ["program"] ["program"] []) (DN_put_some_program : DefN K mg "put" s_put ["program", "some"] ["some", "program"] []) (DN_show_program : DefN K mg "show" s_show ["program"] ["program"] []) (DN_read_text : DefN K mg "read" s_read ["text"] ["text"] []) (DN_value_inputs_program : DefN K mg "value" s_value ["program", "inputs"] ["inputs", "program"] []) (DN_look_stock_stock : DefN K mg "look_stock" s_look_stock ["stock"] ["stock"] []) (DN_weight_program : DefN K mg "weight" s_weight ["program", "stock"] ["program"] [.ref aS]) (DN_weight_stock_program : DefN K mg "weight" s_weight ["program", "stock"] ["stock", "program"] []) (DN_comes_first_stock_other_one : DefN K mg "comes_first" s_comes_first ["one", "other", "stock"] ["stock", "other", "one"] [])
    {f : Addr} {fd : FuncData} (F : Fun K "law" "law" s_law f fd) : FnOk P w K mg base CX0 30 f fd ["_law_script"] (spLaw K) := by
  refine F.ok sc_law (fun vs H Q E h => ?_) (fun cdv A outer s H vs Q E hr h => ?_)
  · obtain ⟨a, ns, rfl, _⟩ := h
    rfl
  obtain ⟨a, ns, rfl, hS, h63, q⟩ := h
  have C_l_flow := C_l_flow.mono (k := 29) (by decide)
  have C_l_draw := C_l_draw.mono (k := 29) (by decide)
  have C_l_program := C_l_program.mono (k := 29) (by decide)
  have C_l_inputs := C_l_inputs.mono (k := 29) (by decide)
  have C_l_stock := C_l_stock.mono (k := 29) (by decide)
  have C_l_of_stock := C_l_of_stock.mono (k := 29) (by decide)
  have C_look_head := C_look_head.mono (k := 29) (by decide)
  have C_kind_of := C_kind_of.mono (k := 29) (by decide)
  have C_knots := C_knots.mono (k := 29) (by decide)
  have C_put := C_put.mono (k := 29) (by decide)
  have C_value := C_value.mono (k := 29) (by decide)
  have C_show := C_show.mono (k := 29) (by decide)
  have C_read := CX_read.calm.mono (k := 29) (by decide)
  have C_look_stock := CX_look_stock.calm.mono (k := 29) (by decide)
  have C_weight := C_weight.mono (k := 29) (by decide)
  have C_comes_first := C_comes_first.mono (k := 29) (by decide)
  have N_look_head_head := C_look_head.named DN_look_head_head
  have N_kind_of_program_kinds := C_kind_of.named DN_kind_of_program_kinds
  have N_knots_program := C_knots.named DN_knots_program
  have N_put_some_program := C_put.named DN_put_some_program
  have N_show_program := C_show.named DN_show_program
  have N_read_text := C_read.named DN_read_text
  have N_value_inputs_program := C_value.named DN_value_inputs_program
  have N_look_stock_stock := C_look_stock.named DN_look_stock_stock
  have N_weight_program := C_weight.named DN_weight_program
  have N_weight_stock_program := C_weight.named DN_weight_stock_program
  have N_comes_first_stock_other_one := C_comes_first.named DN_comes_first_stock_other_one
  have hr' : Room 29 _ := hr
  refine ⟨_, (pss_cons (ps_for PassesOwn.never rfl (pi_range1 (by rfl) B.range (pa_cons (pe_callB (call_max2 rfl) (by rfl) B.max PyProof.Rows.boot_max (pa_cons pe_int (pa_cons (pe_callB call_len_seq (by rfl) B.len PySem.boot_len (pa_cons (pe_slice sl_list (pv 0) po_none (po_some pe_int)) pa_nil)) pa_nil))) pa_nil)) (pg_name (i := 1) sc_law.nd rfl (.inl rfl))
        (pss_cons (ps_set (i := 2) sc_law.nd rfl (.inr rfl) (pe_cal C_l_flow hr' (by rfl) (pa_cons (pv 0) (pa_cons (pv 1) pa_nil))))
      (pss_cons (ps_asg (pe_cal C_l_some hr' (by rfl) (pa_cons (pv 2) pa_nil)) (pg_tup rfl (pgs_cons (pg_name (i := 3) sc_law.nd rfl (.inr rfl)) (pgs_cons (pg_name (i := 4) sc_law.nd rfl (.inl rfl)) pgs_nil))))
      (pss_cons (ps_set (i := 5) sc_law.nd rfl (.inl rfl) (pe_callTy call_tuple_of (by rfl) B.tuple PyProof.Rows.boot_tuple (pa_cons (pe_lc (own := [("_law_kind", 13)]) (g := gName 13) rfl sc_law.nd (pi_tup (pv 3)) (blkOk_by (own := [("_law_kind", 13)]) (N := ["_law_script", "_law_k", "_law_flow_here", "_law_sorts", "_law_whole", "_law_few", "_law_given", "_law_shop", "_law_script_text", "_law_found", "_law_due", "_law_first_of", "_law_last_of", "_law_kind"]) (sc := defScope s_law) (by decide +kernel)) (fun _ _ _ _ _ => (pg_name (i := 13) sc_law.nd rfl (.inl rfl))) (fun _ _ _ _ _ => pts_nil) (fun _ _ _ _ _ => (pe_cal C_l_program hr' (by rfl) (pa_cons (pv 2) (pa_cons (pv 3) (pa_cons (pv 13) (pa_cons (pe_op op_add pe_int (pe_cal C_l_draw hr' (by rfl) (pa_cons (pv 2) (pa_cons pe_int pa_nil)))) pa_nil))))))) pa_nil)))
      (pss_cons (ps_par3 (i := 6) (j := 7) (l := 8) rfl sc_law.nd rfl rfl rfl (by decide) (by decide) (by decide) rfl rfl rfl (pa_cons (pe_cal C_l_inputs hr' (by rfl) (pa_cons (pv 2) (pa_cons (pv 3) pa_nil))) (pa_cons (pe_cal C_l_stock hr' (by rfl) (pa_cons (pv 2) pa_nil)) (pa_cons (pe_cal C_show hr' (by rfl) (pa_cons (pv 4) pa_nil)) pa_nil))) rfl)
      (pss_cons (ps_set (i := 9) sc_law.nd rfl (.inl rfl) (pe_lst (pa_cons (pe_calN N_look_head_head hr' (by rfl) (pk_cons (pe_tup (pa_cons (pv 3) (pa_cons pe_str pa_nil))) pk_nil)) (pa_cons (pe_calN N_kind_of_program_kinds hr' (by rfl) (pk_cons (pv 4) (pk_cons (pv 3) pk_nil))) (pa_cons (pe_calN N_knots_program hr' (by rfl) (pk_cons (pv 4) pk_nil)) pa_nil)))))
      (pss_cons (ps_set (i := 9) sc_law.nd rfl (.inl rfl) (pe_op op_cat (pv 9) (pe_lst (pa_cons (pe_calN N_put_some_program hr' (by rfl) (pk_cons (pv 5) (pk_cons (pv 4) pk_nil))) (pa_cons (pe_calN N_show_program hr' (by rfl) (pk_cons (pv 4) pk_nil)) (pa_cons (pe_calN N_read_text hr' (by rfl) (pk_cons (pv 8) pk_nil)) pa_nil))))))
      (pss_cons (ps_set (i := 9) sc_law.nd rfl (.inl rfl) (pe_op op_cat (pv 9) (pe_lst (pa_cons (pe_calN N_value_inputs_program hr' (by rfl) (pk_cons (pv 6) (pk_cons (pv 4) pk_nil))) (pa_cons (pe_calN N_look_stock_stock hr' (by rfl) (pk_cons (pv 7) pk_nil)) (pa_cons (pe_calN N_weight_program hr' (by rfl) (pk_cons (pv 4) pk_nil)) pa_nil))))))
      (pss_cons (ps_set (i := 10) sc_law.nd rfl (.inl rfl) (pe_lst (pa_cons (pe_cal C_look_head hr' (by rfl) (pa_cons (pe_tup (pa_cons (pv 3) (pa_cons pe_str pa_nil))) pa_nil)) (pa_cons (pe_cal C_kind_of hr' (by rfl) (pa_cons (pv 3) (pa_cons (pv 4) pa_nil))) (pa_cons (pe_cal C_knots hr' (by rfl) (pa_cons (pv 4) pa_nil)) (pa_cons (pe_cal C_put hr' (by rfl) (pa_cons (pv 4) (pa_cons (pv 5) pa_nil))) (pa_cons (pv 8) pa_nil)))))))
      (pss_cons (ps_set (i := 10) sc_law.nd rfl (.inl rfl) (pe_op op_cat (pv 10) (pe_lst (pa_cons (pe_cal C_read hr' (by rfl) (pa_cons (pv 8) pa_nil)) (pa_cons (pe_cal C_value hr' (by rfl) (pa_cons (pv 4) (pa_cons (pv 6) pa_nil))) (pa_cons (pe_cal C_look_stock hr' (by rfl) (pa_cons (pv 7) pa_nil)) (pa_cons (pe_calD C_weight hr' (by rfl) (pa_cons (pv 4) pa_nil)) pa_nil)))))))
      (pss_cons (ps_if (PW.pt (pw_or (pt_cmpR (op_neP hr.units) (pv 9) (pv 10) (nomark _)) (pw_or1 (pt_cmpR op_ne (pe_calN N_weight_stock_program hr' (by rfl) (pk_cons (pv 7) (pk_cons (pv 4) pk_nil))) (pe_calK C_weight hr' (by rfl) (pa_cons (pv 4) pa_nil) (pk_cons (pv 7) pk_nil)) (nomark _)))))
        (pss_one (ps_ret pe_bl))
        pss_nil)
      (pss_cons (ps_set (i := 11) sc_law.nd rfl (.inl rfl) (pe_cal C_l_of_stock hr' (by rfl) (pa_cons (pv 2) (pa_cons (pv 7) (pa_cons (pv 3) (pa_cons pe_str (pa_cons (pe_op op_add pe_int (pe_cal C_l_draw hr' (by rfl) (pa_cons (pv 2) (pa_cons pe_int pa_nil)))) (pa_cons pe_int pa_nil))))))))
      (pss_cons (ps_set (i := 12) sc_law.nd rfl (.inl rfl) (pe_cal C_l_of_stock hr' (by rfl) (pa_cons (pv 2) (pa_cons (pv 7) (pa_cons (pv 3) (pa_cons pe_str (pa_cons (pe_op op_add pe_int (pe_cal C_l_draw hr' (by rfl) (pa_cons (pv 2) (pa_cons pe_int pa_nil)))) (pa_cons pe_int pa_nil))))))))
      (pss_one (ps_if (PW.pt (pw_and (pt_cmpR op_notN (pv 11) pe_non (nomark _)) (pw_and1 (pt_cmpR op_notN (pv 12) pe_non (nomark _)))))
        (pss_cons (ps_set (i := 9) sc_law.nd rfl (.inl rfl) (pe_calN N_comes_first_stock_other_one hr' (by rfl) (pk_cons (pv 7) (pk_cons (pv 12) (pk_cons (pv 11) pk_nil)))))
      (pss_one (ps_if (pt_cmpR op_ne (pv 9) (pe_calK C_comes_first hr' (by rfl) (pa_cons (pv 11) (pa_cons (pv 12) pa_nil)) (pk_cons (pv 7) pk_nil)) (nomark _))
        (pss_one (ps_ret pe_bl))
        pss_nil)))
        pss_nil)))))))))))))))
      (pss_one (ps_ret pe_bl))), ?_⟩
  refine ⟨_, rfl, 4, rfl, a, _, rfl, hS, fun p0 hp0 => ?_⟩
  have sA : Same H (upd H p0 (.lst (cutV (ns.map V.int) none (some 4)))) := same_new hp0
  have lc : (cutV (ns.map V.int) none (some 4)).length ≤ 63 := by
    unfold cutV
    rw [List.length_take, List.length_drop, List.length_map]
    omega
  have hS1 := sA.seq hS
  generalize cutV (ns.map V.int) none (some 4) = cs at lc sA hS1
  refine ⟨p0, cs, rfl, .inl (SqL.of upd_same), 2, _, rfl, ?_⟩
  obtain ⟨m, em, m0, m63⟩ : ∃ m : Int, (if ((cs.length : Nat) : Int) > 2 then ((cs.length : Nat) : Int) else 2) = m ∧ 0 ≤ m ∧ m ≤ 63 := by
    refine ⟨_, rfl, ?_, ?_⟩
    · split <;> omega
    · split <;> omega
  show ∃ n : Int, [V.int (if ((cs.length : Nat) : Int) > 2 then ((cs.length : Nat) : Int) else 2)] = [V.int n] ∧ _
  rw [em]
  generalize upd H p0 (.lst cs) = H1 at sA hS1
  refine ⟨m, rfl, by omega, by omega, for_range (lo := 0) (n := m.toNat) (fun i σ' H' => (∃ ys : List (Option V), ys.length = 13 ∧ σ' = some (.ref a) :: ys) ∧ SqL K H' a (ns.map V.int)) ⟨⟨[none, none, none, none, none, none, none, none, none, none, none, none, none], rfl, rfl⟩, hS1⟩ ?_ ?_⟩
  · rintro i σ' H' hi ⟨⟨ys, hy, rfl⟩, hS'⟩
    obtain ⟨y1, y2, y3, y4, y5, y6, y7, y8, y9, y10, y11, y12, y13, rfl⟩ : ∃ y1 y2 y3 y4 y5 y6 y7 y8 y9 y10 y11 y12 y13, ys = [y1, y2, y3, y4, y5, y6, y7, y8, y9, y10, y11, y12, y13] := by
      match ys, hy with
      | [y1, y2, y3, y4, y5, y6, y7, y8, y9, y10, y11, y12, y13], _ => exact ⟨_, _, _, _, _, _, _, _, _, _, _, _, _, rfl⟩
    refine ⟨_, rfl, _, rfl, a, ns, _, rfl, hS', by omega, by omega, fun f o hf fl => ?_⟩
    have s1 : Same H' (upd H' f o) := same_new hf
    generalize upd H' f o = H2 at s1 fl
    refine ⟨_, rfl, f, rfl, fl, fun t ka v p ks H3 g3 ht hka hk3 hat hwn hsz => ?_⟩
    refine ⟨t, _, rfl, .inl (.inl ht), rfl, _, [_], rfl, _, [], rfl, rfl, ?_⟩
    have hk : SqT K H3 ka (kVs ks) := .inl (.inl hka)
    have ex3 : Ex [f] H' H3 := fun b o z nb => g3.ex b o (s1 _ _ z) nb
    have fl3 := g3.fl
    have hwk := hwn.1
    clear ht hka g3 s1 fl
    have klen : (kVs ks).length = ks.length := List.length_map _
    -- few
    refine ⟨_, rfl, ka, rfl, ⟨_, hk⟩, fun D hD => lc_tup (K := K) (a := ka) (xs := kVs ks) (fun i H' => Gr [] f H3 H' ∧ ∃ us ss, H' D = some (.lst us) ∧ Ats K H' us ss ∧ ss.map (own ks) = ks.take i ∧ ∀ s ∈ ss, Wk ks s ∧ psz s ≤ 4) ?_ ?_ ?_ ?_⟩
    · exact ⟨Gr.new fl3 hD, [], [], upd_same, .nil, by simp, fun s hs => absurd hs (by simp)⟩
    · rintro i H' _ ⟨g, _⟩
      exact g.tp fl3 _ _ hk
    · rintro i x H' hx ⟨g, us, ss, hD', hus, hown, hss⟩
      obtain ⟨b, hb, rfl⟩ := kvs_get hx
      have hi' : i < ks.length := (List.getElem?_eq_some_iff.mp hb).1
      have nDf : D ≠ f := fl3.nf hD
      refine ⟨rfl, _, rfl, _, rfl, _, rfl, _, rfl, f, 4, rfl, g.fl, by decide, by decide, fun d H6 d0 d1 dr6 => ⟨_, _, rfl, rfl, ?_⟩⟩
      refine ⟨f, ka, ks, b, 1 + d, rfl, dr6.fl, (dr6.tp g.fl) _ _ (g.tp fl3 _ _ hk), hk3, by omega, by omega, fun u r H7 g7 ha hwk' how hsz' => ?_⟩
      have tp7 : Tp K H' H7 := (dr6.tp g.fl).trans (g7.tp dr6.fl)
      have hD7 : H7 D = some (.lst us) := g7.ex _ _ ((dr6.off D nDf).trans hD') (by simp [nDf])
      have t8 : Tp K H7 (upd H7 D (.lst (us ++ [u]))) := Tp.lst hD7
      have ul : us.length ≤ 3 := by
        have e := congrArg List.length hown
        rw [List.length_map, List.length_take] at e
        rw [hus.len]
        omega
      refine ⟨us, hD7, smallL (by omega), (g.trans (dr6.gr.trans g7)).put hD nDf, us ++ [u], ss ++ [r], upd_same, ((hus.keep tp7).keep t8).app (.cons (ha.keep t8) .nil), ?_, fun s hs => ?_⟩
      · rw [List.map_append, hown, List.take_add_one, hb]
        simp [how]
      · rcases List.mem_append.mp hs with z | z
        · exact hss s z
        · rw [List.mem_singleton.mp z]
          exact ⟨hwk', by omega⟩
    rintro H5 ⟨g5, us1, ss1, hD5, hus1, hown1, hss1⟩
    rw [klen, List.take_length] at hown1
    refine ⟨D, us1, rfl, .inl ⟨SqL.of hD5, fun t1 ht1 => ?_⟩⟩
    have g6 : Gr [] f H3 (upd H5 t1 (.tup us1)) := g5.trans (Gr.new g5.fl ht1)
    have S6 : Sub4 K (upd H5 t1 (.tup us1)) ks ks t1 us1 ss1 := ⟨.inl (.inl upd_same), hus1.keep (Tp.new ht1), hown1, hss1⟩
    generalize upd H5 t1 (.tup us1) = H6 at g6 S6
    clear hD5 hus1 hD ht1 g5 hown1 hss1
    have l1 : ss1.length = ks.length := by rw [← S6.own, List.length_map]
    have hlow : Low ss1.length p := by rw [l1]; exact wk_low p hwk
    have hk6 := g6.tp fl3 _ _ hk
    obtain ⟨wB, wS⟩ := wn_text hwn (by omega)
    have w6 := wn_six hwn (by omega)
    -- given, stock, text
    refine ⟨_, rfl, _, rfl, f, ka, ks, rfl, g6.fl, hk6, hk3, fun tg ug H7 g7 htg hkv => ?_⟩
    refine ⟨_, rfl, f, rfl, g7.fl, fun tt q1 q2 q3 H8 g8 htt hok hun => ?_⟩
    obtain ⟨S, eS, oS⟩ := stk_of hok
    have sgood := stock_good hok hun
    have g68 := g7.trans g8
    have g38 := g6.trans g68
    have fl8 := g8.fl
    have hat8 := hat.keep (g38.tp fl3)
    have hk8 := g68.tp g6.fl _ _ hk6
    have S8 := S6.keep (g68.tp g6.fl)
    have htg8 : SqT K H8 tg ug := g8.tp g7.fl _ _ (.inl (.inl htg))
    have ex8 : Ex [f] H' H8 := fun b o z nb => g38.ex b o (ex3 b o z nb) nb
    clear htg g7 g8 S6 g6 hk6 g68 hk hat g38 hun
    have szD : dsz (stkD q1 q2 q3) ≤ 1000 := by
      obtain ⟨n1, e1, l1, _⟩ := hok.k1
      obtain ⟨n2, e2, l2, _⟩ := hok.k2
      obtain ⟨n3, e3, l3, _⟩ := hok.k3
      have f1 := congrArg List.length e1
      have f2 := congrArg List.length e2
      have f3 := congrArg List.length e3
      rw [List.length_map, List.length_map] at f1 f2 f3
      have z1 := pdat_sz q1 fun p hp => by obtain ⟨n, _, e⟩ := (key_ints e1).2 p hp; rw [e]; rfl
      have z2 := pdat_sz q2 fun p hp => by obtain ⟨n, _, e⟩ := (key_ints e2).2 p hp; rw [e]; rfl
      have z3 := pdat_sz q3 fun p hp => by obtain ⟨n, _, e⟩ := (key_strs e3).2 p hp; rw [e]; rfl
      show dsz (.tuple [.tuple (pdat q1), .tuple (pdat q2), .tuple (pdat q3)]) ≤ 1000
      simp [dsz, dsz.dszs]
      omega
    clear hok
    generalize stkD q1 q2 q3 = dS at htt eS sgood szD
    subst eS
    have sct := scan_txt (p := p) (by omega) w6
    have tln := txt_len p
    refine ⟨_, rfl, v, p, rfl, hat8, by omega, wB, by omega, fun Ha sa => ⟨_, _, _, rfl, ?_⟩⟩
    -- found
    refine ⟨_, rfl, (by show 2 ≤ sizeLine; decide), fun th hth => ?_⟩
    have sb := sa.trans (same_new (o := .tup [.ref ka, .str "num"]) hth)
    have eth : (upd Ha th (.tup [.ref ka, .str "num"])) th = some (.tup [.ref ka, .str "num"]) := upd_same
    generalize upd Ha th (.tup [.ref ka, .str "num"]) = Hb at sb eth
    have T : ∀ {H9 : Hp}, Same H8 H9 → Tp K H8 H9 := fun s => Tp.same s
    refine ⟨rfl, rfl, th, ka, ks, false, rfl, .inl (.inl eth), T sb _ _ hk8, hk3, fun Hc sc => ?_⟩
    have s8c := sb.trans sc
    refine ⟨_, rfl, _, rfl, rfl, rfl, ka, ks, v, p, rfl, T s8c _ _ hk8, hat8.keep (T s8c), hwk, by omega, fun Hd sd => ?_⟩
    have s8d := s8c.trans sd
    refine ⟨_, rfl, rfl, rfl, v, p, rfl, hat8.keep (T s8d), by omega, fun lk uk He se hlk0 hlk huk => ⟨(by show 3 ≤ sizeLine; decide), fun A1 hA1 => ?_⟩⟩
    have s8e := s8d.trans se
    have e1 : (upd He A1 (.lst [.bl true, .str (kS (own ks p)), .ref lk])) A1 = some (.lst [.bl true, .str (kS (own ks p)), .ref lk]) := upd_same
    have sf := same_new (o := .lst [.bl true, .str (kS (own ks p)), .ref lk]) hA1
    generalize upd He A1 (.lst [.bl true, .str (kS (own ks p)), .ref lk]) = Hf at e1 sf
    have cf := s8e.trans sf
    have hlk := sf _ _ hlk
    have huk := huk.keep (Tp.same (K := K) sf)
    clear sf hA1 hlk0 se s8d sd s8c sc sb eth hth s8e sa
    -- put, show, read by names
    refine ⟨_, rfl, _, rfl, _, rfl, rfl, rfl, v, p, t1, us1, ss1, rfl, hat8.keep (T cf), (S8.keep (T cf)).sq, (S8.keep (T cf)).ats, hlow, by omega, fun qv Hg sg hqv => ?_⟩
    have cg := cf.trans sg
    refine ⟨_, rfl, rfl, rfl, v, p, rfl, hat8.keep (T cg), by omega, wB, by omega, fun Hh sh => ?_⟩
    have ch := cg.trans sh
    refine ⟨_, rfl, rfl, rfl, txt p, rfl, by omega, fun p' hp' _ _ _ pv1 Hi si hpv => ?_, fun n hn => absurd (sct.symm.trans hn) (fun z => nomatch z)⟩
    have epp' : p' = p := by
      rw [sct] at hp'
      exact (kn_frt_inj (Scan.ok.inj hp')).symm
    subst epp'
    have ci := ch.trans si
    refine ⟨(by show 3 ≤ sizeLine; decide), fun A2 hA2 => ?_⟩
    have sj := same_new (o := .lst [qv, .str (txt p'), pv1]) hA2
    have e2 : (upd Hi A2 (.lst [qv, .str (txt p'), pv1])) A2 = some (.lst [qv, .str (txt p'), pv1]) := upd_same
    generalize upd Hi A2 (.lst [qv, .str (txt p'), pv1]) = Hj at sj e2
    have fj := (sg.trans sh).trans (si.trans sj)
    refine ⟨A1, A2, _, _, rfl, rfl, fj _ _ e1, e2, (by show 6 ≤ sizeLine; decide), fun A3 hA3 => ?_⟩
    have sk := same_new (o := .lst ([.bl true, .str (kS (own ks p')), .ref lk] ++ [qv, .str (txt p'), pv1])) hA3
    have e3 : (upd Hj A3 (.lst ([.bl true, .str (kS (own ks p')), .ref lk] ++ [qv, .str (txt p'), pv1]))) A3 = some (.lst ([.bl true, .str (kS (own ks p')), .ref lk] ++ [qv, .str (txt p'), pv1])) := upd_same
    generalize upd Hj A3 (.lst ([.bl true, .str (kS (own ks p')), .ref lk] ++ [qv, .str (txt p'), pv1])) = Hk at sk e3
    have ck := cf.trans (fj.trans sk)
    have hlk := (fj.trans sk) _ _ hlk
    have huk := huk.keep (Tp.same (K := K) (fj.trans sk))
    have hqv := hqv.keep (Tp.same (K := K) (sh.trans (si.trans (sj.trans sk))))
    have hpv := hpv.keep (Tp.same (K := K) (sj.trans sk))
    clear sk fj hA3 sj hA2 si sh sg cg ch ci e1 e2 cf hp'
    -- value, look_stock, weight by names
    refine ⟨_, rfl, _, rfl, _, rfl, rfl, rfl, v, p', tg, ug, ks, rfl, hat8.keep (T ck), T ck _ _ htg8, hkv, hwk, by omega, fun Hl sl => ?_⟩
    have cl := ck.trans sl
    refine ⟨_, rfl, rfl, rfl, .ref tt, S.D, rfl, htt.keep (T cl), szD, fun _ Hm sm => ?_, fun x n e => absurd (sgood.symm.trans e) (fun z => nomatch z)⟩
    have cm := cl.trans sm
    refine ⟨_, rfl, rfl, rfl, v, p', aS, tS, rfl, hat8.keep (T cm), by omega, ⟨told_flat, SG.t _⟩, tS_ok, fun Hn sn => ⟨(by show 3 ≤ sizeLine; decide), fun A4 hA4 => ?_⟩⟩
    have so := same_new (o := .lst [pval ug p', .bl true, optI (wtL tS (kn p'))]) hA4
    have e4 : (upd Hn A4 (.lst [pval ug p', .bl true, optI (wtL tS (kn p'))])) A4 = some (.lst [pval ug p', .bl true, optI (wtL tS (kn p'))]) := upd_same
    generalize upd Hn A4 (.lst [pval ug p', .bl true, optI (wtL tS (kn p'))]) = Ho at so e4
    have fo := (sl.trans sm).trans (sn.trans so)
    refine ⟨A3, A4, _, _, rfl, rfl, fo _ _ e3, e4, (by show 9 ≤ sizeLine; decide), fun A5 hA5 => ?_⟩
    have sp := same_new (o := .lst (([.bl true, .str (kS (own ks p')), .ref lk] ++ [qv, .str (txt p'), pv1]) ++ [pval ug p', .bl true, optI (wtL tS (kn p'))])) hA5
    have e5 : (upd Ho A5 (.lst (([.bl true, .str (kS (own ks p')), .ref lk] ++ [qv, .str (txt p'), pv1]) ++ [pval ug p', .bl true, optI (wtL tS (kn p'))]))) A5 = some (.lst [.bl true, .str (kS (own ks p')), .ref lk, qv, .str (txt p'), pv1, pval ug p', .bl true, optI (wtL tS (kn p'))]) := upd_same
    generalize upd Ho A5 (.lst (([.bl true, .str (kS (own ks p')), .ref lk] ++ [qv, .str (txt p'), pv1]) ++ [pval ug p', .bl true, optI (wtL tS (kn p'))])) = Hp at sp e5
    have fp := fo.trans sp
    have cp := ck.trans fp
    have kvy : Kv (own ks p') (pval ug p') := pval_kv hkv _ hwk
    have D1 : Dp K Hp (.ref A5) (allD ks p' (psub ss1 p') ug (wtL tS (kn p'))) := .lst (SqL.of e5) (.cons (.bl _) (.cons (.str _) (.cons (.lst (SqL.of (fp _ _ hlk)) (huk.keep (Tp.same fp))) (.cons (hqv.keep (Tp.same fp)) (.cons (.str _) (.cons (hpv.keep (Tp.same fp)) (.cons (kv_dp kvy) (.cons (.bl _) (.cons (oID_dp _) .nil)))))))))
    clear fo sp so hA5 hA4 sn sm sl cl cm e3 e4 ck hlk huk hqv hpv e5 fp
    -- by places
    refine ⟨_, rfl, (by show 2 ≤ sizeLine; decide), fun th hth => ?_⟩
    have sb := cp.trans (same_new (o := .tup [.ref ka, .str "num"]) hth)
    have pb := same_new (o := .tup [.ref ka, .str "num"]) hth
    have eth : (upd Hp th (.tup [.ref ka, .str "num"])) th = some (.tup [.ref ka, .str "num"]) := upd_same
    generalize upd Hp th (.tup [.ref ka, .str "num"]) = Hb at sb eth pb
    refine ⟨th, ka, ks, false, rfl, .inl (.inl eth), T sb _ _ hk8, hk3, fun Hc sc => ?_⟩
    have s8c := sb.trans sc
    refine ⟨_, rfl, _, rfl, ka, ks, v, p', rfl, T s8c _ _ hk8, hat8.keep (T s8c), hwk, by omega, fun Hd sd => ?_⟩
    have s8d := s8c.trans sd
    refine ⟨_, rfl, v, p', rfl, hat8.keep (T s8d), by omega, fun lk uk He se hlk0 hlk huk => ?_⟩
    have s8e := s8d.trans se
    refine ⟨_, rfl, _, rfl, v, p', t1, us1, ss1, rfl, hat8.keep (T s8e), (S8.keep (T s8e)).sq, (S8.keep (T s8e)).ats, hlow, by omega, fun qv Hg sg hqv => ⟨_, rfl, (by show 5 ≤ sizeLine; decide), fun A1 hA1 => ?_⟩⟩
    have e1 : (upd Hg A1 (.lst [.bl true, .str (kS (own ks p')), .ref lk, qv, .str (txt p')])) A1 = some (.lst [.bl true, .str (kS (own ks p')), .ref lk, qv, .str (txt p')]) := upd_same
    have sf := same_new (o := .lst [.bl true, .str (kS (own ks p')), .ref lk, qv, .str (txt p')]) hA1
    generalize upd Hg A1 (.lst [.bl true, .str (kS (own ks p')), .ref lk, qv, .str (txt p')]) = Hf at e1 sf
    have cf := s8e.trans (sg.trans sf)
    have pf := pb.trans (sc.trans (sd.trans (se.trans (sg.trans sf))))
    have hlk := (sg.trans sf) _ _ hlk
    have huk := huk.keep (Tp.same (K := K) (sg.trans sf))
    have hqv := hqv.keep (Tp.same (K := K) sf)
    clear sf hA1 hlk0 se s8d sd s8c sc sb eth hth s8e sg pb
    refine ⟨_, rfl, _, rfl, txt p', rfl, by omega, fun p2 hp2 _ _ _ pv2 Hi si hpv => ?_, fun n hn => absurd (sct.symm.trans hn) (fun z => nomatch z)⟩
    have epp' : p2 = p' := by
      rw [sct] at hp2
      exact (kn_frt_inj (Scan.ok.inj hp2)).symm
    rw [epp'] at hpv
    clear hp2
    have ci := cf.trans si
    refine ⟨_, rfl, _, rfl, v, p', tg, ug, ks, rfl, hat8.keep (T ci), T ci _ _ htg8, hkv, hwk, by omega, fun Hl sl => ?_⟩
    have cl := ci.trans sl
    refine ⟨_, rfl, .ref tt, S.D, rfl, htt.keep (T cl), szD, fun _ Hm sm => ?_, fun x n e => absurd (sgood.symm.trans e) (fun z => nomatch z)⟩
    have cm := cl.trans sm
    refine ⟨_, rfl, v, p', aS, tS, rfl, hat8.keep (T cm), by omega, ⟨told_flat, SG.t _⟩, tS_ok, fun Hn sn => ⟨(by show 4 ≤ sizeLine; decide), fun A4 hA4 => ?_⟩⟩
    have so := same_new (o := .lst [pv2, pval ug p', .bl true, optI (wtL tS (kn p'))]) hA4
    have e4 : (upd Hn A4 (.lst [pv2, pval ug p', .bl true, optI (wtL tS (kn p'))])) A4 = some (.lst [pv2, pval ug p', .bl true, optI (wtL tS (kn p'))]) := upd_same
    generalize upd Hn A4 (.lst [pv2, pval ug p', .bl true, optI (wtL tS (kn p'))]) = Ho at so e4
    have fo := si.trans ((sl.trans sm).trans (sn.trans so))
    refine ⟨A1, A4, _, _, rfl, rfl, fo _ _ e1, e4, (by show 9 ≤ sizeLine; decide), fun A6 hA6 => ?_⟩
    have sp := same_new (o := .lst ([.bl true, .str (kS (own ks p')), .ref lk, qv, .str (txt p')] ++ [pv2, pval ug p', .bl true, optI (wtL tS (kn p'))])) hA6
    have e6 : (upd Ho A6 (.lst ([.bl true, .str (kS (own ks p')), .ref lk, qv, .str (txt p')] ++ [pv2, pval ug p', .bl true, optI (wtL tS (kn p'))]))) A6 = some (.lst [.bl true, .str (kS (own ks p')), .ref lk, qv, .str (txt p'), pv2, pval ug p', .bl true, optI (wtL tS (kn p'))]) := upd_same
    generalize upd Ho A6 (.lst ([.bl true, .str (kS (own ks p')), .ref lk, qv, .str (txt p')] ++ [pv2, pval ug p', .bl true, optI (wtL tS (kn p'))])) = Hz at sp e6
    have fp := fo.trans sp
    have cz := cf.trans fp
    have D2 : Dp K Hz (.ref A6) (allD ks p' (psub ss1 p') ug (wtL tS (kn p'))) := .lst (SqL.of e6) (.cons (.bl _) (.cons (.str _) (.cons (.lst (SqL.of (fp _ _ hlk)) (huk.keep (Tp.same fp))) (.cons (hqv.keep (Tp.same fp)) (.cons (.str _) (.cons (hpv.keep (Tp.same (sl.trans (sm.trans (sn.trans (so.trans sp)))))) (.cons (kv_dp kvy) (.cons (.bl _) (.cons (oID_dp _) .nil)))))))))
    have D1 := dp_same (pf.trans fp) _ _ D1
    clear fo sp so hA6 hA4 sn sm sl cl cm e1 e4 hlk huk hqv hpv e6 fp pf cf ci si
    -- the same
    have dps : dep (psub ss1 p') ≤ 60 := by
      have h1 := dep_psub 4 ss1 (fun s hs => Nat.le_trans (dep_le s) (S8.each s hs).2) (by decide) p'
      have h2 := dep_le p'
      omega
    have dpp : dep p' ≤ 60 := by have := dep_le p'; omega
    have dpk : ∀ x ∈ kn p', dep x ≤ 60 := fun x hx => by
      have h1 := kn_le p' x hx
      have h2 := dep_le x
      omega
    have pl := allD_plain ks p' (psub ss1 p') ug (wtL tS (kn p'))
    refine ⟨_, rfl, _, rfl, _, _, D1, D2, pl, pl, allD_depth ks ug _ dpp dpk dps, _, rfl, ?_⟩
    rw [SeqAt.eqv_refl_plain _ pl]
    refine iteF ?_
    clear D1 D2 pl dps dpp dpk
    refine ⟨_, rfl, _, rfl, rfl, rfl, v, p', tt, S, rfl, hat8.keep (T cz), by omega, htt.keep (T cz), oS, fun Hb sb => ?_⟩
    have cb := cz.trans sb
    refine ⟨_, rfl, _, rfl, rfl, rfl, v, p', tt, S, rfl, hat8.keep (T cb), by omega, htt.keep (T cb), oS, fun Hc sc => ⟨opt_scal _, _, rfl, ?_⟩⟩
    rw [decide_eq_true rfl]
    refine iteF ?_
    have cc := cb.trans sc
    clear sc cb sb cz cp
    have gc : Gr [] f H8 Hc := gr_same fl8 cc
    have flc := gc.fl
    have hkc := T cc _ _ hk8
    have httc := htt.keep (T cc)
    -- first, last
    refine ⟨_, rfl, _, rfl, _, rfl, _, rfl, f, 7, rfl, flc, by decide, by decide, fun d Hd d0 d1 dr => ⟨_, _, rfl, rfl, ?_⟩⟩
    refine ⟨f, tt, ka, S, ks, false, 1 + d, 5, rfl, dr.fl, httc.keep (dr.tp flc), oS, dr.tp flc _ _ hkc, hk3, by omega, by omega, by decide, by decide, fun u1 He ge hu1 => ?_⟩
    have g1 := dr.gr.trans ge
    refine ⟨_, rfl, _, rfl, _, rfl, _, rfl, f, 7, rfl, g1.fl, by decide, by decide, fun d' Hf d0' d1' dr' => ⟨_, _, rfl, rfl, ?_⟩⟩
    have g2 := g1.trans dr'.gr
    refine ⟨f, tt, ka, S, ks, false, 1 + d', 5, rfl, g2.fl, httc.keep (g2.tp flc), oS, g2.tp flc _ _ hkc, hk3, by omega, by omega, by decide, by decide, fun u2 Hg gg hu2 => ?_⟩
    have g3 := g2.trans gg
    have t13 : Tp K He Hg := (dr'.tp g1.fl).trans (gg.tp g2.fl)
    have done : ∀ H9, Gr [] f H8 H9 → SqL K H9 a (ns.map V.int) := fun H9 g9 => ex_seq hf (fun b o z nb => g9.ex b o (ex8 b o z nb) nb) hS'
    have fin : ∀ H9, Gr [] f Hc H9 → SqL K H9 a (ns.map V.int) := fun H9 g9 => done H9 (gc.trans g9)
    refine ⟨_, rfl, rfl, _, rfl, ?_⟩
    rcases hu1 with rfl | ⟨x1, ax1, ox1, _, sx1⟩
    · exact iteF ⟨⟨_, rfl, rfl⟩, fin _ g3⟩
    have n1 : u1 ≠ .non := fun z => by
      rw [z] at ax1
      cases x1 <;> cases ax1
    show if (!decide (u1 = .non)) = true then _ else _
    rw [decide_eq_false n1]
    refine iteT ⟨_, rfl, rfl, _, rfl, ?_⟩
    rcases hu2 with rfl | ⟨x2, ax2, ox2, _, sx2⟩
    · exact iteF ⟨⟨_, rfl, rfl⟩, fin _ g3⟩
    have n2 : u2 ≠ .non := fun z => by
      rw [z] at ax2
      cases x2 <;> cases ax2
    show if (!decide (u2 = .non)) = true then _ else _
    rw [decide_eq_false n2]
    refine iteT ?_
    have ax1 := ax1.keep t13
    have htg3 := httc.keep (g3.tp flc)
    refine ⟨_, rfl, _, rfl, _, rfl, rfl, rfl, u1, u2, x1, x2, tt, S, rfl, ax1, by omega, ax2, by omega, htg3, oS, ox1.2, ox2.2, fun Hh sh => ?_⟩
    have tph := Tp.same (K := K) sh
    refine ⟨_, rfl, _, rfl, _, rfl, _, rfl, rfl, rfl, u1, u2, x1, x2, tt, S, rfl, ax1.keep tph, by omega, ax2.keep tph, by omega, htg3.keep tph, oS, ox1.2, ox2.2, fun Hi si => ⟨rfl, _, rfl, ?_⟩⟩
    generalize ltO (ordP S x1) (ordP S x2) = ow
    have same : (!decide (V.bl ow = V.bl ow)) = false := by rw [decide_eq_true rfl]; rfl
    show if (!decide (V.bl ow = V.bl ow)) = true then _ else _
    rw [same]
    exact iteF ⟨⟨_, rfl, rfl⟩, fin _ (g3.trans (gr_same g3.fl (sh.trans si)))⟩
  · rintro σ' H' _
    exact q _
end
end Lm

set_option Elab.async false
set_option linter.all false
set_option maxRecDepth 100000
set_option maxHeartbeats 2000000
namespace Lm
open PySem PySem.Spec PyProof.Rows L2 LmR
theorem defAt_mk {K : PySem.W.Frag} {h : Heap} {mg : Str → Option Value} {x : Str} {st : Stmt} {ps : List Str} {f : Addr} {oc : Value} {od an : Option Addr} {osl : Array (Option Value)} {kV doc pm cdv ct : Value} (X : K.In h) (G : h.Ns mainGlobals mg)
    (a : PySem.W.nsIn K mainGlobals x = some (some (.ref f))) (l : K.lookup f = some ⟨oc, od, .func (PySem.W.fnOf x x (defArgs st) (defBody st) (defScope st) .none kV doc pm an cdv ct), osl⟩) (c : PySem.W.codeIn K cdv x = true) (k : PySem.W.keepIn K (.ref f) = true)
    (hb : ∀ (kV doc pm : Value) (an : Option Addr) (cdv ct : Value) (us : List Value), us.length = ps.length → bindArgs (PySem.W.fnOf x x (defArgs st) (defBody st) (defScope st) .none kV doc pm an cdv ct) ⟨us, []⟩ = pure (ps.zip us)) : DefAt K mg x st ps :=
  ⟨f, _, fun_mk l c k, (fun_mk l c k).binds hb, PySem.W.mg_of X G a⟩
theorem all_mk {l : PySem.W.OpenLaw} {w : World} {K : PySem.W.Frag} {h : Heap} {mg : Str → Option Value} {fa : Addr} (X : K.In h) (G : h.Ns mainGlobals mg) (hfa : mg "law" = some (.ref fa))
    {f0 : Addr} {od0 an0 : Option Addr} {sl0 : Array (Option Value)} {oc0 kV0 dc0 pm0 cd0 ct0 : Value} {f1 : Addr} {od1 an1 : Option Addr} {sl1 : Array (Option Value)} {oc1 kV1 dc1 pm1 cd1 ct1 : Value} {f2 : Addr} {od2 an2 : Option Addr} {sl2 : Array (Option Value)} {oc2 kV2 dc2 pm2 cd2 ct2 : Value} {f3 : Addr} {od3 an3 : Option Addr} {sl3 : Array (Option Value)} {oc3 kV3 dc3 pm3 cd3 ct3 : Value} {f4 : Addr} {od4 an4 : Option Addr} {sl4 : Array (Option Value)} {oc4 kV4 dc4 pm4 cd4 ct4 : Value} {f5 : Addr} {od5 an5 : Option Addr} {sl5 : Array (Option Value)} {oc5 kV5 dc5 pm5 cd5 ct5 : Value} {f6 : Addr} {od6 an6 : Option Addr} {sl6 : Array (Option Value)} {oc6 kV6 dc6 pm6 cd6 ct6 : Value} {f7 : Addr} {od7 an7 : Option Addr} {sl7 : Array (Option Value)} {oc7 kV7 dc7 pm7 cd7 ct7 : Value} {f8 : Addr} {od8 an8 : Option Addr} {sl8 : Array (Option Value)} {oc8 kV8 dc8 pm8 cd8 ct8 : Value} {f9 : Addr} {od9 an9 : Option Addr} {sl9 : Array (Option Value)} {oc9 kV9 dc9 pm9 cd9 ct9 : Value} {f10 : Addr} {od10 an10 : Option Addr} {sl10 : Array (Option Value)} {oc10 kV10 dc10 pm10 cd10 ct10 : Value} {f11 : Addr} {od11 an11 : Option Addr} {sl11 : Array (Option Value)} {oc11 kV11 dc11 pm11 cd11 ct11 : Value} {f12 : Addr} {od12 an12 : Option Addr} {sl12 : Array (Option Value)} {oc12 kV12 dc12 pm12 cd12 ct12 : Value} {f13 : Addr} {od13 an13 : Option Addr} {sl13 : Array (Option Value)} {oc13 kV13 dc13 pm13 cd13 ct13 : Value} {f14 : Addr} {od14 an14 : Option Addr} {sl14 : Array (Option Value)} {oc14 kV14 dc14 pm14 cd14 ct14 : Value} {f15 : Addr} {od15 an15 : Option Addr} {sl15 : Array (Option Value)} {oc15 kV15 dc15 pm15 cd15 ct15 : Value} {f16 : Addr} {od16 an16 : Option Addr} {sl16 : Array (Option Value)} {oc16  dc16 pm16 cd16 ct16 : Value} {kD16 : Addr} {f17 : Addr} {od17 an17 : Option Addr} {sl17 : Array (Option Value)} {oc17  dc17 pm17 cd17 ct17 : Value} {kD17 : Addr} {f18 : Addr} {od18 an18 : Option Addr} {sl18 : Array (Option Value)} {oc18 kV18 dc18 pm18 cd18 ct18 : Value} {f19 : Addr} {od19 an19 : Option Addr} {sl19 : Array (Option Value)} {oc19 kV19 dc19 pm19 cd19 ct19 : Value} {f20 : Addr} {od20 an20 : Option Addr} {sl20 : Array (Option Value)} {oc20 kV20 dc20 pm20 cd20 ct20 : Value} {f21 : Addr} {od21 an21 : Option Addr} {sl21 : Array (Option Value)} {oc21 kV21 dc21 pm21 cd21 ct21 : Value} {f22 : Addr} {od22 an22 : Option Addr} {sl22 : Array (Option Value)} {oc22 kV22 dc22 pm22 cd22 ct22 : Value} {f23 : Addr} {od23 an23 : Option Addr} {sl23 : Array (Option Value)} {oc23 kV23 dc23 pm23 cd23 ct23 : Value} {f24 : Addr} {od24 an24 : Option Addr} {sl24 : Array (Option Value)} {oc24 kV24 dc24 pm24 cd24 ct24 : Value} {f25 : Addr} {od25 an25 : Option Addr} {sl25 : Array (Option Value)} {oc25 kV25 dc25 pm25 cd25 ct25 : Value} {f26 : Addr} {od26 an26 : Option Addr} {sl26 : Array (Option Value)} {oc26 kV26 dc26 pm26 cd26 ct26 : Value} {f27 : Addr} {od27 an27 : Option Addr} {sl27 : Array (Option Value)} {oc27 kV27 dc27 pm27 cd27 ct27 : Value} {f28 : Addr} {od28 an28 : Option Addr} {sl28 : Array (Option Value)} {oc28 kV28 dc28 pm28 cd28 ct28 : Value} {f29 : Addr} {od29 an29 : Option Addr} {sl29 : Array (Option Value)} {oc29 kV29 dc29 pm29 cd29 ct29 : Value} {f30 : Addr} {od30 an30 : Option Addr} {sl30 : Array (Option Value)} {oc30 kV30 dc30 pm30 cd30 ct30 : Value} {f31 : Addr} {od31 an31 : Option Addr} {sl31 : Array (Option Value)} {oc31 kV31 dc31 pm31 cd31 ct31 : Value} {f32 : Addr} {od32 an32 : Option Addr} {sl32 : Array (Option Value)} {oc32 kV32 dc32 pm32 cd32 ct32 : Value} {f33 : Addr} {od33 an33 : Option Addr} {sl33 : Array (Option Value)} {oc33 kV33 dc33 pm33 cd33 ct33 : Value} {f34 : Addr} {od34 an34 : Option Addr} {sl34 : Array (Option Value)} {oc34 kV34 dc34 pm34 cd34 ct34 : Value} {f35 : Addr} {od35 an35 : Option Addr} {sl35 : Array (Option Value)} {oc35 kV35 dc35 pm35 cd35 ct35 : Value} {f36 : Addr} {od36 an36 : Option Addr} {sl36 : Array (Option Value)} {oc36 kV36 dc36 pm36 cd36 ct36 : Value} {f37 : Addr} {od37 an37 : Option Addr} {sl37 : Array (Option Value)} {oc37 kV37 dc37 pm37 cd37 ct37 : Value} {f38 : Addr} {od38 an38 : Option Addr} {sl38 : Array (Option Value)} {oc38 kV38 dc38 pm38 cd38 ct38 : Value} {f39 : Addr} {od39 an39 : Option Addr} {sl39 : Array (Option Value)} {oc39 kV39 dc39 pm39 cd39 ct39 : Value} {f40 : Addr} {od40 an40 : Option Addr} {sl40 : Array (Option Value)} {oc40 kV40 dc40 pm40 cd40 ct40 : Value} {f41 : Addr} {od41 an41 : Option Addr} {sl41 : Array (Option Value)} {oc41 kV41 dc41 pm41 cd41 ct41 : Value} {f42 : Addr} {od42 an42 : Option Addr} {sl42 : Array (Option Value)} {oc42 kV42 dc42 pm42 cd42 ct42 : Value} {f43 : Addr} {od43 an43 : Option Addr} {sl43 : Array (Option Value)} {oc43 kV43 dc43 pm43 cd43 ct43 : Value} {f44 : Addr} {od44 an44 : Option Addr} {sl44 : Array (Option Value)} {oc44 kV44 dc44 pm44 cd44 ct44 : Value} {f45 : Addr} {od45 an45 : Option Addr} {sl45 : Array (Option Value)} {oc45 kV45 dc45 pm45 cd45 ct45 : Value} {f46 : Addr} {od46 an46 : Option Addr} {sl46 : Array (Option Value)} {oc46 kV46 dc46 pm46 cd46 ct46 : Value} {f47 : Addr} {od47 an47 : Option Addr} {sl47 : Array (Option Value)} {oc47 kV47 dc47 pm47 cd47 ct47 : Value} {dF : Addr} {esF : Array DictEntry} {nF : Nat} {t0 u0 : Addr} {dt0 du0 : Option Addr} {st0 su0 : Array (Option Value)} {nt0 nu0 : Nat} {q0_0 : Tok} {t1 u1 : Addr} {dt1 du1 : Option Addr} {st1 su1 : Array (Option Value)} {nt1 nu1 : Nat} {q0_1 q1_1 : Tok} {t2 u2 : Addr} {dt2 du2 : Option Addr} {st2 su2 : Array (Option Value)} {nt2 nu2 : Nat} {q0_2 q1_2 : Tok} {t3 u3 : Addr} {dt3 du3 : Option Addr} {st3 su3 : Array (Option Value)} {nt3 nu3 : Nat} {q0_3 q1_3 : Tok} {t4 u4 : Addr} {dt4 du4 : Option Addr} {st4 su4 : Array (Option Value)} {nt4 nu4 : Nat} {q0_4 q1_4 q2_4 : Tok} {t5 u5 : Addr} {dt5 du5 : Option Addr} {st5 su5 : Array (Option Value)} {nt5 nu5 : Nat} {q0_5 q1_5 q2_5 q3_5 : Tok} {t6 u6 : Addr} {dt6 du6 : Option Addr} {st6 su6 : Array (Option Value)} {nt6 nu6 : Nat} {q0_6 q1_6 q2_6 q3_6 : Tok} {t7 u7 : Addr} {dt7 du7 : Option Addr} {st7 su7 : Array (Option Value)} {nt7 nu7 : Nat} {q0_7 q1_7 q2_7 q3_7 : Tok} {t8 u8 : Addr} {dt8 du8 : Option Addr} {st8 su8 : Array (Option Value)} {nt8 nu8 : Nat} {q0_8 q1_8 q2_8 : Tok} {t9 u9 : Addr} {dt9 du9 : Option Addr} {st9 su9 : Array (Option Value)} {nt9 nu9 : Nat} {q0_9 q1_9 q2_9 q3_9 : Tok} {t10 u10 : Addr} {dt10 du10 : Option Addr} {st10 su10 : Array (Option Value)} {nt10 nu10 : Nat} {q0_10 q1_10 q2_10 q3_10 : Tok} {t11 u11 : Addr} {dt11 du11 : Option Addr} {st11 su11 : Array (Option Value)} {nt11 nu11 : Nat} {q0_11 q2_11 : Tok} {tk_MOST_KNOTS : Tok} {tk_MOST_FIGURES : Tok} {tk_FIGURES : Tok} {c_NoText i_NoText u_NoText N_NoText : Addr} {nm_NoText qn_NoText : Str} {bs_NoText sub_NoText : List Value} {sn_NoText : List Str} {ab_NoText : Bool} {col_NoText : Option Bool} {dd_NoText od_NoText an_NoText : Option Addr} {m0_NoText m1_NoText m2_NoText m3_NoText m5_NoText : Option Value} {osl_NoText : Array (Option Value)} {oc_NoText kV_NoText doc_NoText pm_NoText cdv_NoText ct_NoText : Value} {c_NoStock i_NoStock u_NoStock N_NoStock : Addr} {nm_NoStock qn_NoStock : Str} {bs_NoStock sub_NoStock : List Value} {sn_NoStock : List Str} {ab_NoStock : Bool} {col_NoStock : Option Bool} {dd_NoStock od_NoStock an_NoStock : Option Addr} {m0_NoStock m1_NoStock m2_NoStock m3_NoStock m5_NoStock : Option Value} {osl_NoStock : Array (Option Value)} {oc_NoStock kV_NoStock doc_NoStock pm_NoStock cdv_NoStock ct_NoStock : Value} {aK : Addr} {dK : Option Addr} {nK : Nat} {slK : Array (Option Value)} {tK1 tK2 : Tok} {aPT0 : Addr} {aPTd0 : Option Addr} {aPTn0 : Nat} {aPTs0 : Array (Option Value)} {aPTt0_0 aPTt0_1 aPTt0_2 : Tok} {aWD0 : Addr} {aWDd0 : Option Addr} {aWDn0 : Nat} {aWDs0 : Array (Option Value)} {aWDt0_0 aWDt0_1 aWDt0_2 aWDt0_3 aWDt0_4 aWDt0_5 aWDt0_6 aWDt0_7 aWDt0_8 : Tok} {aSK2 : Addr} {aSKd2 : Option Addr} {aSKn2 : Nat} {aSKs2 : Array (Option Value)} {aSKt2_0 aSKt2_1 : Tok} {aSK3 : Addr} {aSKd3 : Option Addr} {aSKn3 : Nat} {aSKs3 : Array (Option Value)} {aSKt3_0 aSKt3_1 : Tok} {aSK1 : Addr} {aSKd1 : Option Addr} {aSKn1 : Nat} {aSKs1 : Array (Option Value)} {aSK5 : Addr} {aSKd5 : Option Addr} {aSKn5 : Nat} {aSKs5 : Array (Option Value)} {aSKt5_0 aSKt5_1 : Tok} {aSK6 : Addr} {aSKd6 : Option Addr} {aSKn6 : Nat} {aSKs6 : Array (Option Value)} {aSKt6_0 aSKt6_1 : Tok} {aSK4 : Addr} {aSKd4 : Option Addr} {aSKn4 : Nat} {aSKs4 : Array (Option Value)} {aSK8 : Addr} {aSKd8 : Option Addr} {aSKn8 : Nat} {aSKs8 : Array (Option Value)} {aSKt8_0 aSKt8_1 : Tok} {aSK9 : Addr} {aSKd9 : Option Addr} {aSKn9 : Nat} {aSKs9 : Array (Option Value)} {aSKt9_0 aSKt9_1 : Tok} {aSK10 : Addr} {aSKd10 : Option Addr} {aSKn10 : Nat} {aSKs10 : Array (Option Value)} {aSKt10_0 aSKt10_1 : Tok} {aSK11 : Addr} {aSKd11 : Option Addr} {aSKn11 : Nat} {aSKs11 : Array (Option Value)} {aSKt11_0 aSKt11_1 : Tok} {aSK7 : Addr} {aSKd7 : Option Addr} {aSKn7 : Nat} {aSKs7 : Array (Option Value)} {aSK0 : Addr} {aSKd0 : Option Addr} {aSKn0 : Nat} {aSKs0 : Array (Option Value)}
    (a0 : PySem.W.nsIn K mainGlobals "look_head" = some (some (.ref f0))) (l0 : K.lookup f0 = some ⟨oc0, od0, .func (PySem.W.fnOf "look_head" "look_head" (defArgs s_look_head) (defBody s_look_head) (defScope s_look_head) .none kV0 dc0 pm0 an0 cd0 ct0), sl0⟩) (c0 : PySem.W.codeIn K cd0 "look_head" = true) (k0 : PySem.W.keepIn K (.ref f0) = true)
    (a1 : PySem.W.nsIn K mainGlobals "kind_of" = some (some (.ref f1))) (l1 : K.lookup f1 = some ⟨oc1, od1, .func (PySem.W.fnOf "kind_of" "kind_of" (defArgs s_kind_of) (defBody s_kind_of) (defScope s_kind_of) .none kV1 dc1 pm1 an1 cd1 ct1), sl1⟩) (c1 : PySem.W.codeIn K cd1 "kind_of" = true) (k1 : PySem.W.keepIn K (.ref f1) = true)
    (a2 : PySem.W.nsIn K mainGlobals "knots" = some (some (.ref f2))) (l2 : K.lookup f2 = some ⟨oc2, od2, .func (PySem.W.fnOf "knots" "knots" (defArgs s_knots) (defBody s_knots) (defScope s_knots) .none kV2 dc2 pm2 an2 cd2 ct2), sl2⟩) (c2 : PySem.W.codeIn K cd2 "knots" = true) (k2 : PySem.W.keepIn K (.ref f2) = true)
    (a3 : PySem.W.nsIn K mainGlobals "put" = some (some (.ref f3))) (l3 : K.lookup f3 = some ⟨oc3, od3, .func (PySem.W.fnOf "put" "put" (defArgs s_put) (defBody s_put) (defScope s_put) .none kV3 dc3 pm3 an3 cd3 ct3), sl3⟩) (c3 : PySem.W.codeIn K cd3 "put" = true) (k3 : PySem.W.keepIn K (.ref f3) = true)
    (a4 : PySem.W.nsIn K mainGlobals "is_whole" = some (some (.ref f4))) (l4 : K.lookup f4 = some ⟨oc4, od4, .func (PySem.W.fnOf "is_whole" "is_whole" (defArgs s_is_whole) (defBody s_is_whole) (defScope s_is_whole) .none kV4 dc4 pm4 an4 cd4 ct4), sl4⟩) (c4 : PySem.W.codeIn K cd4 "is_whole" = true) (k4 : PySem.W.keepIn K (.ref f4) = true)
    (a5 : PySem.W.nsIn K mainGlobals "has_form" = some (some (.ref f5))) (l5 : K.lookup f5 = some ⟨oc5, od5, .func (PySem.W.fnOf "has_form" "has_form" (defArgs s_has_form) (defBody s_has_form) (defScope s_has_form) .none kV5 dc5 pm5 an5 cd5 ct5), sl5⟩) (c5 : PySem.W.codeIn K cd5 "has_form" = true) (k5 : PySem.W.keepIn K (.ref f5) = true)
    (a6 : PySem.W.nsIn K mainGlobals "many_numbers" = some (some (.ref f6))) (l6 : K.lookup f6 = some ⟨oc6, od6, .func (PySem.W.fnOf "many_numbers" "many_numbers" (defArgs s_many_numbers) (defBody s_many_numbers) (defScope s_many_numbers) .none kV6 dc6 pm6 an6 cd6 ct6), sl6⟩) (c6 : PySem.W.codeIn K cd6 "many_numbers" = true) (k6 : PySem.W.keepIn K (.ref f6) = true)
    (a7 : PySem.W.nsIn K mainGlobals "many_parts" = some (some (.ref f7))) (l7 : K.lookup f7 = some ⟨oc7, od7, .func (PySem.W.fnOf "many_parts" "many_parts" (defArgs s_many_parts) (defBody s_many_parts) (defScope s_many_parts) .none kV7 dc7 pm7 an7 cd7 ct7), sl7⟩) (c7 : PySem.W.codeIn K cd7 "many_parts" = true) (k7 : PySem.W.keepIn K (.ref f7) = true)
    (a8 : PySem.W.nsIn K mainGlobals "front_of" = some (some (.ref f8))) (l8 : K.lookup f8 = some ⟨oc8, od8, .func (PySem.W.fnOf "front_of" "front_of" (defArgs s_front_of) (defBody s_front_of) (defScope s_front_of) .none kV8 dc8 pm8 an8 cd8 ct8), sl8⟩) (c8 : PySem.W.codeIn K cd8 "front_of" = true) (k8 : PySem.W.keepIn K (.ref f8) = true)
    (a9 : PySem.W.nsIn K mainGlobals "parts_of" = some (some (.ref f9))) (l9 : K.lookup f9 = some ⟨oc9, od9, .func (PySem.W.fnOf "parts_of" "parts_of" (defArgs s_parts_of) (defBody s_parts_of) (defScope s_parts_of) .none kV9 dc9 pm9 an9 cd9 ct9), sl9⟩) (c9 : PySem.W.codeIn K cd9 "parts_of" = true) (k9 : PySem.W.keepIn K (.ref f9) = true)
    (a10 : PySem.W.nsIn K mainGlobals "taken" = some (some (.ref f10))) (l10 : K.lookup f10 = some ⟨oc10, od10, .func (PySem.W.fnOf "taken" "taken" (defArgs s_taken) (defBody s_taken) (defScope s_taken) .none kV10 dc10 pm10 an10 cd10 ct10), sl10⟩) (c10 : PySem.W.codeIn K cd10 "taken" = true) (k10 : PySem.W.keepIn K (.ref f10) = true)
    (a11 : PySem.W.nsIn K mainGlobals "refuse_forms" = some (some (.ref f11))) (l11 : K.lookup f11 = some ⟨oc11, od11, .func (PySem.W.fnOf "refuse_forms" "refuse_forms" (defArgs s_refuse_forms) (defBody s_refuse_forms) (defScope s_refuse_forms) .none kV11 dc11 pm11 an11 cd11 ct11), sl11⟩) (c11 : PySem.W.codeIn K cd11 "refuse_forms" = true) (k11 : PySem.W.keepIn K (.ref f11) = true)
    (a12 : PySem.W.nsIn K mainGlobals "refuse_inputs" = some (some (.ref f12))) (l12 : K.lookup f12 = some ⟨oc12, od12, .func (PySem.W.fnOf "refuse_inputs" "refuse_inputs" (defArgs s_refuse_inputs) (defBody s_refuse_inputs) (defScope s_refuse_inputs) .none kV12 dc12 pm12 an12 cd12 ct12), sl12⟩) (c12 : PySem.W.codeIn K cd12 "refuse_inputs" = true) (k12 : PySem.W.keepIn K (.ref f12) = true)
    (a13 : PySem.W.nsIn K mainGlobals "parts_fit" = some (some (.ref f13))) (l13 : K.lookup f13 = some ⟨oc13, od13, .func (PySem.W.fnOf "parts_fit" "parts_fit" (defArgs s_parts_fit) (defBody s_parts_fit) (defScope s_parts_fit) .none kV13 dc13 pm13 an13 cd13 ct13), sl13⟩) (c13 : PySem.W.codeIn K cd13 "parts_fit" = true) (k13 : PySem.W.keepIn K (.ref f13) = true)
    (a14 : PySem.W.nsIn K mainGlobals "own_kind" = some (some (.ref f14))) (l14 : K.lookup f14 = some ⟨oc14, od14, .func (PySem.W.fnOf "own_kind" "own_kind" (defArgs s_own_kind) (defBody s_own_kind) (defScope s_own_kind) .none kV14 dc14 pm14 an14 cd14 ct14), sl14⟩) (c14 : PySem.W.codeIn K cd14 "own_kind" = true) (k14 : PySem.W.keepIn K (.ref f14) = true)
    (a15 : PySem.W.nsIn K mainGlobals "look_stock" = some (some (.ref f15))) (l15 : K.lookup f15 = some ⟨oc15, od15, .func (PySem.W.fnOf "look_stock" "look_stock" (defArgs s_look_stock) (defBody s_look_stock) (defScope s_look_stock) .none kV15 dc15 pm15 an15 cd15 ct15), sl15⟩) (c15 : PySem.W.codeIn K cd15 "look_stock" = true) (k15 : PySem.W.keepIn K (.ref f15) = true)
    (a16 : PySem.W.nsIn K mainGlobals "weight" = some (some (.ref f16))) (l16 : K.lookup f16 = some ⟨oc16, od16, .func (PySem.W.fnOf "weight" "weight" (defArgs s_weight) (defBody s_weight) (defScope s_weight) .none (.ref kD16) dc16 pm16 an16 cd16 ct16), sl16⟩) (c16 : PySem.W.codeIn K cd16 "weight" = true) (k16 : PySem.W.keepIn K (.ref f16) = true)
    (kd16 : PySem.W.nsIn K kD16 "stock" = some (some (.ref aSK0)))
    (a17 : PySem.W.nsIn K mainGlobals "comes_first" = some (some (.ref f17))) (l17 : K.lookup f17 = some ⟨oc17, od17, .func (PySem.W.fnOf "comes_first" "comes_first" (defArgs s_comes_first) (defBody s_comes_first) (defScope s_comes_first) .none (.ref kD17) dc17 pm17 an17 cd17 ct17), sl17⟩) (c17 : PySem.W.codeIn K cd17 "comes_first" = true) (k17 : PySem.W.keepIn K (.ref f17) = true)
    (kd17 : PySem.W.nsIn K kD17 "stock" = some (some (.ref aSK0)))
    (a18 : PySem.W.nsIn K mainGlobals "order_of" = some (some (.ref f18))) (l18 : K.lookup f18 = some ⟨oc18, od18, .func (PySem.W.fnOf "order_of" "order_of" (defArgs s_order_of) (defBody s_order_of) (defScope s_order_of) .none kV18 dc18 pm18 an18 cd18 ct18), sl18⟩) (c18 : PySem.W.codeIn K cd18 "order_of" = true) (k18 : PySem.W.keepIn K (.ref f18) = true)
    (a19 : PySem.W.nsIn K mainGlobals "standing_of" = some (some (.ref f19))) (l19 : K.lookup f19 = some ⟨oc19, od19, .func (PySem.W.fnOf "standing_of" "standing_of" (defArgs s_standing_of) (defBody s_standing_of) (defScope s_standing_of) .none kV19 dc19 pm19 an19 cd19 ct19), sl19⟩) (c19 : PySem.W.codeIn K cd19 "standing_of" = true) (k19 : PySem.W.keepIn K (.ref f19) = true)
    (a20 : PySem.W.nsIn K mainGlobals "place_of" = some (some (.ref f20))) (l20 : K.lookup f20 = some ⟨oc20, od20, .func (PySem.W.fnOf "place_of" "place_of" (defArgs s_place_of) (defBody s_place_of) (defScope s_place_of) .none kV20 dc20 pm20 an20 cd20 ct20), sl20⟩) (c20 : PySem.W.codeIn K cd20 "place_of" = true) (k20 : PySem.W.keepIn K (.ref f20) = true)
    (a21 : PySem.W.nsIn K mainGlobals "is_triple" = some (some (.ref f21))) (l21 : K.lookup f21 = some ⟨oc21, od21, .func (PySem.W.fnOf "is_triple" "is_triple" (defArgs s_is_triple) (defBody s_is_triple) (defScope s_is_triple) .none kV21 dc21 pm21 an21 cd21 ct21), sl21⟩) (c21 : PySem.W.codeIn K cd21 "is_triple" = true) (k21 : PySem.W.keepIn K (.ref f21) = true)
    (a22 : PySem.W.nsIn K mainGlobals "are_pairs" = some (some (.ref f22))) (l22 : K.lookup f22 = some ⟨oc22, od22, .func (PySem.W.fnOf "are_pairs" "are_pairs" (defArgs s_are_pairs) (defBody s_are_pairs) (defScope s_are_pairs) .none kV22 dc22 pm22 an22 cd22 ct22), sl22⟩) (c22 : PySem.W.codeIn K cd22 "are_pairs" = true) (k22 : PySem.W.keepIn K (.ref f22) = true)
    (a23 : PySem.W.nsIn K mainGlobals "is_pair" = some (some (.ref f23))) (l23 : K.lookup f23 = some ⟨oc23, od23, .func (PySem.W.fnOf "is_pair" "is_pair" (defArgs s_is_pair) (defBody s_is_pair) (defScope s_is_pair) .none kV23 dc23 pm23 an23 cd23 ct23), sl23⟩) (c23 : PySem.W.codeIn K cd23 "is_pair" = true) (k23 : PySem.W.keepIn K (.ref f23) = true)
    (a24 : PySem.W.nsIn K mainGlobals "first_amiss" = some (some (.ref f24))) (l24 : K.lookup f24 = some ⟨oc24, od24, .func (PySem.W.fnOf "first_amiss" "first_amiss" (defArgs s_first_amiss) (defBody s_first_amiss) (defScope s_first_amiss) .none kV24 dc24 pm24 an24 cd24 ct24), sl24⟩) (c24 : PySem.W.codeIn K cd24 "first_amiss" = true) (k24 : PySem.W.keepIn K (.ref f24) = true)
    (a25 : PySem.W.nsIn K mainGlobals "may_stand" = some (some (.ref f25))) (l25 : K.lookup f25 = some ⟨oc25, od25, .func (PySem.W.fnOf "may_stand" "may_stand" (defArgs s_may_stand) (defBody s_may_stand) (defScope s_may_stand) .none kV25 dc25 pm25 an25 cd25 ct25), sl25⟩) (c25 : PySem.W.codeIn K cd25 "may_stand" = true) (k25 : PySem.W.keepIn K (.ref f25) = true)
    (a26 : PySem.W.nsIn K mainGlobals "value" = some (some (.ref f26))) (l26 : K.lookup f26 = some ⟨oc26, od26, .func (PySem.W.fnOf "value" "value" (defArgs s_value) (defBody s_value) (defScope s_value) .none kV26 dc26 pm26 an26 cd26 ct26), sl26⟩) (c26 : PySem.W.codeIn K cd26 "value" = true) (k26 : PySem.W.keepIn K (.ref f26) = true)
    (a27 : PySem.W.nsIn K mainGlobals "knot_value" = some (some (.ref f27))) (l27 : K.lookup f27 = some ⟨oc27, od27, .func (PySem.W.fnOf "knot_value" "knot_value" (defArgs s_knot_value) (defBody s_knot_value) (defScope s_knot_value) .none kV27 dc27 pm27 an27 cd27 ct27), sl27⟩) (c27 : PySem.W.codeIn K cd27 "knot_value" = true) (k27 : PySem.W.keepIn K (.ref f27) = true)
    (a28 : PySem.W.nsIn K mainGlobals "show" = some (some (.ref f28))) (l28 : K.lookup f28 = some ⟨oc28, od28, .func (PySem.W.fnOf "show" "show" (defArgs s_show) (defBody s_show) (defScope s_show) .none kV28 dc28 pm28 an28 cd28 ct28), sl28⟩) (c28 : PySem.W.codeIn K cd28 "show" = true) (k28 : PySem.W.keepIn K (.ref f28) = true)
    (a29 : PySem.W.nsIn K mainGlobals "read" = some (some (.ref f29))) (l29 : K.lookup f29 = some ⟨oc29, od29, .func (PySem.W.fnOf "read" "read" (defArgs s_read) (defBody s_read) (defScope s_read) .none kV29 dc29 pm29 an29 cd29 ct29), sl29⟩) (c29 : PySem.W.codeIn K cd29 "read" = true) (k29 : PySem.W.keepIn K (.ref f29) = true)
    (a30 : PySem.W.nsIn K mainGlobals "front_at" = some (some (.ref f30))) (l30 : K.lookup f30 = some ⟨oc30, od30, .func (PySem.W.fnOf "front_at" "front_at" (defArgs s_front_at) (defBody s_front_at) (defScope s_front_at) .none kV30 dc30 pm30 an30 cd30 ct30), sl30⟩) (c30 : PySem.W.codeIn K cd30 "front_at" = true) (k30 : PySem.W.keepIn K (.ref f30) = true)
    (a31 : PySem.W.nsIn K mainGlobals "is_number" = some (some (.ref f31))) (l31 : K.lookup f31 = some ⟨oc31, od31, .func (PySem.W.fnOf "is_number" "is_number" (defArgs s_is_number) (defBody s_is_number) (defScope s_is_number) .none kV31 dc31 pm31 an31 cd31 ct31), sl31⟩) (c31 : PySem.W.codeIn K cd31 "is_number" = true) (k31 : PySem.W.keepIn K (.ref f31) = true)
    (a32 : PySem.W.nsIn K mainGlobals "built" = some (some (.ref f32))) (l32 : K.lookup f32 = some ⟨oc32, od32, .func (PySem.W.fnOf "built" "built" (defArgs s_built) (defBody s_built) (defScope s_built) .none kV32 dc32 pm32 an32 cd32 ct32), sl32⟩) (c32 : PySem.W.codeIn K cd32 "built" = true) (k32 : PySem.W.keepIn K (.ref f32) = true)
    (a33 : PySem.W.nsIn K mainGlobals "_law_cell" = some (some (.ref f33))) (l33 : K.lookup f33 = some ⟨oc33, od33, .func (PySem.W.fnOf "_law_cell" "_law_cell" (defArgs s_l_cell) (defBody s_l_cell) (defScope s_l_cell) .none kV33 dc33 pm33 an33 cd33 ct33), sl33⟩) (c33 : PySem.W.codeIn K cd33 "_law_cell" = true) (k33 : PySem.W.keepIn K (.ref f33) = true)
    (a34 : PySem.W.nsIn K mainGlobals "_law_flow" = some (some (.ref f34))) (l34 : K.lookup f34 = some ⟨oc34, od34, .func (PySem.W.fnOf "_law_flow" "_law_flow" (defArgs s_l_flow) (defBody s_l_flow) (defScope s_l_flow) .none kV34 dc34 pm34 an34 cd34 ct34), sl34⟩) (c34 : PySem.W.codeIn K cd34 "_law_flow" = true) (k34 : PySem.W.keepIn K (.ref f34) = true)
    (a35 : PySem.W.nsIn K mainGlobals "_law_draw" = some (some (.ref f35))) (l35 : K.lookup f35 = some ⟨oc35, od35, .func (PySem.W.fnOf "_law_draw" "_law_draw" (defArgs s_l_draw) (defBody s_l_draw) (defScope s_l_draw) .none kV35 dc35 pm35 an35 cd35 ct35), sl35⟩) (c35 : PySem.W.codeIn K cd35 "_law_draw" = true) (k35 : PySem.W.keepIn K (.ref f35) = true)
    (a36 : PySem.W.nsIn K mainGlobals "_law_numeral" = some (some (.ref f36))) (l36 : K.lookup f36 = some ⟨oc36, od36, .func (PySem.W.fnOf "_law_numeral" "_law_numeral" (defArgs s_l_numeral) (defBody s_l_numeral) (defScope s_l_numeral) .none kV36 dc36 pm36 an36 cd36 ct36), sl36⟩) (c36 : PySem.W.codeIn K cd36 "_law_numeral" = true) (k36 : PySem.W.keepIn K (.ref f36) = true)
    (a37 : PySem.W.nsIn K mainGlobals "_law_leaf" = some (some (.ref f37))) (l37 : K.lookup f37 = some ⟨oc37, od37, .func (PySem.W.fnOf "_law_leaf" "_law_leaf" (defArgs s_l_leaf) (defBody s_l_leaf) (defScope s_l_leaf) .none kV37 dc37 pm37 an37 cd37 ct37), sl37⟩) (c37 : PySem.W.codeIn K cd37 "_law_leaf" = true) (k37 : PySem.W.keepIn K (.ref f37) = true)
    (a38 : PySem.W.nsIn K mainGlobals "_law_made" = some (some (.ref f38))) (l38 : K.lookup f38 = some ⟨oc38, od38, .func (PySem.W.fnOf "_law_made" "_law_made" (defArgs s_l_made) (defBody s_l_made) (defScope s_l_made) .none kV38 dc38 pm38 an38 cd38 ct38), sl38⟩) (c38 : PySem.W.codeIn K cd38 "_law_made" = true) (k38 : PySem.W.keepIn K (.ref f38) = true)
    (a39 : PySem.W.nsIn K mainGlobals "_law_kinds" = some (some (.ref f39))) (l39 : K.lookup f39 = some ⟨oc39, od39, .func (PySem.W.fnOf "_law_kinds" "_law_kinds" (defArgs s_l_kinds) (defBody s_l_kinds) (defScope s_l_kinds) .none kV39 dc39 pm39 an39 cd39 ct39), sl39⟩) (c39 : PySem.W.codeIn K cd39 "_law_kinds" = true) (k39 : PySem.W.keepIn K (.ref f39) = true)
    (a40 : PySem.W.nsIn K mainGlobals "_law_program" = some (some (.ref f40))) (l40 : K.lookup f40 = some ⟨oc40, od40, .func (PySem.W.fnOf "_law_program" "_law_program" (defArgs s_l_program) (defBody s_l_program) (defScope s_l_program) .none kV40 dc40 pm40 an40 cd40 ct40), sl40⟩) (c40 : PySem.W.codeIn K cd40 "_law_program" = true) (k40 : PySem.W.keepIn K (.ref f40) = true)
    (a41 : PySem.W.nsIn K mainGlobals "_law_some" = some (some (.ref f41))) (l41 : K.lookup f41 = some ⟨oc41, od41, .func (PySem.W.fnOf "_law_some" "_law_some" (defArgs s_l_some) (defBody s_l_some) (defScope s_l_some) .none kV41 dc41 pm41 an41 cd41 ct41), sl41⟩) (c41 : PySem.W.codeIn K cd41 "_law_some" = true) (k41 : PySem.W.keepIn K (.ref f41) = true)
    (a42 : PySem.W.nsIn K mainGlobals "_law_inputs" = some (some (.ref f42))) (l42 : K.lookup f42 = some ⟨oc42, od42, .func (PySem.W.fnOf "_law_inputs" "_law_inputs" (defArgs s_l_inputs) (defBody s_l_inputs) (defScope s_l_inputs) .none kV42 dc42 pm42 an42 cd42 ct42), sl42⟩) (c42 : PySem.W.codeIn K cd42 "_law_inputs" = true) (k42 : PySem.W.keepIn K (.ref f42) = true)
    (a43 : PySem.W.nsIn K mainGlobals "_law_pairs" = some (some (.ref f43))) (l43 : K.lookup f43 = some ⟨oc43, od43, .func (PySem.W.fnOf "_law_pairs" "_law_pairs" (defArgs s_l_pairs) (defBody s_l_pairs) (defScope s_l_pairs) .none kV43 dc43 pm43 an43 cd43 ct43), sl43⟩) (c43 : PySem.W.codeIn K cd43 "_law_pairs" = true) (k43 : PySem.W.keepIn K (.ref f43) = true)
    (a44 : PySem.W.nsIn K mainGlobals "_law_unlike" = some (some (.ref f44))) (l44 : K.lookup f44 = some ⟨oc44, od44, .func (PySem.W.fnOf "_law_unlike" "_law_unlike" (defArgs s_l_unlike) (defBody s_l_unlike) (defScope s_l_unlike) .none kV44 dc44 pm44 an44 cd44 ct44), sl44⟩) (c44 : PySem.W.codeIn K cd44 "_law_unlike" = true) (k44 : PySem.W.keepIn K (.ref f44) = true)
    (a45 : PySem.W.nsIn K mainGlobals "_law_stock" = some (some (.ref f45))) (l45 : K.lookup f45 = some ⟨oc45, od45, .func (PySem.W.fnOf "_law_stock" "_law_stock" (defArgs s_l_stock) (defBody s_l_stock) (defScope s_l_stock) .none kV45 dc45 pm45 an45 cd45 ct45), sl45⟩) (c45 : PySem.W.codeIn K cd45 "_law_stock" = true) (k45 : PySem.W.keepIn K (.ref f45) = true)
    (a46 : PySem.W.nsIn K mainGlobals "_law_of_stock" = some (some (.ref f46))) (l46 : K.lookup f46 = some ⟨oc46, od46, .func (PySem.W.fnOf "_law_of_stock" "_law_of_stock" (defArgs s_l_of_stock) (defBody s_l_of_stock) (defScope s_l_of_stock) .none kV46 dc46 pm46 an46 cd46 ct46), sl46⟩) (c46 : PySem.W.codeIn K cd46 "_law_of_stock" = true) (k46 : PySem.W.keepIn K (.ref f46) = true)
    (a47 : PySem.W.nsIn K mainGlobals "law" = some (some (.ref f47))) (l47 : K.lookup f47 = some ⟨oc47, od47, .func (PySem.W.fnOf "law" "law" (defArgs s_law) (defBody s_law) (defScope s_law) .none kV47 dc47 pm47 an47 cd47 ct47), sl47⟩) (c47 : PySem.W.codeIn K cd47 "law" = true) (k47 : PySem.W.keepIn K (.ref f47) = true)
    (z0 : PySem.W.nsIn K mainGlobals "len" = some none)
    (z1 : PySem.W.nsIn K mainGlobals "isinstance" = some none)
    (z2 : PySem.W.nsIn K mainGlobals "tuple" = some none)
    (z3 : PySem.W.nsIn K mainGlobals "list" = some none)
    (z4 : PySem.W.nsIn K mainGlobals "str" = some none)
    (z5 : PySem.W.nsIn K mainGlobals "int" = some none)
    (z6 : PySem.W.nsIn K mainGlobals "bool" = some none)
    (z7 : PySem.W.nsIn K mainGlobals "range" = some none)
    (z8 : PySem.W.nsIn K mainGlobals "zip" = some none)
    (z9 : PySem.W.nsIn K mainGlobals "enumerate" = some none)
    (z10 : PySem.W.nsIn K mainGlobals "reversed" = some none)
    (z11 : PySem.W.nsIn K mainGlobals "max" = some none)
    (z12 : PySem.W.nsIn K mainGlobals "all" = some none)
    (z13 : PySem.W.nsIn K mainGlobals "min" = some none)
    (z14 : PySem.W.nsIn K mainGlobals "sum" = some none)
    (z15 : PySem.W.nsIn K mainGlobals "any" = some none)
    (z16 : PySem.W.nsIn K mainGlobals "sorted" = some none)
    (z17 : PySem.W.nsIn K mainGlobals "set" = some none)
    (z18 : PySem.W.nsIn K mainGlobals "repr" = some none)
    (z19 : PySem.W.nsIn K mainGlobals "abs" = some none)
    (aF : PySem.W.nsIn K mainGlobals "FORMS" = some (some (.ref dF))) (lF : K.lookup dF = some ⟨.type "dict", none, .dict esF nF, #[]⟩) (kF : PySem.W.KeysLit w.params esF.toList) (wF : (dF == sysModules) = false)
    (e0 : PySem.W.nsIn K dF "in" = some (some (.ref t0))) (m0 : K.lookup t0 = some ⟨.type "tuple", dt0, .seq #[.int 1 q0_0, .ref u0, .none] nt0, st0⟩) (v0 : K.lookup u0 = some ⟨.type "tuple", du0, .seq #[] nu0, su0⟩)
    (e1 : PySem.W.nsIn K dF "num" = some (some (.ref t1))) (m1 : K.lookup t1 = some ⟨.type "tuple", dt1, .seq #[.int 1 q0_1, .ref u1, .str "num" q1_1] nt1, st1⟩) (v1 : K.lookup u1 = some ⟨.type "tuple", du1, .seq #[] nu1, su1⟩)
    (e2 : PySem.W.nsIn K dF "yes" = some (some (.ref t2))) (m2 : K.lookup t2 = some ⟨.type "tuple", dt2, .seq #[.int 0 q0_2, .ref u2, .str "truth" q1_2] nt2, st2⟩) (v2 : K.lookup u2 = some ⟨.type "tuple", du2, .seq #[] nu2, su2⟩)
    (e3 : PySem.W.nsIn K dF "no" = some (some (.ref t3))) (m3 : K.lookup t3 = some ⟨.type "tuple", dt3, .seq #[.int 0 q0_3, .ref u3, .str "truth" q1_3] nt3, st3⟩) (v3 : K.lookup u3 = some ⟨.type "tuple", du3, .seq #[] nu3, su3⟩)
    (e4 : PySem.W.nsIn K dF "plus" = some (some (.ref t4))) (m4 : K.lookup t4 = some ⟨.type "tuple", dt4, .seq #[.int 1 q0_4, .ref u4, .str "num" q1_4] nt4, st4⟩) (v4 : K.lookup u4 = some ⟨.type "tuple", du4, .seq #[.str "num" q2_4] nu4, su4⟩)
    (e5 : PySem.W.nsIn K dF "least" = some (some (.ref t5))) (m5 : K.lookup t5 = some ⟨.type "tuple", dt5, .seq #[.int 0 q0_5, .ref u5, .str "num" q1_5] nt5, st5⟩) (v5 : K.lookup u5 = some ⟨.type "tuple", du5, .seq #[.str "num" q2_5, .str "num" q3_5] nu5, su5⟩)
    (e6 : PySem.W.nsIn K dF "most" = some (some (.ref t6))) (m6 : K.lookup t6 = some ⟨.type "tuple", dt6, .seq #[.int 0 q0_6, .ref u6, .str "num" q1_6] nt6, st6⟩) (v6 : K.lookup u6 = some ⟨.type "tuple", du6, .seq #[.str "num" q2_6, .str "num" q3_6] nu6, su6⟩)
    (e7 : PySem.W.nsIn K dF "atmost" = some (some (.ref t7))) (m7 : K.lookup t7 = some ⟨.type "tuple", dt7, .seq #[.int 0 q0_7, .ref u7, .str "truth" q1_7] nt7, st7⟩) (v7 : K.lookup u7 = some ⟨.type "tuple", du7, .seq #[.str "num" q2_7, .str "num" q3_7] nu7, su7⟩)
    (e8 : PySem.W.nsIn K dF "not" = some (some (.ref t8))) (m8 : K.lookup t8 = some ⟨.type "tuple", dt8, .seq #[.int 0 q0_8, .ref u8, .str "truth" q1_8] nt8, st8⟩) (v8 : K.lookup u8 = some ⟨.type "tuple", du8, .seq #[.str "truth" q2_8] nu8, su8⟩)
    (e9 : PySem.W.nsIn K dF "both" = some (some (.ref t9))) (m9 : K.lookup t9 = some ⟨.type "tuple", dt9, .seq #[.int 0 q0_9, .ref u9, .str "truth" q1_9] nt9, st9⟩) (v9 : K.lookup u9 = some ⟨.type "tuple", du9, .seq #[.str "truth" q2_9, .str "truth" q3_9] nu9, su9⟩)
    (e10 : PySem.W.nsIn K dF "either" = some (some (.ref t10))) (m10 : K.lookup t10 = some ⟨.type "tuple", dt10, .seq #[.int 0 q0_10, .ref u10, .str "truth" q1_10] nt10, st10⟩) (v10 : K.lookup u10 = some ⟨.type "tuple", du10, .seq #[.str "truth" q2_10, .str "truth" q3_10] nu10, su10⟩)
    (e11 : PySem.W.nsIn K dF "if" = some (some (.ref t11))) (m11 : K.lookup t11 = some ⟨.type "tuple", dt11, .seq #[.int 0 q0_11, .ref u11, .none] nt11, st11⟩) (v11 : K.lookup u11 = some ⟨.type "tuple", du11, .seq #[.str "truth" q2_11, .none, .none] nu11, su11⟩)
    (oF : keysIn esF.toList = true)
    (cn_MOST_KNOTS : PySem.W.nsIn K mainGlobals "MOST_KNOTS" = some (some (.int 60 tk_MOST_KNOTS)))
    (cn_MOST_FIGURES : PySem.W.nsIn K mainGlobals "MOST_FIGURES" = some (some (.int 6 tk_MOST_FIGURES)))
    (cn_FIGURES : PySem.W.nsIn K mainGlobals "FIGURES" = some (some (.str "0123456789" tk_FIGURES)))
    (a_NoText : PySem.W.nsIn K mainGlobals "NoText" = some (some (.ref c_NoText)))
    (x_NoText : K.lookup c_NoText = some (excClassObj nm_NoText qn_NoText c_NoText N_NoText bs_NoText [.ref u_NoText, .type "ValueError", .type "Exception", .type "BaseException", .type "object"] true sn_NoText sub_NoText ab_NoText col_NoText dd_NoText m0_NoText m1_NoText m2_NoText m3_NoText m5_NoText "ValueError.__new__"))
    (sa_NoText : PySem.W.findIn K (.ref c_NoText) "__setattr__" = some (some (.builtin "object.__setattr__")))
    (ga_NoText : PySem.W.findIn K (.ref c_NoText) "__getattribute__" = some (some (.builtin "BaseException.__getattribute__")))
    (gg_NoText : PySem.W.findIn K (.ref c_NoText) "__getattr__" = some none)
    (i_NoText' : PySem.W.findIn K (.ref c_NoText) "__init__" = some (some (.ref i_NoText)))
    (ca_NoText : PySem.W.findIn K (.ref c_NoText) "__class__" = some (some (.builtin "object.__class__")))
    (t_NoText : PySem.W.typeIn K (.ref i_NoText) = some (.type "function"))
    (l_NoText : K.lookup i_NoText = some ⟨oc_NoText, od_NoText, .func (PySem.W.fnOf "__init__" "NoText.__init__" (defArgs s_NoText) (defBody s_NoText) (defScope s_NoText) .none kV_NoText doc_NoText pm_NoText an_NoText cdv_NoText ct_NoText), osl_NoText⟩)
    (c_NoText' : PySem.W.codeIn K cdv_NoText "NoText.__init__" = true)
    (kf_NoText : PySem.W.keepIn K (.ref i_NoText) = true)
    (kc_NoText : PySem.W.keepIn K (.ref c_NoText) = true)
    (ex_NoText : PySem.W.subIn K (.ref c_NoText) (.type "BaseException") = some true)
    (ty_NoText : PySem.W.typeIn K (.ref c_NoText) = some (.type "type"))
    (hd_NoText : PySem.W.hasDictIn K c_NoText = true)
    (is_NoText : PySem.W.isClsIn K c_NoText = true)
    (te_NoText : PySem.W.exmOne K (.ref c_NoText) (.ref c_NoText) = some true)
    (ob_NoText : PySem.W.mroIn K c_NoText (.type "object") = some true)
    (gn_NoText : PySem.W.specialIn K (.builtin "object.__class__") "__get__" = some (some (.builtin "getset_descriptor.__get__")))
    (tk_NoText : PySem.W.takesIn K (.builtin "object.__class__") = some true)
    (f0_NoText : PySem.W.findIn K (.ref c_NoText) "at" = some none)
    (a_NoStock : PySem.W.nsIn K mainGlobals "NoStock" = some (some (.ref c_NoStock)))
    (x_NoStock : K.lookup c_NoStock = some (excClassObj nm_NoStock qn_NoStock c_NoStock N_NoStock bs_NoStock [.ref u_NoStock, .type "ValueError", .type "Exception", .type "BaseException", .type "object"] true sn_NoStock sub_NoStock ab_NoStock col_NoStock dd_NoStock m0_NoStock m1_NoStock m2_NoStock m3_NoStock m5_NoStock "ValueError.__new__"))
    (sa_NoStock : PySem.W.findIn K (.ref c_NoStock) "__setattr__" = some (some (.builtin "object.__setattr__")))
    (ga_NoStock : PySem.W.findIn K (.ref c_NoStock) "__getattribute__" = some (some (.builtin "BaseException.__getattribute__")))
    (gg_NoStock : PySem.W.findIn K (.ref c_NoStock) "__getattr__" = some none)
    (i_NoStock' : PySem.W.findIn K (.ref c_NoStock) "__init__" = some (some (.ref i_NoStock)))
    (ca_NoStock : PySem.W.findIn K (.ref c_NoStock) "__class__" = some (some (.builtin "object.__class__")))
    (t_NoStock : PySem.W.typeIn K (.ref i_NoStock) = some (.type "function"))
    (l_NoStock : K.lookup i_NoStock = some ⟨oc_NoStock, od_NoStock, .func (PySem.W.fnOf "__init__" "NoStock.__init__" (defArgs s_NoStock) (defBody s_NoStock) (defScope s_NoStock) .none kV_NoStock doc_NoStock pm_NoStock an_NoStock cdv_NoStock ct_NoStock), osl_NoStock⟩)
    (c_NoStock' : PySem.W.codeIn K cdv_NoStock "NoStock.__init__" = true)
    (kf_NoStock : PySem.W.keepIn K (.ref i_NoStock) = true)
    (kc_NoStock : PySem.W.keepIn K (.ref c_NoStock) = true)
    (ex_NoStock : PySem.W.subIn K (.ref c_NoStock) (.type "BaseException") = some true)
    (ty_NoStock : PySem.W.typeIn K (.ref c_NoStock) = some (.type "type"))
    (hd_NoStock : PySem.W.hasDictIn K c_NoStock = true)
    (is_NoStock : PySem.W.isClsIn K c_NoStock = true)
    (te_NoStock : PySem.W.exmOne K (.ref c_NoStock) (.ref c_NoStock) = some true)
    (ob_NoStock : PySem.W.mroIn K c_NoStock (.type "object") = some true)
    (gn_NoStock : PySem.W.specialIn K (.builtin "object.__class__") "__get__" = some (some (.builtin "getset_descriptor.__get__")))
    (tk_NoStock : PySem.W.takesIn K (.builtin "object.__class__") = some true)
    (f0_NoStock : PySem.W.findIn K (.ref c_NoStock) "word" = some none)
    (f1_NoStock : PySem.W.findIn K (.ref c_NoStock) "at" = some none)
    (aKI : PySem.W.nsIn K mainGlobals "KINDS" = some (some (.ref aK))) (lKI : K.lookup aK = some ⟨.type "tuple", dK, .seq #[.str "num" tK1, .str "truth" tK2] nK, slK⟩)
    (aPTa : PySem.W.nsIn K mainGlobals "PARTS" = some (some (.ref aPT0)))
    (aPTl0 : K.lookup aPT0 = some ⟨.type "tuple", aPTd0, .seq #[.str "number" aPTt0_0, .str "step" aPTt0_1, .str "word" aPTt0_2] aPTn0, aPTs0⟩)
    (aWDa : PySem.W.nsIn K mainGlobals "WORDS" = some (some (.ref aWD0)))
    (aWDl0 : K.lookup aWD0 = some ⟨.type "tuple", aWDd0, .seq #[.str "yes" aWDt0_0, .str "no" aWDt0_1, .str "least" aWDt0_2, .str "most" aWDt0_3, .str "atmost" aWDt0_4, .str "not" aWDt0_5, .str "both" aWDt0_6, .str "either" aWDt0_7, .str "if" aWDt0_8] aWDn0, aWDs0⟩)
    (aSKa : PySem.W.nsIn K mainGlobals "STOCK" = some (some (.ref aSK0)))
    (aSKl0 : K.lookup aSK0 = some ⟨.type "tuple", aSKd0, .seq #[.ref aSK1, .ref aSK4, .ref aSK7] aSKn0, aSKs0⟩)
    (aSKl1 : K.lookup aSK1 = some ⟨.type "tuple", aSKd1, .seq #[.ref aSK2, .ref aSK3] aSKn1, aSKs1⟩)
    (aSKl2 : K.lookup aSK2 = some ⟨.type "tuple", aSKd2, .seq #[.int (0) aSKt2_0, .int (1) aSKt2_1] aSKn2, aSKs2⟩)
    (aSKl3 : K.lookup aSK3 = some ⟨.type "tuple", aSKd3, .seq #[.int (1) aSKt3_0, .int (1) aSKt3_1] aSKn3, aSKs3⟩)
    (aSKl4 : K.lookup aSK4 = some ⟨.type "tuple", aSKd4, .seq #[.ref aSK5, .ref aSK6] aSKn4, aSKs4⟩)
    (aSKl5 : K.lookup aSK5 = some ⟨.type "tuple", aSKd5, .seq #[.int (1) aSKt5_0, .int (1) aSKt5_1] aSKn5, aSKs5⟩)
    (aSKl6 : K.lookup aSK6 = some ⟨.type "tuple", aSKd6, .seq #[.int (-1) aSKt6_0, .int (1) aSKt6_1] aSKn6, aSKs6⟩)
    (aSKl7 : K.lookup aSK7 = some ⟨.type "tuple", aSKd7, .seq #[.ref aSK8, .ref aSK9, .ref aSK10, .ref aSK11] aSKn7, aSKs7⟩)
    (aSKl8 : K.lookup aSK8 = some ⟨.type "tuple", aSKd8, .seq #[.str "least" aSKt8_0, .int (1) aSKt8_1] aSKn8, aSKs8⟩)
    (aSKl9 : K.lookup aSK9 = some ⟨.type "tuple", aSKd9, .seq #[.str "most" aSKt9_0, .int (1) aSKt9_1] aSKn9, aSKs9⟩)
    (aSKl10 : K.lookup aSK10 = some ⟨.type "tuple", aSKd10, .seq #[.str "atmost" aSKt10_0, .int (1) aSKt10_1] aSKn10, aSKs10⟩)
    (aSKl11 : K.lookup aSK11 = some ⟨.type "tuple", aSKd11, .seq #[.str "if" aSKt11_0, .int (1) aSKt11_1] aSKn11, aSKs11⟩)
    : ∃ fd : FuncData, (∀ (s : Shared) (v : Value), BindsTo s fd ⟨[v], []⟩ [("_law_script", v)]) ∧ ∀ base : Heap, K.In base → base.Ns mainGlobals mg → FnOk l.prog w K mg base CX0 30 fa fd ["_law_script"] (spLaw K) := by
  have e := hfa.symm.trans (PySem.W.mg_of X G a47)
  cases e
  have D_look_head : DefAt K mg "look_head" s_look_head ["head"] := defAt_mk X G a0 l0 c0 k0 fun _ _ _ _ _ _ us hl => match us, hl with | [_], _ => rfl
  have D_kind_of : DefAt K mg "kind_of" s_kind_of ["kinds", "program"] := defAt_mk X G a1 l1 c1 k1 fun _ _ _ _ _ _ us hl => match us, hl with | [_, _], _ => rfl
  have D_knots : DefAt K mg "knots" s_knots ["program"] := defAt_mk X G a2 l2 c2 k2 fun _ _ _ _ _ _ us hl => match us, hl with | [_], _ => rfl
  have D_put : DefAt K mg "put" s_put ["program", "some"] := defAt_mk X G a3 l3 c3 k3 fun _ _ _ _ _ _ us hl => match us, hl with | [_, _], _ => rfl
  have D_is_whole : DefAt K mg "is_whole" s_is_whole ["thing"] := defAt_mk X G a4 l4 c4 k4 fun _ _ _ _ _ _ us hl => match us, hl with | [_], _ => rfl
  have D_has_form : DefAt K mg "has_form" s_has_form ["thing"] := defAt_mk X G a5 l5 c5 k5 fun _ _ _ _ _ _ us hl => match us, hl with | [_], _ => rfl
  have D_many_numbers : DefAt K mg "many_numbers" s_many_numbers ["word"] := defAt_mk X G a6 l6 c6 k6 fun _ _ _ _ _ _ us hl => match us, hl with | [_], _ => rfl
  have D_many_parts : DefAt K mg "many_parts" s_many_parts ["word"] := defAt_mk X G a7 l7 c7 k7 fun _ _ _ _ _ _ us hl => match us, hl with | [_], _ => rfl
  have D_front_of : DefAt K mg "front_of" s_front_of ["knot"] := defAt_mk X G a8 l8 c8 k8 fun _ _ _ _ _ _ us hl => match us, hl with | [_], _ => rfl
  have D_parts_of : DefAt K mg "parts_of" s_parts_of ["knot"] := defAt_mk X G a9 l9 c9 k9 fun _ _ _ _ _ _ us hl => match us, hl with | [_], _ => rfl
  have D_taken : DefAt K mg "taken" s_taken ["pile", "many"] := defAt_mk X G a10 l10 c10 k10 fun _ _ _ _ _ _ us hl => match us, hl with | [_, _], _ => rfl
  have D_refuse_forms : DefAt K mg "refuse_forms" s_refuse_forms ["every"] := defAt_mk X G a11 l11 c11 k11 fun _ _ _ _ _ _ us hl => match us, hl with | [_], _ => rfl
  have D_refuse_inputs : DefAt K mg "refuse_inputs" s_refuse_inputs ["every", "many"] := defAt_mk X G a12 l12 c12 k12 fun _ _ _ _ _ _ us hl => match us, hl with | [_, _], _ => rfl
  have D_parts_fit : DefAt K mg "parts_fit" s_parts_fit ["word", "told"] := defAt_mk X G a13 l13 c13 k13 fun _ _ _ _ _ _ us hl => match us, hl with | [_, _], _ => rfl
  have D_own_kind : DefAt K mg "own_kind" s_own_kind ["kinds", "knot", "told"] := defAt_mk X G a14 l14 c14 k14 fun _ _ _ _ _ _ us hl => match us, hl with | [_, _, _], _ => rfl
  have D_look_stock : DefAt K mg "look_stock" s_look_stock ["stock"] := defAt_mk X G a15 l15 c15 k15 fun _ _ _ _ _ _ us hl => match us, hl with | [_], _ => rfl
  have D_weight : DefKw K mg "weight" s_weight ["program", "stock"] 1 ["stock"] [.ref aSK0] := defkw_mk X G a16 l16 c16 k16 kd16 rfl (fun _ _ _ _ _ _ _  => rfl) (fun _ _ _ _ _ _ _  => ⟨_, _, _, _, _, _, rfl, rfl, rfl⟩)
  have D_comes_first : DefKw K mg "comes_first" s_comes_first ["one", "other", "stock"] 2 ["stock"] [.ref aSK0] := defkw_mk2 X G a17 l17 c17 k17 kd17 rfl (fun _ _ _ _ _ _ _ _  => rfl) (fun _ _ _ _ _ _ _ _  => ⟨_, _, _, _, _, _, rfl, rfl, rfl⟩)
  have D_order_of : DefAt K mg "order_of" s_order_of ["program", "stock"] := defAt_mk X G a18 l18 c18 k18 fun _ _ _ _ _ _ us hl => match us, hl with | [_, _], _ => rfl
  have D_standing_of : DefAt K mg "standing_of" s_standing_of ["knot", "stock"] := defAt_mk X G a19 l19 c19 k19 fun _ _ _ _ _ _ us hl => match us, hl with | [_, _], _ => rfl
  have D_place_of : DefAt K mg "place_of" s_place_of ["knot"] := defAt_mk X G a20 l20 c20 k20 fun _ _ _ _ _ _ us hl => match us, hl with | [_], _ => rfl
  have D_is_triple : DefAt K mg "is_triple" s_is_triple ["thing"] := defAt_mk X G a21 l21 c21 k21 fun _ _ _ _ _ _ us hl => match us, hl with | [_], _ => rfl
  have D_are_pairs : DefAt K mg "are_pairs" s_are_pairs ["part", "pairs"] := defAt_mk X G a22 l22 c22 k22 fun _ _ _ _ _ _ us hl => match us, hl with | [_, _], _ => rfl
  have D_is_pair : DefAt K mg "is_pair" s_is_pair ["part", "pair"] := defAt_mk X G a23 l23 c23 k23 fun _ _ _ _ _ _ us hl => match us, hl with | [_, _], _ => rfl
  have D_first_amiss : DefAt K mg "first_amiss" s_first_amiss ["part", "pairs"] := defAt_mk X G a24 l24 c24 k24 fun _ _ _ _ _ _ us hl => match us, hl with | [_, _], _ => rfl
  have D_may_stand : DefAt K mg "may_stand" s_may_stand ["part", "key"] := defAt_mk X G a25 l25 c25 k25 fun _ _ _ _ _ _ us hl => match us, hl with | [_, _], _ => rfl
  have D_value : DefAt K mg "value" s_value ["program", "inputs"] := defAt_mk X G a26 l26 c26 k26 fun _ _ _ _ _ _ us hl => match us, hl with | [_, _], _ => rfl
  have D_knot_value : DefAt K mg "knot_value" s_knot_value ["knot", "told", "inputs"] := defAt_mk X G a27 l27 c27 k27 fun _ _ _ _ _ _ us hl => match us, hl with | [_, _, _], _ => rfl
  have D_show : DefAt K mg "show" s_show ["program"] := defAt_mk X G a28 l28 c28 k28 fun _ _ _ _ _ _ us hl => match us, hl with | [_], _ => rfl
  have D_read : DefAt K mg "read" s_read ["text"] := defAt_mk X G a29 l29 c29 k29 fun _ _ _ _ _ _ us hl => match us, hl with | [_], _ => rfl
  have D_front_at : DefAt K mg "front_at" s_front_at ["words", "at"] := defAt_mk X G a30 l30 c30 k30 fun _ _ _ _ _ _ us hl => match us, hl with | [_, _], _ => rfl
  have D_is_number : DefAt K mg "is_number" s_is_number ["word"] := defAt_mk X G a31 l31 c31 k31 fun _ _ _ _ _ _ us hl => match us, hl with | [_], _ => rfl
  have D_built : DefAt K mg "built" s_built ["fronts"] := defAt_mk X G a32 l32 c32 k32 fun _ _ _ _ _ _ us hl => match us, hl with | [_], _ => rfl
  have D_l_cell : DefAt K mg "_law_cell" s_l_cell ["_law_script", "_law_k"] := defAt_mk X G a33 l33 c33 k33 fun _ _ _ _ _ _ us hl => match us, hl with | [_, _], _ => rfl
  have D_l_flow : DefAt K mg "_law_flow" s_l_flow ["_law_script", "_law_k"] := defAt_mk X G a34 l34 c34 k34 fun _ _ _ _ _ _ us hl => match us, hl with | [_, _], _ => rfl
  have D_l_draw : DefAt K mg "_law_draw" s_l_draw ["_law_flow_here", "_law_many"] := defAt_mk X G a35 l35 c35 k35 fun _ _ _ _ _ _ us hl => match us, hl with | [_, _], _ => rfl
  have D_l_numeral : DefAt K mg "_law_numeral" s_l_numeral ["_law_flow_here"] := defAt_mk X G a36 l36 c36 k36 fun _ _ _ _ _ _ us hl => match us, hl with | [_], _ => rfl
  have D_l_leaf : DefAt K mg "_law_leaf" s_l_leaf ["_law_flow_here", "_law_world", "_law_kind"] := defAt_mk X G a37 l37 c37 k37 fun _ _ _ _ _ _ us hl => match us, hl with | [_, _, _], _ => rfl
  have D_l_made : DefAt K mg "_law_made" s_l_made ["_law_flow_here", "_law_world", "_law_kind", "_law_room", "_law_down"] := defAt_mk X G a38 l38 c38 k38 fun _ _ _ _ _ _ us hl => match us, hl with | [_, _, _, _, _], _ => rfl
  have D_l_kinds : DefAt K mg "_law_kinds" s_l_kinds ["_law_flow_here"] := defAt_mk X G a39 l39 c39 k39 fun _ _ _ _ _ _ us hl => match us, hl with | [_], _ => rfl
  have D_l_program : DefAt K mg "_law_program" s_l_program ["_law_flow_here", "_law_sorts", "_law_kind", "_law_room"] := defAt_mk X G a40 l40 c40 k40 fun _ _ _ _ _ _ us hl => match us, hl with | [_, _, _, _], _ => rfl
  have D_l_some : DefAt K mg "_law_some" s_l_some ["_law_flow_here"] := defAt_mk X G a41 l41 c41 k41 fun _ _ _ _ _ _ us hl => match us, hl with | [_], _ => rfl
  have D_l_inputs : DefAt K mg "_law_inputs" s_l_inputs ["_law_flow_here", "_law_sorts"] := defAt_mk X G a42 l42 c42 k42 fun _ _ _ _ _ _ us hl => match us, hl with | [_, _], _ => rfl
  have D_l_pairs : DefAt K mg "_law_pairs" s_l_pairs ["_law_flow_here", "_law_few"] := defAt_mk X G a43 l43 c43 k43 fun _ _ _ _ _ _ us hl => match us, hl with | [_, _], _ => rfl
  have D_l_unlike : DefAt K mg "_law_unlike" s_l_unlike ["_law_flow_here", "_law_many", "_law_least"] := defAt_mk X G a44 l44 c44 k44 fun _ _ _ _ _ _ us hl => match us, hl with | [_, _, _], _ => rfl
  have D_l_stock : DefAt K mg "_law_stock" s_l_stock ["_law_flow_here"] := defAt_mk X G a45 l45 c45 k45 fun _ _ _ _ _ _ us hl => match us, hl with | [_], _ => rfl
  have D_l_of_stock : DefAt K mg "_law_of_stock" s_l_of_stock ["_law_flow_here", "_law_shop", "_law_sorts", "_law_kind", "_law_room", "_law_down"] := defAt_mk X G a46 l46 c46 k46 fun _ _ _ _ _ _ us hl => match us, hl with | [_, _, _, _, _, _], _ => rfl
  have D_law : DefAt K mg "law" s_law ["_law_script"] := defAt_mk X G a47 l47 c47 k47 fun _ _ _ _ _ _ us hl => match us, hl with | [_], _ => rfl
  have DN_look_head_head : DefN K mg "look_head" s_look_head ["head"] ["head"] [] := defn_mk X G a0 l0 c0 k0 fun _ _ _ _ _ _ ws hl => match ws, hl with | [_], _ => rfl
  have DN_kind_of_program_kinds : DefN K mg "kind_of" s_kind_of ["kinds", "program"] ["program", "kinds"] [] := defn_mk X G a1 l1 c1 k1 fun _ _ _ _ _ _ ws hl => match ws, hl with | [_, _], _ => rfl
  have DN_knots_program : DefN K mg "knots" s_knots ["program"] ["program"] [] := defn_mk X G a2 l2 c2 k2 fun _ _ _ _ _ _ ws hl => match ws, hl with | [_], _ => rfl
  have DN_comes_first_stock_other_one : DefN K mg "comes_first" s_comes_first ["one", "other", "stock"] ["stock", "other", "one"] [] := defn_mk X G a17 l17 c17 k17 fun _ _ _ _ _ _ ws hl => match ws, hl with | [_, _, _], _ => rfl
  have DN_put_some_program : DefN K mg "put" s_put ["program", "some"] ["some", "program"] [] := defn_mk X G a3 l3 c3 k3 fun _ _ _ _ _ _ ws hl => match ws, hl with | [_, _], _ => rfl
  have DN_show_program : DefN K mg "show" s_show ["program"] ["program"] [] := defn_mk X G a28 l28 c28 k28 fun _ _ _ _ _ _ ws hl => match ws, hl with | [_], _ => rfl
  have DN_read_text : DefN K mg "read" s_read ["text"] ["text"] [] := defn_mk X G a29 l29 c29 k29 fun _ _ _ _ _ _ ws hl => match ws, hl with | [_], _ => rfl
  have DN_value_inputs_program : DefN K mg "value" s_value ["program", "inputs"] ["inputs", "program"] [] := defn_mk X G a26 l26 c26 k26 fun _ _ _ _ _ _ ws hl => match ws, hl with | [_, _], _ => rfl
  have DN_look_stock_stock : DefN K mg "look_stock" s_look_stock ["stock"] ["stock"] [] := defn_mk X G a15 l15 c15 k15 fun _ _ _ _ _ _ ws hl => match ws, hl with | [_], _ => rfl
  have DN_weight_program : DefN K mg "weight" s_weight ["program", "stock"] ["program"] [.ref aSK0] := defn_mkD X G a16 l16 c16 k16 kd16 rfl (fun _ _ _ _ _ _ _ => ⟨_, _, _, _, _, _, rfl, rfl, rfl⟩)
  have DN_weight_stock_program : DefN K mg "weight" s_weight ["program", "stock"] ["stock", "program"] [] := defn_mk X G a16 l16 c16 k16 fun _ _ _ _ _ _ ws hl => match ws, hl with | [_, _], _ => rfl
  have R_NoText : Rf K mg "NoText" "NoText.__init__" c_NoText i_NoText _ s_NoText ["at"] := { g := PySem.W.mg_of X G a_NoText, o := ⟨⟨_, _, _, _, _, _, _, _, _, _, _, _, _, _, _, x_NoText, rfl⟩, sa_NoText, ex_NoText, ty_NoText, kc_NoText⟩, f := ⟨ga_NoText, gg_NoText, ex_NoText, hd_NoText⟩, k := ⟨is_NoText, ga_NoText, gg_NoText, ex_NoText, ca_NoText, gn_NoText, tk_NoText, ob_NoText⟩, te := te_NoText, fld := fun n hn => by simp only [List.mem_cons, List.not_mem_nil, or_false] at hn; subst hn; assumption, iC := i_NoText', tI := t_NoText, F := fun_mk l_NoText c_NoText' kf_NoText, b := (fun_mk l_NoText c_NoText' kf_NoText).binds fun _ _ _ _ _ _ us hl => match us, hl with | [_, _], _ => rfl }
  have R_NoStock : Rf K mg "NoStock" "NoStock.__init__" c_NoStock i_NoStock _ s_NoStock ["word", "at"] := { g := PySem.W.mg_of X G a_NoStock, o := ⟨⟨_, _, _, _, _, _, _, _, _, _, _, _, _, _, _, x_NoStock, rfl⟩, sa_NoStock, ex_NoStock, ty_NoStock, kc_NoStock⟩, f := ⟨ga_NoStock, gg_NoStock, ex_NoStock, hd_NoStock⟩, k := ⟨is_NoStock, ga_NoStock, gg_NoStock, ex_NoStock, ca_NoStock, gn_NoStock, tk_NoStock, ob_NoStock⟩, te := te_NoStock, fld := fun n hn => by simp only [List.mem_cons, List.not_mem_nil, or_false] at hn; rcases hn with h | h <;> subst h <;> assumption, iC := i_NoStock', tI := t_NoStock, F := fun_mk l_NoStock c_NoStock' kf_NoStock, b := (fun_mk l_NoStock c_NoStock' kf_NoStock).binds fun _ _ _ _ _ _ us hl => match us, hl with | [_, _, _], _ => rfl }
  have KK : Kinds K mg aK := ⟨PySem.W.mg_of X G aKI, fun H => .inr ⟨_, _, _, lKI, rfl, rfl, (by show 2 ≤ sizeLine; decide), .cons ⟨_, rfl⟩ (.cons ⟨_, rfl⟩ .nil)⟩⟩
  have PG_ : PartsG K mg aPT0 := ⟨PySem.W.mg_of X G aPTa, fun H => (show L2.SqT K H aPT0 [.str "number", .str "step", .str "word"] from .inr ⟨_, _, _, aPTl0, rfl, rfl, (by show 3 ≤ sizeLine; decide), (.cons ⟨_, rfl⟩ (.cons ⟨_, rfl⟩ (.cons ⟨_, rfl⟩ .nil)))⟩)⟩
  have WG_ : WordsG K mg aWD0 := ⟨PySem.W.mg_of X G aWDa, fun H => (show L2.SqT K H aWD0 [.str "yes", .str "no", .str "least", .str "most", .str "atmost", .str "not", .str "both", .str "either", .str "if"] from .inr ⟨_, _, _, aWDl0, rfl, rfl, (by show 9 ≤ sizeLine; decide), (.cons ⟨_, rfl⟩ (.cons ⟨_, rfl⟩ (.cons ⟨_, rfl⟩ (.cons ⟨_, rfl⟩ (.cons ⟨_, rfl⟩ (.cons ⟨_, rfl⟩ (.cons ⟨_, rfl⟩ (.cons ⟨_, rfl⟩ (.cons ⟨_, rfl⟩ .nil)))))))))⟩)⟩
  have SG_ : StockG K mg aSK0 := ⟨PySem.W.mg_of X G aSKa, fun H => (.tup (show L2.SqT K H aSK0 [.ref aSK1, .ref aSK4, .ref aSK7] from .inr ⟨_, _, _, aSKl0, rfl, rfl, (by show 3 ≤ sizeLine; decide), (.cons rfl (.cons rfl (.cons rfl .nil)))⟩) (.cons (.tup (show L2.SqT K H aSK1 [.ref aSK2, .ref aSK3] from .inr ⟨_, _, _, aSKl1, rfl, rfl, (by show 2 ≤ sizeLine; decide), (.cons rfl (.cons rfl .nil))⟩) (.cons (.tup (show L2.SqT K H aSK2 [.int (0), .int (1)] from .inr ⟨_, _, _, aSKl2, rfl, rfl, (by show 2 ≤ sizeLine; decide), (.cons ⟨_, rfl⟩ (.cons ⟨_, rfl⟩ .nil))⟩) (.cons (.int _) (.cons (.int _) .nil))) (.cons (.tup (show L2.SqT K H aSK3 [.int (1), .int (1)] from .inr ⟨_, _, _, aSKl3, rfl, rfl, (by show 2 ≤ sizeLine; decide), (.cons ⟨_, rfl⟩ (.cons ⟨_, rfl⟩ .nil))⟩) (.cons (.int _) (.cons (.int _) .nil))) .nil))) (.cons (.tup (show L2.SqT K H aSK4 [.ref aSK5, .ref aSK6] from .inr ⟨_, _, _, aSKl4, rfl, rfl, (by show 2 ≤ sizeLine; decide), (.cons rfl (.cons rfl .nil))⟩) (.cons (.tup (show L2.SqT K H aSK5 [.int (1), .int (1)] from .inr ⟨_, _, _, aSKl5, rfl, rfl, (by show 2 ≤ sizeLine; decide), (.cons ⟨_, rfl⟩ (.cons ⟨_, rfl⟩ .nil))⟩) (.cons (.int _) (.cons (.int _) .nil))) (.cons (.tup (show L2.SqT K H aSK6 [.int (-1), .int (1)] from .inr ⟨_, _, _, aSKl6, rfl, rfl, (by show 2 ≤ sizeLine; decide), (.cons ⟨_, rfl⟩ (.cons ⟨_, rfl⟩ .nil))⟩) (.cons (.int _) (.cons (.int _) .nil))) .nil))) (.cons (.tup (show L2.SqT K H aSK7 [.ref aSK8, .ref aSK9, .ref aSK10, .ref aSK11] from .inr ⟨_, _, _, aSKl7, rfl, rfl, (by show 4 ≤ sizeLine; decide), (.cons rfl (.cons rfl (.cons rfl (.cons rfl .nil))))⟩) (.cons (.tup (show L2.SqT K H aSK8 [.str "least", .int (1)] from .inr ⟨_, _, _, aSKl8, rfl, rfl, (by show 2 ≤ sizeLine; decide), (.cons ⟨_, rfl⟩ (.cons ⟨_, rfl⟩ .nil))⟩) (.cons (.str _) (.cons (.int _) .nil))) (.cons (.tup (show L2.SqT K H aSK9 [.str "most", .int (1)] from .inr ⟨_, _, _, aSKl9, rfl, rfl, (by show 2 ≤ sizeLine; decide), (.cons ⟨_, rfl⟩ (.cons ⟨_, rfl⟩ .nil))⟩) (.cons (.str _) (.cons (.int _) .nil))) (.cons (.tup (show L2.SqT K H aSK10 [.str "atmost", .int (1)] from .inr ⟨_, _, _, aSKl10, rfl, rfl, (by show 2 ≤ sizeLine; decide), (.cons ⟨_, rfl⟩ (.cons ⟨_, rfl⟩ .nil))⟩) (.cons (.str _) (.cons (.int _) .nil))) (.cons (.tup (show L2.SqT K H aSK11 [.str "if", .int (1)] from .inr ⟨_, _, _, aSKl11, rfl, rfl, (by show 2 ≤ sizeLine; decide), (.cons ⟨_, rfl⟩ (.cons ⟨_, rfl⟩ .nil))⟩) (.cons (.str _) (.cons (.int _) .nil))) .nil))))) .nil))))⟩
  have B : Bt mg := ⟨PySem.W.mg_none_of X G z0, PySem.W.mg_none_of X G z1, PySem.W.mg_none_of X G z2, PySem.W.mg_none_of X G z3, PySem.W.mg_none_of X G z4, PySem.W.mg_none_of X G z5, PySem.W.mg_none_of X G z6, PySem.W.mg_none_of X G z7, PySem.W.mg_none_of X G z8, PySem.W.mg_none_of X G z9, PySem.W.mg_none_of X G z10, PySem.W.mg_none_of X G z11, PySem.W.mg_none_of X G z12, PySem.W.mg_none_of X G z13, PySem.W.mg_none_of X G z14, PySem.W.mg_none_of X G z15, PySem.W.mg_none_of X G z16, PySem.W.mg_none_of X G z17, PySem.W.mg_none_of X G z18, PySem.W.mg_none_of X G z19⟩
  have F : Forms K w mg dF := by
    refine ⟨PySem.W.mg_of X G aF, ⟨esF, nF, lF, kF, wF⟩, fun p => ?_⟩
    cases p with
    | inp k => exact ⟨t0, u0, e0, ⟨_, _, _, m0, rfl, rfl, (by show 3 ≤ sizeLine; decide), (.cons ⟨_, rfl⟩ (.cons rfl (.cons rfl .nil)))⟩, ⟨_, _, _, v0, rfl, rfl, (by show 0 ≤ sizeLine; decide), .nil⟩⟩
    | num c => exact ⟨t1, u1, e1, ⟨_, _, _, m1, rfl, rfl, (by show 3 ≤ sizeLine; decide), (.cons ⟨_, rfl⟩ (.cons rfl (.cons ⟨_, rfl⟩ .nil)))⟩, ⟨_, _, _, v1, rfl, rfl, (by show 0 ≤ sizeLine; decide), .nil⟩⟩
    | tr b =>
      cases b with
      | true => exact ⟨t2, u2, e2, ⟨_, _, _, m2, rfl, rfl, (by show 3 ≤ sizeLine; decide), (.cons ⟨_, rfl⟩ (.cons rfl (.cons ⟨_, rfl⟩ .nil)))⟩, ⟨_, _, _, v2, rfl, rfl, (by show 0 ≤ sizeLine; decide), .nil⟩⟩
      | false => exact ⟨t3, u3, e3, ⟨_, _, _, m3, rfl, rfl, (by show 3 ≤ sizeLine; decide), (.cons ⟨_, rfl⟩ (.cons rfl (.cons ⟨_, rfl⟩ .nil)))⟩, ⟨_, _, _, v3, rfl, rfl, (by show 0 ≤ sizeLine; decide), .nil⟩⟩
    | plus c a => exact ⟨t4, u4, e4, ⟨_, _, _, m4, rfl, rfl, (by show 3 ≤ sizeLine; decide), (.cons ⟨_, rfl⟩ (.cons rfl (.cons ⟨_, rfl⟩ .nil)))⟩, ⟨_, _, _, v4, rfl, rfl, (by show 1 ≤ sizeLine; decide), (.cons ⟨_, rfl⟩ .nil)⟩⟩
    | bin w a b =>
      cases w with
      | least => exact ⟨t5, u5, e5, ⟨_, _, _, m5, rfl, rfl, (by show 3 ≤ sizeLine; decide), (.cons ⟨_, rfl⟩ (.cons rfl (.cons ⟨_, rfl⟩ .nil)))⟩, ⟨_, _, _, v5, rfl, rfl, (by show 2 ≤ sizeLine; decide), (.cons ⟨_, rfl⟩ (.cons ⟨_, rfl⟩ .nil))⟩⟩
      | most => exact ⟨t6, u6, e6, ⟨_, _, _, m6, rfl, rfl, (by show 3 ≤ sizeLine; decide), (.cons ⟨_, rfl⟩ (.cons rfl (.cons ⟨_, rfl⟩ .nil)))⟩, ⟨_, _, _, v6, rfl, rfl, (by show 2 ≤ sizeLine; decide), (.cons ⟨_, rfl⟩ (.cons ⟨_, rfl⟩ .nil))⟩⟩
      | atmost => exact ⟨t7, u7, e7, ⟨_, _, _, m7, rfl, rfl, (by show 3 ≤ sizeLine; decide), (.cons ⟨_, rfl⟩ (.cons rfl (.cons ⟨_, rfl⟩ .nil)))⟩, ⟨_, _, _, v7, rfl, rfl, (by show 2 ≤ sizeLine; decide), (.cons ⟨_, rfl⟩ (.cons ⟨_, rfl⟩ .nil))⟩⟩
      | both => exact ⟨t9, u9, e9, ⟨_, _, _, m9, rfl, rfl, (by show 3 ≤ sizeLine; decide), (.cons ⟨_, rfl⟩ (.cons rfl (.cons ⟨_, rfl⟩ .nil)))⟩, ⟨_, _, _, v9, rfl, rfl, (by show 2 ≤ sizeLine; decide), (.cons ⟨_, rfl⟩ (.cons ⟨_, rfl⟩ .nil))⟩⟩
      | either => exact ⟨t10, u10, e10, ⟨_, _, _, m10, rfl, rfl, (by show 3 ≤ sizeLine; decide), (.cons ⟨_, rfl⟩ (.cons rfl (.cons ⟨_, rfl⟩ .nil)))⟩, ⟨_, _, _, v10, rfl, rfl, (by show 2 ≤ sizeLine; decide), (.cons ⟨_, rfl⟩ (.cons ⟨_, rfl⟩ .nil))⟩⟩
    | neg a => exact ⟨t8, u8, e8, ⟨_, _, _, m8, rfl, rfl, (by show 3 ≤ sizeLine; decide), (.cons ⟨_, rfl⟩ (.cons rfl (.cons ⟨_, rfl⟩ .nil)))⟩, ⟨_, _, _, v8, rfl, rfl, (by show 1 ≤ sizeLine; decide), (.cons ⟨_, rfl⟩ .nil)⟩⟩
    | ite p a b => exact ⟨t11, u11, e11, ⟨_, _, _, m11, rfl, rfl, (by show 3 ≤ sizeLine; decide), (.cons ⟨_, rfl⟩ (.cons rfl (.cons rfl .nil)))⟩, ⟨_, _, _, v11, rfl, rfl, (by show 3 ≤ sizeLine; decide), (.cons ⟨_, rfl⟩ (.cons rfl (.cons rfl .nil)))⟩⟩
  have NF : NoFm K dF := noFm_mk lF oF
  have hc_MOST_KNOTS := PySem.W.mg_of X G cn_MOST_KNOTS
  have hc_MOST_FIGURES := PySem.W.mg_of X G cn_MOST_FIGURES
  have hc_FIGURES := PySem.W.mg_of X G cn_FIGURES
  refine ⟨PySem.W.fnOf "law" "law" (defArgs s_law) (defBody s_law) (defScope s_law) .none kV47 dc47 pm47 an47 cd47 ct47, fun s v => .of_eq rfl, fun base _ _ => ?_⟩
  have C_cell := ok_l_cell (P := l.prog) (w := w) (base := base) B D_l_cell
  have C_flow := ok_l_flow C_cell D_l_flow
  have C_draw := ok_l_draw (P := l.prog) (w := w) (base := base) D_l_draw
  have C_numeral := ok_l_numeral C_draw D_l_numeral
  have C_leaf := ok_l_leaf B C_draw C_numeral D_l_leaf
  have C_made := ok_l_made B C_draw C_numeral C_leaf D_l_made 24
  have C_kinds := ok_l_kinds (K := K) B C_draw D_l_kinds
  have C_programN := ok_l_programN C_made D_l_program
  have C_program := ok_l_program C_programN
  have C_someN := ok_l_someN C_draw C_kinds C_programN D_l_some
  have C_whole := ok_is_whole (P := l.prog) (w := w) (base := base) B D_is_whole
  have C_mn := ok_many_numbers (P := l.prog) (base := base) F D_many_numbers
  have C_mp := ok_many_parts (P := l.prog) (base := base) B F D_many_parts
  have C_hf := ok_has_form B F C_whole C_mn C_mp D_has_form
  have C_po := ok_parts_of (K := K) C_mn D_parts_of
  have C_fo := ok_front_of (K := K) C_mn D_front_of
  have C_tk := ok_taken (P := l.prog) (w := w) (base := base) B D_taken
  have C_rf := ok_refuse_forms B C_hf D_refuse_forms
  have C_ri := ok_refuse_inputs (P := l.prog) (w := w) (base := base) B D_refuse_inputs
  have C_pf := ok_parts_fit (P := l.prog) (base := base) F D_parts_fit
  have C_ok := ok_own_kind (P := l.prog) (base := base) F D_own_kind
  have C_kn := ok_knots C_hf C_po D_knots
  have C_ko := ok_kind_of B C_kn C_rf C_ri C_tk C_mp C_pf C_ok D_kind_of
  have C_put := ok_put B C_kn C_tk C_mp C_fo D_put
  have C_kv := ok_knot_value (P := l.prog) (w := w) (base := base) (K := K) B D_knot_value
  have C_val := ok_value B C_kn C_tk C_mp C_kv D_value
  have C_in := ok_l_inputs (K := K) B C_draw D_l_inputs
  have C_isn := ok_is_number (P := l.prog) (w := w) (base := base) (K := K) B hc_MOST_FIGURES hc_FIGURES D_is_number
  have C_fa := ok_front_at B R_NoText C_mn C_isn D_front_at
  have C_bu := ok_built (K := K) B C_tk C_mp D_built
  have C_rd := ok_read B F NF R_NoText hc_MOST_KNOTS C_fa C_bu C_mp D_read
  have C_sh := ok_show B C_kn C_fo D_show
  have C_pair := ok_is_pair B C_whole D_is_pair
  have C_pairs := ok_are_pairs B C_pair D_are_pairs
  have C_triple := ok_is_triple B PG_ C_pairs D_is_triple
  have C_may := ok_may_stand (P := l.prog) (w := w) (base := base) B WG_ D_may_stand
  have C_amiss := ok_first_amiss (K := K) B C_may D_first_amiss
  have C_look := ok_look_stock B PG_ R_NoStock C_triple C_amiss D_look_stock
  have C_lh := ok_look_head (P := l.prog) (w := w) (base := base) B KK D_look_head
  have C_place := ok_place_of (P := l.prog) (w := w) (base := base) (K := K) D_place_of
  have C_st := ok_standing_of B C_place D_standing_of
  have C_or := ok_order_of B C_kn C_st D_order_of
  have C_cf := ok_comes_first C_or D_comes_first
  have C_wt := ok_weight C_kn C_st D_weight
  have C_lpairs := ok_l_pairs (K := K) B C_draw D_l_pairs
  have C_unl := ok_l_unlike (K := K) B C_numeral D_l_unlike
  have C_stock := ok_l_stock B C_draw C_unl C_lpairs D_l_stock
  have C_os := ok_l_of_stock (K := K) B C_draw D_l_of_stock 11
  exact ok_law B SG_ C_flow C_draw C_someN C_program C_in C_stock C_os C_lh C_ko C_kn C_put C_val C_sh C_rd C_look C_wt C_cf DN_look_head_head DN_kind_of_program_kinds DN_knots_program DN_put_some_program DN_show_program DN_read_text DN_value_inputs_program DN_look_stock_stock DN_weight_program DN_weight_stock_program DN_comes_first_stock_other_one (fun_mk l47 c47 k47)

end Lm
open PySem PySem.W PyProof.Rows
set_option maxRecDepth 100000 in
set_option maxHeartbeats 0 in
theorem PySem.Challenge.cw_leastmaker_k18_called_by_names_holds : PySem.Challenge.rw_leastmaker_k18_called_by_names.Holds := by
  w_on; o_law; k_head; (case hw => w_witness2)
  k_fill
  refine L2.walk_of (l := PySem.Challenge.rw_leastmaker_k18_called_by_names) (n := 63) (k := 30) (x := "_law_script") (CX := fun _ => L2.CX0) (sp := fun w => Lm.spLaw _) rfl (by decide) rfl ⟨rfl, by decide, by decide⟩ (fun w h Y => PySem.W.kIn_of Y) ?F (fun _ _ a ns hl _ hS => ⟨a, ns, rfl, hS, hl, fun _ => rfl⟩) (fun _ _ _ _ _ h => h)
  case F =>
    intro w mg fa h KX G hmg
    refine' Lm.all_mk KX G hmg ?a0 ?l0 ?c0 ?k0 ?a1 ?l1 ?c1 ?k1 ?a2 ?l2 ?c2 ?k2 ?a3 ?l3 ?c3 ?k3 ?a4 ?l4 ?c4 ?k4 ?a5 ?l5 ?c5 ?k5 ?a6 ?l6 ?c6 ?k6 ?a7 ?l7 ?c7 ?k7 ?a8 ?l8 ?c8 ?k8 ?a9 ?l9 ?c9 ?k9 ?a10 ?l10 ?c10 ?k10 ?a11 ?l11 ?c11 ?k11 ?a12 ?l12 ?c12 ?k12 ?a13 ?l13 ?c13 ?k13 ?a14 ?l14 ?c14 ?k14 ?a15 ?l15 ?c15 ?k15 ?a16 ?l16 ?c16 ?k16 ?kd16 ?a17 ?l17 ?c17 ?k17 ?kd17 ?a18 ?l18 ?c18 ?k18 ?a19 ?l19 ?c19 ?k19 ?a20 ?l20 ?c20 ?k20 ?a21 ?l21 ?c21 ?k21 ?a22 ?l22 ?c22 ?k22 ?a23 ?l23 ?c23 ?k23 ?a24 ?l24 ?c24 ?k24 ?a25 ?l25 ?c25 ?k25 ?a26 ?l26 ?c26 ?k26 ?a27 ?l27 ?c27 ?k27 ?a28 ?l28 ?c28 ?k28 ?a29 ?l29 ?c29 ?k29 ?a30 ?l30 ?c30 ?k30 ?a31 ?l31 ?c31 ?k31 ?a32 ?l32 ?c32 ?k32 ?a33 ?l33 ?c33 ?k33 ?a34 ?l34 ?c34 ?k34 ?a35 ?l35 ?c35 ?k35 ?a36 ?l36 ?c36 ?k36 ?a37 ?l37 ?c37 ?k37 ?a38 ?l38 ?c38 ?k38 ?a39 ?l39 ?c39 ?k39 ?a40 ?l40 ?c40 ?k40 ?a41 ?l41 ?c41 ?k41 ?a42 ?l42 ?c42 ?k42 ?a43 ?l43 ?c43 ?k43 ?a44 ?l44 ?c44 ?k44 ?a45 ?l45 ?c45 ?k45 ?a46 ?l46 ?c46 ?k46 ?a47 ?l47 ?c47 ?k47 ?z0 ?z1 ?z2 ?z3 ?z4 ?z5 ?z6 ?z7 ?z8 ?z9 ?z10 ?z11 ?z12 ?z13 ?z14 ?z15 ?z16 ?z17 ?z18 ?z19 ?aF ?lF ?kF ?wF ?e0 ?m0 ?v0 ?e1 ?m1 ?v1 ?e2 ?m2 ?v2 ?e3 ?m3 ?v3 ?e4 ?m4 ?v4 ?e5 ?m5 ?v5 ?e6 ?m6 ?v6 ?e7 ?m7 ?v7 ?e8 ?m8 ?v8 ?e9 ?m9 ?v9 ?e10 ?m10 ?v10 ?e11 ?m11 ?v11 ?oF ?cn_MOST_KNOTS ?cn_MOST_FIGURES ?cn_FIGURES ?a_NoText ?x_NoText ?sa_NoText ?ga_NoText ?gg_NoText ?i_NoText' ?ca_NoText ?t_NoText ?l_NoText ?c_NoText' ?kf_NoText ?kc_NoText ?ex_NoText ?ty_NoText ?hd_NoText ?is_NoText ?te_NoText ?ob_NoText ?gn_NoText ?tk_NoText ?f0_NoText ?a_NoStock ?x_NoStock ?sa_NoStock ?ga_NoStock ?gg_NoStock ?i_NoStock' ?ca_NoStock ?t_NoStock ?l_NoStock ?c_NoStock' ?kf_NoStock ?kc_NoStock ?ex_NoStock ?ty_NoStock ?hd_NoStock ?is_NoStock ?te_NoStock ?ob_NoStock ?gn_NoStock ?tk_NoStock ?f0_NoStock ?f1_NoStock ?aKI ?lKI ?aPTa ?aPTl0 ?aWDa ?aWDl0 ?aSKa ?aSKl0 ?aSKl1 ?aSKl2 ?aSKl3 ?aSKl4 ?aSKl5 ?aSKl6 ?aSKl7 ?aSKl8 ?aSKl9 ?aSKl10 ?aSKl11
    (case a0 => k_is)
    (case l0 => k_is)
    (case c0 => k_is)
    (case k0 => k_is)
    (case a1 => k_is)
    (case l1 => k_is)
    (case c1 => k_is)
    (case k1 => k_is)
    (case a2 => k_is)
    (case l2 => k_is)
    (case c2 => k_is)
    (case k2 => k_is)
    (case a3 => k_is)
    (case l3 => k_is)
    (case c3 => k_is)
    (case k3 => k_is)
    (case a4 => k_is)
    (case l4 => k_is)
    (case c4 => k_is)
    (case k4 => k_is)
    (case a5 => k_is)
    (case l5 => k_is)
    (case c5 => k_is)
    (case k5 => k_is)
    (case a6 => k_is)
    (case l6 => k_is)
    (case c6 => k_is)
    (case k6 => k_is)
    (case a7 => k_is)
    (case l7 => k_is)
    (case c7 => k_is)
    (case k7 => k_is)
    (case a8 => k_is)
    (case l8 => k_is)
    (case c8 => k_is)
    (case k8 => k_is)
    (case a9 => k_is)
    (case l9 => k_is)
    (case c9 => k_is)
    (case k9 => k_is)
    (case a10 => k_is)
    (case l10 => k_is)
    (case c10 => k_is)
    (case k10 => k_is)
    (case a11 => k_is)
    (case l11 => k_is)
    (case c11 => k_is)
    (case k11 => k_is)
    (case a12 => k_is)
    (case l12 => k_is)
    (case c12 => k_is)
    (case k12 => k_is)
    (case a13 => k_is)
    (case l13 => k_is)
    (case c13 => k_is)
    (case k13 => k_is)
    (case a14 => k_is)
    (case l14 => k_is)
    (case c14 => k_is)
    (case k14 => k_is)
    (case a15 => k_is)
    (case l15 => k_is)
    (case c15 => k_is)
    (case k15 => k_is)
    (case a16 => k_is)
    (case l16 => k_is)
    (case c16 => k_is)
    (case k16 => k_is)
    (case kd16 => k_is)
    (case a17 => k_is)
    (case l17 => k_is)
    (case c17 => k_is)
    (case k17 => k_is)
    (case kd17 => k_is)
    (case a18 => k_is)
    (case l18 => k_is)
    (case c18 => k_is)
    (case k18 => k_is)
    (case a19 => k_is)
    (case l19 => k_is)
    (case c19 => k_is)
    (case k19 => k_is)
    (case a20 => k_is)
    (case l20 => k_is)
    (case c20 => k_is)
    (case k20 => k_is)
    (case a21 => k_is)
    (case l21 => k_is)
    (case c21 => k_is)
    (case k21 => k_is)
    (case a22 => k_is)
    (case l22 => k_is)
    (case c22 => k_is)
    (case k22 => k_is)
    (case a23 => k_is)
    (case l23 => k_is)
    (case c23 => k_is)
    (case k23 => k_is)
    (case a24 => k_is)
    (case l24 => k_is)
    (case c24 => k_is)
    (case k24 => k_is)
    (case a25 => k_is)
    (case l25 => k_is)
    (case c25 => k_is)
    (case k25 => k_is)
    (case a26 => k_is)
    (case l26 => k_is)
    (case c26 => k_is)
    (case k26 => k_is)
    (case a27 => k_is)
    (case l27 => k_is)
    (case c27 => k_is)
    (case k27 => k_is)
    (case a28 => k_is)
    (case l28 => k_is)
    (case c28 => k_is)
    (case k28 => k_is)
    (case a29 => k_is)
    (case l29 => k_is)
    (case c29 => k_is)
    (case k29 => k_is)
    (case a30 => k_is)
    (case l30 => k_is)
    (case c30 => k_is)
    (case k30 => k_is)
    (case a31 => k_is)
    (case l31 => k_is)
    (case c31 => k_is)
    (case k31 => k_is)
    (case a32 => k_is)
    (case l32 => k_is)
    (case c32 => k_is)
    (case k32 => k_is)
    (case a33 => k_is)
    (case l33 => k_is)
    (case c33 => k_is)
    (case k33 => k_is)
    (case a34 => k_is)
    (case l34 => k_is)
    (case c34 => k_is)
    (case k34 => k_is)
    (case a35 => k_is)
    (case l35 => k_is)
    (case c35 => k_is)
    (case k35 => k_is)
    (case a36 => k_is)
    (case l36 => k_is)
    (case c36 => k_is)
    (case k36 => k_is)
    (case a37 => k_is)
    (case l37 => k_is)
    (case c37 => k_is)
    (case k37 => k_is)
    (case a38 => k_is)
    (case l38 => k_is)
    (case c38 => k_is)
    (case k38 => k_is)
    (case a39 => k_is)
    (case l39 => k_is)
    (case c39 => k_is)
    (case k39 => k_is)
    (case a40 => k_is)
    (case l40 => k_is)
    (case c40 => k_is)
    (case k40 => k_is)
    (case a41 => k_is)
    (case l41 => k_is)
    (case c41 => k_is)
    (case k41 => k_is)
    (case a42 => k_is)
    (case l42 => k_is)
    (case c42 => k_is)
    (case k42 => k_is)
    (case a43 => k_is)
    (case l43 => k_is)
    (case c43 => k_is)
    (case k43 => k_is)
    (case a44 => k_is)
    (case l44 => k_is)
    (case c44 => k_is)
    (case k44 => k_is)
    (case a45 => k_is)
    (case l45 => k_is)
    (case c45 => k_is)
    (case k45 => k_is)
    (case a46 => k_is)
    (case l46 => k_is)
    (case c46 => k_is)
    (case k46 => k_is)
    (case a47 => k_is)
    (case l47 => k_is)
    (case c47 => k_is)
    (case k47 => k_is)
    (case z0 => k_is)
    (case z1 => k_is)
    (case z2 => k_is)
    (case z3 => k_is)
    (case z4 => k_is)
    (case z5 => k_is)
    (case z6 => k_is)
    (case z7 => k_is)
    (case z8 => k_is)
    (case z9 => k_is)
    (case z10 => k_is)
    (case z11 => k_is)
    (case z12 => k_is)
    (case z13 => k_is)
    (case z14 => k_is)
    (case z15 => k_is)
    (case z16 => k_is)
    (case z17 => k_is)
    (case z18 => k_is)
    (case z19 => k_is)
    (case aF => k_is)
    (case lF => k_is)
    (case kF => k_keys)
    (case wF => first | rfl | decide | k_is)
    (case e0 => k_is)
    (case m0 => k_is)
    (case v0 => k_is)
    (case e1 => k_is)
    (case m1 => k_is)
    (case v1 => k_is)
    (case e2 => k_is)
    (case m2 => k_is)
    (case v2 => k_is)
    (case e3 => k_is)
    (case m3 => k_is)
    (case v3 => k_is)
    (case e4 => k_is)
    (case m4 => k_is)
    (case v4 => k_is)
    (case e5 => k_is)
    (case m5 => k_is)
    (case v5 => k_is)
    (case e6 => k_is)
    (case m6 => k_is)
    (case v6 => k_is)
    (case e7 => k_is)
    (case m7 => k_is)
    (case v7 => k_is)
    (case e8 => k_is)
    (case m8 => k_is)
    (case v8 => k_is)
    (case e9 => k_is)
    (case m9 => k_is)
    (case v9 => k_is)
    (case e10 => k_is)
    (case m10 => k_is)
    (case v10 => k_is)
    (case e11 => k_is)
    (case m11 => k_is)
    (case v11 => k_is)
    (case oF => first | rfl | decide +kernel)
    (case cn_MOST_KNOTS => k_is)
    (case cn_MOST_FIGURES => k_is)
    (case cn_FIGURES => k_is)
    (case a_NoText => k_is)
    (case x_NoText => k_is)
    (case sa_NoText => k_is)
    (case ga_NoText => k_is)
    (case gg_NoText => k_is)
    (case i_NoText' => k_is)
    (case ca_NoText => k_is)
    (case t_NoText => k_is)
    (case l_NoText => k_is)
    (case c_NoText' => k_is)
    (case kf_NoText => k_is)
    (case kc_NoText => k_is)
    (case ex_NoText => k_is)
    (case ty_NoText => k_is)
    (case hd_NoText => k_is)
    (case is_NoText => k_is)
    (case te_NoText => first | rfl | k_is)
    (case ob_NoText => first | rfl | k_is)
    (case gn_NoText => first | rfl | k_is)
    (case tk_NoText => first | rfl | k_is)
    (case f0_NoText => k_is)
    (case a_NoStock => k_is)
    (case x_NoStock => k_is)
    (case sa_NoStock => k_is)
    (case ga_NoStock => k_is)
    (case gg_NoStock => k_is)
    (case i_NoStock' => k_is)
    (case ca_NoStock => k_is)
    (case t_NoStock => k_is)
    (case l_NoStock => k_is)
    (case c_NoStock' => k_is)
    (case kf_NoStock => k_is)
    (case kc_NoStock => k_is)
    (case ex_NoStock => k_is)
    (case ty_NoStock => k_is)
    (case hd_NoStock => k_is)
    (case is_NoStock => k_is)
    (case te_NoStock => first | rfl | k_is)
    (case ob_NoStock => first | rfl | k_is)
    (case gn_NoStock => first | rfl | k_is)
    (case tk_NoStock => first | rfl | k_is)
    (case f0_NoStock => k_is)
    (case f1_NoStock => k_is)
    (case aKI => k_is)
    (case lKI => k_is)
    (case aPTa => k_is)
    (case aPTl0 => k_is)
    (case aWDa => k_is)
    (case aWDl0 => k_is)
    (case aSKa => k_is)
    (case aSKl0 => k_is)
    (case aSKl1 => k_is)
    (case aSKl2 => k_is)
    (case aSKl3 => k_is)
    (case aSKl4 => k_is)
    (case aSKl5 => k_is)
    (case aSKl6 => k_is)
    (case aSKl7 => k_is)
    (case aSKl8 => k_is)
    (case aSKl9 => k_is)
    (case aSKl10 => k_is)
    (case aSKl11 => k_is)

