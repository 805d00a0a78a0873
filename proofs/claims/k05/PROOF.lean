import PyProof.Rows.All
import Wide.All
import OpenK.AllK
import Wide.FinOn
import HandS.ForMost
import HandS.TupMul
import HandS.TupAny
import HandS.Style
import KE.SortData
import KE.KDictKeyed
import KE.KDictSum
import KE.GoesEnum
import KE.KDictPairs
import HandS.Rev
import HandS.Deep
import PyProof.EqAt
import PyProof.EqKinds
import PyProof.TupleCall
import HandS.WordsExc
import HandS.TryMany
import HandS.Lambda
import HandS.Wide
import HandS.Gcd
import HandS.FStr
import HandS.RaiseMore
import HandS.CallSlots
import HandS.StrMore
import HandS.TupLe
import HandS.NoneIn
import HandS.SortInts
import KE.KeyNested
import HandS.Zip
import HandS.TryOnly
import HandS.Conv
import HandS.IsInst
import HandS.Defaults
import HandS.HeadHook4
import HandS.HeadWalk
import HandS.Head2
import HandS.Head3
import PySem.Challenge.RW_stepwright_k05_curves
/-! ## PV0a -/
section
set_option Elab.async false
set_option linter.all false
set_option maxRecDepth 100000
set_option maxHeartbeats 4000000
/-! More of the model: tuple * int for all ints, tuple[::-1]. -/
namespace L2
open PySem PySem.Spec PyProof.Rows
/-- nothing to repeat, or once: the same tuple -/
theorem tuple_mulS (l : Addr) (items : Array Value) (n : Nat) (sl : Array (Option Value)) (dd : Option Addr) (x : Int) (u : Tok) (c0 : (decide (x < -(2 ^ 63)) || decide (x ≥ 2 ^ 63)) = false) (c1 : (items.isEmpty || x == 1) = true) :
    Meets (Builtin.«tuple.__mul__» ⟨[.ref l, .int x u], []⟩) (fun _ R s => s.heap.get? l = some { cls := .type "tuple", dict := dd, data := .seq items n, slots := sl } ∧ R (.ok (.ret (Value.ref l))) s) :=
  .of_wp fun prog w A R s h => by
    obtain ⟨hp, g, d, tk, os⟩ := s
    obtain ⟨hl, h⟩ := h
    have f1 := AutoSeq1.idx_int
    wp_walk using wpAny_loadPart' hl
    repeat (first
      | (refine wpAny_ite_false (decide_eq_false (by rw [c0]; exact Bool.false_ne_true)) ?_; wp_walk using wpAny_loadPart' hl)
      | (refine wpAny_ite_true (decide_eq_true c1) ?_; wp_walk using wpAny_loadPart' hl))
    exact ⟨_, rfl, h⟩
/-- no times: a new empty one -/
theorem tuple_mul0 (l : Addr) (items : Array Value) (n : Nat) (sl : Array (Option Value)) (dd : Option Addr) (x : Int) (u : Tok) (c0 : (decide (x < -(2 ^ 63)) || decide (x ≥ 2 ^ 63)) = false) (c1 : (items.isEmpty || x == 1) = false) (c2 : (decide (x ≤ 0) || items.isEmpty) = true) :
    Meets (Builtin.«tuple.__mul__» ⟨[.ref l, .int x u], []⟩) (fun _ R s => s.heap.get? l = some { cls := .type "tuple", dict := dd, data := .seq items n, slots := sl } ∧
      R (.ok (.ret (Value.ref s.heap.objs.size))) { s with heap := s.heap.push { cls := Value.type "tuple", data := Data.seq #[] }, toks := s.toks }) :=
  .of_wp fun prog w A R s h => by
    obtain ⟨hp, g, d, tk, os⟩ := s
    obtain ⟨hl, h⟩ := h
    have f1 := AutoSeq1.idx_int
    wp_walk using wpAny_loadPart' hl
    repeat (first
      | (refine wpAny_ite_false (decide_eq_false (by rw [c0]; exact Bool.false_ne_true)) ?_; wp_walk using wpAny_loadPart' hl)
      | (refine wpAny_ite_false (decide_eq_false (by rw [c1]; exact Bool.false_ne_true)) ?_; wp_walk using wpAny_loadPart' hl)
      | (refine wpAny_ite_true (decide_eq_true c2) ?_; wp_walk using wpAny_loadPart' hl))
    exact ⟨_, rfl, h⟩
def rRepA (K : PySem.W.Frag) : R2 := fun x y H Q => ∃ l k xs, x = .ref l ∧ y = .int k ∧ SqT K H l xs ∧ -1000000 ≤ k ∧ k ≤ 1000 ∧ xs.length ≤ 1000 ∧ (xs = [] ∨ k = 1 → Q (.ref l) H) ∧
  (xs ≠ [] → k ≤ 0 → ∀ p, H p = none → Q (.ref p) (upd H p (.tup []))) ∧ (xs ≠ [] → 2 ≤ k → ∀ p, H p = none → Q (.ref p) (upd H p (.tup (List.replicate k.toNat xs).flatten)))
section
variable {X : Cx}
theorem op_repA : OpR X (binaryOp .Mult) (rRepA X.K) := by
  intro pins s σ H x y v u Q I rx ry h
  obtain ⟨l, k, xs, rfl, rfl, hT, h1, h2, hz, q1, q2, q3⟩ := h
  by_cases hb : xs ≠ [] ∧ 2 ≤ k
  · exact op_repT pins s σ H _ _ v u Q I rx ry ⟨l, k, xs, rfl, rfl, hT, hb.1, hb.2, h2, hz, q3 hb.1 hb.2⟩
  cases rx
  obtain ⟨t, rfl⟩ := ry
  obtain ⟨its, r, ⟨⟨cls, dd, data, sl⟩, ho, hc, n, hd⟩, hs⟩ := I.tuple hT
  simp only at hc hd
  subst hc hd
  have hle : its.length = xs.length := r.length.symm
  have c0 : (decide (k < -(2 ^ 63)) || decide (k ≥ 2 ^ 63)) = false := by
    rw [decide_eq_false (by omega), decide_eq_false (by omega)] <;> rfl
  have emp : its.toArray.isEmpty = decide (xs = []) := by
    cases its with
    | nil => have : xs = [] := List.eq_nil_of_length_eq_zero hle.symm; simp [this]
    | cons a b => have : xs ≠ [] := fun e => by subst e; simp at hle
                  simp [this]
  refine wpAny_binaryOp_repeat_ref (T := "tuple") (U := "int") (by decide) ⟨_, ho, rfl⟩ (fun s' => typeIs_int s' k t) noFill_tuple_mul F.fills_int_mul F.slot_int_rmul repeat_tuple F.slot_int_index.lookup
    (call_meets F.slot_int_rmul (typeIs_int s k t) F.entry_int_rmul (F.args_int_rmul_2 _ _) (int_rmul_tuple k t l its.toArray n dd sl) ⟨ho, rfl, ⟨_, ho, rfl⟩, ?_⟩)
  by_cases hs1 : xs = [] ∨ k = 1
  · have c1 : (its.toArray.isEmpty || k == 1) = true := by
      rw [emp]
      rcases hs1 with e | e <;> simp [e]
    exact call_meets F.slot_tuple_mul ⟨_, ho, rfl⟩ F.entry_tuple_mul (F.args_tuple_mul_2 _ _) (tuple_mulS l its.toArray n sl dd k t c0 c1) ⟨ho, ⟨.ref l, H, I, rfl, q1 hs1⟩⟩
  · have hx : xs ≠ [] := fun e => hs1 (.inl e)
    have hk : k ≤ 0 := by
      have : ¬ k = 1 := fun e => hs1 (.inr e)
      have : ¬ 2 ≤ k := fun e => hb ⟨hx, e⟩
      omega
    have c1 : (its.toArray.isEmpty || k == 1) = false := by
      rw [emp, decide_eq_false hx, Bool.false_or]
      exact beq_eq_false_iff_ne.mpr (by omega)
    have c2 : (decide (k ≤ 0) || its.toArray.isEmpty) = true := by rw [decide_eq_true hk]; rfl
    refine call_meets F.slot_tuple_mul ⟨_, ho, rfl⟩ F.entry_tuple_mul (F.args_tuple_mul_2 _ _) (tuple_mul0 l its.toArray n sl dd k t c0 c1 c2) ⟨ho, ?_⟩
    refine ⟨.ref s.heap.objs.size, _, I.laid (t' := s.toks) (o := .tup []) (fun b ob q => Heap.get?_push_of_some _ q) (Nat.le_refl _) ?_, rfl, q2 hx hk _ (I.hok.fresh (Nat.le_refl _))⟩
    exact ⟨Nat.zero_le _, [], .nil, IsTup.new _ _⟩

/-! ### t[::-1], t a tuple -/
theorem sliceApplied_back {prog : Program} {w : World} {A : Around} {E : Value → Shared → Prop} {s : Shared} {sl : Addr} {vl vu vs : Value} {n : Nat} {Q : Int × Int × Nat → Shared → Prop} (hs : s.heap.IsSliceOf sl vl vu vs) (pl : IsPart vl none) (pu : IsPart vu none) (ps : IsPart vs (some (-1)))
    (h : Q ((n : Int) - 1, -1, n) s) : wpAny (model prog w) A (Builtin.Slice.sliceApplied (.ref sl) (pure (n : Int))) Q E s := by
  obtain ⟨os, hos, hcs, hds⟩ := id hs
  unfold Builtin.Slice.sliceApplied Builtin.Slice.sliceFields
  refine wpAny_bind (wpAny_bind (wpAny_field hos hds (x := vl) rfl (wpAny_bind (wpAny_field hos hds (x := vu) rfl (wpAny_bind (wpAny_field hos hds (x := vs) rfl (wpAny_pure ?_)))))))
  refine wpAny_bind (HT.slicePart_ ps ?_)
  show wpAny _ _ (if ((-1 : Int) == 0) = true then _ else _) _ _ s
  rw [if_neg (by decide)]
  refine wpAny_bind (HT.slicePart_ pl (wpAny_bind (HT.slicePart_ pu (wpAny_bind (wpAny_pure ?_)))))
  have e1 : Builtin.Slice.sliceAdjust none none (-1) (n : Int) = ((n : Int) - 1, -1) := by
    unfold Builtin.Slice.sliceAdjust
    simp
  have e2 : Builtin.Slice.slicePlaces ((n : Int) - 1) (-1) (-1) = n := by
    unfold Builtin.Slice.slicePlaces
    simp
    try omega
  show wpAny _ _ (match Builtin.Slice.sliceAdjust none none (-1) (n : Int) with | (lo, hi) => pure (lo, (-1 : Int), Builtin.Slice.slicePlaces lo hi (-1))) _ _ s
  rw [e1]
  show wpAny _ _ (pure ((n : Int) - 1, (-1 : Int), Builtin.Slice.slicePlaces ((n : Int) - 1) (-1) (-1))) _ _ s
  rw [e2]
  exact wpAny_pure h
theorem fmap_congr {α β : Type} {f g : α → Option β} : ∀ {l : List α}, (∀ x ∈ l, f x = g x) → l.filterMap f = l.filterMap g
  | [], _ => rfl
  | x :: l, h => by
    rw [List.filterMap_cons, List.filterMap_cons, h x (List.mem_cons_self ..), fmap_congr fun y hy => h y (List.mem_cons_of_mem _ hy)]
theorem pick_back (xs : Array Value) : ((List.range xs.size).filterMap fun (k : Nat) => xs[(((xs.size : Int) - 1) + (k : Int) * (-1)).toNat]?).toArray = xs.toList.reverse.toArray := by
  congr 1
  have e : ((List.range xs.size).filterMap fun (k : Nat) => xs[(((xs.size : Int) - 1) + (k : Int) * (-1)).toNat]?) = (List.range xs.size).filterMap fun k => xs[xs.size - 1 - k]? := by
    refine fmap_congr fun k hk => ?_
    have hk := List.mem_range.mp hk
    have : (((xs.size : Int) - 1) + (k : Int) * (-1)).toNat = xs.size - 1 - k := by omega
    rw [this]
  rw [e, show (fun k => xs[xs.size - 1 - k]?) = (fun k => xs[k]?) ∘ (fun k => xs.size - 1 - k) from rfl, ← List.filterMap_map, PySem.W.krv_range, List.filterMap_reverse, PySem.W.krv_all]
theorem getItem_tuple_back {prog : Program} {w : World} {A : Around} {E : Value → Shared → Prop} {s : Shared} {t sl : Addr} {items : Array Value} {vl vu vs : Value} {Q : Value → Shared → Prop} (ht : IsTup s.heap t items) (hs : s.heap.IsSliceOf sl vl vu vs) (pl : IsPart vl none) (pu : IsPart vu none) (ps : IsPart vs (some (-1)))
    (h : Q (.ref s.heap.objs.size) { s with heap := s.heap.push { cls := .type "tuple", data := .seq items.toList.reverse.toArray } }) (hsz : items.size ≤ sizeLine) : wpAny (model prog w) A (getItem (.ref t) (.ref sl)) Q E s := by
  obtain ⟨os, hos, hcs, hds⟩ := id hs
  have hTs : s.TypeIs (.ref sl) "slice" := ⟨os, hos, hcs⟩
  unfold getItem
  try with_reducible refine wpAny_holding ?_
  first | refine wpAny_bind (wpAny_pure ?_) | skip
  refine wpAny_bind (wpAny_sequenceKey ht.typeIs (by decide) ?_)
  refine wpAny_bind (wpAny_callSpecial?_slot (name := Str.ofString "__getitem__") ht.typeIs PyProof.Rows.slot_tuple_getitem
    (wpAny_call_entry PyProof.Rows.slot_tuple_getitem ht.typeIs entry_tuple_getitem ?_ (args_tuple_getitem _ _)))
  show wpAny _ _ (Builtin.Tuple.tupleItemsOf (.ref t) >>= _) _ _ s
  refine wpAny_bind (tupleItemsOf_ ht ?_)
  refine wpAny_bind (wpAny_typeOf hTs ?_)
  rw [if_pos (by decide)]
  refine wpAny_bind (sliceApplied_back hs pl pu ps ?_)
  have hno : ¬ (((items.size : Int) - 1 == 0 && (-1 : Int) == 1 && items.size == items.size) = true) := by simp
  show wpAny _ _ (if ((items.size : Int) - 1 == 0 && (-1 : Int) == 1 && items.size == items.size) = true then _ else _) _ _ s
  rw [if_neg hno]
  rw [pick_back]
  unfold Builtin.Tuple.tupleExact
  refine wpAny_bind (wpAny_newObj_type ?_ (by show items.toList.reverse.toArray.size ≤ sizeLine; rw [List.size_toArray, List.length_reverse, Array.length_toList]; exact hsz))
  exact wpAny_pure ⟨_, rfl, wpAny_pure h⟩
def tRevT (K : PySem.W.Frag) (te : TE) : TE := fun σ H Q => te σ H fun x H1 => ∃ a xs, x = .ref a ∧ ((SqL K H1 a xs ∧ ∀ p, H1 p = none → Q (.ref p) (upd H1 p (.lst xs.reverse))) ∨ (SqT K H1 a xs ∧ ∀ p, H1 p = none → Q (.ref p) (upd H1 p (.tup xs.reverse))))
theorem pe_revA {e : Expr} {te : TE} {k : Nat} {p1 p2 p3 pos : Pos} (he : PE X e te) : PE X (.Subscript e (.Slice none none (some (.UnaryOp .USub (.Constant (.int 1) k p1) p2)) p3) pos) (tRevT X.K te) := by
  refine ⟨fun pins s σ H Q I h => ?_⟩
  refine Subscript_ (thn (he.run pins s σ H _ I h) fun v s1 ⟨x, H1, I1, r1, q1⟩ => ?_)
  obtain ⟨a, xs, ex, q⟩ := q1
  subst ex
  cases r1
  have hst : PO X (some (.UnaryOp .USub (.Constant (.int 1) k p1) p2)) (tPart (tUn (rU fun i => .int (-i)) (tC (.int 1)))) := po_some (pe_un un_neg pe_int)
  refine wpAny_Slice (thn (po_none.run pins s1 σ H1 (fun o H2 => o = none ∧ H2 = H1) I1 ⟨rfl, rfl⟩) fun vl s2 ⟨l, H2, I2, pl, el, e2⟩ => ?_)
  subst el e2
  refine thn (po_none.run pins s2 σ H2 (fun o H3 => o = none ∧ H3 = H2) I2 ⟨rfl, rfl⟩) fun vu s3 ⟨u, H3, I3, pu, eu, e3⟩ => ?_
  subst eu e3
  refine thn (hst.run pins s3 σ H3 (fun o H4 => o = some (-1) ∧ H4 = H3) I3 ⟨1, rfl, -1, rfl, rfl, rfl⟩) fun vs s4 ⟨o, H4, I4, ps, eo, e4⟩ => ?_
  subst eo e4
  have I5 : Inv X pins σ H4 { s4 with heap := s4.heap.push { cls := .type "slice", data := .fields #[vl, vu, vs] } } := I4.kept (t' := s4.toks) fun b ob q => Heap.get?_push_of_some _ q
  rcases q with ⟨hx, q⟩ | ⟨hx, q⟩
  · obtain ⟨its, r, ht, hz⟩ := I5.list hx
    have hlen := r.length
    show wpAny (model X.prog X.w) X.A (subscriptTail e (.Slice none none (some (.UnaryOp .USub (.Constant (.int 1) k p1) p2)) p3) (.ref a) (.ref s4.heap.objs.size)) (EP X pins σ Q) X.xe { s4 with heap := s4.heap.push { cls := .type "slice", data := .fields #[vl, vu, vs] } }
    refine tail_any (ops := [.ref a, .ref s4.heap.objs.size]) ht.isList.typeIs (PySem.slot_list_getitem.lookup) ?_ (by with_unfolding_all rfl)
    refine wpAny_getItem_list_slice ht.isList (Heap.IsSliceOf.new _ vl vu vs) pl pu ps (by decide) ?_ (by rw [List.size_toArray]; omega)
    rw [PySem.W.krv_pick]
    refine ⟨.ref _, _, I5.laid (t' := s4.toks) (o := .lst xs.reverse) (fun b ob q => Heap.get?_push_of_some _ q) (Nat.le_refl _) ?_, rfl, q _ (I5.hok.fresh (Nat.le_refl _))⟩
    exact ⟨by rw [List.length_reverse]; exact hz, _, 0, r.reverse, Heap.get?_push_size _ rfl⟩
  · obtain ⟨its, r, ht, hz⟩ := I5.tuple hx
    have hlen := r.length
    show wpAny (model X.prog X.w) X.A (subscriptTail e (.Slice none none (some (.UnaryOp .USub (.Constant (.int 1) k p1) p2)) p3) (.ref a) (.ref s4.heap.objs.size)) (EP X pins σ Q) X.xe { s4 with heap := s4.heap.push { cls := .type "slice", data := .fields #[vl, vu, vs] } }
    refine tail_any (ops := [.ref a, .ref s4.heap.objs.size]) ht.typeIs (PyProof.Rows.slot_tuple_getitem.lookup) ?_ (by with_unfolding_all rfl)
    refine getItem_tuple_back ht (Heap.IsSliceOf.new _ vl vu vs) pl pu ps ?_ (by rw [List.size_toArray]; omega)
    refine ⟨.ref _, _, I5.laid (t' := s4.toks) (o := .tup xs.reverse) (fun b ob q => Heap.get?_push_of_some _ q) (Nat.le_refl _) ?_, rfl, q _ (I5.hok.fresh (Nat.le_refl _))⟩
    exact ⟨by rw [List.length_reverse]; exact hz, _, r.reverse, IsTup.new _ _⟩
end
end L2
end
/-! ## PV0b -/
section
set_option Elab.async false
set_option linter.all false
set_option maxRecDepth 100000
set_option maxHeartbeats 4000000
/-! sorted of alike data, empty tuples among them too. -/
namespace PySem.SeqAt
theorem call_tuple_lt {prog : Program} {w : World} {A : Around} {s : Shared} {E : Value → Shared → Prop} {Q : Value → Shared → Prop} {l b : Addr} {items items2 : Array Value} {e r : Nat → Bool} (hl : s.heap.IsTuple l items) (hb : s.heap.IsTuple b items2)
    (he : ∀ j (h1 : j < items.size) (h2 : j < items2.size), EqAt A.in1 s items[j] items2[j] (e j)) (hr : ∀ j (h1 : j < items.size) (h2 : j < items2.size), e j = false → RcLt A.in1 s items[j] items2[j] (r j))
    (h : Q (.bool (firstLt e r (decide (items.size < items2.size)) (List.range (min items.size items2.size)))) s) : wpAny (model prog w) A (call (.builtin "tuple.__lt__") [.ref l, .ref b]) Q E s := by
  obtain ⟨⟨cls, dd, data, sl⟩, ho, hc, n, hd⟩ := hl
  obtain ⟨⟨cls2, dd2, data2, sl2⟩, ho2, hc2, n2, hd2⟩ := hb
  simp only at hc hd hc2 hd2
  subst hc hd hc2 hd2
  exact call_meets F.slot_tuple_lt ⟨_, ho, rfl⟩ F.entry_tuple_lt (F.args_tuple_lt_2 _ _) (tuple_ltAt l b items items2 n n2 dd dd2 sl sl2 e r) ⟨ho, ho2, he, hr, h⟩
end PySem.SeqAt
namespace PySem.W
open PySem PySem.Calls PyProof.Rows SeqAt
section
variable {prog : Program} {w : World} {A : Around} {E : Value → Shared → Prop} {s : Shared}
theorem oneLt_alikeT {f : Bool} {da db : PyData} {a b : Value} {as bs : List Addr} {Q : Bool → Shared → Prop} (ra : Reads s.heap a da as) (rb : Reads s.heap b db bs) (h : alike da db = true) (hn : da ≠ .none)
    (hu : A.units + min da.depth db.depth < cLine) (hq : Q (dataLt da db) s) : wpAny (model prog w) A (oneLt' f a b) Q E s := by
  by_cases ht : f = true ∧ ∃ xs, da = .tuple xs
  · obtain ⟨rfl, xs, rfl⟩ := ht
    cases db with
    | tuple ys =>
      have hal : alikeAll xs ys = true := by simpa [alike] using h
      cases ra with
      | @tuple l o vs n _ as₁ h1 h2 h3 h4 =>
        cases rb with
        | @tuple l' o' vs' n' _ bs₁ k1 k2 k3 k4 =>
          have n1 : vs.size = xs.length := by simpa using ReadsAll.length _ _ _ h4
          have n2 : vs'.size = ys.length := by simpa using ReadsAll.length _ _ _ k4
          rw [dataLt_tuple, ← firstLt_toks xs ys hal, ← n1, ← n2] at hq
          rw [oneLt'_eq]
          simp only [if_true]
          refine wpAny_bind (wpAny_cRoomFor (room_here hu) ?_)
          refine wpAny_bind (wpAny_callSpecialIfBound?_slot (T := "tuple") ⟨_, h1, h2⟩ F.slot_tuple_lt (call_tuple_lt (e := pairEq xs ys) (r := fun j => dataLt (xs.getD j .none) (ys.getD j .none)) ⟨_, h1, h2, _, h3⟩ ⟨_, k1, k2, _, k3⟩ (fun j j1 j2 => ?_) (fun j j1 j2 hj => ?_) ?_))
          · have := eqAt_alikeAll xs ys A.in1 s vs.toList vs'.toList _ _ h4 k4 hal (room_in hu) j (by simpa using j1) (by simpa using j2)
            simpa using this
          · have := rcLt_alikeAll xs ys A.in1 s vs.toList vs'.toList _ _ h4 k4 hal (room_in hu) j (by simpa using j1) (by simpa using j2) hj
            simpa using this
          · exact wpAny_truthy_bool hq
    | _ => exact absurd h (by simp [alike])
  · exact oneLt_alike (fun hf xs e => ht ⟨hf, xs, e⟩) ra rb h hn hu hq
theorem keyLt'_general (x y : Value) : keyLt' general' x y = oneLt' false x y := rfl

/-- the first items of tuples, of empty ones none -/
theorem firsts_tup {M : Model} : ∀ {vs : List Value} {ds : List PyData}, EachIs (fun v d => ∃ as, Reads s.heap v d as) vs ds → (∀ d ∈ ds, ∃ xs, d = .tuple xs) → ∃ os : List (Option Value), (.tuple [] ∈ ds → os.all (·.isSome) = false) ∧ os.length = vs.length ∧
    ∀ (E : Value → Shared → Prop) (Q : List (Option Value) → Shared → Prop), Q os s → wpAny M A (vs.mapM firstOfTuple') Q E s
  | _, _, .nil, _ => ⟨[], fun h => (nomatch h), rfl, fun E Q hq => by rw [List.mapM_nil]; exact wpAny_pure hq⟩
  | _, _, .cons (a := v) (b := d) ⟨as, r⟩ t, ht => by
    obtain ⟨os, h1, h2, h3⟩ := firsts_tup (M := M) t fun d hd => ht d (List.mem_cons_of_mem _ hd)
    obtain ⟨xs, rfl⟩ := ht d (List.mem_cons_self ..)
    cases r with
    | @tuple a o ys n _ _ ho hc hd hr =>
      refine ⟨ys[0]? :: os, fun hm => ?_, by rw [List.length_cons, List.length_cons, h2], fun E Q hq => ?_⟩
      · rcases List.mem_cons.mp hm with e | hm
        · cases e
          have hz : ys.toList = [] := by
            have := SeqAt.ReadsAll.length _ _ _ hr
            exact List.eq_nil_of_length_eq_zero (by simpa using this)
          have : ys[0]? = none := by rw [← Array.getElem?_toList, hz]; rfl
          rw [List.all_cons, this]; rfl
        · rw [List.all_cons, h1 hm, Bool.and_false]
      · rw [List.mapM_cons]
        refine wpAny_bind ?_
        rw [kas_first_eq]
        refine wpAny_bind ((looks_reads (M := M) (Reads.tuple ho hc hd hr)).here ?_)
        rw [show dataType (PyData.tuple xs) = Value.type "tuple" from rfl, if_neg (by first | decide | simp)]
        refine wpAny_bind (listItems_at ho hd (wpAny_pure ?_))
        exact wpAny_bind (h3 E _ (wpAny_pure hq))
/-- alike values that are no None can be sorted -/
theorem SortsAt.alike {vs : List Value} {ds : List PyData} (e : EachIs (fun v d => ∃ as, Reads s.heap v d as) vs ds) (hal : AllAlike ds) (hn : ∀ d ∈ ds, d ≠ .none) (hu : ∀ d, d ∈ ds → A.units + d.depth < cLine) : SortsAt prog w A s (dataKind s.heap ds) vs := by
  by_cases hS : Sortable ds
  · exact SortsAt.data e hal hS hu
  have room : ∀ {d d' : PyData}, d ∈ ds → A.units + min d.depth d'.depth < cLine := fun {d d'} hd => Nat.lt_of_le_of_lt (Nat.add_le_add_left (Nat.min_le_left _ _) _) (hu d hd)
  -- one of them is a tuple, so all are; one is empty
  have hex : ∃ d xs, d ∈ ds ∧ d = PyData.tuple xs := Classical.byContradiction fun hno => hS (.inr fun d hd => ⟨hn d hd, fun xs e => hno ⟨d, xs, hd, e⟩⟩)
  have hall : ∀ d ∈ ds, ∃ xs, d = PyData.tuple xs := fun d hd => by
    obtain ⟨d0, xs0, h0, rfl⟩ := hex
    have := hal d hd _ h0
    cases d <;> simp [PySem.W.alike] at this
    exact ⟨_, rfl⟩
  have hemp : PyData.tuple [] ∈ ds := Classical.byContradiction fun hno => hS (.inl fun d hd => by
    obtain ⟨xs, rfl⟩ := hall d hd
    cases xs with
    | nil => exact absurd hd hno
    | cons x r => exact ⟨x, r, rfl⟩)
  obtain ⟨os, h1, h2, h3⟩ := firsts_tup (M := model prog w) (A := A) e hall
  have lts : ∀ f : Bool, ∀ (E : Value → Shared → Prop) (x y : Value) (a b : (dataKind s.heap ds).α) (Q : Bool → Shared → Prop), (dataKind s.heap ds).keyOf x = some a → (dataKind s.heap ds).keyOf y = some b → Q ((dataKind s.heap ds).blt a b) s → wpAny (model prog w) A (oneLt' f x y) Q E s := fun f E x y a b Q ha hb hq => by
    obtain ⟨d, as, hd, ra, rfl⟩ := dataKind_inv ha
    obtain ⟨d', as', hd', rb, rfl⟩ := dataKind_inv hb
    exact oneLt_alikeT ra rb (hal d hd d' hd') (hn d hd) (room hd) hq
  refine ⟨fun v hv => ?_, if (os.toArray[0]?.bind id).isSome = true then general' else oneType', ?_, fun hlen E Q hq => ?_⟩
  · obtain ⟨d, hd, as, r⟩ := e.left v hv
    exact ⟨_, dataKind_some hal hd r⟩
  · split
    · intro E x y a b Q ha hb hq
      rw [keyLt'_general]
      exact lts false E x y a b Q ha hb hq
    · intro E x y a b Q ha hb hq
      rw [keyLt'_oneType]
      exact lts true E x y a b Q ha hb hq
  · rw [kat_kind_eq, List.mapM_toArray, map_eq_pure_bind]
    refine wpAny_bind (wpAny_bind (h3 _ _ (wpAny_pure ?_)))
    have ha : (os.toArray.all fun x => x.isSome) = false := by rw [List.all_toArray]; exact h1 hemp
    rw [if_neg (by rw [ha]; exact Bool.false_ne_true)]
    by_cases h0 : (os.toArray[0]?.bind id).isSome = true
    · rw [if_pos h0] at hq ⊢
      exact wpAny_pure hq
    · rw [if_neg h0] at hq ⊢
      rw [oneTypeOnly'_eq, List.mapM_toArray, map_eq_pure_bind]
      refine wpAny_bind (wpAny_bind (wpAny_bind (kas_mapM (r := Value.type "tuple") _ (fun v hv Q' hq' => ?_) (wpAny_pure ?_))))
      · obtain ⟨d, hd, as, r⟩ := e.left v hv
        obtain ⟨xs, rfl⟩ := hall d hd
        exact (looks_reads r).here hq'
      · obtain ⟨v1, vr, rfl⟩ : ∃ v1 vr, vs = v1 :: vr := by
          cases vs with
          | nil => simp at hlen
          | cons v1 vr => exact ⟨v1, vr, rfl⟩
        have hall2 : ((List.map (fun _ => Value.type "tuple") (v1 :: vr)).toArray.all fun x => x == Value.type "tuple") = true := by
          simp only [List.all_toArray, List.all_map, List.all_eq_true]
          intro _ _
          exact beq_self_eq_true _
        have h00 : (List.map (fun _ => Value.type "tuple") (v1 :: vr)).toArray[0]? = some (Value.type "tuple") := by simp
        rw [h00]
        simp only [hall2, if_true]
        exact wpAny_pure (wpAny_pure hq)
end
end PySem.W

/-! ### in order by putting in -/
namespace PySem.W
open PySem PySem.Calls PyProof.Rows SeqAt
section
variable {β : Type}
def insB (le : β → β → Bool) (x : β) : List β → List β
  | [] => [x]
  | y :: r => if le x y then x :: y :: r else y :: insB le x r
def isortB (le : β → β → Bool) : List β → List β
  | [] => []
  | x :: r => insB le x (isortB le r)
theorem insB_at {le : β → β → Bool} {x : β} : ∀ {l₁ l₂ : List β}, (∀ b ∈ l₁, (!le x b) = true) → (∀ b ∈ l₂, le x b = true) → insB le x (l₁ ++ l₂) = l₁ ++ x :: l₂
  | [], [], _, _ => rfl
  | [], y :: r, _, h => by
    show (if le x y then x :: y :: r else _) = _
    rw [if_pos (h y (List.mem_cons_self ..))]
    rfl
  | y :: l₁, l₂, h, g => by
    have hy : le x y = false := by
      have := h y (List.mem_cons_self ..)
      simpa using this
    show (if le x y then _ else y :: insB le x (l₁ ++ l₂)) = _
    rw [if_neg (by rw [hy]; exact Bool.false_ne_true), insB_at (fun b hb => h b (List.mem_cons_of_mem _ hb)) g]
    rfl
theorem isort_eq {le : β → β → Bool} (tr : ∀ (a b c : β), le a b = true → le b c = true → le a c = true) (tot : ∀ (a b : β), (le a b || le b a) = true) : ∀ l : List β, isortB le l = l.mergeSort le
  | [] => by simp [isortB]
  | x :: r => by
    obtain ⟨l₁, l₂, e1, e2, h⟩ := List.mergeSort_cons tr tot x r
    show insB le x (isortB le r) = _
    rw [isort_eq tr tot r, e2, e1]
    refine insB_at h fun b hb => ?_
    have hp := List.pairwise_mergeSort tr tot (x :: r)
    rw [e1] at hp
    exact (List.pairwise_cons.mp (List.pairwise_append.mp hp).2.1).1 b hb
theorem isort_data (enc : β → PyData) (l : List β) : l.mergeSort (dataLe false enc) = isortB (dataLe false enc) l := by
  have t := sortLe_total (listOrd itemOrd) false fun b : β => keyToks (enc b)
  refine (isort_eq (fun a b c => t.trans a b c) (fun a b => ?_) l).symm
  rcases t.total a b with h | h
  · show (sortLe _ _ _ a b || sortLe _ _ _ b a) = true
    rw [h]; rfl
  · show (sortLe _ _ _ a b || sortLe _ _ _ b a) = true
    rw [h, Bool.or_true]
end
section
variable {prog : Program} {w : World} {A : Around} {E : Value → Shared → Prop} {s : Shared}
theorem collect_tup {l : Addr} {vs : List Value} {Q : List Value → Shared → Prop} (hl : s.heap.IsTuple l vs.toArray)
    (h : Q vs { s with heap := (s.heap.push (seqObj "list" #[] 0)).update s.heap.objs.size (Obj.mapSeq (· ++ vs.toArray)) }) (hsz : vs.length ≤ sizeLine) :
    wpAny (model prog w) A (collect (.ref l)) Q E s := by
  obtain ⟨o, ho, hc, n, hd⟩ := id hl
  unfold collect
  refine wpAny_bind (wpAny_runValue (codeAny_builtin entry_proto_collect' ?_))
  show wpAny _ _ (do again (.builtin "list.__iadd__" ⟨[← newList [], .ref l], []⟩)) _ _ s
  refine wpAny_bind (wpAny_newList (wpAny_pure ⟨Code.quiet_builtin _ (by decide +kernel), codeAny_builtin entry_list_iadd' ?_⟩))
  show wpAny _ _ (Builtin.List.listExtendWith (.ref s.heap.objs.size) (.ref l) (.ref s.heap.objs.size)) _ _ { s with heap := s.heap.push (seqObj "list" #[] 0) }
  unfold Builtin.List.listExtendWith
  have ho' : (s.heap.push (seqObj "list" #[] 0)).get? l = some o := Heap.get?_push_of_some _ ho
  refine wpAny_bind (wpAny_typeOf (T := "tuple") ⟨o, ho', hc⟩ ?_)
  have ht : (Value.type "tuple" == Value.type "tuple") = true := by rfl
  rw [if_pos (by rw [ht]; simp)]
  refine wpAny_bind (listItems_at ho' hd ?_)
  refine wpAny_bind (listItems_at (xs := #[]) (n := 0) (Heap.get?_push_size _ rfl) rfl ?_)
  rw [if_neg (by simp)]
  refine wpAny_bind (listUpdate_at (xs := #[]) (n := 0) (Heap.get?_push_size _ rfl) rfl ?_ (Nat.zero_le _) (by show (#[] ++ vs.toArray).size ≤ sizeLine + 1; simp only [Array.size_append, List.size_toArray, List.length_nil]; omega))
  refine wpAny_pure ?_
  show wpAny (model prog w) A (do
      let o ← load s.heap.objs.size
      match o.data with
      | .seq xs _ => pure xs.toList
      | _ => unsupported "internal:collect") Q E { s with heap := (s.heap.push (seqObj "list" #[] 0)).update s.heap.objs.size (Obj.mapSeq (· ++ vs.toArray)) }
  refine wpAny_bind (wpAny_load (get?_update_seq (Heap.get?_push_size _ rfl) _) ?_)
  show wpAny _ _ (pure ((#[] : Array Value) ++ vs.toArray).toList) Q E _
  rw [show ((#[] : Array Value) ++ vs.toArray).toList = vs by simp]
  exact wpAny_pure h

/-- what a walk of r gathers -/
def Gathers (prog : Program) (w : World) (A : Around) (s : Shared) (r : Addr) (vs : List Value) : Prop := ∀ (E' : Value → Shared → Prop) (R : List Value → Shared → Prop), (∀ (h' : Heap) (tk : Nat), (∀ b o, s.heap.get? b = some o → h'.get? b = some o) → R vs { s with heap := h', toks := tk }) → wpAny (model prog w) A (collect (.ref r)) R E' s
theorem push_upd_old {h : Heap} {o : Obj} {f : Obj → Obj} {b : Addr} {u : Obj} (e : h.get? b = some u) : ((h.push o).update h.objs.size f).get? b = some u := by
  rw [Heap.get?_update_ne _ _ _ _ (Nat.ne_of_lt (Heap.lt_size e)), Heap.get?_push_ne _ _ _ (Nat.ne_of_lt (Heap.lt_size e))]
  exact e
theorem gathers_list {l : Addr} {vs : List Value} (hl : s.heap.IsList l vs.toArray) (hz : vs.length ≤ sizeLine) : Gathers prog w A s l vs := fun E' R h => collect_list hl (h _ s.toks fun b o e => push_upd_old e) hz
theorem gathers_tup {l : Addr} {vs : List Value} (hl : s.heap.IsTuple l vs.toArray) (hz : vs.length ≤ sizeLine) : Gathers prog w A s l vs := fun E' R h => collect_tup hl (h _ s.toks fun b o e => push_upd_old e) hz
theorem gathers_dict {d : Addr} {es : Array DictEntry} {ep : Nat} (hh : A.handled = none) (lo : (d == sysModules) = false) (hm : s.heap.DictRaw d es ep) (hz : es.size ≤ sizeLine) : Gathers prog w A s d (es.toList.map (·.key)) := fun E' R h =>
  kdu_collect (KdlSrc.rawDict lo) hh hm hz fun h' tk acc hk hacc => by
    have e : acc.toList = es.toList.map (·.key) := by
      refine List.ext_getElem? fun i => ?_
      by_cases hi : i < es.size
      · have hlt : i < acc.toList.length := by rw [Array.length_toList, hacc.1]; exact hi
        obtain ⟨hi', e⟩ := hacc.2 i (acc.toList[i]) (by rw [← Array.getElem?_toList]; exact List.getElem?_eq_getElem hlt)
        rw [List.getElem?_eq_getElem hlt, e, List.getElem?_map, Array.getElem?_toList, Array.getElem?_eq_getElem hi]
        rfl
      · rw [List.getElem?_eq_none (by rw [Array.length_toList, hacc.1]; omega), List.getElem?_eq_none (by rw [List.length_map, Array.length_toList]; omega)]
    rw [e]
    exact h h' tk hk
theorem sorted_gathers {β : Type} {r : Addr} {vs : List Value} {bs : List β} {enc : β → PyData} {Q : Value → Shared → Prop} (G : Gathers prog w A.in1 s r vs) (er : EachIs (fun v b => ∃ as, Reads s.heap v (enc b) as) vs bs) (hal : AllAlike (bs.map enc)) (hn : ∀ b ∈ bs, enc b ≠ .none) (hL : vs.length ≤ sizeLine)
    (hu : ∀ b ∈ bs, A.units + 2 + (enc b).depth < cLine)
    (h : ∀ (h1 h' : Heap) (tk ep : Nat) (out : List Value), (∀ b o, s.heap.get? b = some o → h1.get? b = some o) → (∀ b o, h1.get? b = some o → h'.get? b = some o) → h'.get? h1.objs.size = some (seqObj "list" out.toArray ep) → (∀ R : Value → β → Prop, EachIs R vs bs → EachIs R out (isortB (dataLe false enc) bs)) → out.length = vs.length → Q (.ref h1.objs.size) { s with heap := h', toks := tk }) :
    wpAny (model prog w) A (call (.builtin "sorted") [.ref r]) Q E s := by
  refine call_function_entry kind_sorted plain_sorted entry_sorted (args_sorted1 _) ?_
  unfold Builtin.«sorted»
  refine wpAny_bind (m := checkCount "sorted" 1 1 _) (wpAny_pure ?_)
  refine wpAny_bind (G _ _ fun h1 tk hk => ?_)
  refine wpAny_bind (wpAny_newList ?_ hL)
  have ho : (h1.push (seqObj "list" vs.toArray 0)).get? h1.objs.size = some (seqObj "list" vs.toArray 0) := Heap.get?_push_size _ rfl
  have old : ∀ b o, h1.get? b = some o → (sortingHeap (h1.push (seqObj "list" vs.toArray 0)) h1.objs.size vs).get? b = some o := fun b o e => sortingHeap_old (Nat.ne_of_lt (Heap.lt_size e)) (Heap.get?_push_of_some _ e)
  have er' : EachIs (fun v b => ∃ as, Reads (sortingHeap (h1.push (seqObj "list" vs.toArray 0)) h1.objs.size vs) v (enc b) as) vs bs := er.mono fun _ _ ⟨as, r⟩ => ⟨as, PyProof.Rows.Reads.keeps (fun b o e => old b o (hk b o e)) r⟩
  have S : SortsAt prog w A.in1.in1 { s with heap := sortingHeap (h1.push (seqObj "list" vs.toArray 0)) h1.objs.size vs, toks := tk } (dataKind (sortingHeap (h1.push (seqObj "list" vs.toArray 0)) h1.objs.size vs) (bs.map enc)) vs :=
    SortsAt.alike (s := { s with heap := sortingHeap (h1.push (seqObj "list" vs.toArray 0)) h1.objs.size vs, toks := tk }) (each_map (R := fun v d => ∃ as, Reads (sortingHeap (h1.push (seqObj "list" vs.toArray 0)) h1.objs.size vs) v d as) enc er') hal (fun d hd => by
      obtain ⟨b, hb, rfl⟩ := List.mem_map.mp hd
      exact hn b hb) (fun d hd => by
      obtain ⟨b, hb, rfl⟩ := List.mem_map.mp hd
      exact hu b hb)
  have hT : Shared.TypeIs { s with heap := h1.push (seqObj "list" vs.toArray 0), toks := tk } (.ref h1.objs.size) "list" := ⟨_, ho, rfl⟩
  refine wpAny_bind (wpAny_holding (wpAny_call_entry slot_list_sort hT entry_list_sort ?body (args_list_sort _)))
  case body =>
    refine list_sort_vals (s := { s with heap := h1.push (seqObj "list" vs.toArray 0), toks := tk }) ho S hL ?_
    refine ⟨_, rfl, wpAny_pure ⟨_, rfl, ?_⟩⟩
    obtain ⟨ep, hat⟩ := sortedHeap_at (out := (sortVals (dataKind (sortingHeap (h1.push (seqObj "list" vs.toArray 0)) h1.objs.size vs) (bs.map enc)) false vs vs).toArray) ho
    refine h h1 _ tk ep _ hk (fun b o e => ?_) hat (fun R e => ?_) (sortVals_length false rfl)
    · rw [sortedHeap_old (Nat.ne_of_lt (Heap.lt_size e)) (by rw [size_push']; exact Nat.lt_succ_of_lt (Heap.lt_size e))]
      exact Heap.get?_push_of_some _ e
    · have := sortVals_data (R := R) false e er' hal
      rw [isort_data] at this
      exact this
end
end PySem.W
end
/-! ## PV0c -/
section
set_option Elab.async false
set_option linter.all false
set_option maxRecDepth 100000
set_option maxHeartbeats 4000000
/-! More of the model: enumerate(a tuple), list.count of data, dict(pairs). -/
namespace L2
open PySem PySem.Spec PyProof.Rows RT
/-- the tuple at a as it stands at each turn, each item in a new pair -/
def IteT (K : PySem.W.Frag) (a : Addr) : It :=
  ⟨fun i H => ∃ (xs : List V) (x : V), SqT K H a xs ∧ xs[i]? = some x, fun i H v H' => ∃ T x, v = .ref T ∧ H T = none ∧ H' = upd H T (.tup [.int (i : Nat), x]) ∧ ∀ xs, SqT K H a xs → xs[i]? = some x, fun i H => ∃ xs : List V, SqT K H a xs ∧ xs.length = i⟩
theorem turn_enumT {P : Program} {w : World} {K : PySem.W.Frag} {elts : List Expr} {kk : Nat} {tpos : Pos} (a e it : Addr) :
    Turn P w K (.Tuple elts kk tpos) (IteT K a) [e, it] e (fun i h => (∃ old, IsEnum h e it ((i : Nat) : Int) old) ∧ h.IsTupleIter it a i ∧ e ≠ it ∧ a ≠ it ∧ e ≠ a) where
  mem := by simp
  obj := fun i h st b hb => by
    obtain ⟨⟨old, he⟩, ⟨o, ho, hc, hd⟩, _⟩ := st
    have e' : b = e ∨ b = it := by simpa using hb
    rcases e' with z | z
    · rw [z]; exact ⟨_, he, fun v q => nomatch q⟩
    · rw [z]; exact ⟨o, ho, fun v q => by rw [hd] at q; cases q⟩
  keep := fun i h h' st k => let ⟨⟨old, he⟩, hi, hne⟩ := st; ⟨⟨old, k e (by simp) _ he⟩, hi.at fun o q => k it (by simp) o q, hne⟩
  item := by
    intro X hP hw hK hc i pins s σ H E I hf st hg
    subst hP hw hK
    obtain ⟨⟨old, he⟩, hit, hne, hai, hea⟩ := st
    obtain ⟨xs, x, hq, hx⟩ := hg
    obtain ⟨its, rv, p, hz⟩ := I.tuple hq
    obtain ⟨u, hu, ru⟩ := rv.get hx
    have hel : e < s.heap.objs.size := Heap.lt_size he
    have hil : it < s.heap.objs.size := by obtain ⟨_, q, _⟩ := hit; exact Heap.lt_size q
    have hul : i < its.toArray.size := by
      have := (List.getElem?_eq_some_iff.mp hu).1
      simpa using this
    refine wpAny_pyNext_enum_itemD (Draws.tuple (A := X.A.in1) (by exact I.ok.hd hc) it a hai its.toArray) he ⟨hit, p⟩ hul hne (by simp [hne, hea]) fun x' h' tk hx' ho hs' hT hsz hk => ?_
    have eu : x' = u := by
      have e1 : its.toArray[i]? = some u := by simpa using hu
      exact (Option.some.inj (hx'.symm.trans e1))
    subst eu
    refine ⟨_, rfl, wpAny_letOwnedTupleGo_enum (s := { s with heap := h', toks := tk + 1 }) ho fun h'' he' sb => ?_⟩
    have hT2 : h''.get? s.heap.objs.size = some { cls := .type "tuple", data := .seq #[.int i tk, x'] } := (sb.2 _ (Nat.ne_of_gt hel)).trans hT
    have new : ObjOk X.prog X.w (upd H s.heap.objs.size (.tup [.int (i : Nat), x])) h'' s.heap.objs.size (.tup [.int (i : Nat), x]) :=
      ⟨by show 2 ≤ sizeLine; decide, [.int i tk, x'], .cons ⟨_, rfl⟩ (.cons ru .nil), ⟨_, hT2, rfl, _, rfl⟩⟩
    have I1 : Inv X pins σ (upd H s.heap.objs.size (.tup [.int (i : Nat), x])) { s with heap := h'', toks := tk + 1 } :=
      I.turnedNew (ch := [e, it]) (fun b ob hb q => (sb.2 b (fun z => hb (by simp [z]))).trans (hk b ob (fun z => hb (by simp [z])) (fun z => hb (by simp [z])) q)) hf (Nat.le_refl _) new
    refine ⟨.ref s.heap.objs.size, _, I1, rfl, ⟨_, x, rfl, I.hok.fresh (Nat.le_refl _), rfl, fun ys hy => by rw [I.tuple_inj hy hq]; exact hx⟩, ⟨⟨x', ?_⟩, hs'.1.at fun o q => (sb.2 it (Ne.symm hne)).trans q, hne, hai, hea⟩, fun b hb => ?_⟩
    · have e1 : ((i + 1 : Nat) : Int) = (i : Int) + 1 := by omega
      rw [e1]; exact he'
    · have hb' : b < s.heap.objs.size := by
        have e' : b = e ∨ b = it := by simpa using hb
        rcases e' with z | z
        · rw [z]; exact hel
        · rw [z]; exact hil
      rw [upd_ne (Nat.ne_of_lt hb')]
      exact (hf b hb).1
  done := by
    intro X hP hw hK hc i pins s σ H E I hf st hg
    subst hP hw hK
    obtain ⟨⟨old, he⟩, hit, hne, hai, hea⟩ := st
    obtain ⟨xs, hq, hx⟩ := hg
    obtain ⟨its, rv, p, hz⟩ := I.tuple hq
    obtain ⟨f0, f1, f2, f3, f4, f5⟩ := hf it (by simp)
    have hl := rv.length
    have e1 : its.toArray.size = i := by rw [List.size_toArray]; omega
    refine wpAny_pyNext_enum_endD (Draws.tuple (A := X.A.in1) (by exact I.ok.hd hc) it a hai its.toArray) he (by rw [e1]; exact ⟨hit, p⟩) fun h' eb => ⟨rfl, I.turned (t' := s.toks) (fun b o hb q => eb b o hb q) f0 f1 f3 f4 f5⟩
  self := fun A i s Q E st h => let ⟨⟨_, he⟩, _⟩ := st; wpAny_pyIter_enum he h
set_option maxHeartbeats 1000000 in
theorem meets_enumerate_newB1 {v : Value} {o : Obj} {H : Heap → Prop} (B : Begins v o H) :
    Meets (Builtin.«enumerate.__new__» ⟨[.type "enumerate", v], []⟩) (fun _ R s => H s.heap ∧
      R (.ok (.ret (.ref (s.heap.push o).objs.size))) { s with heap := (s.heap.push o).push { cls := .type "enumerate", data := .fields #[.none, .bool false, .ref s.heap.objs.size, rawInt 0, .none, .none] } }) :=
  .of_wp fun prog w A R s h => by
    obtain ⟨hp, g, d, tk, os⟩ := s; obtain ⟨h1, h⟩ := h
    have hsub := sub_enumerate
    have q1 : ∀ {A' : Around} {E : Value → Shared → Prop} {Q : Value → Shared → Prop}, Q (.ref hp.objs.size) ⟨hp.push o, g, d, tk, os⟩ → wpAny (model prog w) A' (pyIter v) Q E ⟨hp, g, d, tk, os⟩ :=
      fun q => B.iter prog w _ _ ⟨hp, g, d, tk, os⟩ _ h1 q
    wp_walk using q1
    refine wpAny_stack_any fun st => wpAny_pure ?_
    split
    · rename_i c _ _ _ _ _
      cases (c == Value.type "enumerate")
      · wp_walk using q1
        exact ⟨_, rfl, h⟩
      · wp_walk using q1
        exact ⟨_, rfl, h⟩
    · wp_walk using q1
      exact ⟨_, rfl, h⟩
section
variable {prog : Program} {w : World} {A : Around} {E : Value → Shared → Prop} {s : Shared}
theorem enum_begins1 {v : Value} {o : Obj} {H : Heap → Prop} {Q : Value → Shared → Prop} (B : Begins v o H) (h1 : H s.heap)
    (h : ∀ h', IsEnum h' (s.heap.objs.size + 1) s.heap.objs.size 0 .none → h'.get? s.heap.objs.size = some o → h'.objs.size = s.heap.objs.size + 2 →
      (∀ b o, s.heap.get? b = some o → h'.get? b = some o) → Q (.ref (s.heap.objs.size + 1)) { s with heap := h' }) :
    wpAny (model prog w) A (call (.type "enumerate") [v]) Q E s := by
  refine callType_new F.called_enumerate (by decide) (F.typeCall_enumerate_1 _) (F.newCall_enumerate_1 _) (fun obj => F.args_object_init_2 obj _) F.entry_enumerate_new
    (meets_enumerate_newB1 B) ⟨h1, ?_⟩
  have hz : (s.heap.push o).objs.size = s.heap.objs.size + 1 := Heap.size_push ..
  show _ ∧ _
  rw [hz]
  have he : IsEnum ((s.heap.push o).push { cls := .type "enumerate", data := .fields #[.none, .bool false, .ref s.heap.objs.size, rawInt 0, .none, .none] }) (s.heap.objs.size + 1) s.heap.objs.size 0 .none := by
    have := Heap.get?_push_size (s.heap.push o) (o := { cls := .type "enumerate", data := .fields #[.none, .bool false, .ref s.heap.objs.size, rawInt 0, .none, .none] }) rfl
    rw [hz] at this; exact this
  refine ⟨⟨_, he, rfl⟩, h _ he (Heap.get?_push_of_some _ (Heap.get?_push_size _ B.free)) (by rw [Heap.size_push, hz]) fun b o x => Heap.get?_push_of_some _ (Heap.get?_push_of_some _ x)⟩
end
def iEnumT (K : PySem.W.Frag) (ta : TA) : TI := fun σ H R => ta σ H fun vs H1 => ∃ a xs, vs = [.ref a] ∧ SqT K H1 a xs ∧ R (IteT K a) H1
theorem pi_enumT {X : Cx} {e : Expr} {ta : TA} {p pos tpos : Pos} {elts : List Expr} {kk : Nat} (hg : Gl X "enumerate") (hm : X.mg "enumerate" = none) (ha : PA X [e] ta) (hs : starEach [e] X.env = [(false, eval e X.env)] := by rfl) :
    PI X (.Tuple elts kk tpos) (.Call (.Name "enumerate" p) [e] [] pos) (iEnumT X.K ta) := by
  refine ⟨fun pins s σ H R I h => ?_⟩
  refine Call_ (ld_blt I hg hm boot_enumerate (PyProof.Rows.callWith_type1 (thn (ha.run pos pins s σ H _ I h) fun us s1 ⟨vs, H1, I1, r1, q1⟩ => ?_) hs rfl))
  obtain ⟨a, xs, ex, hq, q⟩ := q1
  subst ex
  cases r1 with
  | cons r rr =>
    cases rr
    cases r
    obtain ⟨its, rv, p', hz⟩ := I1.tuple hq
    refine enum_begins1 (begins_tuple a its.toArray) p' fun h' he hit hsz hk => wpAny_pyIter_enum he ?_
    have I2 : Inv X pins σ H1 { s1 with heap := h' } := I1.kept (t' := s1.toks) hk
    have hal : a < s1.heap.objs.size := by obtain ⟨_, y, _⟩ := id p'; exact Heap.lt_size y
    refine ⟨s1.heap.objs.size + 1, [s1.heap.objs.size + 1, s1.heap.objs.size], _, _, H1, rfl, I2, turn_enumT a (s1.heap.objs.size + 1) s1.heap.objs.size, ⟨⟨.none, he⟩, ⟨_, hit, rfl, rfl⟩, Nat.succ_ne_self _, Nat.ne_of_lt hal, Nat.ne_of_gt (Nat.lt_succ_of_lt hal)⟩, fun b hb => ?_, q⟩
    have e' : b = s1.heap.objs.size + 1 ∨ b = s1.heap.objs.size := by simpa using hb
    have hle : s1.heap.objs.size ≤ b := by
      rcases e' with z | z
      · rw [z]; exact Nat.le_add_right _ _
      · rw [z]; exact Nat.le_refl _
    exact I1.fpOk hle (I1.hok.fresh hle)
/-- l.count(x) over data -/
def rCountD (K : PySem.W.Frag) : V → List V → Hp → VK → Prop := fun x xs H Q => ∃ (a : Addr) (y : V) (d : PyData) (ds : List PyData), x = V.ref a ∧ xs = [y] ∧ Dp K H (V.ref a) (.list ds) ∧ Dp K H y d ∧
  SeqAt.shaped (.list ds) = true ∧ SeqAt.shaped d = true ∧ d.depth ≤ 32 ∧ Q (.int (ds.countP fun z => PyData.eqv z d : Nat)) H
theorem mt_countD {X : Cx} (hu : X.A.units + 64 < cLine) : MtR X "list.count" (rCountD X.K) := by
  intro pins s σ H x xs v us Q I rx rxs h
  obtain ⟨a, y, d, ds, rfl, rfl, hl, hy, sl, sd, hd32, q⟩ := h
  cases rx
  cases rxs with
  | cons ry rt =>
    rename_i uy ut
    cases rt
    obtain ⟨bs, r1⟩ := Dp.reads I d y uy hy ry
    have hxs : PyData.canLayAll0 ds = true := SeqAt.canLay_of_shaped sl
    have hroom : X.A.units + 1 + min (PyData.depthAll ds) d.depth < cLine := by omega
    cases hl with
    | lst hs ha =>
      obtain ⟨its, rv, ⟨⟨cls, dd, data, sls⟩, n, ho, hc, hdn, hdt⟩, hlen⟩ := I.list hs
      simp only at hc hdt
      subst hc hdt
      obtain ⟨as, h4⟩ := Dp.readsAll I ds _ its ha rv
      have hmap : its.map (SeqAt.readOf s.heap) = ds := SeqAt.readsAll_map ds its as hxs h4
      refine call_meets PySem.F.slot_list_count ⟨_, ho, rfl⟩ PySem.F.entry_list_count (PySem.F.args_list_count_2 _ _)
        (SeqAt.list_countAt a its.toArray n dd sls uy (fun u => PyData.eqv (SeqAt.readOf s.heap u) d)) ⟨ho, SeqAt.items_eqAt (vs := its.toArray) (show ReadsAll s.heap its.toArray.toList ds as from h4) r1 hxs (SeqAt.canLay_of_shaped sd) hroom, ?_⟩
      have ec : its.toArray.toList.countP (fun u => PyData.eqv (SeqAt.readOf s.heap u) d) = ds.countP fun z => PyData.eqv z d := by
        rw [← hmap, List.countP_map]
        rfl
      refine ⟨.int (ds.countP fun z => PyData.eqv z d : Nat), H, I.tok _, ⟨s.toks, ?_⟩, q⟩
      show Value.int ((its.toArray.toList.countP _ : Nat) : Int) s.toks = Value.int ((ds.countP _ : Nat) : Int) s.toks
      rw [ec]
end L2
end
/-! ## PV1 -/
section
set_option Elab.async false
set_option linter.all false
set_option maxRecDepth 100000
set_option maxHeartbeats 4000000
/-! A plain evaluator of a part of Python by values: data, cells (lists that change), expressions, statements. -/
namespace PV
open PySem L2

inductive D where
  | non | bl (b : Bool) | int (i : Int) | str (s : Str)
  | tup (l : List D) | lst (l : List D) | frz (l : List D)
  | cell (n : Nat) | lam (n : Nat)
  | dct (ks vs : List D)

/-- what a cell holds -/
inductive C where
  | lst (l : List D) | dct (ks vs : List D)
/-- the cells: a list or a dict that stands and may change, or none (given up) -/
abbrev Gs := List (Option C)

inductive R (α : Type) where
  | ok (a : α) (G : Gs)
  | exc (c : Nat) (G : Gs)
  | bad
def R.bind {α β : Type} (r : R α) (f : α → Gs → R β) : R β := match r with
  | .ok a G => f a G
  | .exc c G => .exc c G
  | .bad => .bad
def R.of {α : Type} (o : Option α) (G : Gs) : R α := match o with
  | some a => .ok a G
  | none => .bad
/-- no exception may pass -/
def R.calm {α : Type} : R α → R α
  | .ok a G => .ok a G
  | .exc _ _ => .bad
  | .bad => .bad

mutual
def toPy : D → Option PyData
  | .non => some .none
  | .bl b => some (.bool b)
  | .int i => some (.int i)
  | .str s => some (.str s)
  | .tup l => (toPys l).map .tuple
  | .lst l => (toPys l).map .list
  | .frz l => (toPys l).map .list
  | .cell _ => none
  | .lam _ => none
  | .dct _ _ => none
def toPys : List D → Option (List PyData)
  | [] => some []
  | d :: ds => match toPy d, toPys ds with
    | some p, some ps => some (p :: ps)
    | _, _ => none
end

/-! keys of dicts -/
mutual
def toKey : D → Option NestedKey
  | .non => some .none
  | .bl b => some (.num (if b = true then 1 else 0))
  | .int i => some (.num i)
  | .str s => some (.text s)
  | .tup l => match toKeys l with
    | some ks => some (.tup ks)
    | none => none
  | .lst _ => none
  | .frz _ => none
  | .cell _ => none
  | .lam _ => none
  | .dct _ _ => none
def toKeys : List D → Option (List NestedKey)
  | [] => some []
  | d :: ds => match toKey d, toKeys ds with
    | some p, some ps => some (p :: ps)
    | _, _ => none
end
/-- a tuple's key -/
def keyT (d : D) : Option NestedKey := match d with
  | .tup l => match toKeys l with
    | some ks => if (NestedKey.tup ks).depth ≤ 8 then some (.tup ks) else none
    | none => none
  | _ => none
def isKey (k : NestedKey) (d : D) : Bool := match keyT d with
  | some k' => NestedKey.beq k' k
  | none => false
def getK (k : NestedKey) : List D → List D → Option D
  | d :: ds, v :: vs => if isKey k d then some v else getK k ds vs
  | _, _ => none
/-- the value stored at a key that is there -/
def putK (k : NestedKey) (x : D) : List D → List D → List D
  | d :: ds, v :: vs => (if isKey k d then x else v) :: putK k x ds vs
  | _, vs => vs
def storeK (k : NestedKey) (d x : D) (ks vs : List D) : List D × List D := if (getK k ks vs).isSome then (ks, putK k x ks vs) else (ks ++ [d], vs ++ [x])

inductive Bop where | add | sub | mul | fdiv | mod | pow
  deriving DecidableEq
inductive Cop where | eq | ne | lt | le | gt | ge | isIn | notIn | isN | notN
  deriving DecidableEq
inductive Pr where | len | abs | max1 | min1 | max2 | min2 | sum | list | tuple | int | str | gcd | sorted
  deriving DecidableEq
inductive Mt where | partition | removeprefix | strip1 | join | split1 | count
  deriving DecidableEq

abbrev okMul (i j : Int) : Bool := decide (i.natAbs.log2 + j.natAbs.log2 < 100000000)
abbrev okDiv (j : Int) : Bool := (decide (0 < j) && decide (j.natAbs.log2 < 9000)) || (decide (j ≠ 0) && decide (j.natAbs < 1073741824))

def binD : Bop → D → D → Option D
  | .add, .int i, .int j => some (.int (i + j))
  | .add, .str a, .str b => if a.length + b.length ≤ sizeLine then some (.str (a ++ b)) else none
  | .add, .tup a, .tup b => if a.length + b.length ≤ sizeLine then some (.tup (a ++ b)) else none
  | .add, .lst a, .lst b => if a.length + b.length ≤ sizeLine then some (.lst (a ++ b)) else none
  | .sub, .int i, .int j => some (.int (i - j))
  | .mul, .int i, .int j => if okMul i j then some (.int (i * j)) else none
  | .mul, .lst a, .int k => if 0 ≤ k ∧ k ≤ 1000 ∧ a.length ≤ 1000 then some (.lst (List.replicate k.toNat a).flatten) else none
  | .mul, .tup a, .int k => if -1000000 ≤ k ∧ k ≤ 1000 ∧ a.length ≤ 1000 then some (.tup (List.replicate k.toNat a).flatten) else none
  | .fdiv, .int i, .int j => if okDiv j then some (.int (i.fdiv j)) else none
  | .mod, .int i, .int j => if j ≠ 0 then some (.int (i.fmod j)) else none
  | .pow, .int i, .int j => if 0 ≤ j ∧ j ≤ 1000000 ∧ i.natAbs < 2 ^ 64 then some (.int (i ^ j.toNat)) else none
  | _, _, _ => none

def eqD (a b : D) : Option Bool := match toPy a, toPy b with
  | some p, some q => if SeqAt.shaped p && SeqAt.shaped q then some (PyData.eqv p q) else none
  | _, _ => none

def isFlat : D → Bool
  | .non | .bl _ | .int _ | .str _ => true
  | _ => false

def isNonD : D → Bool
  | .non => true
  | _ => false
def cmpD : Cop → D → D → Option Bool
  | .eq, a, b => eqD a b
  | .ne, a, b => (eqD a b).map (!·)
  | .lt, .int i, .int j => some (decide (i < j))
  | .le, .int i, .int j => some (decide (i ≤ j))
  | .gt, .int i, .int j => some (decide (j < i))
  | .ge, .int i, .int j => some (decide (j ≤ i))
  | .isIn, .str i, .str j => some (!(Builtin.Str.occurrences j i 0 j.length 1).isEmpty)
  | .notIn, .str i, .str j => some (!(!(Builtin.Str.occurrences j i 0 j.length 1).isEmpty))
  | .isN, a, .non => some (isNonD a)
  | .notN, a, .non => some (!isNonD a)
  | _, _, _ => none

def intsD : List D → Option (List Int)
  | [] => some []
  | .int i :: r => (intsD r).map (i :: ·)
  | _ :: _ => none
def strsD : List D → Option (List Str)
  | [] => some []
  | .str i :: r => (strsD r).map (i :: ·)
  | _ :: _ => none

def maxI : List Int → Option Int
  | [] => none
  | x :: r => some (r.foldl (fun a b => if b > a then b else a) x)
def minI : List Int → Option Int
  | [] => none
  | x :: r => some (r.foldl (fun a b => if b < a then b else a) x)

def lstOf : D → Option (List D)
  | .lst l => some l
  | .frz l => some l
  | _ => none
def seqOf : D → Option (List D)
  | .tup l => some l
  | .lst l => some l
  | .frz l => some l
  | _ => none

/-- what may be sorted: a list, a tuple, a dict's keys, a cell -/
def srcOf (G : Gs) : D → Option (List D)
  | .tup l => some l
  | .lst l => some l
  | .frz l => some l
  | .dct ks _ => some ks
  | .cell n => match G[n]? with
    | some (some (.lst l)) => some l
    | some (some (.dct ks _)) => some ks
    | _ => none
  | _ => none
/-- what may be walked -/
def walkOf : D → Option (List D)
  | .tup l => some l
  | .lst l => some l
  | .frz l => some l
  | .str s => some (s.cps.toList.map fun c => .str ⟨#[c]⟩)
  | _ => none

def pLen (G : Gs) : List D → Option D
  | [.str s] => if s.length ≤ sizeLine then some (.int s.length) else none
  | [.cell n] => match G[n]? with
    | some (some (.lst l)) => some (.int l.length)
    | some (some (.dct ks _)) => some (.int ks.length)
    | _ => none
  | [.dct ks _] => some (.int ks.length)
  | [d] => (seqOf d).map fun l => .int l.length
  | _ => none
def pAbs : List D → Option D
  | [.int i] => some (.int (if i < 0 then -i else i))
  | _ => none
def pMax2 : List D → Option D
  | [.int i, .int j] => some (.int (if j > i then j else i))
  | _ => none
def pMin2 : List D → Option D
  | [.int i, .int j] => some (.int (if j < i then j else i))
  | _ => none
def pMax1 : List D → Option D
  | [d] => ((lstOf d).bind intsD).bind fun ns => (maxI ns).map .int
  | _ => none
def pMin1 : List D → Option D
  | [d] => ((lstOf d).bind intsD).bind fun ns => (minI ns).map .int
  | _ => none
def pSum : List D → Option D
  | [d] => ((lstOf d).bind intsD).map fun ns => .int ns.sum
  | _ => none
def pList : List D → Option D
  | [d] => (seqOf d).map .lst
  | _ => none
def pTuple : List D → Option D
  | [d] => (seqOf d).map .tup
  | _ => none
def pInt : List D → Option D
  | [.int i] => some (.int i)
  | [.bl b] => some (.int (if b then 1 else 0))
  | [.str s] => match PySem.intText? s with
    | some n => if s.length ≤ 640 then some (.int n) else none
    | none => none
  | _ => none
def pStr : List D → Option D
  | [.int i] => if i.natAbs.log2 < 1920 then some (.str (toString i)) else none
  | _ => none
def pGcd : List D → Option D
  | [.int a, .int b] => some (.int (Nat.gcd a.natAbs b.natAbs : Nat))
  | _ => none
/-- whole numbers in order -/
def insI (x : Int) : List Int → List Int
  | [] => [x]
  | y :: r => if x ≤ y then x :: y :: r else y :: insI x r
def sortI : List Int → List Int
  | [] => []
  | x :: r => insI x (sortI r)
/-- data in order -/
def insD (x : D × List (Int ⊕ List Nat)) : List (D × List (Int ⊕ List Nat)) → List (D × List (Int ⊕ List Nat))
  | [] => [x]
  | y :: r => if PyProof.Rows.lexLt PyProof.Rows.itemOrd y.2 x.2 then y :: insD x r else x :: y :: r
def sortD : List (D × List (Int ⊕ List Nat)) → List (D × List (Int ⊕ List Nat))
  | [] => []
  | x :: r => insD x (sortD r)
/-- data that can be put in order: alike, none is None, none too deep -/
def fitS (ps : List PyData) : Bool := (ps.all fun p => ps.all fun q => PySem.W.alike p q) && (ps.all fun p => decide (p.depth ≤ 32) && (match p with | .none => false | _ => true))
def sortL (l : List D) : Option (List D) := match toPys l with
  | some ps => if fitS ps = true ∧ l.length ≤ sizeLine then some ((sortD (l.zip (ps.map PySem.W.keyToks))).map (·.1)) else none
  | none => none
def pSorted (G : Gs) : List D → Option D
  | [d] => ((srcOf G d).bind sortL).map .lst
  | _ => none
def prim (G : Gs) (p : Pr) (ds : List D) : Option D := match p with
  | .len => pLen G ds
  | .abs => pAbs ds
  | .max1 => pMax1 ds
  | .min1 => pMin1 ds
  | .max2 => pMax2 ds
  | .min2 => pMin2 ds
  | .sum => pSum ds
  | .list => pList ds
  | .tuple => pTuple ds
  | .int => pInt ds
  | .str => pStr ds
  | .gcd => pGcd ds
  | .sorted => pSorted G ds

def joinSize (a : Str) (ys : List Str) : Bool := decide ((ys.map (·.length)).sum + ys.length * a.length ≤ 16777216)

def mPartition (a : Str) : List D → Option D
  | [.str b] => if (b.length == 0) = false ∧ a.length ≤ sizeLine then some (.tup [.str (Txt.partition a b).1, .str (Txt.partition a b).2.1, .str (Txt.partition a b).2.2]) else none
  | _ => none
def mRemove (a : Str) : List D → Option D
  | [.str b] => if a.length ≤ sizeLine then some (.str (Txt.removeprefix a b)) else none
  | _ => none
def mStrip (a : Str) : List D → Option D
  | [.str b] => if a.length ≤ sizeLine then some (.str (Txt.stripChars a b)) else none
  | _ => none
def mJoin (a : Str) : List D → Option D
  | [d] => ((seqOf d).bind strsD).bind fun ys => if joinSize a ys then some (.str (Txt.join a ys)) else none
  | _ => none
def mSplit (a : Str) : List D → Option D
  | [.str b] => if (b.length == 0) = false ∧ a.length + 2 ≤ sizeLine then some (.lst ((Txt.split a b).map .str)) else none
  | _ => none
def mCount (a : Str) : List D → Option D
  | [.str b] => some (.int (Txt.count a b))
  | _ => none
def meth (m : Mt) (a : Str) (ds : List D) : Option D := match m with
  | .partition => mPartition a ds
  | .removeprefix => mRemove a ds
  | .strip1 => mStrip a ds
  | .join => mJoin a ds
  | .split1 => mSplit a ds
  | .count => mCount a ds

abbrev Env := List (Option D)

inductive Tg where
  | nm (i : Nat)
  | tp (l : List Tg)

mutual
inductive E where
  | var (i : Nat) | con (d : D)
  | bin (o : Bop) (a b : E) | not (a : E) | neg (a : E)
  | and (a b : E) | or (a b : E) | ite (c a b : E)
  | cmp (o : Cop) (a b : E) | chain (o1 o2 : Cop) (a b c : E)
  | tup (es : List E) | lst (es : List E) | lstC (es : List E)
  | call (f : Nat) (es : List E)
  | prim (p : Pr) (es : List E) | meth (m : Mt) (a : E) (es : List E)
  | ix (a b : E) | sl (a : E) (lo hi : Option E)
  | comp (own : List Nat) (el : E) (tg : Tg) (it : It) (cs : List E)
  | told (b : E) | lam (k : Nat)
  | fv (a : E) | fmt (es : List E)
  | take (a : E) | app (a b : E) | rev (a : E)
  | comp2 (own own2 : List Nat) (el : E) (t1 : Tg) (i1 : It) (t2 : Tg) (i2 : It) (cs : List E)
  | dctC | dget (a b c : E) | isTup (a : E) | rngT (a : E) | rngL (a : E) | bad
  | listC (a : E) | mulC (a b : E) | pop (a : E) | dctP (a : E) | lcount (a b : E)
inductive It where
  | seq (a : E) | rng1 (a : E) | rng2 (a b : E) | zip2 (a b : E) | enum (a : E) | revI (a : E)
end

mutual
def assign (ρ : Env) : Tg → D → Option Env
  | .nm i, d => some (ρ.set i (some d))
  | .tp l, .tup ds => assignL ρ l ds
  | .tp l, .lst ds => assignL ρ l ds
  | .tp _, _ => none
def assignL (ρ : Env) : List Tg → List D → Option Env
  | [], [] => some ρ
  | t :: ts, d :: ds => match assign ρ t d with
    | some ρ' => assignL ρ' ts ds
    | none => none
  | _, _ => none
end

def wipeE (ρ : Env) : List Nat → Env
  | [] => ρ
  | v :: vs => (wipeE ρ vs).set v none

structure Sem where
  cal : Nat → List D → Gs → R D
  lam : Nat → Gs → R D
  told : Nat → Option Str

def compL (f : D → Gs → R (Option D)) : List D → Gs → R (List D)
  | [], G => .ok [] G
  | d :: ds, G => (f d G).bind fun o G1 => (compL f ds G1).bind fun r G2 => match o with
    | some y => .ok (y :: r) G2
    | none => .ok r G2

def compL2 (f : D → Gs → R (List D)) : List D → Gs → R (List D)
  | [], G => .ok [] G
  | d :: ds, G => (f d G).bind fun o G1 => (compL2 f ds G1).bind fun r G2 => .ok (o ++ r) G2

def rangeD (lo hi : Int) : List D := (List.range (hi - lo).toNat).map fun (k : Nat) => .int (lo + (k : Int))

def atD {α : Type} (xs : List α) (i : Int) : Option α := atI xs i

def ixD (G : Gs) : D → D → Option D
  | .tup l, .int i => atI l i
  | .lst l, .int i => atI l i
  | .frz l, .int i => atI l i
  | .cell n, .int i => match G[n]? with
    | some (some (.lst l)) => atI l i
    | _ => none
  | .cell n, .tup t => match G[n]? with
    | some (some (.dct ks vs)) => (keyT (.tup t)).bind fun k => getK k ks vs
    | _ => none
  | .dct ks vs, .tup t => (keyT (.tup t)).bind fun k => getK k ks vs
  | .str z, .int i => if z.length ≤ sizeLine then (atI z.cps.toList i).map fun c => .str ⟨#[c]⟩ else none
  | _, _ => none

def cutD (xs : List D) (lo hi : Option Int) : List D := (xs.drop (HT.sIx xs.length 0 lo)).take (HT.sIx xs.length xs.length hi - HT.sIx xs.length 0 lo)
def slD : D → Option Int → Option Int → Option D
  | .tup l, lo, hi => some (.tup (cutD l lo hi))
  | .lst l, lo, hi => some (.lst (cutD l lo hi))
  | .frz l, lo, hi => some (.lst (cutD l lo hi))
  | .str z, lo, hi => if z.length ≤ sizeLine then some (.str (cutS z lo hi)) else none
  | _, _, _ => none

/-- a dict, by cell or by value -/
def dctAt (G : Gs) : D → Option (List D × List D)
  | .cell n => match G[n]? with
    | some (some (.dct ks vs)) => some (ks, vs)
    | _ => none
  | .dct ks vs => some (ks, vs)
  | _ => none
/-- d.get(k, x) -/
def getD2 (G : Gs) (d k x : D) : Option D := (dctAt G d).bind fun p => (keyT k).map fun k => (getK k p.1 p.2).getD x
/-- dict(pairs) -/
def dctP : List D → Option (List D × List D)
  | l => l.foldl (fun acc p => match acc, p with
    | some (ks, vs), .tup [k, v] => (keyT k).map fun x => storeK x k v ks vs
    | _, _ => none) (some ([], []))
/-- list.count(x) -/
def countD (a x : D) : Option D := match lstOf a, toPy x with
  | some l, some p => match toPys l with
    | some ps => if SeqAt.shaped (.list ps) && SeqAt.shaped p && decide (p.depth ≤ 32) then some (.int (ps.countP fun y => PyData.eqv y p : Nat)) else none
    | none => none
  | _, _ => none
def isTupD : D → Option Bool
  | .tup _ => some true
  | .lst _ => some false
  | .int _ => some false
  | .str _ => some false
  | .non => some false
  | _ => none
def fvD : D → Option D
  | .str y => if y.length ≤ sizeLine then some (.str y) else none
  | .int i => if i.natAbs.log2 < 1920 then some (.str (toString i)) else none
  | _ => none
def zipD : D → D → Option (List D)
  | .lst xs, .lst ys => if xs.length = ys.length then some ((xs.zip ys).map fun p => .tup [p.1, p.2]) else none
  | .tup xs, .tup ys => if xs.length = ys.length then some ((xs.zip ys).map fun p => .tup [p.1, p.2]) else none
  | _, _ => none

def enumD (l : List D) : List D := l.zipIdx.map fun p => .tup [.int (p.2 : Nat), p.1]

def toldR (S : Sem) : R D → R D
  | .ok d G => .ok d G
  | .exc c G => match S.told c with
    | some r => .ok (.str r) G
    | none => .bad
  | .bad => .bad

mutual
def evE (S : Sem) (ρ : Env) : E → Gs → R D
  | .var i, G => match ρ[i]? with
    | some (some d) => .ok d G
    | _ => .bad
  | .con d, G => .ok d G
  | .bin o a b, G => (evE S ρ a G).bind fun x G1 => (evE S ρ b G1).bind fun y G2 => .of (binD o x y) G2
  | .not a, G => (evE S ρ a G).bind fun x G1 => match x with
    | .bl b => .ok (.bl (!b)) G1
    | _ => .bad
  | .neg a, G => (evE S ρ a G).bind fun x G1 => match x with
    | .int i => .ok (.int (-i)) G1
    | _ => .bad
  | .and a b, G => (evE S ρ a G).bind fun x G1 => match x with
    | .bl true => evE S ρ b G1
    | .bl false => .ok (.bl false) G1
    | _ => .bad
  | .or a b, G => (evE S ρ a G).bind fun x G1 => match x with
    | .bl true => .ok (.bl true) G1
    | .bl false => evE S ρ b G1
    | _ => .bad
  | .ite c a b, G => (evE S ρ c G).bind fun x G1 => match x with
    | .bl true => evE S ρ a G1
    | .bl false => evE S ρ b G1
    | _ => .bad
  | .cmp o a b, G => (evE S ρ a G).bind fun x G1 => (evE S ρ b G1).bind fun y G2 => .of ((cmpD o x y).map .bl) G2
  | .chain o1 o2 a b c, G => (evE S ρ a G).bind fun x G1 => (evE S ρ b G1).bind fun y G2 => match cmpD o1 x y with
    | some true => (evE S ρ c G2).bind fun z G3 => .of ((cmpD o2 y z).map .bl) G3
    | some false => .ok (.bl false) G2
    | none => .bad
  | .tup es, G => (evEs S ρ es G).bind fun ds G1 => if ds.length ≤ sizeLine then .ok (.tup ds) G1 else .bad
  | .lst es, G => (evEs S ρ es G).bind fun ds G1 => if ds.length ≤ sizeLine then .ok (.lst ds) G1 else .bad
  | .lstC es, G => (evEs S ρ es G).bind fun ds G1 => if ds.length ≤ sizeLine then .ok (.cell G1.length) (G1 ++ [some (.lst ds)]) else .bad
  | .call f es, G => (evEs S ρ es G).bind fun ds G1 => S.cal f ds G1
  | .prim p es, G => (evEs S ρ es G).bind fun ds G1 => .of (prim G1 p ds) G1
  | .meth m a es, G => (evE S ρ a G).bind fun x G1 => match x with
    | .str s => (evEs S ρ es G1).bind fun ds G2 => .of (meth m s ds) G2
    | _ => .bad
  | .ix a b, G => (evE S ρ a G).bind fun x G1 => (evE S ρ b G1).bind fun y G2 => .of (ixD G2 x y) G2
  | .sl a lo hi, G => (evE S ρ a G).bind fun x G1 => (evO S ρ lo G1).bind fun l G2 => (evO S ρ hi G2).bind fun h G3 => .of (slD x l h) G3
  | .comp own el tg it cs, G => (evI S ρ it G).bind fun ds G1 =>
      ((compL (fun d G2 => match assign (wipeE ρ own) tg d with
        | some ρ' => (evT S ρ' cs G2).bind fun b G3 => if b then (evE S ρ' el G3).bind fun y G4 => .ok (some y) G4 else .ok none G3
        | none => .bad) ds G1).calm).bind fun ys G5 => if ys.length < sizeLine then .ok (.lst ys) G5 else .bad
  | .told b, G => toldR S (evE S ρ b G)
  | .fv a, G => (evE S ρ a G).bind fun x G1 => .of (fvD x) G1
  | .fmt es, G => evF S ρ es Str.empty G
  | .lam k, G => .ok (.lam k) G
  | .rev a, G => (evE S ρ a G).bind fun x G1 => match x with
    | .tup l => .ok (.tup l.reverse) G1
    | x => match lstOf x with
      | some l => .ok (.lst l.reverse) G1
      | none => .bad
  | .take a, G => (evE S ρ a G).bind fun x G1 => match x with
    | .cell n => (match G1[n]? with
      | some (some (.lst l)) => .ok (.lst l) (G1.set n none)
      | some (some (.dct ks vs)) => .ok (.dct ks vs) (G1.set n none)
      | _ => .bad)
    | _ => .bad
  | .app a b, G => (evE S ρ a G).bind fun x G1 => match x with
    | .cell n => (match G1[n]? with
      | some (some (.lst _)) => (evE S ρ b G1).bind fun y G2 => match G2[n]? with
        | some (some (.lst l)) => if l.length < sizeLine then .ok .non (G2.set n (some (.lst (l ++ [y])))) else .bad
        | _ => .bad
      | _ => .bad)
    | _ => .bad
  | .comp2 own own2 el t1 i1 t2 i2 cs, G => (evI S ρ i1 G).bind fun ds G1 =>
      ((compL2 (fun d G2 => match assign (wipeE ρ own) t1 d with
        | some ρ' => (evI S ρ' i2 G2).bind fun es G3 => compL (fun e G4 => match assign (wipeE ρ' own2) t2 e with
          | some ρ2 => (evT S ρ2 cs G4).bind fun b G5 => if b then (evE S ρ2 el G5).bind fun y G6 => .ok (some y) G6 else .ok none G5
          | none => .bad) es G3
        | none => .bad) ds G1).calm).bind fun ys G5 => if ys.length < sizeLine then .ok (.lst ys) G5 else .bad
  | .dctC, G => .ok (.cell G.length) (G ++ [some (.dct [] [])])
  | .dget a b c, G => (evE S ρ a G).bind fun x G1 => match dctAt G1 x with
    | some _ => (evE S ρ b G1).bind fun y G2 => (evE S ρ c G2).bind fun e G3 => .of (getD2 G3 x y e) G3
    | none => .bad
  | .isTup a, G => (evE S ρ a G).bind fun x G1 => .of ((isTupD x).map .bl) G1
  | .rngT a, G => (evE S ρ a G).bind fun x G1 => match x with
    | .int j => if -(2 ^ 62) ≤ j ∧ j ≤ 100000 then .ok (.tup (rangeD 0 j)) G1 else .bad
    | _ => .bad
  | .rngL a, G => (evE S ρ a G).bind fun x G1 => match x with
    | .int j => if -(2 ^ 62) ≤ j ∧ j ≤ 100000 then .ok (.lst (rangeD 0 j)) G1 else .bad
    | _ => .bad
  | .bad, G => .bad
  | .listC a, G => (evE S ρ a G).bind fun x G1 => match seqOf x with
    | some l => .ok (.cell G1.length) (G1 ++ [some (.lst l)])
    | none => .bad
  | .mulC a b, G => (evE S ρ a G).bind fun x G1 => (evE S ρ b G1).bind fun y G2 => match binD .mul x y with
    | some (.lst l) => .ok (.cell G2.length) (G2 ++ [some (.lst l)])
    | _ => .bad
  | .pop a, G => (evE S ρ a G).bind fun x G1 => match x with
    | .cell n => (match G1[n]? with
      | some (some (.lst l)) => (match l[l.length - 1]? with
        | some y => .ok y (G1.set n (some (.lst l.dropLast)))
        | none => .bad)
      | _ => .bad)
    | _ => .bad
  | .dctP a, G => (evE S ρ a G).bind fun x G1 => match x with
    | .lst l => (match dctP l with
      | some p => if l.length ≤ sizeLine then .ok (.dct p.1 p.2) G1 else .bad
      | none => .bad)
    | _ => .bad
  | .lcount a b, G => (evE S ρ a G).bind fun x G1 => match lstOf x with
    | some _ => (evE S ρ b G1).bind fun y G2 => .of (countD x y) G2
    | none => .bad
def evEs (S : Sem) (ρ : Env) : List E → Gs → R (List D)
  | [], G => .ok [] G
  | e :: es, G => (evE S ρ e G).bind fun d G1 => (evEs S ρ es G1).bind fun ds G2 => .ok (d :: ds) G2
def evF (S : Sem) (ρ : Env) : List E → Str → Gs → R D
  | [], acc, G => .ok (.str acc) G
  | e :: es, acc, G => (evE S ρ e G).bind fun d G1 => match d with
    | .str y => if (acc ++ y).length ≤ sizeLine then evF S ρ es (acc ++ y) G1 else .bad
    | _ => .bad
def evO (S : Sem) (ρ : Env) : Option E → Gs → R (Option Int)
  | none, G => .ok none G
  | some e, G => (evE S ρ e G).bind fun d G1 => match d with
    | .int i => .ok (some i) G1
    | _ => .bad
/-- tests one after another -/
def evT (S : Sem) (ρ : Env) : List E → Gs → R Bool
  | [], G => .ok true G
  | e :: es, G => (evE S ρ e G).bind fun d G1 => match d with
    | .bl true => evT S ρ es G1
    | .bl false => .ok false G1
    | _ => .bad
def evI (S : Sem) (ρ : Env) : It → Gs → R (List D)
  | .seq a, G => (evE S ρ a G).bind fun x G1 => .of (walkOf x) G1
  | .rng1 a, G => (evE S ρ a G).bind fun x G1 => match x with
    | .int j => if -(2 ^ 62) ≤ j ∧ j < 2 ^ 62 then .ok (rangeD 0 j) G1 else .bad
    | _ => .bad
  | .rng2 a b, G => (evE S ρ a G).bind fun x G1 => (evE S ρ b G1).bind fun y G2 => match x, y with
    | .int i, .int j => if (-(2 ^ 62) ≤ i ∧ i < 2 ^ 62) ∧ (-(2 ^ 62) ≤ j ∧ j < 2 ^ 62) then .ok (rangeD i j) G2 else .bad
    | _, _ => .bad
  | .zip2 a b, G => (evE S ρ a G).bind fun x G1 => (evE S ρ b G1).bind fun y G2 => .of (zipD x y) G2
  | .enum a, G => (evE S ρ a G).bind fun x G1 => match x with
    | .lst l => .ok (enumD l) G1
    | .tup l => .ok (enumD l) G1
    | _ => .bad
  | .revI a, G => (evE S ρ a G).bind fun x G1 => match seqOf x with
    | some l => .ok l.reverse G1
    | none => .bad
end

/-- what a statement leaves -/
inductive F where
  | next (ρ : Env) (G : Gs) | ret (d : D) (G : Gs) | brk (ρ : Env) (G : Gs) | cont (ρ : Env) (G : Gs) | exc (c : Nat) (G : Gs) | bad
def F.then : F → (Env → Gs → F) → F
  | .next ρ G, f => f ρ G
  | .ret d G, _ => .ret d G
  | .brk ρ G, _ => .brk ρ G
  | .cont ρ G, _ => .cont ρ G
  | .exc c G, _ => .exc c G
  | .bad, _ => .bad
def R.go {α : Type} (r : R α) (f : α → Gs → F) : F := match r with
  | .ok a G => f a G
  | .exc c G => .exc c G
  | .bad => .bad

inductive St where
  | set (t : Tg) (e : E)
  | setC (i : Nat) (e : E)          -- name = [..] (a comprehension)
  | setix (o i e : E)
  | ex (e : E)
  | ret (e : E)
  | ite (c : E) (a b : List St)
  | for_ (t : Tg) (it : It) (b : List St)
  | raise (c : Nat) (e : E)
  | pass
  | brk
  | cont
  | aug (i : Nat) (o : Bop) (e : E)
  | while_ (c : E) (b : List St)

def forL (f : D → Env → Gs → F) : List D → Env → Gs → F
  | [], ρ, G => .next ρ G
  | d :: ds, ρ, G => match f d ρ G with
    | .next ρ' G' => forL f ds ρ' G'
    | .cont ρ' G' => forL f ds ρ' G'
    | .brk ρ' G' => .next ρ' G'
    | .ret d G' => .ret d G'
    | .exc c G' => .exc c G'
    | .bad => .bad

/-- turns while a test holds, at most so many -/
def whL (c : Env → Gs → R D) (f : Env → Gs → F) : Nat → Env → Gs → F
  | 0, _, _ => .bad
  | n + 1, ρ, G => (c ρ G).go fun x G1 => match x with
    | .bl true => match f ρ G1 with
      | .next ρ' G' => whL c f n ρ' G'
      | .cont ρ' G' => whL c f n ρ' G'
      | .brk ρ' G' => .next ρ' G'
      | .ret d G' => .ret d G'
      | .exc c G' => .exc c G'
      | .bad => .bad
    | .bl false => .next ρ G1
    | _ => .bad
def augD : Bop → Int → Int → Option Int
  | .add, a, b => some (a + b)
  | .sub, a, b => some (a - b)
  | _, _, _ => none

def setD (G : Gs) : D → D → D → Option Gs
  | .cell n, .int k, v => match G[n]? with
    | some (some (.lst l)) => match ixN l.length k with
      | some j => some (G.set n (some (.lst (l.set j v))))
      | none => none
    | _ => none
  | .cell n, .tup t, v => match G[n]? with
    | some (some (.dct ks vs)) => match keyT (.tup t) with
      | some k => if ks.length < sizeLine then some (G.set n (some (.dct (storeK k (.tup t) v ks vs).1 (storeK k (.tup t) v ks vs).2))) else none
      | none => none
    | _ => none
  | _, _, _ => none

mutual
def evS (S : Sem) : St → Env → Gs → F
  | .set t e, ρ, G => (evE S ρ e G).go fun d G1 => match assign ρ t d with
    | some ρ' => .next ρ' G1
    | none => .bad
  | .setC i e, ρ, G => (evE S ρ e G).go fun d G1 => .next (ρ.set i (some d)) G1
  | .setix o i e, ρ, G => (evE S ρ e G).go fun v G1 => (evE S ρ o G1).go fun x G2 => (evE S ρ i G2).go fun y G3 => match setD G3 x y v with
    | some G4 => .next ρ G4
    | none => .bad
  | .ex e, ρ, G => (evE S ρ e G).go fun _ G1 => .next ρ G1
  | .ret e, ρ, G => (evE S ρ e G).go fun d G1 => .ret d G1
  | .ite c a b, ρ, G => (evE S ρ c G).go fun x G1 => match x with
    | .bl true => evB S a ρ G1
    | .bl false => evB S b ρ G1
    | _ => .bad
  | .for_ t it b, ρ, G => (evI S ρ it G).go fun ds G1 => forL (fun d ρ1 G2 => match assign ρ1 t d with
    | some ρ2 => evB S b ρ2 G2
    | none => .bad) ds ρ G1
  | .raise c e, ρ, G => (evE S ρ e G).go fun _ G1 => .exc c G1
  | .pass, ρ, G => .next ρ G
  | .brk, ρ, G => .brk ρ G
  | .cont, ρ, G => .cont ρ G
  | .aug i o e, ρ, G => match ρ[i]? with
    | some (some (.int a)) => (evE S ρ e G).go fun d G1 => match d with
      | .int b => (match augD o a b with
        | some c => .next (ρ.set i (some (.int c))) G1
        | none => .bad)
      | _ => .bad
    | _ => .bad
  | .while_ c b, ρ, G => whL (fun ρ1 G1 => evE S ρ1 c G1) (fun ρ1 G1 => evB S b ρ1 G1) 100000 ρ G
def evB (S : Sem) : List St → Env → Gs → F
  | [], ρ, G => .next ρ G
  | s :: r, ρ, G => (evS S s ρ G).then fun ρ' G' => evB S r ρ' G'
end

structure Fn where
  np : Nat
  ns : Nat
  body : List St

structure Prog where
  fns : List Fn
  lams : List E
  told : Nat → Option Str
  toldI : Nat

/-! what a def leaves: its own cells are given up -/
mutual
def free : D → Bool
  | .cell _ => false
  | .tup l => frees l
  | .lst l => frees l
  | .frz l => frees l
  | .dct ks vs => frees ks && frees vs
  | .non => true
  | .bl _ => true
  | .int _ => true
  | .str _ => true
  | .lam _ => true
def frees : List D → Bool
  | [] => true
  | d :: ds => free d && frees ds
end
def freeC : Option C → Bool
  | some (.lst l) => frees l
  | some (.dct ks vs) => frees ks && frees vs
  | none => true
def clean (n : Nat) (G : Gs) : Bool := (G.take n).all freeC
def gcR (n : Nat) : R D → R D
  | .ok d G => if free d && clean n G then .ok d (G.take n) else .ok d G
  | .exc c G => if clean n G then .exc c (G.take n) else .exc c G
  | .bad => .bad
def runFn (S : Sem) (f : Fn) (args : List D) (G : Gs) : R D := gcR G.length <|
  if args.length = f.np then (match evB S f.body (args.map some ++ List.replicate (f.ns - f.np) none) G with
    | .next _ G' => .ok .non G'
    | .ret d G' => .ok d G'
    | .exc c G' => .exc c G'
    | _ => .bad) else .bad
/-- the def that tells, called with a kept lambda -/
def toldCal (S : Sem) (L : Nat → Gs → R D) (ds : List D) (G : Gs) : R D := match ds with
  | [.lam k] => toldR S (L k G)
  | _ => .bad
def lamAt (S : Sem) (P : Prog) (k : Nat) (G : Gs) : R D := match P.lams[k]? with
  | some e => evE S [] e G
  | none => .bad
def calAt (S : Sem) (P : Prog) (g : Nat) (args : List D) (G : Gs) : R D := if g = P.toldI then toldCal S (lamAt S P) args G else match P.fns[g]? with
  | some f => runFn S f args G
  | none => .bad
def semAt (P : Prog) : Nat → Sem
  | 0 => ⟨fun _ _ _ => .bad, fun _ _ => .bad, P.told⟩
  | n + 1 => ⟨calAt (semAt P n) P, lamAt (semAt P n) P, P.told⟩
end PV
end
/-! ## PV2 -/
section
set_option Elab.async false
set_option linter.all false
set_option maxRecDepth 100000
set_option maxHeartbeats 4000000
/-! What a plain value is in a heap, what an evaluation leaves, and the judgement: an expression of the text does what the evaluator says. -/
namespace PV
open PySem L2 LamX

/-- a lambda without parameters that reads no name of its maker -/
structure LamD where
  qual : Str
  params : Arguments
  body : Expr
  scope : Scope
structure Par where
  lamD : Nat → LamD
  T : List (Addr × Str)
  cls : Nat → Value
  P : Program
  W : World
/-- the function object of such a lambda at f, its code at c -/
def lamO (l : LamD) (f c : Addr) : HO := .ext fun h => ∃ pm ctv, h.get? f = some (PySem.W.kla_obj "<lambda>" l.qual l.params l.body l.scope [] pm c ctv)

/-- a dict, known as its one object -/
def DictO (a : Addr) (o : Obj) : HO := .ext fun h => h.get? a = some o
/-- what stands at a cell -/
def CellO (a : Addr) (u : HO) : Prop := (∃ vs, u = .lst vs) ∨ ∃ o, u = DictO a o ∧ o.ExactDict ∧ ∃ es ep, o.data = .dict es ep
theorem heap_at (a : Addr) (o : Obj) (hf : ∀ h : Heap, h.objs.size = a → (h.push o).get? a = some o) : ∃ h : Heap, h.get? a = some o := by
  have ex : ∀ n : Nat, ∃ h : Heap, h.objs.size = n := fun n => ⟨⟨Array.replicate n { cls := .none, data := .fields #[] }, {}⟩, by simp⟩
  obtain ⟨h, e⟩ := ex a
  exact ⟨h.push o, hf h e⟩
theorem dictO_ne {a : Addr} {o : Obj} {φ : Heap → Prop} (hd : ∃ es ep, o.data = .dict es ep) (hn : ∀ h : Heap, h.get? a = some o → ¬ φ h) : DictO a o ≠ .ext φ := fun e => by
  obtain ⟨es, ep, hd⟩ := hd
  obtain ⟨h, hh⟩ := heap_at a o (fun h e => by subst e; exact Heap.get?_push_size _ (Obj.isFreed_of_dict hd))
  unfold DictO at e
  injection e with e
  have := congrFun e h
  exact hn h hh (this ▸ hh)
theorem nc_code {c : Addr} {q : Str} : ¬ CellO c (CodeO c q) := by
  rintro (⟨vs, e⟩ | ⟨o, e, _, es, ep, hd⟩)
  · unfold CodeO at e; cases e
  · unfold CodeO at e
    refine dictO_ne ⟨es, ep, hd⟩ (fun h hh ⟨oc, vs, t, h1, h2, _⟩ => ?_) e.symm
    rw [hh] at h1; cases h1
    rw [hd] at h2; cases h2
theorem nc_lam {l : LamD} {f c : Addr} : ¬ CellO f (lamO l f c) := by
  rintro (⟨vs, e⟩ | ⟨o, e, _, es, ep, hd⟩)
  · unfold lamO at e; cases e
  · unfold lamO at e
    refine dictO_ne ⟨es, ep, hd⟩ (fun h hh ⟨pm, ctv, h1⟩ => ?_) e.symm
    rw [hh] at h1
    have h1 := congrArg Obj.data (Option.some.inj h1)
    rw [hd] at h1
    exact absurd h1 (by simp [PySem.W.kla_obj])
theorem nc_tup {a : Addr} {vs : List V} : ¬ CellO a (.tup vs) := by rintro (⟨vs, e⟩ | ⟨o, e, _⟩) <;> cases e
theorem nc_frz {a : Addr} {o : Obj} {u : HO} : ¬ CellO a (.frz o u) := by rintro (⟨vs, e⟩ | ⟨o, e, _⟩) <;> cases e

/-- a state of the heap as the evaluator sees it: the cells' places, the cells, lists that none may touch, the heap -/
structure Z where
  μ : List Addr
  G : Gs
  B : List Addr
  H : Hp

def Live (z : Z) (a : Addr) : Prop := ∃ (n : Nat) (c : C), z.G[n]? = some (some c) ∧ z.μ[n]? = some a
def Free (z : Z) (a : Addr) : Prop := a ∉ z.B ∧ ¬ Live z a
/-- a list of the written part -/
def KL (K : PySem.W.Frag) (a : Addr) (xs : List V) : Prop := ∃ (o : Obj) (its : Array Value) (n : Nat), K.lookup a = some o ∧ o.cls = .type "list" ∧ o.dict = none ∧ o.data = .seq its n ∧ its.size ≤ sizeLine ∧ Vals xs its.toList

/-- the object o at a is a dict of the entries xs -/
def DictRep (q : Par) (a : Addr) (o : Obj) (xs : List (NestedKey × Addr × Value)) : Prop := ∃ es ep, o.ExactDict ∧ o.data = .dict es ep ∧ es.toList = xs.map (entryOfKey (nestedKind q.P q.W)) ∧ (xs.map (·.1)).Nodup ∧ xs.length ≤ sizeLine ∧ (a == sysModules) = false
theorem DictRep.cell {q : Par} {a : Addr} {o : Obj} {xs : List (NestedKey × Addr × Value)} (h : DictRep q a o xs) : CellO a (DictO a o) := by
  obtain ⟨es, ep, h1, h2, _⟩ := h
  exact .inr ⟨o, rfl, h1, es, ep, h2⟩
def Keyed (ks : List D) (KS : List NestedKey) : Prop := ks.map keyT = KS.map some
section
variable (K : PySem.W.Frag) (q : Par)
mutual
def Has (z : Z) : D → V → Prop
  | .non, v => v = .non
  | .bl b, v => v = .bl b
  | .int i, v => v = .int i
  | .str s, v => v = .str s
  | .tup ds, v => ∃ a vs, v = .ref a ∧ SqT K z.H a vs ∧ HasL z ds vs
  | .lst ds, v => ∃ a vs, v = .ref a ∧ z.H a = some (.lst vs) ∧ Free z a ∧ HasL z ds vs
  | .frz ds, v => ∃ a vs, v = .ref a ∧ ((Rd z.H a (.lst vs) ∧ Free z a) ∨ KL K a vs) ∧ HasL z ds vs
  | .cell n, v => ∃ a, v = .ref a ∧ z.μ[n]? = some a
  | .lam k, v => ∃ f c, v = .ref f ∧ z.H f = some (lamO (q.lamD k) f c) ∧ z.H c = some (CodeO c (q.lamD k).qual)
  | .dct ks vs, v => ∃ a o xs us, v = .ref a ∧ z.H a = some (DictO a o) ∧ DictRep q a o xs ∧ Keyed ks (xs.map (·.1)) ∧ HasL z ks (xs.map fun x => V.ref x.2.1) ∧ Vals us (xs.map (·.2.2)) ∧ HasL z vs us ∧ Free z a
def HasL (z : Z) : List D → List V → Prop
  | [], vs => vs = []
  | d :: ds, vs => ∃ v r, vs = v :: r ∧ Has z d v ∧ HasL z ds r
end

/-- what a cell's place holds -/
def HasC (z : Z) : C → Addr → Prop
  | .lst ds, a => ∃ vs, z.H a = some (.lst vs) ∧ HasL K q z ds vs
  | .dct ks vs, a => ∃ o xs us, z.H a = some (DictO a o) ∧ DictRep q a o xs ∧ Keyed ks (xs.map (·.1)) ∧ HasL K q z ks (xs.map fun x => V.ref x.2.1) ∧ Vals us (xs.map (·.2.2)) ∧ HasL K q z vs us
structure Ok (z : Z) : Prop where
  len : z.μ.length = z.G.length
  cells : ∀ (n : Nat) (c : C), z.G[n]? = some (some c) → ∃ a, z.μ[n]? = some a ∧ HasC K q z c a ∧ a ∉ z.B
  inj : ∀ (n m : Nat) (ds es : C) (a : Addr), z.G[n]? = some (some ds) → z.G[m]? = some (some es) → z.μ[n]? = some a → z.μ[m]? = some a → n = m
  blk : ∀ b ∈ z.B, ∃ vs, z.H b = some (.lst vs)
  tabs : Tabs q.T z.H
end

/-- nothing stands there but perhaps a table of code -/
def NewA (z : Z) (a : Addr) : Prop := ∀ o, z.H a = some o → ∃ ps, o = .tbl ps
theorem newA {z : Z} {a : Addr} (h : z.H a = none) : NewA z a := fun o e => by rw [h] at e; cases e
theorem NewA.no {z : Z} {a : Addr} {o : HO} {P : Prop} (n : NewA z a) (h : z.H a = some o) (nt : ∀ ps, o ≠ .tbl ps) : P := by
  obtain ⟨ps, e⟩ := n o h
  exact absurd e (nt ps)
structure Ext (z z' : Z) : Prop where
  pre : z.μ <+: z'.μ
  bs : z'.B = z.B
  live : ∀ a, Live z' a → Live z a ∨ NewA z a
  keep : ∀ b o, z.H b = some o → (∀ ps, o ≠ .tbl ps) → ¬ Live z b → z'.H b = some o
  dom : ∀ b, NewA z' b → NewA z b

theorem Ext.refl (z : Z) : Ext z z := ⟨List.prefix_refl _, rfl, fun _ h => .inl h, fun _ _ h _ _ => h, fun _ h => h⟩

section
variable {K : PySem.W.Frag} {q : Par} {z z' z'' : Z}
theorem HasC.at {c : C} {a : Addr} (h : HasC K q z c a) : ∃ u, z.H a = some u ∧ CellO a u := by
  cases c with
  | lst ds => obtain ⟨vs, h1, _⟩ := h; exact ⟨_, h1, .inl ⟨vs, rfl⟩⟩
  | dct ks vs => obtain ⟨o, xs, us, h1, h2, _⟩ := h; exact ⟨_, h1, h2.cell⟩
theorem Ok.liveL (o : Ok K q z) {a : Addr} (l : Live z a) : ∃ u, z.H a = some u ∧ CellO a u := by
  obtain ⟨n, ds, h1, h2⟩ := l
  obtain ⟨a', e1, e2, _⟩ := o.cells n ds h1
  rw [h2] at e1
  cases e1
  exact e2.at
theorem Ok.liveB (o : Ok K q z) {a : Addr} (l : Live z a) : a ∉ z.B := by
  obtain ⟨n, ds, h1, h2⟩ := l
  obtain ⟨a', e1, _, e2⟩ := o.cells n ds h1
  rw [h2] at e1
  cases e1
  exact e2
theorem Ext.trans (a : Ext z z') (b : Ext z' z'') : Ext z z'' := by
  refine ⟨List.IsPrefix.trans a.pre b.pre, b.bs.trans a.bs, fun x l => ?_, fun x o h nt nl => ?_, fun x h => a.dom x (b.dom x h)⟩
  · rcases b.live x l with l' | n
    · exact a.live x l'
    · exact .inr (a.dom x n)
  · refine b.keep x o (a.keep x o h nt nl) nt fun l => ?_
    rcases a.live x l with l' | n
    · exact nl l'
    · exact n.no h nt
theorem Ext.free (e : Ext z z') {a : Addr} {o : HO} (h : z.H a = some o) (nt : ∀ ps, o ≠ .tbl ps) (f : Free z a) : Free z' a := by
  refine ⟨by rw [e.bs]; exact f.1, fun l => ?_⟩
  rcases e.live a l with l | n
  · exact f.2 l
  · exact n.no h nt
theorem Ok.notLive (o : Ok K q z) {a : Addr} {u : HO} (hu : z.H a = some u) (hn : ¬ CellO a u) : ¬ Live z a := fun l => by
  obtain ⟨w, e, hw⟩ := o.liveL l
  rw [hu] at e; cases e
  exact hn hw
theorem Ext.sqT (e : Ext z z') (o : Ok K q z) {a : Addr} {vs : List V} (h : SqT K z.H a vs) : SqT K z'.H a vs := by
  rcases h with (h | ⟨ob, h⟩) | h
  · exact .inl (.inl (e.keep _ _ h (fun _ x => nomatch x) (o.notLive h nc_tup)))
  · exact .inl (.inr ⟨ob, e.keep _ _ h (fun _ x => nomatch x) (o.notLive h nc_frz)⟩)
  · exact .inr h
theorem Ext.rdL (e : Ext z z') (o : Ok K q z) {a : Addr} {vs : List V} (f : Free z a) (h : Rd z.H a (.lst vs)) : Rd z'.H a (.lst vs) ∧ Free z' a := by
  rcases h with h | ⟨ob, h⟩
  · exact ⟨.inl (e.keep _ _ h (fun _ x => nomatch x) f.2), e.free h (fun _ x => nomatch x) f⟩
  · exact ⟨.inr ⟨ob, e.keep _ _ h (fun _ x => nomatch x) f.2⟩, e.free h (fun _ x => nomatch x) f⟩

/-- values may move from one state to another -/
structure Mv (K : PySem.W.Frag) (q : Par) (z z' : Z) : Prop where
  mu : ∀ (n : Nat) (a : Addr), z.μ[n]? = some a → z'.μ[n]? = some a
  t : ∀ a vs, SqT K z.H a vs → SqT K z'.H a vs
  l : ∀ a vs, z.H a = some (.lst vs) → Free z a → z'.H a = some (.lst vs) ∧ Free z' a
  r : ∀ a vs, Rd z.H a (.lst vs) → Free z a → Rd z'.H a (.lst vs) ∧ Free z' a
  m : ∀ f φ, z.H f = some (.ext φ) → ¬ CellO f (.ext φ) → z'.H f = some (.ext φ)
  d : ∀ a o, z.H a = some (DictO a o) → Free z a → z'.H a = some (DictO a o) ∧ Free z' a
mutual
theorem Has.mv (e : Mv K q z z') : ∀ (d : D) (v : V), Has K q z d v → Has K q z' d v
  | .non, v, h => by simpa only [Has] using h
  | .bl b, v, h => by simpa only [Has] using h
  | .int i, v, h => by simpa only [Has] using h
  | .str s, v, h => by simpa only [Has] using h
  | .tup ds, v, h => by
    simp only [Has] at h ⊢
    obtain ⟨a, vs, rfl, h1, h2⟩ := h
    exact ⟨a, vs, rfl, e.t a vs h1, HasL.mv e ds vs h2⟩
  | .lst ds, v, h => by
    simp only [Has] at h ⊢
    obtain ⟨a, vs, rfl, h1, f, h2⟩ := h
    exact ⟨a, vs, rfl, (e.l a vs h1 f).1, (e.l a vs h1 f).2, HasL.mv e ds vs h2⟩
  | .frz ds, v, h => by
    simp only [Has] at h ⊢
    obtain ⟨a, vs, rfl, h1, h2⟩ := h
    refine ⟨a, vs, rfl, ?_, HasL.mv e ds vs h2⟩
    rcases h1 with ⟨r, f⟩ | h1
    · exact .inl (e.r a vs r f)
    · exact .inr h1
  | .cell n, v, h => by
    simp only [Has] at h ⊢
    obtain ⟨a, rfl, h1⟩ := h
    exact ⟨a, rfl, e.mu n a h1⟩
  | .lam k, v, h => by
    simp only [Has] at h ⊢
    obtain ⟨f, c, rfl, h1, h2⟩ := h
    exact ⟨f, c, rfl, e.m f _ h1 nc_lam, e.m c _ h2 nc_code⟩
  | .dct ks vs, v, h => by
    simp only [Has] at h ⊢
    obtain ⟨a, o, xs, us, rfl, h1, h2, h3, h4, h5, h6, f⟩ := h
    exact ⟨a, o, xs, us, rfl, (e.d a o h1 f).1, h2, h3, HasL.mv e ks _ h4, h5, HasL.mv e vs us h6, (e.d a o h1 f).2⟩
theorem HasL.mv (e : Mv K q z z') : ∀ (ds : List D) (vs : List V), HasL K q z ds vs → HasL K q z' ds vs
  | [], vs, h => by simpa only [HasL] using h
  | d :: ds, vs, h => by
    simp only [HasL] at h ⊢
    obtain ⟨v, r, rfl, h1, h2⟩ := h
    exact ⟨v, r, rfl, Has.mv e d v h1, HasL.mv e ds r h2⟩
end
theorem Ext.mv (e : Ext z z') (o : Ok K q z) : Mv K q z z' where
  mu := fun n a h1 => by
    obtain ⟨t, ht⟩ := e.pre
    rw [← ht, List.getElem?_append_left (List.getElem?_eq_some_iff.mp h1).1]
    exact h1
  t := fun a vs h => e.sqT o h
  l := fun a vs h f => ⟨e.keep _ _ h (fun _ x => nomatch x) f.2, e.free h (fun _ x => nomatch x) f⟩
  r := fun a vs h f => e.rdL o f h
  m := fun f φ h hn => e.keep _ _ h (fun _ x => nomatch x) (o.notLive h hn)
  d := fun a ob h f => ⟨e.keep _ _ h (fun _ x => nomatch x) f.2, e.free h (fun _ x => nomatch x) f⟩
theorem Has.ext (o : Ok K q z) (e : Ext z z') (d : D) (v : V) (h : Has K q z d v) : Has K q z' d v := Has.mv (e.mv o) d v h
theorem HasL.ext (o : Ok K q z) (e : Ext z z') (ds : List D) (vs : List V) (h : HasL K q z ds vs) : HasL K q z' ds vs := HasL.mv (e.mv o) ds vs h

/-- a cell's content where the heap stands at its place -/
theorem HasC.mvAt {c : C} {a : Addr} (e : Mv K q z z') (ha : ∀ u, z.H a = some u → CellO a u → z'.H a = some u) (h : HasC K q z c a) : HasC K q z' c a := by
  cases c with
  | lst ds =>
    obtain ⟨vs, h1, h2⟩ := h
    exact ⟨vs, ha _ h1 (.inl ⟨vs, rfl⟩), HasL.mv e ds vs h2⟩
  | dct ks vs =>
    obtain ⟨o, xs, us, h1, h2, h3, h4, h5, h6⟩ := h
    exact ⟨o, xs, us, ha _ h1 h2.cell, h2, h3, HasL.mv e ks _ h4, h5, HasL.mv e vs us h6⟩

/-! ### lists of values -/
theorem HasL.len : ∀ {ds : List D} {vs : List V}, HasL K q z ds vs → vs.length = ds.length
  | [], vs, h => by simp only [HasL] at h; subst h; rfl
  | d :: ds, vs, h => by
    simp only [HasL] at h
    obtain ⟨v, r, rfl, _, h2⟩ := h
    simp [HasL.len h2]
theorem HasL.nil : HasL K q z [] [] := by simp only [HasL]
theorem HasL.cons {d : D} {v : V} {ds : List D} {vs : List V} (h : Has K q z d v) (t : HasL K q z ds vs) : HasL K q z (d :: ds) (v :: vs) := by
  simp only [HasL]
  exact ⟨v, vs, rfl, h, t⟩
theorem HasL.cons_inv {d : D} {ds : List D} {vs : List V} (h : HasL K q z (d :: ds) vs) : ∃ v r, vs = v :: r ∧ Has K q z d v ∧ HasL K q z ds r := by simpa only [HasL] using h
theorem HasL.nil_inv {vs : List V} (h : HasL K q z [] vs) : vs = [] := by simpa only [HasL] using h
theorem HasL.app : ∀ {ds es : List D} {vs ws : List V}, HasL K q z ds vs → HasL K q z es ws → HasL K q z (ds ++ es) (vs ++ ws)
  | [], es, vs, ws, h, g => by
    have e := h.nil_inv
    subst e
    exact g
  | d :: ds, es, vs, ws, h, g => by
    obtain ⟨v, r, rfl, h1, h2⟩ := h.cons_inv
    exact HasL.cons h1 (HasL.app h2 g)
theorem HasL.get : ∀ {ds : List D} {vs : List V} {i : Nat} {d : D}, HasL K q z ds vs → ds[i]? = some d → ∃ v, vs[i]? = some v ∧ Has K q z d v
  | [], vs, i, d, h, e => by simp at e
  | d0 :: ds, vs, 0, d, h, e => by
    obtain ⟨v, r, rfl, h1, h2⟩ := h.cons_inv
    simp at e; subst e
    exact ⟨v, rfl, h1⟩
  | d0 :: ds, vs, i + 1, d, h, e => by
    obtain ⟨v, r, rfl, h1, h2⟩ := h.cons_inv
    obtain ⟨w, e1, e2⟩ := HasL.get (i := i) (d := d) h2 (by simpa using e)
    exact ⟨w, by simpa using e1, e2⟩
theorem HasL.get' : ∀ {ds : List D} {vs : List V} {i : Nat} {v : V}, HasL K q z ds vs → vs[i]? = some v → ∃ d, ds[i]? = some d ∧ Has K q z d v
  | [], vs, i, d, h, e => by rw [h.nil_inv] at e; simp at e
  | d0 :: ds, vs, 0, v, h, e => by
    obtain ⟨v, r, rfl, h1, h2⟩ := h.cons_inv
    simp at e; subst e
    exact ⟨d0, rfl, h1⟩
  | d0 :: ds, vs, i + 1, v, h, e => by
    obtain ⟨v, r, rfl, h1, h2⟩ := h.cons_inv
    obtain ⟨w, e1, e2⟩ := HasL.get' (i := i) h2 (by simpa using e)
    exact ⟨w, by simpa using e1, e2⟩
theorem HasL.set {d : D} {v : V} (hv : Has K q z d v) : ∀ {ds : List D} {vs : List V} (i : Nat), HasL K q z ds vs → HasL K q z (ds.set i d) (vs.set i v)
  | [], vs, i, h => by rw [h.nil_inv]; exact HasL.nil
  | d0 :: ds, vs, 0, h => by
    obtain ⟨w, r, rfl, h1, h2⟩ := h.cons_inv
    exact HasL.cons hv h2
  | d0 :: ds, vs, i + 1, h => by
    obtain ⟨w, r, rfl, h1, h2⟩ := h.cons_inv
    exact HasL.cons h1 (HasL.set hv i h2)
theorem HasL.take : ∀ {ds : List D} {vs : List V} (n : Nat), HasL K q z ds vs → HasL K q z (ds.take n) (vs.take n)
  | _, _, 0, _ => HasL.nil
  | [], vs, n + 1, h => by rw [h.nil_inv]; exact HasL.nil
  | d0 :: ds, vs, n + 1, h => by
    obtain ⟨w, r, rfl, h1, h2⟩ := h.cons_inv
    exact HasL.cons h1 (HasL.take n h2)
theorem HasL.drop : ∀ {ds : List D} {vs : List V} (n : Nat), HasL K q z ds vs → HasL K q z (ds.drop n) (vs.drop n)
  | _, _, 0, h => h
  | [], vs, n + 1, h => by rw [h.nil_inv]; exact HasL.nil
  | d0 :: ds, vs, n + 1, h => by
    obtain ⟨w, r, rfl, h1, h2⟩ := h.cons_inv
    exact HasL.drop n h2
theorem HasL.rep {ds : List D} {vs : List V} (h : HasL K q z ds vs) : ∀ k : Nat, HasL K q z (List.replicate k ds).flatten (List.replicate k vs).flatten
  | 0 => HasL.nil
  | k + 1 => by
    rw [List.replicate_succ, List.replicate_succ, List.flatten_cons, List.flatten_cons]
    exact h.app (HasL.rep h k)
theorem Has.ref_of_tup {ds : List D} {v : V} (h : Has K q z (.tup ds) v) : ∃ a vs, v = .ref a ∧ SqT K z.H a vs ∧ HasL K q z ds vs := by simpa only [Has] using h
theorem Has.of_lst {ds : List D} {v : V} (h : Has K q z (.lst ds) v) : ∃ a vs, v = .ref a ∧ z.H a = some (.lst vs) ∧ Free z a ∧ HasL K q z ds vs := by simpa only [Has] using h
theorem Has.of_int {i : Int} {v : V} (h : Has K q z (.int i) v) : v = .int i := by simpa only [Has] using h
theorem Has.of_bl {i : Bool} {v : V} (h : Has K q z (.bl i) v) : v = .bl i := by simpa only [Has] using h
theorem Has.of_str {i : Str} {v : V} (h : Has K q z (.str i) v) : v = .str i := by simpa only [Has] using h
theorem Has.of_non {v : V} (h : Has K q z .non v) : v = .non := by simpa only [Has] using h
theorem Has.int {i : Int} : Has K q z (.int i) (.int i) := by simp only [Has]
theorem Has.bl {i : Bool} : Has K q z (.bl i) (.bl i) := by simp only [Has]
theorem Has.str {i : Str} : Has K q z (.str i) (.str i) := by simp only [Has]
theorem Has.non : Has K q z .non .non := by simp only [Has]
theorem Has.tup {ds : List D} {a : Addr} {vs : List V} (h : SqT K z.H a vs) (t : HasL K q z ds vs) : Has K q z (.tup ds) (.ref a) := by
  simp only [Has]; exact ⟨a, vs, rfl, h, t⟩
theorem Has.lst {ds : List D} {a : Addr} {vs : List V} (h : z.H a = some (.lst vs)) (f : Free z a) (t : HasL K q z ds vs) : Has K q z (.lst ds) (.ref a) := by
  simp only [Has]; exact ⟨a, vs, rfl, h, f, t⟩

/-! ### a new object -/
abbrev Z.put (z : Z) (p : Addr) (o : HO) : Z := { z with H := upd z.H p o }
theorem live_put {p : Addr} {o : HO} {a : Addr} : Live (z.put p o) a ↔ Live z a := Iff.rfl
theorem Ext.put {p : Addr} {o : HO} (h : z.H p = none) : Ext z (z.put p o) := by
  refine ⟨List.prefix_refl _, rfl, fun _ l => .inl l, fun b u hb _ _ => ?_, fun b hb u hu => hb u ?_⟩
  · show upd z.H p o b = some u
    rw [upd_ne (ne_of_none hb h)]; exact hb
  · show upd z.H p o b = some u
    rw [upd_ne (ne_of_none hu h)]; exact hu
theorem Ok.put (ok : Ok K q z) {p : Addr} {o : HO} (h : z.H p = none) : Ok K q (z.put p o) := by
  have e := Ext.put (o := o) h
  have kp : ∀ b u, z.H b = some u → (z.put p o).H b = some u := fun b u hb => by
    show upd z.H p o b = some u
    rw [upd_ne (ne_of_none hb h)]; exact hb
  refine ⟨ok.len, fun n ds hn => ?_, fun n m ds es a h1 h2 h3 h4 => ok.inj n m ds es a h1 h2 h3 h4, fun b hb => ?_, ok.tabs.ext kp⟩
  · obtain ⟨a, h1, h2, h4⟩ := ok.cells n ds hn
    exact ⟨a, h1, h2.mvAt (e.mv ok) (fun u hu _ => kp a u hu), h4⟩
  · obtain ⟨vs, hv⟩ := ok.blk b hb
    exact ⟨vs, kp b _ hv⟩
theorem Ok.freeNew (ok : Ok K q z) {p : Addr} {o : HO} (h : z.H p = none) : Free (z.put p o) p := by
  refine ⟨fun hb => ?_, fun l => ?_⟩
  · obtain ⟨vs, hv⟩ := ok.blk p hb
    rw [h] at hv; cases hv
  · obtain ⟨u, hv, _⟩ := ok.liveL (z := z) l
    rw [h] at hv; cases hv
theorem put_tup (ok : Ok K q z) {p : Addr} {ds : List D} {vs : List V} (h : z.H p = none) (t : HasL K q z ds vs) : Has K q (z.put p (.tup vs)) (.tup ds) (.ref p) :=
  Has.tup (SqT.of upd_same) (HasL.ext ok (Ext.put h) ds vs t)
theorem put_lst (ok : Ok K q z) {p : Addr} {ds : List D} {vs : List V} (h : z.H p = none) (t : HasL K q z ds vs) : Has K q (z.put p (.lst vs)) (.lst ds) (.ref p) :=
  Has.lst upd_same (ok.freeNew h) (HasL.ext ok (Ext.put h) ds vs t)

/-! ### a list that none may touch -/
abbrev Z.push (z : Z) (p : Addr) (vs : List V) : Z := { z with B := p :: z.B, H := upd z.H p (.lst vs) }
theorem mv_push (o : Ok K q z) {p : Addr} {vs : List V} (h : z.H p = none) : Mv K q z (z.push p vs) := by
  have e := (Ext.put (o := .lst vs) h).mv o
  have fr : ∀ a, Free z a → z.H a ≠ none → Free (z.push p vs) a := fun a f n => ⟨fun hb => by
    rcases List.mem_cons.mp hb with e1 | hb
    · rw [e1] at n; exact n h
    · exact f.1 hb, f.2⟩
  refine ⟨fun n a h1 => h1, e.t, fun a ws h1 f => ⟨(e.l a ws h1 f).1, fr a f (by rw [h1]; simp)⟩, fun a ws h1 f => ⟨(e.r a ws h1 f).1, fr a f ?_⟩, e.m, fun a ob h1 f => ⟨(e.d a ob h1 f).1, fr a f (by rw [h1]; simp)⟩⟩
  rcases h1 with h1 | ⟨ob, h1⟩ <;> rw [h1] <;> simp
theorem Ok.push (o : Ok K q z) {p : Addr} {vs : List V} (h : z.H p = none) : Ok K q (z.push p vs) := by
  have o' := o.put (o := .lst vs) h
  refine ⟨o'.len, fun n ds hn => ?_, o'.inj, fun b hb => ?_, o'.tabs⟩
  · obtain ⟨a, h1, h2, h4⟩ := o.cells n ds hn
    refine ⟨a, h1, h2.mvAt (mv_push o h) (fun u hu _ => ?_), fun hb => ?_⟩
    · show upd z.H p _ a = _
      rw [upd_ne (ne_of_none hu h)]; exact hu
    · obtain ⟨u, hu, _⟩ := h2.at
      rcases List.mem_cons.mp hb with e1 | hb
      · rw [e1, h] at hu; cases hu
      · exact h4 hb
  · rcases List.mem_cons.mp hb with e1 | hb
    · subst e1
      exact ⟨vs, upd_same⟩
    · exact o'.blk b hb
/-- the list at p, of those that none may touch, is written -/
abbrev Z.wr (z : Z) (p : Addr) (vs : List V) : Z := { z with H := upd z.H p (.lst vs) }
theorem mv_wr {p : Addr} {vs ws : List V} (hb : p ∈ z.B) (h : z.H p = some (.lst ws)) : Mv K q z (z.wr p vs) := by
  have ne : ∀ a (u : HO), z.H a = some u → (∀ w, u ≠ .lst w) → a ≠ p := fun a u e n e1 => by rw [e1, h] at e; cases e; exact n _ rfl
  have nf : ∀ a, Free z a → a ≠ p := fun a f e => f.1 (e ▸ hb)
  refine ⟨fun n a h1 => h1, fun a us h1 => ?_, fun a us h1 f => ⟨?_, f⟩, fun a us h1 f => ⟨?_, f⟩, fun f φ h1 _ => ?_, fun a ob h1 f => ⟨?_, f⟩⟩
  · rcases h1 with (h1 | ⟨ob, h1⟩) | h1
    · exact .inl (.inl (by show upd z.H p _ a = _; rw [upd_ne (ne a _ h1 fun w x => nomatch x)]; exact h1))
    · exact .inl (.inr ⟨ob, by show upd z.H p _ a = _; rw [upd_ne (ne a _ h1 fun w x => nomatch x)]; exact h1⟩)
    · exact .inr h1
  · show upd z.H p _ a = _
    rw [upd_ne (nf a f)]; exact h1
  · rcases h1 with h1 | ⟨ob, h1⟩
    · exact .inl (by show upd z.H p _ a = _; rw [upd_ne (nf a f)]; exact h1)
    · exact .inr ⟨ob, by show upd z.H p _ a = _; rw [upd_ne (nf a f)]; exact h1⟩
  · show upd z.H p _ f = _
    rw [upd_ne (ne f _ h1 fun w x => nomatch x)]; exact h1
  · show upd z.H p _ a = _
    rw [upd_ne (nf a f)]; exact h1
theorem tabs_wr {T : List (Addr × Str)} {H : Hp} {p : Addr} {u v : HO} (h : H p = some u) (hc : CellO p u) (t : Tabs T H) : Tabs T (upd H p v) := fun x hx => by
  obtain ⟨ps, h1, h2, h3⟩ := t x hx
  refine ⟨ps, by rw [upd_ne (fun e => by rw [e, h] at h1; cases h1; rcases hc with ⟨_, e⟩ | ⟨_, e, _⟩ <;> cases e)]; exact h1, h2, fun pos cv hcv => ?_⟩
  obtain ⟨c, e1, e2⟩ := h3 pos cv hcv
  exact ⟨c, e1, by rw [upd_ne (fun e => by rw [e, h] at e2; cases e2; exact nc_code hc)]; exact e2⟩
theorem Ok.wr (o : Ok K q z) {p : Addr} {vs ws : List V} (hb : p ∈ z.B) (h : z.H p = some (.lst ws)) : Ok K q (z.wr p vs) := by
  refine ⟨o.len, fun n ds hn => ?_, o.inj, fun b hb' => ?_, tabs_wr h (.inl ⟨_, rfl⟩) o.tabs⟩
  · obtain ⟨a, h1, h2, h4⟩ := o.cells n ds hn
    refine ⟨a, h1, h2.mvAt (mv_wr hb h) (fun u hu _ => ?_), h4⟩
    show upd z.H p _ a = _
    rw [upd_ne (fun e => h4 (by rw [e]; exact hb))]; exact hu
  · by_cases e : b = p
    · rw [e]; exact ⟨vs, upd_same⟩
    · obtain ⟨us, hu⟩ := o.blk b hb'
      exact ⟨us, by show upd z.H p _ b = _; rw [upd_ne e]; exact hu⟩
/-- fewer are kept from touch -/
theorem mv_less {B : List Addr} (hB : ∀ b ∈ B, b ∈ z.B) : Mv K q z { z with B := B } :=
  ⟨fun n a h1 => h1, fun a us h1 => h1, fun a us h1 f => ⟨h1, fun hb => f.1 (hB a hb), f.2⟩, fun a us h1 f => ⟨h1, fun hb => f.1 (hB a hb), f.2⟩, fun k f h1 _ => h1, fun a ob h1 f => ⟨h1, fun hb => f.1 (hB a hb), f.2⟩⟩
theorem Ok.less (o : Ok K q z) {B : List Addr} (hB : ∀ b ∈ B, b ∈ z.B) : Ok K q { z with B := B } := by
  refine ⟨o.len, fun n ds hn => ?_, o.inj, fun b hb => o.blk b (hB b hb), o.tabs⟩
  obtain ⟨a, h1, h2, h4⟩ := o.cells n ds hn
  exact ⟨a, h1, h2.mvAt (mv_less hB) (fun _ hu _ => hu), fun hb => h4 (hB a hb)⟩

/-! ### slots -/
def RelS (K : PySem.W.Frag) (q : Par) (z : Z) (ρ : Env) (σ : L2.St) : Prop := ρ.length = σ.length ∧ ∀ (i : Nat) (d : D), ρ[i]? = some (some d) → ∃ v, σ[i]? = some (some v) ∧ Has K q z d v
theorem RelS.ext {ρ : Env} {σ : L2.St} (r : RelS K q z ρ σ) (o : Ok K q z) (e : Ext z z') : RelS K q z' ρ σ :=
  ⟨r.1, fun i d h => by obtain ⟨v, h1, h2⟩ := r.2 i d h; exact ⟨v, h1, Has.ext o e d v h2⟩⟩
theorem RelS.mv {ρ : Env} {σ : L2.St} (r : RelS K q z ρ σ) (e : Mv K q z z') : RelS K q z' ρ σ :=
  ⟨r.1, fun i d h => by obtain ⟨v, h1, h2⟩ := r.2 i d h; exact ⟨v, h1, Has.mv e d v h2⟩⟩
theorem RelS.set {ρ : Env} {σ : L2.St} (r : RelS K q z ρ σ) {d : D} {v : V} (h : Has K q z d v) (i : Nat) : RelS K q z (ρ.set i (some d)) (σ.set i (some v)) := by
  refine ⟨by rw [List.length_set, List.length_set]; exact r.1, fun j e hj => ?_⟩
  by_cases hij : i = j
  · subst hij
    have hl : i < ρ.length := by
      have := (List.getElem?_eq_some_iff.mp hj).1
      rwa [List.length_set] at this
    rw [List.getElem?_set_self hl] at hj
    cases hj
    exact ⟨v, List.getElem?_set_self (by rw [← r.1]; exact hl), h⟩
  · rw [List.getElem?_set_ne hij] at hj
    rw [List.getElem?_set_ne hij]
    exact r.2 j e hj
theorem RelS.wipe {ρ : Env} {σ : L2.St} (r : RelS K q z ρ σ) : ∀ own : List Nat, RelS K q z (wipeE ρ own) (L2.wipe σ own)
  | [] => r
  | v :: vs => by
    have ih := RelS.wipe r vs
    refine ⟨by show (List.set _ _ _).length = (List.set _ _ _).length; rw [List.length_set, List.length_set]; exact ih.1, fun j e hj => ?_⟩
    have hj : ((wipeE ρ vs).set v none)[j]? = some (some e) := hj
    show ∃ w, ((L2.wipe σ vs).set v none)[j]? = some (some w) ∧ _
    by_cases hij : v = j
    · subst hij
      by_cases hl : v < (wipeE ρ vs).length
      · rw [List.getElem?_set_self hl] at hj; cases hj
      · rw [List.getElem?_eq_none (by rw [List.length_set]; omega)] at hj; cases hj
    · rw [List.getElem?_set_ne hij] at hj
      rw [List.getElem?_set_ne hij]
      exact ih.2 j e hj

/-! ### what is wanted of an evaluation -/
def wp {α : Type} (K : PySem.W.Frag) (q : Par) (z : Z) (r : R α) (P : α → Z → Prop) (E : XK) : Prop := match r with
  | .ok a G' => ∀ z' : Z, z'.G = G' → Ok K q z' → Ext z z' → P a z'
  | .exc c G' => ∀ z' : Z, z'.G = G' → Ok K q z' → Ext z z' → E (q.cls c) none z'.H
  | .bad => False
theorem wp.ext {α : Type} {r : R α} {P : α → Z → Prop} {E : XK} (e : Ext z z') (h : wp K q z r P E) : wp K q z' r P E := by
  cases r with
  | ok a G' => exact fun w hw o e' => h w hw o (e.trans e')
  | exc c G' => exact fun w hw o e' => h w hw o (e.trans e')
  | bad => exact h
theorem wp.bind {α β : Type} {r : R α} {f : α → Gs → R β} {P : β → Z → Prop} {E : XK} (h : wp K q z (r.bind f) P E) : wp K q z r (fun a z' => wp K q z' (f a z'.G) P E) E := by
  cases r with
  | ok a G' =>
    intro w hw o e
    subst hw
    exact wp.ext e h
  | exc c G' => exact h
  | bad => exact h
theorem wp.mono {α : Type} {r : R α} {P P' : α → Z → Prop} {E : XK} (h : wp K q z r P E) (hp : ∀ a z', Ok K q z' → Ext z z' → P a z' → P' a z') : wp K q z r P' E := by
  cases r with
  | ok a G' => exact fun w hw o e => hp a w o e (h w hw o e)
  | exc c G' => exact h
  | bad => exact h
theorem wp.of {α : Type} {o : Option α} {P : α → Z → Prop} {E : XK} (h : wp K q z (.of o z.G) P E) : ∃ a, o = some a ∧ ∀ z' : Z, z'.G = z.G → Ok K q z' → Ext z z' → P a z' := by
  cases o with
  | none => exact False.elim h
  | some a => exact ⟨a, rfl, h⟩
theorem wp.here {α : Type} {a : α} {P : α → Z → Prop} {E : XK} (o : Ok K q z) (h : wp K q z (.ok a z.G) P E) : P a z := h z rfl o (Ext.refl z)
/-- the result as a value, wanted by Q -/
abbrev PQ (K : PySem.W.Frag) (q : Par) (Q : VK) : D → Z → Prop := fun d z' => ∀ v, Has K q z' d v → Q v z'.H

/-! ### the judgements -/
def rdE (K : PySem.W.Frag) (q : Par) (S : Sem) (E : XK) (e : PV.E) : TE := fun σ H Q => ∃ z ρ, z.H = H ∧ Ok K q z ∧ RelS K q z ρ σ ∧ wp K q z (evE S ρ e z.G) (PQ K q Q) E
def rdEs (K : PySem.W.Frag) (q : Par) (S : Sem) (E : XK) (es : List PV.E) : TA := fun σ H Q => ∃ z ρ, z.H = H ∧ Ok K q z ∧ RelS K q z ρ σ ∧ wp K q z (evEs S ρ es z.G) (fun ds z' => ∀ vs, HasL K q z' ds vs → Q vs z'.H) E
def rdT (K : PySem.W.Frag) (q : Par) (S : Sem) (E : XK) (e : PV.E) : TT := fun σ H Q => ∃ z ρ, z.H = H ∧ Ok K q z ∧ RelS K q z ρ σ ∧ wp K q z (evE S ρ e z.G) (fun d z' => ∃ b, d = .bl b ∧ Q b z'.H) E
abbrev Tk (X : Cx) (E : XK) : Prop := Takes X (fun cls d _ H => E cls d H)
def Sd (X : Cx) (q : Par) (S : Sem) (e : Expr) (m : PV.E) : Prop := ∀ E : XK, Tk X E → PE X e (rdE X.K q S E m)
def SdA (X : Cx) (q : Par) (S : Sem) (es : List Expr) (ms : List PV.E) : Prop := ∀ E : XK, Tk X E → PA X es (rdEs X.K q S E ms)
def Td (X : Cx) (q : Par) (S : Sem) (e : Expr) (m : PV.E) : Prop := ∀ E : XK, Tk X E → PT X e (rdT X.K q S E m)
theorem pe_imp {X : Cx} {e : Expr} {t t' : TE} (h : PE X e t) (f : ∀ σ H Q, t' σ H Q → t σ H Q) : PE X e t' := ⟨fun pins s σ H Q I w => h.run pins s σ H Q I (f σ H Q w)⟩
theorem pa_imp {X : Cx} {e : List Expr} {t t' : TA} (h : PA X e t) (f : ∀ σ H Q, t' σ H Q → t σ H Q) : PA X e t' := ⟨fun pos pins s σ H Q I w => h.run pos pins s σ H Q I (f σ H Q w)⟩
theorem pt_imp {X : Cx} {e : Expr} {t t' : TT} (h : PT X e t) (f : ∀ σ H Q, t' σ H Q → t σ H Q) : PT X e t' := ⟨fun pins s σ H Q I w => h.run pins s σ H Q I (f σ H Q w)⟩
theorem pw_imp {X : Cx} {e : Expr} {t t' : TT} (h : PW X e t) (f : ∀ σ H Q, t' σ H Q → t σ H Q) : PW X e t' := ⟨fun wh pins s σ H Q I w => h.run wh pins s σ H Q I (f σ H Q w)⟩
theorem ps_imp {X : Cx} {e : Stmt} {t t' : TS} (h : PS X e t) (f : ∀ D σ H, t' D σ H → t D σ H) : PS X e t' := ⟨fun pins s σ H D I w => h.run pins s σ H D I (f D σ H w)⟩
theorem pss_imp {X : Cx} {e : List Stmt} {t t' : TS} (h : PSs X e t) (f : ∀ D σ H, t' D σ H → t D σ H) : PSs X e t' := ⟨fun pins s σ H D I w => h.run pins s σ H D I (f D σ H w)⟩
end
end PV
end
/-! ## PV3 -/
section
set_option Elab.async false
set_option linter.all false
set_option maxRecDepth 100000
set_option maxHeartbeats 4000000
/-! The rules: expressions. -/
namespace PV
open PySem L2 LamX
section
variable {X : Cx} {q : Par} {S : Sem}

theorem sd_var (i : Nat) {x : Str} {pos : Pos} (hN : X.N[i]? = some x := by rfl) (hv : Vis X.env.scope x := by first | exact Or.inl rfl | exact Or.inr (Or.inl rfl) | exact Or.inr (Or.inr rfl)) (hd : (x == ("__debug__" : Str)) = false := by decide)
    (hcd : (x == ("__classdict__" : Str)) = false := by decide) : Sd X q S (.Name x pos) (.var i) := fun E tk =>
  pe_imp (pe_var hN hv hd hcd) fun σ H Q ⟨z, ρ, hH, ok, rl, w⟩ => by
    subst hH
    have w : wp X.K q z (match ρ[i]? with
      | some (some d) => R.ok d z.G
      | _ => R.bad) (PQ X.K q Q) E := w
    split at w
    · rename_i d e
      obtain ⟨v, h1, h2⟩ := rl.2 i d e
      exact ⟨v, h1, wp.here (P := PQ X.K q Q) ok w v h2⟩
    · exact w.elim
theorem sd_int {i : Int} {j pos} : Sd X q S (.Constant (.int i) j pos) (.con (.int i)) := fun E tk =>
  pe_imp pe_int fun σ H Q ⟨z, ρ, hH, ok, rl, w⟩ => by subst hH; exact wp.here (P := PQ X.K q Q) ok w _ Has.int
theorem sd_bl {i : Bool} {j pos} : Sd X q S (.Constant (.bool i) j pos) (.con (.bl i)) := fun E tk =>
  pe_imp pe_bl fun σ H Q ⟨z, ρ, hH, ok, rl, w⟩ => by subst hH; exact wp.here (P := PQ X.K q Q) ok w _ Has.bl
theorem sd_non {j pos} : Sd X q S (.Constant .none j pos) (.con .non) := fun E tk =>
  pe_imp pe_non fun σ H Q ⟨z, ρ, hH, ok, rl, w⟩ => by subst hH; exact wp.here (P := PQ X.K q Q) ok w _ Has.non
theorem sd_str {x : Str} {j pos} : Sd X q S (.Constant (.str x) j pos) (.con (.str x)) := fun E tk =>
  pe_imp pe_str fun σ H Q ⟨z, ρ, hH, ok, rl, w⟩ => by subst hH; exact wp.here (P := PQ X.K q Q) ok w _ Has.str
/-- a module's constant -/
theorem sd_glob {x : Str} {d : D} {pos : Pos} (hg : Gl X x) (hm : ∃ u v, X.mg x = some u ∧ RelV v u ∧ ∀ z : Z, Has X.K q z d v) (hd : (x == ("__debug__" : Str)) = false := by decide) : Sd X q S (.Name x pos) (.con d) := fun E tk => by
  obtain ⟨u, v, h1, h2, h3⟩ := hm
  exact pe_imp (pe_glob hg h1 h2 hd) fun σ H Q ⟨z, ρ, hH, ok, rl, w⟩ => by subst hH; exact wp.here (P := PQ X.K q Q) ok w _ (h3 z)

/-! ### operators -/
/-- what follows a result that made nothing that changes the cells -/
abbrev Post (K : PySem.W.Frag) (q : Par) (z : Z) (Q : VK) (c : D) : Prop := ∀ z' : Z, z'.G = z.G → Ok K q z' → Ext z z' → PQ K q Q c z'
theorem Post.at {K : PySem.W.Frag} {q : Par} {z : Z} {Q : VK} {c : D} (h : Post K q z Q c) (ok : Ok K q z) {v : V} (hv : Has K q z c v) : Q v z.H := h z rfl ok (Ext.refl z) v hv
theorem Post.put {K : PySem.W.Frag} {q : Par} {z : Z} {Q : VK} {c : D} (h : Post K q z Q c) (ok : Ok K q z) {p : Addr} {o : HO} (hp : z.H p = none) (hv : Has K q (z.put p o) c (.ref p)) : Q (.ref p) (upd z.H p o) := h (z.put p o) rfl (ok.put hp) (Ext.put hp) _ hv
/-- an operator by values does what the evaluator's function says -/
def rD (K : PySem.W.Frag) (q : Par) (g : D → D → Option D) : R2 := fun x y H Q => ∃ (z : Z) (d e c : D), z.H = H ∧ Ok K q z ∧ Has K q z d x ∧ Has K q z e y ∧ g d e = some c ∧ Post K q z Q c
abbrev OpD (X : Cx) (q : Par) (f : Value → Value → PySem.Sem Value) (g : D → D → Option D) : Prop := OpR X f (rD X.K q g)

theorem bin_imp {a b : Expr} {ma mb : E} {E : XK} {g : D → D → Option D} {r : R2} (hr : ∀ x y H Q, rD X.K q g x y H Q → r x y H Q) {σ : L2.St} {H : Hp} {Q : VK}
    (h : ∃ z ρ, z.H = H ∧ Ok X.K q z ∧ RelS X.K q z ρ σ ∧ wp X.K q z ((evE S ρ ma z.G).bind fun x G1 => (evE S ρ mb G1).bind fun y G2 => .of (g x y) G2) (PQ X.K q Q) E) :
    tOp r (rdE X.K q S E ma) (rdE X.K q S E mb) σ H Q := by
  obtain ⟨z, ρ, hH, ok, rl, w⟩ := h
  subst hH
  refine ⟨z, ρ, rfl, ok, rl, (wp.bind w).mono fun d z1 ok1 e1 w1 v hv => ?_⟩
  refine ⟨z1, ρ, rfl, ok1, rl.ext ok e1, (wp.bind w1).mono fun e z2 ok2 e2 w2 u hu => ?_⟩
  obtain ⟨c, hc, hp⟩ := wp.of w2
  exact hr _ _ _ _ ⟨z2, d, e, c, rfl, ok2, Has.ext ok1 e2 d v hv, hu, hc, hp⟩
theorem sd_bin {op : Operator} {o : Bop} {a b : Expr} {ma mb : E} {pos : Pos} (ho : OpD X q (binaryOp op) (binD o)) (ha : Sd X q S a ma) (hb : Sd X q S b mb) : Sd X q S (.BinOp a op b pos) (.bin o ma mb) := fun E tk =>
  pe_imp (pe_op ho (ha E tk) (hb E tk)) fun σ H Q ⟨z, ρ, hH, ok, rl, w⟩ => bin_imp (a := a) (b := b) (fun _ _ _ _ h => h) ⟨z, ρ, hH, ok, rl, w⟩
theorem sd_cmp {op : CmpOp} {o : Cop} {a b : Expr} {ma mb : E} {pos : Pos} (ho : OpD X q (compareOp op) (fun x y => (cmpD o x y).map .bl)) (ha : Sd X q S a ma) (hb : Sd X q S b mb) (hm : behindInMarks op b = false) : Sd X q S (.Compare a [op] [b] pos) (.cmp o ma mb) := fun E tk =>
  pe_imp (pe_cmpR ho (ha E tk) (hb E tk) hm) fun σ H Q ⟨z, ρ, hH, ok, rl, w⟩ => bin_imp (a := a) (b := b) (fun _ _ _ _ h => h) ⟨z, ρ, hH, ok, rl, w⟩
theorem td_cmp {op : CmpOp} {o : Cop} {a b : Expr} {ma mb : E} {pos : Pos} (ho : OpD X q (compareOp op) (fun x y => (cmpD o x y).map .bl)) (ha : Sd X q S a ma) (hb : Sd X q S b mb) (hm : behindInMarks op b = false) : Td X q S (.Compare a [op] [b] pos) (.cmp o ma mb) := fun E tk =>
  pt_imp (pt_cmpR ho (ha E tk) (hb E tk) hm) fun σ H Q ⟨z, ρ, hH, ok, rl, w⟩ => by
    refine bin_imp (a := a) (b := b) (fun _ _ _ _ h => h) ⟨z, ρ, hH, ok, rl, wp.mono w fun d z' ok' e' ⟨b, hb, hq⟩ v hv => ?_⟩
    subst hb
    exact ⟨b, hv.of_bl, hq⟩

theorem eqD_some {a b : D} {c : Bool} (h : eqD a b = some c) : ∃ p q, toPy a = some p ∧ toPy b = some q ∧ SeqAt.shaped p = true ∧ SeqAt.shaped q = true ∧ PyData.eqv p q = c := by
  unfold eqD at h
  split at h
  · rename_i p q h1 h2
    split at h
    · rename_i hs
      simp only [Bool.and_eq_true] at hs
      exact ⟨p, q, h1, h2, hs.1, hs.2, Option.some.inj h⟩
    · cases h
  · cases h
mutual
theorem has_dp {K : PySem.W.Frag} {z : Z} : ∀ (d : D) (p : PyData) (v : V), toPy d = some p → Has K q z d v → Dp K z.H v p
  | .non, p, v, e, h => by simp only [toPy, Option.some.injEq] at e; subst e; rw [h.of_non]; exact .non
  | .bl b, p, v, e, h => by simp only [toPy, Option.some.injEq] at e; subst e; rw [h.of_bl]; exact .bl b
  | .int b, p, v, e, h => by simp only [toPy, Option.some.injEq] at e; subst e; rw [h.of_int]; exact .int b
  | .str b, p, v, e, h => by simp only [toPy, Option.some.injEq] at e; subst e; rw [h.of_str]; exact .str b
  | .tup ds, p, v, e, h => by
    simp only [toPy, Option.map_eq_some_iff] at e
    obtain ⟨ps, e1, rfl⟩ := e
    simp only [Has] at h
    obtain ⟨a, vs, rfl, h1, h2⟩ := h
    exact .tup h1 (has_dps ds ps vs e1 h2)
  | .lst ds, p, v, e, h => by
    simp only [toPy, Option.map_eq_some_iff] at e
    obtain ⟨ps, e1, rfl⟩ := e
    simp only [Has] at h
    obtain ⟨a, vs, rfl, h1, _, h2⟩ := h
    exact .lst (SqL.of h1) (has_dps ds ps vs e1 h2)
  | .frz ds, p, v, e, h => by
    simp only [toPy, Option.map_eq_some_iff] at e
    obtain ⟨ps, e1, rfl⟩ := e
    simp only [Has] at h
    obtain ⟨a, vs, rfl, h1, h2⟩ := h
    refine .lst ?_ (has_dps ds ps vs e1 h2)
    rcases h1 with ⟨r, _⟩ | h1
    · exact .inl r
    · exact .inr h1
  | .cell n, p, v, e, h => by simp only [toPy] at e; cases e
  | .lam n, p, v, e, h => by simp only [toPy] at e; cases e
theorem has_dps {K : PySem.W.Frag} {z : Z} : ∀ (ds : List D) (ps : List PyData) (vs : List V), toPys ds = some ps → HasL K q z ds vs → DpAll K z.H vs ps
  | [], ps, vs, e, h => by
    simp only [toPys, Option.some.injEq] at e
    subst e
    rw [h.nil_inv]; exact .nil
  | d :: ds, ps, vs, e, h => by
    obtain ⟨v, r, rfl, h1, h2⟩ := h.cons_inv
    simp only [toPys] at e
    split at e
    · rename_i p ps' e1 e2
      cases e
      exact .cons (has_dp d p v e1 h1) (has_dps ds ps' r e2 h2)
    · cases e
end
theorem od_eq (hu : X.A.units + 64 < cLine) : OpD X q (compareOp .Eq) (fun x y => (cmpD .eq x y).map .bl) := by
  intro pins s σ H x y v u Q I rx ry h
  obtain ⟨z, d, e, c, rfl, ok, hd, he, hg, hp⟩ := h
  simp only [cmpD, Option.map_eq_some_iff] at hg
  obtain ⟨b, hg, rfl⟩ := hg
  obtain ⟨p, r, h1, h2, h3, h4, h5⟩ := eqD_some hg
  refine op_eqD hu pins s σ _ x y v u Q I rx ry ⟨p, r, has_dp d p x h1 hd, has_dp e r y h2 he, h3, h4, ?_⟩
  rw [h5]
  exact hp.at ok Has.bl
theorem od_ne (hu : X.A.units + 64 < cLine) : OpD X q (compareOp .NotEq) (fun x y => (cmpD .ne x y).map .bl) := by
  intro pins s σ H x y v u Q I rx ry h
  obtain ⟨z, d, e, c, rfl, ok, hd, he, hg, hp⟩ := h
  simp only [cmpD, Option.map_eq_some_iff] at hg
  obtain ⟨b, ⟨b', hg, rfl⟩, rfl⟩ := hg
  obtain ⟨p, r, h1, h2, h3, h4, h5⟩ := eqD_some hg
  refine op_neD hu pins s σ _ x y v u Q I rx ry ⟨p, r, has_dp d p x h1 hd, has_dp e r y h2 he, h3, h4, ?_⟩
  rw [h5]
  exact hp.at ok Has.bl
theorem cmp_int {o : Cop} {p : Int → Int → Bool} {d e c : D} (ho : o = .lt ∨ o = .le ∨ o = .gt ∨ o = .ge) (h : (cmpD o d e).map D.bl = some c) : ∃ i j, d = .int i ∧ e = .int j := by
  rcases ho with rfl | rfl | rfl | rfl <;> (cases d <;> cases e <;> simp [cmpD] at h) <;> exact ⟨_, _, rfl, rfl⟩
theorem od_lt : OpD X q (compareOp .Lt) (fun x y => (cmpD .lt x y).map .bl) := by
  intro pins s σ H x y v u Q I rx ry h
  obtain ⟨z, d, e, c, rfl, ok, hd, he, hg, hp⟩ := h
  obtain ⟨i, j, rfl, rfl⟩ := cmp_int (p := fun _ _ => true) (.inl rfl) hg
  simp only [cmpD, Option.map_some, Option.some.injEq] at hg
  subst hg
  exact op_lt pins s σ _ x y v u Q I rx ry ⟨i, j, hd.of_int, he.of_int, hp.at ok Has.bl⟩
theorem od_le : OpD X q (compareOp .LtE) (fun x y => (cmpD .le x y).map .bl) := by
  intro pins s σ H x y v u Q I rx ry h
  obtain ⟨z, d, e, c, rfl, ok, hd, he, hg, hp⟩ := h
  obtain ⟨i, j, rfl, rfl⟩ := cmp_int (p := fun _ _ => true) (.inr (.inl rfl)) hg
  simp only [cmpD, Option.map_some, Option.some.injEq] at hg
  subst hg
  exact op_le pins s σ _ x y v u Q I rx ry ⟨i, j, hd.of_int, he.of_int, hp.at ok Has.bl⟩
theorem od_gt : OpD X q (compareOp .Gt) (fun x y => (cmpD .gt x y).map .bl) := by
  intro pins s σ H x y v u Q I rx ry h
  obtain ⟨z, d, e, c, rfl, ok, hd, he, hg, hp⟩ := h
  obtain ⟨i, j, rfl, rfl⟩ := cmp_int (p := fun _ _ => true) (.inr (.inr (.inl rfl))) hg
  simp only [cmpD, Option.map_some, Option.some.injEq] at hg
  subst hg
  exact op_gt pins s σ _ x y v u Q I rx ry ⟨i, j, hd.of_int, he.of_int, hp.at ok Has.bl⟩
theorem od_ge : OpD X q (compareOp .GtE) (fun x y => (cmpD .ge x y).map .bl) := by
  intro pins s σ H x y v u Q I rx ry h
  obtain ⟨z, d, e, c, rfl, ok, hd, he, hg, hp⟩ := h
  obtain ⟨i, j, rfl, rfl⟩ := cmp_int (p := fun _ _ => true) (.inr (.inr (.inr rfl))) hg
  simp only [cmpD, Option.map_some, Option.some.injEq] at hg
  subst hg
  exact op_ge pins s σ _ x y v u Q I rx ry ⟨i, j, hd.of_int, he.of_int, hp.at ok Has.bl⟩
theorem od_in : OpD X q (compareOp .In) (fun x y => (cmpD .isIn x y).map .bl) := by
  intro pins s σ H x y v u Q I rx ry h
  obtain ⟨z, d, e, c, rfl, ok, hd, he, hg, hp⟩ := h
  cases d <;> cases e <;> simp [cmpD] at hg
  subst hg
  exact op_in_str pins s σ _ x y v u Q I rx ry ⟨_, _, hd.of_str, he.of_str, hp.at ok (by simp only [Has]; try simp)⟩
theorem od_notIn : OpD X q (compareOp .NotIn) (fun x y => (cmpD .notIn x y).map .bl) := by
  intro pins s σ H x y v u Q I rx ry h
  obtain ⟨z, d, e, c, rfl, ok, hd, he, hg, hp⟩ := h
  cases d <;> cases e <;> simp [cmpD] at hg
  subst hg
  exact op_notin_str pins s σ _ x y v u Q I rx ry ⟨_, _, hd.of_str, he.of_str, hp.at ok (by simp only [Has]; try simp)⟩
theorem od_add : OpD X q (binaryOp .Add) (binD .add) := by
  intro pins s σ H x y v u Q I rx ry h
  obtain ⟨z, d, e, c, rfl, ok, hd, he, hg, hp⟩ := h
  cases d <;> cases e <;> simp only [binD, reduceCtorEq] at hg
  · cases hg
    exact op_add pins s σ _ x y v u Q I rx ry ⟨_, _, hd.of_int, he.of_int, hp.at ok Has.int⟩
  · split at hg <;> cases hg
    rename_i hs
    exact op_add_str pins s σ _ x y v u Q I rx ry ⟨_, _, hd.of_str, he.of_str, hs, hp.at ok Has.str⟩
  · split at hg <;> cases hg
    rename_i l1 l2 hs
    obtain ⟨a, vs, rfl, h1, h2⟩ := hd.ref_of_tup
    obtain ⟨b, ws, rfl, h3, h4⟩ := he.ref_of_tup
    refine op_catA pins s σ _ _ _ v u Q I rx ry ⟨a, b, vs, ws, rfl, rfl, h1, h3, by rw [h2.len, h4.len]; exact hs, fun e1 => ?_, fun _ e2 => ?_, fun _ _ p hn => hp.put ok hn (put_tup ok hn (h2.app h4))⟩
    · subst e1
      have e : l1 = [] := List.eq_nil_of_length_eq_zero (by rw [← h2.len]; rfl)
      subst e
      exact hp.at ok he
    · subst e2
      have e : l2 = [] := List.eq_nil_of_length_eq_zero (by rw [← h4.len]; rfl)
      subst e
      rw [List.append_nil] at hp
      exact hp.at ok hd
  · split at hg <;> cases hg
    rename_i l1 l2 hs
    obtain ⟨a, vs, rfl, h1, _, h2⟩ := hd.of_lst
    obtain ⟨b, ws, rfl, h3, _, h4⟩ := he.of_lst
    exact op_cat pins s σ _ _ _ v u Q I rx ry ⟨a, b, vs, ws, rfl, rfl, h1, h3, by rw [h2.len, h4.len]; exact hs, fun p hn => hp.put ok hn (put_lst ok hn (h2.app h4))⟩
theorem od_sub : OpD X q (binaryOp .Sub) (binD .sub) := by
  intro pins s σ H x y v u Q I rx ry h
  obtain ⟨z, d, e, c, rfl, ok, hd, he, hg, hp⟩ := h
  cases d <;> cases e <;> simp only [binD, reduceCtorEq] at hg
  cases hg
  exact op_sub pins s σ _ x y v u Q I rx ry ⟨_, _, hd.of_int, he.of_int, hp.at ok Has.int⟩
/-- * of two factors of together less than a hundred million bits -/
def CMulV (i j : Int) : Prop := i.natAbs.log2 + j.natAbs.log2 < 100000000
theorem CMulV.ok {i j : Int} (h : CMulV i j) : IntMulOk i j := by
  have b : ∀ x : Int, Builtin.Int.intBits x ≤ x.natAbs.log2 + 1 := fun x => by
    unfold Builtin.Int.intBits
    split <;> omega
  have h1 := b i
  have h2 := b j
  have h3 : i.natAbs.log2 + j.natAbs.log2 < 100000000 := h
  have e : bitsLine = 134217728 := by decide
  unfold IntMulOk
  intro z
  rw [Bool.and_eq_true] at z
  have z2 := z.2
  unfold Builtin.Int.intTooBig at z2
  have z3 := of_decide_eq_true z2
  rw [e] at z3
  omega
open PySem.Spec PyProof.Rows in
theorem op_mulV {X : Cx} : OpR X (binaryOp .Mult) (rI CMulV fun i j => .int (i * j)) := opI fun _ _ _ _ _ _ _ hc q => mul_int q hc.ok
theorem od_mul : OpD X q (binaryOp .Mult) (binD .mul) := by
  intro pins s σ H x y v u Q I rx ry h
  obtain ⟨z, d, e, c, rfl, ok, hd, he, hg, hp⟩ := h
  cases d <;> cases e <;> simp only [binD, reduceCtorEq] at hg
  · split at hg <;> cases hg
    rename_i i j hs
    exact op_mulV pins s σ _ x y v u Q I rx ry ⟨_, _, hd.of_int, he.of_int, (by simpa [okMul] using hs : i.natAbs.log2 + j.natAbs.log2 < 100000000), hp.at ok Has.int⟩
  · split at hg <;> cases hg
    rename_i l k hs
    obtain ⟨a, vs, rfl, h1, h2⟩ := hd.ref_of_tup
    obtain ⟨k0, k1, k2⟩ := hs
    have hl := h2.len
    refine op_repA pins s σ _ _ y v u Q I rx ry ⟨a, k, vs, rfl, he.of_int, h1, k0, k1, by omega, fun e => ?_, fun e1 e2 p hn => ?_, fun e1 e2 p hn => hp.put ok hn (put_tup ok hn (h2.rep _))⟩
    · rcases e with e | e
      · have e : l = [] := List.eq_nil_of_length_eq_zero (by rw [← hl, e]; rfl)
        subst e
        have : (List.replicate k.toNat ([] : List D)).flatten = [] := by simp
        rw [this] at hp
        exact hp.at ok hd
      · subst e
        have : (List.replicate (1 : Int).toNat l).flatten = l := by simp
        rw [this] at hp
        exact hp.at ok hd
    · have : (List.replicate k.toNat l).flatten = [] := by
        have : k.toNat = 0 := by omega
        rw [this]; rfl
      rw [this] at hp
      exact hp.put ok hn (put_tup ok hn HasL.nil)
  · split at hg <;> cases hg
    rename_i l k hs
    obtain ⟨a, vs, rfl, h1, _, h2⟩ := hd.of_lst
    obtain ⟨k0, k1, k2⟩ := hs
    refine op_rep pins s σ _ _ y v u Q I rx ry ⟨a, k, vs, rfl, he.of_int, h1, by omega, by omega, ?_, fun p hn => hp.put ok hn (put_lst ok hn (h2.rep _))⟩
    have e : vs.length ≤ 1000 := by rw [h2.len]; exact k2
    have e2 : k.toNat ≤ 1000 := by omega
    exact Nat.le_trans (Nat.mul_le_mul e e2) (by rw [sizeLine_eq]; decide)
theorem od_fdiv : OpD X q (binaryOp .FloorDiv) (binD .fdiv) := by
  intro pins s σ H x y v u Q I rx ry h
  obtain ⟨z, d, e, c, rfl, ok, hd, he, hg, hp⟩ := h
  cases d <;> cases e <;> simp only [binD, reduceCtorEq] at hg
  split at hg <;> cases hg
  rename_i i j hs
  simp only [Bool.or_eq_true, Bool.and_eq_true, decide_eq_true_eq] at hs
  rcases hs with ⟨h1, h2⟩ | ⟨h1, h2⟩
  · refine op_fdivW pins s σ _ x y v u Q I rx ry ⟨_, _, hd.of_int, he.of_int, ⟨h1, h2⟩, ?_⟩
    show Q (.int (i / j)) z.H
    rw [← Int.fdiv_eq_ediv_of_nonneg i (Int.le_of_lt h1)]
    exact hp.at ok Has.int
  · exact op_fdivN pins s σ _ x y v u Q I rx ry ⟨_, _, hd.of_int, he.of_int, ⟨h1, h2⟩, hp.at ok Has.int⟩
theorem od_mod : OpD X q (binaryOp .Mod) (binD .mod) := by
  intro pins s σ H x y v u Q I rx ry h
  obtain ⟨z, d, e, c, rfl, ok, hd, he, hg, hp⟩ := h
  cases d <;> cases e <;> simp only [binD, reduceCtorEq] at hg
  split at hg <;> cases hg
  rename_i i j hs
  exact op_modN pins s σ _ x y v u Q I rx ry ⟨_, _, hd.of_int, he.of_int, hs, hp.at ok Has.int⟩
theorem od_pow : OpD X q (binaryOp .Pow) (binD .pow) := by
  intro pins s σ H x y v u Q I rx ry h
  obtain ⟨z, d, e, c, rfl, ok, hd, he, hg, hp⟩ := h
  cases d <;> cases e <;> simp only [binD, reduceCtorEq] at hg
  split at hg <;> cases hg
  rename_i i j hs
  exact op_pow pins s σ _ x y v u Q I rx ry ⟨_, _, hd.of_int, he.of_int, hs, hp.at ok Has.int⟩

/-! ### not, and, or, a if t else b -/
/-- an expression whose value is a bool, as a test -/
theorem td_val {e : Expr} {m : E} (h : Sd X q S e m) (he : ∀ whole, isTrue e X.env whole = (do let v ← whole; standAt e.pos; holding [v] (truthy v)) := by intro _; rfl) : Td X q S e m := fun E tk =>
  pt_imp (pt_val (h E tk) he) fun σ H Q ⟨z, ρ, hH, ok, rl, w⟩ => ⟨z, ρ, hH, ok, rl, w.mono fun d z' ok' e' ⟨b, hb, hq⟩ v hv => by
    subst hb
    exact ⟨b, hv.of_bl, hq⟩⟩
theorem td_not {a : Expr} {ma : E} {pos : Pos} (h : Td X q S a ma) : Td X q S (.UnaryOp .Not a pos) (.not ma) := fun E tk =>
  pt_imp (pt_not (h E tk)) fun σ H Q ⟨z, ρ, hH, ok, rl, w⟩ => ⟨z, ρ, hH, ok, rl, (wp.bind w).mono fun d z' ok' e' w' => by
    cases d <;> try exact False.elim w'
    rename_i b
    obtain ⟨b', hb', hq⟩ := wp.here (P := fun d z' => ∃ b, d = D.bl b ∧ Q b z'.H) ok' w'
    cases hb'
    exact ⟨b, rfl, hq⟩⟩
theorem sd_not {a : Expr} {ma : E} {pos : Pos} (h : Sd X q S a ma) : Sd X q S (.UnaryOp .Not a pos) (.not ma) := fun E tk =>
  pe_imp (pe_not (h E tk)) fun σ H Q ⟨z, ρ, hH, ok, rl, w⟩ => ⟨z, ρ, hH, ok, rl, (wp.bind w).mono fun d z' ok' e' w' v hv => by
    cases d <;> try exact False.elim w'
    rename_i b
    exact ⟨b, hv.of_bl, wp.here (P := PQ X.K q Q) ok' w' _ Has.bl⟩⟩
/-- tests joined by and, or -/
def TdW (X : Cx) (q : Par) (S : Sem) (e : Expr) (m : E) : Prop := ∀ E : XK, Tk X E → PW X e (rdT X.K q S E m)
theorem TdW.td {e : Expr} {m : E} (h : TdW X q S e m) : Td X q S e m := fun E tk => (h E tk).pt
theorem tw_and1 {a : Expr} {ma : E} {pos : Pos} (h : Td X q S a ma) : TdW X q S (.BoolOp .And [a] pos) ma := fun E tk => pw_and1 (h E tk)
theorem tw_or1 {a : Expr} {ma : E} {pos : Pos} (h : Td X q S a ma) : TdW X q S (.BoolOp .Or [a] pos) ma := fun E tk => pw_or1 (h E tk)
theorem tw_and {a b : Expr} {rest : List Expr} {ma mb : E} {pos : Pos} (h : Td X q S a ma) (g : TdW X q S (.BoolOp .And (b :: rest) pos) mb) : TdW X q S (.BoolOp .And (a :: b :: rest) pos) (.and ma mb) := fun E tk =>
  pw_imp (pw_and (h E tk) (g E tk)) fun σ H Q ⟨z, ρ, hH, ok, rl, w⟩ => ⟨z, ρ, hH, ok, rl, (wp.bind w).mono fun d z' ok' e' w' => by
    cases d <;> try exact False.elim w'
    rename_i b
    refine ⟨b, rfl, ?_⟩
    cases b with
    | true => exact ⟨z', ρ, rfl, ok', rl.ext ok e', w'⟩
    | false =>
      obtain ⟨b', hb', hq⟩ := wp.here (P := fun d z' => ∃ b, d = D.bl b ∧ Q b z'.H) ok' w'
      cases hb'
      exact hq⟩
theorem tw_or {a b : Expr} {rest : List Expr} {ma mb : E} {pos : Pos} (h : Td X q S a ma) (g : TdW X q S (.BoolOp .Or (b :: rest) pos) mb) : TdW X q S (.BoolOp .Or (a :: b :: rest) pos) (.or ma mb) := fun E tk =>
  pw_imp (pw_or (h E tk) (g E tk)) fun σ H Q ⟨z, ρ, hH, ok, rl, w⟩ => ⟨z, ρ, hH, ok, rl, (wp.bind w).mono fun d z' ok' e' w' => by
    cases d <;> try exact False.elim w'
    rename_i b
    refine ⟨b, rfl, ?_⟩
    cases b with
    | false => exact ⟨z', ρ, rfl, ok', rl.ext ok e', w'⟩
    | true =>
      obtain ⟨b', hb', hq⟩ := wp.here (P := fun d z' => ∃ b, d = D.bl b ∧ Q b z'.H) ok' w'
      cases hb'
      exact hq⟩
theorem sd_one {op} {a : Expr} {ma : E} {pos : Pos} (h : Sd X q S a ma) : Sd X q S (.BoolOp op [a] pos) ma := fun E tk => pe_one (h E tk)
theorem sd_and {a b : Expr} {rest : List Expr} {ma mb : E} {pos : Pos} (h : Sd X q S a ma) (g : Sd X q S (.BoolOp .And (b :: rest) pos) mb) : Sd X q S (.BoolOp .And (a :: b :: rest) pos) (.and ma mb) := fun E tk =>
  pe_imp (pe_and (h E tk) (g E tk)) fun σ H Q ⟨z, ρ, hH, ok, rl, w⟩ => ⟨z, ρ, hH, ok, rl, (wp.bind w).mono fun d z' ok' e' w' v hv => by
    cases d <;> try exact False.elim w'
    rename_i b
    refine ⟨b, hv.of_bl, ?_⟩
    cases b with
    | true => exact ⟨z', ρ, rfl, ok', rl.ext ok e', w'⟩
    | false => exact wp.here (P := PQ X.K q Q) ok' w' _ Has.bl⟩
theorem sd_or {a b : Expr} {rest : List Expr} {ma mb : E} {pos : Pos} (h : Sd X q S a ma) (g : Sd X q S (.BoolOp .Or (b :: rest) pos) mb) : Sd X q S (.BoolOp .Or (a :: b :: rest) pos) (.or ma mb) := fun E tk =>
  pe_imp (pe_or (h E tk) (g E tk)) fun σ H Q ⟨z, ρ, hH, ok, rl, w⟩ => ⟨z, ρ, hH, ok, rl, (wp.bind w).mono fun d z' ok' e' w' v hv => by
    cases d <;> try exact False.elim w'
    rename_i b
    refine ⟨b, hv.of_bl, ?_⟩
    cases b with
    | false => exact ⟨z', ρ, rfl, ok', rl.ext ok e', w'⟩
    | true => exact wp.here (P := PQ X.K q Q) ok' w' _ Has.bl⟩
theorem sd_if {c a b : Expr} {mc ma mb : E} {pos : Pos} (hc : Td X q S c mc) (ha : Sd X q S a ma) (hb : Sd X q S b mb) : Sd X q S (.IfExp c a b pos) (.ite mc ma mb) := fun E tk =>
  pe_imp (pe_ifExp (hc E tk) (ha E tk) (hb E tk)) fun σ H Q ⟨z, ρ, hH, ok, rl, w⟩ => ⟨z, ρ, hH, ok, rl, (wp.bind w).mono fun d z' ok' e' w' => by
    cases d <;> try exact False.elim w'
    rename_i b
    refine ⟨b, rfl, ?_⟩
    cases b with
    | false => exact ⟨z', ρ, rfl, ok', rl.ext ok e', w'⟩
    | true => exact ⟨z', ρ, rfl, ok', rl.ext ok e', w'⟩⟩
end
end PV
end
/-! ## PV4 -/
section
set_option Elab.async false
set_option linter.all false
set_option maxRecDepth 100000
set_option maxHeartbeats 4000000
/-! The rules: arguments, displays, calls, built-ins, items, slices. -/
namespace PV
open PySem L2 LamX
section
variable {X : Cx} {q : Par} {S : PV.Sem}

theorem sda_nil : SdA X q S [] [] := fun E tk => pa_imp pa_nil fun σ H Q ⟨z, ρ, hH, ok, rl, w⟩ => by
  subst hH
  exact wp.here (P := fun ds z' => ∀ vs, HasL X.K q z' ds vs → Q vs z'.H) ok w [] HasL.nil
theorem sda_cons {e : Expr} {es : List Expr} {m : E} {ms : List E} (h : Sd X q S e m) (t : SdA X q S es ms) (hs : starEach (e :: es) X.env = (false, eval e X.env) :: starEach es X.env := by rfl) : SdA X q S (e :: es) (m :: ms) := fun E tk =>
  pa_imp (pa_cons (h E tk) (t E tk) hs) fun σ H Q ⟨z, ρ, hH, ok, rl, w⟩ => ⟨z, ρ, hH, ok, rl, (wp.bind w).mono fun d z1 ok1 e1 w1 v hv => ⟨z1, ρ, rfl, ok1, rl.ext ok e1, (wp.bind w1).mono fun ds z2 ok2 e2 w2 vs hvs =>
    wp.here (P := fun ds z' => ∀ vs, HasL X.K q z' ds vs → Q vs z'.H) ok2 w2 _ (HasL.cons (Has.ext ok1 e2 d v hv) hvs)⟩⟩
theorem sd_tup {es : List Expr} {ms : List E} {x1} {pos : Pos} (h : SdA X q S es ms) : Sd X q S (.Tuple es x1 pos) (.tup ms) := fun E tk =>
  pe_imp (pe_tup (h E tk)) fun σ H Q ⟨z, ρ, hH, ok, rl, w⟩ => ⟨z, ρ, hH, ok, rl, (wp.bind w).mono fun ds z1 ok1 e1 w1 vs hvs => by
    have w1 : wp X.K q z1 (if ds.length ≤ sizeLine then R.ok (D.tup ds) z1.G else R.bad) (PQ X.K q Q) E := w1
    split at w1
    · rename_i hz
      refine ⟨by rw [hvs.len]; exact hz, fun p hp => ?_⟩
      exact w1 (z1.put p (.tup vs)) rfl (ok1.put hp) (Ext.put hp) _ (put_tup ok1 hp hvs)
    · exact w1.elim⟩
theorem sd_lst {es : List Expr} {ms : List E} {pos : Pos} (h : SdA X q S es ms) : Sd X q S (.List es pos) (.lst ms) := fun E tk =>
  pe_imp (pe_lst (h E tk)) fun σ H Q ⟨z, ρ, hH, ok, rl, w⟩ => ⟨z, ρ, hH, ok, rl, (wp.bind w).mono fun ds z1 ok1 e1 w1 vs hvs => by
    have w1 : wp X.K q z1 (if ds.length ≤ sizeLine then R.ok (D.lst ds) z1.G else R.bad) (PQ X.K q Q) E := w1
    split at w1
    · rename_i hz
      refine ⟨by rw [hvs.len]; exact hz, fun p hp => ?_⟩
      exact w1 (z1.put p (.lst vs)) rfl (ok1.put hp) (Ext.put hp) _ (put_lst ok1 hp hvs)
    · exact w1.elim⟩

/-! ### a new cell -/
abbrev Z.cell (z : Z) (p : Addr) (c : C) (o : HO) : Z := { μ := z.μ ++ [p], G := z.G ++ [some c], B := z.B, H := upd z.H p o }
theorem Ext.cell {K : PySem.W.Frag} {z : Z} (ok : Ok K q z) {p : Addr} {c : C} {o : HO} (h : z.H p = none) : Ext z (z.cell p c o) := by
  refine ⟨List.prefix_append _ _, rfl, fun a ⟨n, es, h1, h2⟩ => ?_, fun b u hb _ _ => ?_, fun b hb => ?_⟩
  · have h1 : (z.G ++ [some c])[n]? = some (some es) := h1
    have h2 : (z.μ ++ [p])[n]? = some a := h2
    by_cases hn : n < z.G.length
    · rw [List.getElem?_append_left hn] at h1
      rw [List.getElem?_append_left (by rw [ok.len]; exact hn)] at h2
      exact .inl ⟨n, es, h1, h2⟩
    · rw [List.getElem?_append_right (by rw [ok.len]; omega)] at h2
      have : n - z.μ.length = 0 := by
        have := (List.getElem?_eq_some_iff.mp h2).1
        simp at this; omega
      rw [this] at h2
      simp at h2
      subst h2
      exact .inr (newA h)
  · show upd z.H p _ b = some u
    rw [upd_ne (ne_of_none hb h)]; exact hb
  · refine fun u hu => hb u ?_
    show upd z.H p _ b = some u
    rw [upd_ne (ne_of_none hu h)]; exact hu
theorem Ok.cell {K : PySem.W.Frag} {z : Z} (ok : Ok K q z) {p : Addr} {c : C} {o : HO} (h : z.H p = none) (hv : ∀ z' : Z, Mv K q z z' → z'.H p = some o → HasC K q z' c p) : Ok K q (z.cell p c o) := by
  have e := Ext.cell (c := c) (o := o) ok h
  have kp : ∀ b u, z.H b = some u → (z.cell p c o).H b = some u := fun b u hb => by
    show upd z.H p o b = some u
    rw [upd_ne (ne_of_none hb h)]; exact hb
  have pm : ∀ (n : Nat) (a : Addr), z.μ[n]? = some a → (z.μ ++ [p])[n]? = some a := fun n a ha => by
    rw [List.getElem?_append_left (List.getElem?_eq_some_iff.mp ha).1]; exact ha
  have split : ∀ (n : Nat) (es : C), (z.G ++ [some c])[n]? = some (some es) → (n < z.G.length ∧ z.G[n]? = some (some es)) ∨ (n = z.G.length ∧ es = c) := fun n es hn => by
    by_cases hl : n < z.G.length
    · rw [List.getElem?_append_left hl] at hn
      exact .inl ⟨hl, hn⟩
    · rw [List.getElem?_append_right (by omega)] at hn
      have : n - z.G.length = 0 := by
        have := (List.getElem?_eq_some_iff.mp hn).1
        simp at this; omega
      rw [this] at hn
      simp at hn
      exact .inr ⟨by omega, hn.symm⟩
  have atp : (z.μ ++ [p])[z.G.length]? = some p := by rw [← ok.len]; simp
  refine ⟨by show (z.μ ++ [p]).length = (z.G ++ [some c]).length; rw [List.length_append, List.length_append, ok.len]; rfl, fun n es hn => ?_, fun n m es fs a h1 h2 h3 h4 => ?_, fun b hb => ?_, ok.tabs.ext kp⟩
  · rcases split n es hn with ⟨hl, hn⟩ | ⟨rfl, rfl⟩
    · obtain ⟨a, h1, h2, h4⟩ := ok.cells n es hn
      exact ⟨a, pm n a h1, h2.mvAt (e.mv ok) (fun u hu _ => kp a u hu), h4⟩
    · refine ⟨p, atp, hv _ (e.mv ok) upd_same, fun hb => ?_⟩
      obtain ⟨ws, hw⟩ := ok.blk p hb
      rw [h] at hw; cases hw
  · have h1 : (z.G ++ [some c])[n]? = some (some es) := h1
    have h2 : (z.G ++ [some c])[m]? = some (some fs) := h2
    have h3 : (z.μ ++ [p])[n]? = some a := h3
    have h4 : (z.μ ++ [p])[m]? = some a := h4
    have lo : ∀ (k : Nat) (gs : C), z.G[k]? = some (some gs) → (z.μ ++ [p])[k]? = some a → a ≠ p := fun k gs hk ha e' => by
      obtain ⟨a', g1, g2, _⟩ := ok.cells k gs hk
      rw [pm k a' g1] at ha
      cases ha
      obtain ⟨u, hu, _⟩ := g2.at
      rw [e', h] at hu; cases hu
    rcases split n es h1 with ⟨l1, h1⟩ | ⟨e1, _⟩
    · rcases split m fs h2 with ⟨l2, h2⟩ | ⟨e2, _⟩
      · rw [List.getElem?_append_left (by rw [ok.len]; exact l1)] at h3
        rw [List.getElem?_append_left (by rw [ok.len]; exact l2)] at h4
        exact ok.inj n m es fs a h1 h2 h3 h4
      · exfalso
        rw [e2, atp] at h4
        exact lo n es h1 h3 (Option.some.inj h4).symm
    · rcases split m fs h2 with ⟨l2, h2⟩ | ⟨e2, _⟩
      · exfalso
        rw [e1, atp] at h3
        exact lo m fs h2 h4 (Option.some.inj h3).symm
      · rw [e1, e2]
  · obtain ⟨ws, hw⟩ := ok.blk b hb
    exact ⟨ws, kp b _ hw⟩
theorem has_cell {K : PySem.W.Frag} {z : Z} {n : Nat} {a : Addr} (h : z.μ[n]? = some a) : Has K q z (.cell n) (.ref a) := by
  simp only [Has]
  exact ⟨a, rfl, h⟩
theorem sd_lstC {es : List Expr} {ms : List E} {pos : Pos} (h : SdA X q S es ms) : Sd X q S (.List es pos) (.lstC ms) := fun E tk =>
  pe_imp (pe_lst (h E tk)) fun σ H Q ⟨z, ρ, hH, ok, rl, w⟩ => ⟨z, ρ, hH, ok, rl, (wp.bind w).mono fun ds z1 ok1 e1 w1 vs hvs => by
    have w1 : wp X.K q z1 (if ds.length ≤ sizeLine then R.ok (D.cell z1.G.length) (z1.G ++ [some (.lst ds)]) else R.bad) (PQ X.K q Q) E := w1
    split at w1
    · rename_i hz
      refine ⟨by rw [hvs.len]; exact hz, fun p hp => ?_⟩
      refine w1 (z1.cell p (.lst ds) (.lst vs)) rfl (ok1.cell hp fun z' m hp' => ⟨vs, hp', HasL.mv m ds vs hvs⟩) (Ext.cell ok1 hp) _ (has_cell ?_)
      show (z1.μ ++ [p])[z1.G.length]? = some p
      rw [← ok1.len]; simp
    · exact w1.elim⟩

/-! ### calls of defs -/
def spC (K : PySem.W.Frag) (q : Par) (S : PV.Sem) (g : Nat) (n : Nat) : Sp := fun vs H Q E => ∃ (z : Z) (ds : List D), z.H = H ∧ Ok K q z ∧ HasL K q z ds vs ∧ vs.length = n ∧ wp K q z (S.cal g ds z.G) (PQ K q Q) E
structure FnAt (P : Program) (w : World) (K : PySem.W.Frag) (mg : Str → Option Value) (base : Heap) (q : Par) (S : PV.Sem) (k g : Nat) (x : Str) (dd : List D) : Prop where
  ex : ∃ f fd ps ds dvs, FnOk P w K mg base (L2.CX P w) k f fd ps (spC K q S g ps.length) ∧ mg x = some (.ref f) ∧ PySem.W.keepIn K (.ref f) = true ∧ Binds K fd ps ds ∧ Vals dvs ds ∧ (∀ z, HasL K q z dd dvs) ∧ ∀ ds G, ds.length ≠ ps.length → S.cal g ds G = .bad
theorem passes_tk {E : XK} (tk : Tk X E) : Passes (L2.CX X.prog X.w) X E := fun pins σ H s e s' I c => passAt tk σ pins H s e s' I c
theorem call_pre {g n : Nat} {z : Z} {ds : List D} {vs : List V} {Q : VK} {E : XK} (ar : ∀ ds G, ds.length ≠ n → S.cal g ds G = .bad) (ok : Ok X.K q z) (hv : HasL X.K q z ds vs) (w : wp X.K q z (S.cal g ds z.G) (PQ X.K q Q) E) : spC X.K q S g n vs z.H Q E := by
  refine ⟨z, ds, rfl, ok, hv, ?_, w⟩
  rw [hv.len]
  by_cases hl : ds.length = n
  · exact hl
  · rw [ar ds z.G hl] at w
    exact w.elim
theorem evEs_app {ρ : Env} : ∀ (ms : List E) (dd : List D) (G : Gs), evEs S ρ (ms ++ dd.map .con) G = (evEs S ρ ms G).bind fun ds G1 => .ok (ds ++ dd) G1
  | [], dd, G => by
    show evEs S ρ (dd.map .con) G = .ok ([] ++ dd) G
    induction dd with
    | nil => rfl
    | cons d r ih =>
      show (R.bind (.ok d G) fun d G1 => (evEs S ρ (r.map .con) G1).bind fun ds G2 => .ok (d :: ds) G2) = _
      show ((evEs S ρ (r.map .con) G).bind fun ds G2 => R.ok (d :: ds) G2) = _
      rw [ih]
      rfl
  | m :: ms, dd, G => by
    show ((evE S ρ m G).bind fun d G1 => (evEs S ρ (ms ++ dd.map .con) G1).bind fun ds G2 => .ok (d :: ds) G2) = ((evE S ρ m G).bind fun d G1 => (evEs S ρ ms G1).bind fun ds G2 => R.ok (d :: ds) G2).bind fun ds G1 => .ok (ds ++ dd) G1
    cases evE S ρ m G with
    | bad => rfl
    | exc c G' => rfl
    | ok d G1 =>
      show ((evEs S ρ (ms ++ dd.map .con) G1).bind fun ds G2 => R.ok (d :: ds) G2) = ((evEs S ρ ms G1).bind fun ds G2 => R.ok (d :: ds) G2).bind fun ds G1 => .ok (ds ++ dd) G1
      rw [evEs_app ms dd G1]
      cases evEs S ρ ms G1 <;> rfl
theorem sd_callD {k g : Nat} {x : Str} {p pos : Pos} {e : Expr} {es : List Expr} {ms ms' : List E} {dd : List D} (F : FnAt X.prog X.w X.K X.mg X.base q S k g x dd) (hr : Room k X.A) (hg : Gl X x) (ha : SdA X q S (e :: es) ms) (hm' : ms' = ms ++ dd.map .con)
    (hdb : (x == ("__debug__" : Str)) = false := by decide) (he : starEach (e :: es) X.env = (false, eval e X.env) :: starEach es X.env := by rfl) (hpl : (backTo pos (starEach es X.env)).any (·.1) = false := by rfl) : Sd X q S (.Call (.Name x p) (e :: es) [] pos) (.call g ms') := fun E tk => by
  obtain ⟨f, fd, ps, ds, dvs, F1, hm, hk, hb, hv, hd, ar⟩ := F.ex
  subst hm'
  exact pe_imp (pe_call F1 hr hg hm hk hb hv (passes_tk tk) (ha E tk) hdb he hpl) fun σ H Q ⟨z, ρ, hH, ok, rl, w⟩ => ⟨z, ρ, hH, ok, rl, by
    have w : wp X.K q z ((evEs S ρ (ms ++ dd.map .con) z.G).bind fun ds G1 => S.cal g ds G1) (PQ X.K q Q) E := w
    rw [evEs_app] at w
    have e0 : ((evEs S ρ ms z.G).bind fun ds G1 => R.ok (ds ++ dd) G1).bind (fun ds G1 => S.cal g ds G1) = (evEs S ρ ms z.G).bind fun ds G1 => S.cal g (ds ++ dd) G1 := by cases evEs S ρ ms z.G <;> rfl
    rw [e0] at w
    exact (wp.bind w).mono fun ds' z1 ok1 e1 w1 vs hvs => call_pre ar ok1 (hvs.app (hd z1)) w1⟩
theorem sd_call {k g : Nat} {x : Str} {p pos : Pos} {e : Expr} {es : List Expr} {ms : List E} (F : FnAt X.prog X.w X.K X.mg X.base q S k g x []) (hr : Room k X.A) (hg : Gl X x) (ha : SdA X q S (e :: es) ms)
    (hdb : (x == ("__debug__" : Str)) = false := by decide) (he : starEach (e :: es) X.env = (false, eval e X.env) :: starEach es X.env := by rfl) (hpl : (backTo pos (starEach es X.env)).any (·.1) = false := by rfl) : Sd X q S (.Call (.Name x p) (e :: es) [] pos) (.call g ms) := sd_callD F hr hg ha (by simp) hdb he hpl
theorem sd_call0 {k g : Nat} {x : Str} {p pos : Pos} (F : FnAt X.prog X.w X.K X.mg X.base q S k g x []) (hr : Room k X.A) (hg : Gl X x)
    (hdb : (x == ("__debug__" : Str)) = false := by decide) : Sd X q S (.Call (.Name x p) [] [] pos) (.call g []) := fun E tk => by
  obtain ⟨f, fd, ps, ds, dvs, F1, hm, hk, hb, hv, hd, ar⟩ := F.ex
  have hd0 := (hd ⟨[], [], [], fun _ => none⟩).nil_inv
  subst hd0
  exact pe_imp (pe_call0 F1 hr hg hm hk hb hv (passes_tk tk) hdb) fun σ H Q ⟨z, ρ, hH, ok, rl, w⟩ => by
    subst hH
    exact call_pre ar ok HasL.nil w

/-! ### calls of what is built in -/
def rC (K : PySem.W.Frag) (q : Par) (p : Pr) : List V → Hp → VK → Prop := fun vs H Q => ∃ (z : Z) (ds : List D) (c : D), z.H = H ∧ Ok K q z ∧ HasL K q z ds vs ∧ prim z.G p ds = some c ∧ Post K q z Q c
theorem prim_imp {p : Pr} {ms : List E} {E : XK} {σ : L2.St} {H : Hp} {Q : VK} (h : rdE X.K q S E (.prim p ms) σ H Q) : tCB (rC X.K q p) (rdEs X.K q S E ms) σ H Q := by
  obtain ⟨z, ρ, hH, ok, rl, w⟩ := h
  refine ⟨z, ρ, hH, ok, rl, (wp.bind w).mono fun ds z1 ok1 e1 w1 vs hvs => ?_⟩
  obtain ⟨c, hc, hp⟩ := wp.of w1
  exact ⟨z1, ds, c, rfl, ok1, hvs, hc, hp⟩
theorem sd_callB {p : Pr} {id : String} {x : Str} {pp pos : Pos} {e : Expr} {es : List Expr} {ms : List E} (hc : CallR X (.builtin id) (rC X.K q p)) (hg : Gl X x) (hm : X.mg x = none) (hv : bootBuiltins x = some (.builtin id)) (ha : SdA X q S (e :: es) ms)
    (hn : x ≠ "__name__" := by decide) (hdb : (x == ("__debug__" : Str)) = false := by decide) (he : starEach (e :: es) X.env = (false, eval e X.env) :: starEach es X.env := by rfl) (hpl : (backTo pos (starEach es X.env)).any (·.1) = false := by rfl) : Sd X q S (.Call (.Name x pp) (e :: es) [] pos) (.prim p ms) := fun E tk =>
  pe_imp (pe_callB hc hg hm hv (ha E tk) hn hdb he hpl) fun σ H Q h => prim_imp h
theorem sd_callTy {p : Pr} {T : String} {x : Str} {pp pos : Pos} {e : Expr} {es : List Expr} {ms : List E} (hc : CallR X (.type T) (rC X.K q p)) (hg : Gl X x) (hm : X.mg x = none) (hv : bootBuiltins x = some (.type T)) (ha : SdA X q S (e :: es) ms)
    (hn : x ≠ "__name__" := by decide) (hdb : (x == ("__debug__" : Str)) = false := by decide) (he : starEach (e :: es) X.env = (false, eval e X.env) :: starEach es X.env := by rfl) (hpl : (backTo pos (starEach es X.env)).any (·.1) = false := by rfl) : Sd X q S (.Call (.Name x pp) (e :: es) [] pos) (.prim p ms) := fun E tk =>
  pe_imp (pe_callTy hc hg hm hv (ha E tk) hn hdb he hpl) fun σ H Q h => prim_imp h
theorem sd_callF {p : Pr} {id : String} {x : Str} {pp pos : Pos} {e : Expr} {es : List Expr} {ms : List E} (hc : CallR X (.builtin id) (rC X.K q p)) (hg : Gl X x) (hm : X.mg x = some (.builtin id)) (ha : SdA X q S (e :: es) ms)
    (hdb : (x == ("__debug__" : Str)) = false := by decide) (he : starEach (e :: es) X.env = (false, eval e X.env) :: starEach es X.env := by rfl) (hpl : (backTo pos (starEach es X.env)).any (·.1) = false := by rfl) : Sd X q S (.Call (.Name x pp) (e :: es) [] pos) (.prim p ms) := fun E tk =>
  pe_imp (pe_callBfun hc hg hm (ha E tk) hdb he hpl) fun σ H Q h => prim_imp h

theorem has_seq {K : PySem.W.Frag} {z : Z} {d : D} {l : List D} {v : V} (h : seqOf d = some l) (hv : Has K q z d v) : ∃ a vs, v = .ref a ∧ (SqL K z.H a vs ∨ SqT K z.H a vs) ∧ HasL K q z l vs := by
  cases d <;> simp only [seqOf, reduceCtorEq, Option.some.injEq] at h
  · subst h
    obtain ⟨a, vs, rfl, h1, h2⟩ := hv.ref_of_tup
    exact ⟨a, vs, rfl, .inr h1, h2⟩
  · subst h
    obtain ⟨a, vs, rfl, h1, _, h2⟩ := hv.of_lst
    exact ⟨a, vs, rfl, .inl (SqL.of h1), h2⟩
  · subst h
    simp only [Has] at hv
    obtain ⟨a, vs, rfl, h1, h2⟩ := hv
    refine ⟨a, vs, rfl, .inl ?_, h2⟩
    rcases h1 with ⟨r, _⟩ | h1
    · exact .inl r
    · exact .inr h1
theorem has_lst {K : PySem.W.Frag} {z : Z} {d : D} {l : List D} {v : V} (h : lstOf d = some l) (hv : Has K q z d v) : ∃ a vs, v = .ref a ∧ SqL K z.H a vs ∧ HasL K q z l vs := by
  cases d <;> simp only [lstOf, reduceCtorEq, Option.some.injEq] at h
  · subst h
    obtain ⟨a, vs, rfl, h1, _, h2⟩ := hv.of_lst
    exact ⟨a, vs, rfl, SqL.of h1, h2⟩
  · subst h
    simp only [Has] at hv
    obtain ⟨a, vs, rfl, h1, h2⟩ := hv
    refine ⟨a, vs, rfl, ?_, h2⟩
    rcases h1 with ⟨r, _⟩ | h1
    · exact .inl r
    · exact .inr h1
theorem has_ints {K : PySem.W.Frag} {z : Z} : ∀ {l : List D} {vs : List V} {ns : List Int}, intsD l = some ns → HasL K q z l vs → vs = ns.map V.int
  | [], vs, ns, h, hv => by
    simp only [intsD, Option.some.injEq] at h
    subst h
    exact hv.nil_inv
  | d :: l, vs, ns, h, hv => by
    obtain ⟨v, r, rfl, h1, h2⟩ := hv.cons_inv
    cases d <;> simp only [intsD, reduceCtorEq, Option.map_eq_some_iff] at h
    obtain ⟨ms, h, rfl⟩ := h
    rw [h1.of_int, has_ints h h2]
    rfl
theorem has_strs {K : PySem.W.Frag} {z : Z} : ∀ {l : List D} {vs : List V} {ns : List Str}, strsD l = some ns → HasL K q z l vs → vs = ns.map V.str
  | [], vs, ns, h, hv => by
    simp only [strsD, Option.some.injEq] at h
    subst h
    exact hv.nil_inv
  | d :: l, vs, ns, h, hv => by
    obtain ⟨v, r, rfl, h1, h2⟩ := hv.cons_inv
    cases d <;> simp only [strsD, reduceCtorEq, Option.map_eq_some_iff] at h
    obtain ⟨ms, h, rfl⟩ := h
    rw [h1.of_str, has_strs h h2]
    rfl
theorem strs_has {K : PySem.W.Frag} {z : Z} : ∀ ns : List Str, HasL K q z (ns.map .str) (ns.map V.str)
  | [] => HasL.nil
  | n :: ns => HasL.cons Has.str (strs_has ns)
theorem HasL.one {K : PySem.W.Frag} {z : Z} {d : D} {vs : List V} (h : HasL K q z [d] vs) : ∃ v, vs = [v] ∧ Has K q z d v := by
  obtain ⟨v, r, rfl, h1, h2⟩ := h.cons_inv
  rw [h2.nil_inv]
  exact ⟨v, rfl, h1⟩
theorem HasL.two {K : PySem.W.Frag} {z : Z} {d e : D} {vs : List V} (h : HasL K q z [d, e] vs) : ∃ v u, vs = [v, u] ∧ Has K q z d v ∧ Has K q z e u := by
  obtain ⟨v, r, rfl, h1, h2⟩ := h.cons_inv
  obtain ⟨u, rfl, h3⟩ := h2.one
  exact ⟨v, u, rfl, h1, h3⟩
/-- len of a dict -/
def rLenD (q : Par) : List V → Hp → VK → Prop := fun vs H Q => ∃ (a : Addr) (o : Obj) (xs : List (NestedKey × Addr × Value)), vs = [V.ref a] ∧ H a = some (DictO a o) ∧ DictRep q a o xs ∧ Q (.int xs.length) H
theorem raw_of {H : Hp} {h : Heap} {P : Program} {w : World} {a : Addr} {o : Obj} {xs : List (NestedKey × Addr × Value)} (hok : HOk P w H h) (e : H a = some (DictO a o)) (r : DictRep q a o xs) : ∃ es ep, h.DictRaw a es ep ∧ es.toList = xs.map (entryOfKey (nestedKind q.P q.W)) ∧ es.size = xs.length ∧ (a == sysModules) = false ∧ es.size ≤ sizeLine := by
  obtain ⟨es, ep, h1, h2, h3, h4, h5, h6⟩ := r
  have hg : h.get? a = some o := (hok a _ e).1
  have hs : es.size = xs.length := by rw [← Array.length_toList, h3, List.length_map]
  exact ⟨es, ep, ⟨o, hg, h1, h2⟩, h3, hs, h6, by rw [hs]; exact h5⟩
theorem call_len_dct : CallR X (.builtin "len") (rLenD q) := by
  intro pins s σ H xs us Q I r h
  obtain ⟨a, o, es0, rfl, ha, hr, hQ⟩ := h
  obtain ⟨es, ep, hraw, he, hs, lo, hz⟩ := raw_of I.hok ha hr
  rw [Vals.ref1 r]
  refine PyProof.Rows.call_len_slot (n := es.size) hraw.typeIs F.slot_dict_len (fun Q' hq => call_len_raw lo hraw hq) (by omega) (by rw [sizeLine_eq] at hz; omega) ?_
  rw [hs]
  exact ⟨.int es0.length, H, I.tok _, ⟨_, rfl⟩, hQ⟩
/-! the functions -/
theorem pr_len : CallR X (.builtin "len") (rC X.K q .len) := by
  intro pins s σ H xs us Q I r h
  obtain ⟨z, ds, c, rfl, ok, hv, hc, hp⟩ := h
  have hc : pLen z.G ds = some c := hc
  unfold pLen at hc
  split at hc <;> try (cases hc; done)
  · split at hc <;> cases hc
    rename_i s' hs
    obtain ⟨v, rfl, h1⟩ := hv.one
    rw [h1.of_str] at r
    exact call_len_str pins s σ _ _ us Q I r ⟨_, rfl, hs, hp.at ok Has.int⟩
  · obtain ⟨v, rfl, h1⟩ := hv.one
    simp only [Has] at h1
    obtain ⟨a, rfl, h1⟩ := h1
    split at hc <;> cases hc
    · rename_i n l hn
      obtain ⟨a', e1, ⟨vs, e2, e3⟩, _⟩ := ok.cells _ _ hn
      rw [h1] at e1
      cases e1
      exact call_len_seq pins s σ _ _ us Q I r ⟨a, vs, rfl, .inl (SqL.of e2), by rw [e3.len]; exact hp.at ok Has.int⟩
    · rename_i n ks vs hn
      obtain ⟨a', e1, ⟨o, xs, us', g1, g2, g3, g4, _⟩, _⟩ := ok.cells _ _ hn
      rw [h1] at e1
      cases e1
      refine call_len_dct (q := q) pins s σ _ _ us Q I r ⟨a, o, xs, rfl, g1, g2, ?_⟩
      have : xs.length = ks.length := by have := g4.len; simpa using this
      rw [this]
      exact hp.at ok Has.int
  · cases hc
    rename_i ks vs
    obtain ⟨v, rfl, h1⟩ := hv.one
    simp only [Has] at h1
    obtain ⟨a, o, xs, us', rfl, g1, g2, g3, g4, _⟩ := h1
    refine call_len_dct (q := q) pins s σ _ _ us Q I r ⟨a, o, xs, rfl, g1, g2, ?_⟩
    have : xs.length = ks.length := by have := g4.len; simpa using this
    rw [this]
    exact hp.at ok Has.int
  · rename_i d hd1 hd2 hd3
    simp only [Option.map_eq_some_iff] at hc
    obtain ⟨l, hl, rfl⟩ := hc
    obtain ⟨v, rfl, h1⟩ := hv.one
    obtain ⟨a, vs, rfl, h2, h3⟩ := has_seq hl h1
    exact call_len_seq pins s σ _ _ us Q I r ⟨a, vs, rfl, h2, by rw [h3.len]; exact hp.at ok Has.int⟩
theorem pr_abs : CallR X (.builtin "abs") (rC X.K q .abs) := by
  intro pins s σ H xs us Q I r h
  obtain ⟨z, ds, c, rfl, ok, hv, hc, hp⟩ := h
  have hc : pAbs ds = some c := hc
  unfold pAbs at hc
  split at hc <;> try (cases hc; done)
  cases hc
  obtain ⟨v, rfl, h1⟩ := hv.one
  rw [h1.of_int] at r
  exact call_abs pins s σ _ _ us Q I r ⟨_, rfl, hp.at ok Has.int⟩
theorem pr_list : CallR X (.type "list") (rC X.K q .list) := by
  intro pins s σ H xs us Q I r h
  obtain ⟨z, ds, c, rfl, ok, hv, hc, hp⟩ := h
  have hc : pList ds = some c := hc
  unfold pList at hc
  split at hc <;> try (cases hc; done)
  simp only [Option.map_eq_some_iff] at hc
  obtain ⟨l, hl, rfl⟩ := hc
  obtain ⟨v, rfl, h1⟩ := hv.one
  obtain ⟨a, vs, rfl, h2, h3⟩ := has_seq hl h1
  exact call_list_of pins s σ _ _ us Q I r ⟨a, vs, rfl, h2, fun p hn => hp.put ok hn (put_lst ok hn h3)⟩
theorem pr_tuple : CallR X (.type "tuple") (rC X.K q .tuple) := by
  intro pins s σ H xs us Q I r h
  obtain ⟨z, ds, c, rfl, ok, hv, hc, hp⟩ := h
  have hc : pTuple ds = some c := hc
  unfold pTuple at hc
  split at hc <;> try (cases hc; done)
  simp only [Option.map_eq_some_iff] at hc
  obtain ⟨l, hl, rfl⟩ := hc
  obtain ⟨v, rfl, h1⟩ := hv.one
  obtain ⟨a, vs, rfl, h2, h3⟩ := has_seq hl h1
  refine call_tuple_of pins s σ _ _ us Q I r ⟨a, vs, rfl, ?_⟩
  rcases h2 with h2 | h2
  · exact .inl ⟨h2, fun p hn => hp.put ok hn (put_tup ok hn h3)⟩
  · exact .inr ⟨h2, hp.at ok (Has.tup h2 h3)⟩
theorem pr_int : CallR X (.type "int") (rC X.K q .int) := by
  intro pins s σ H xs us Q I r h
  obtain ⟨z, ds, c, rfl, ok, hv, hc, hp⟩ := h
  have hc : pInt ds = some c := hc
  unfold pInt at hc
  split at hc <;> try (cases hc; done)
  · cases hc
    obtain ⟨v, rfl, h1⟩ := hv.one
    rw [h1.of_int] at r
    exact call_int1 pins s σ _ _ us Q I r (.inl ⟨_, rfl, hp.at ok Has.int⟩)
  · cases hc
    obtain ⟨v, rfl, h1⟩ := hv.one
    rw [h1.of_bl] at r
    exact call_int1 pins s σ _ _ us Q I r (.inr ⟨_, rfl, hp.at ok Has.int⟩)
  · split at hc <;> try (cases hc; done)
    split at hc <;> cases hc
    rename_i s' n hn hl
    obtain ⟨v, rfl, h1⟩ := hv.one
    rw [h1.of_str] at r
    exact call_int_str pins s σ _ _ us Q I r ⟨_, _, rfl, hn, hl, hp.at ok Has.int⟩
theorem pr_str : CallR X (.type "str") (rC X.K q .str) := by
  intro pins s σ H xs us Q I r h
  obtain ⟨z, ds, c, rfl, ok, hv, hc, hp⟩ := h
  have hc : pStr ds = some c := hc
  unfold pStr at hc
  split at hc <;> try (cases hc; done)
  split at hc <;> cases hc
  rename_i i hs
  obtain ⟨v, rfl, h1⟩ := hv.one
  rw [h1.of_int] at r
  exact call_str_int pins s σ _ _ us Q I r ⟨_, rfl, hs, hp.at ok Has.str⟩
theorem pr_gcd : CallR X (.builtin "math.gcd") (rC X.K q .gcd) := by
  intro pins s σ H xs us Q I r h
  obtain ⟨z, ds, c, rfl, ok, hv, hc, hp⟩ := h
  have hc : pGcd ds = some c := hc
  unfold pGcd at hc
  split at hc <;> try (cases hc; done)
  cases hc
  obtain ⟨v, u, rfl, h1, h2⟩ := hv.two
  rw [h1.of_int, h2.of_int] at r
  exact cr_gcd pins s σ _ _ us Q I r ⟨_, _, rfl, hp.at ok Has.int⟩
theorem fold_max : ∀ (r : List Int) (x m : Int), (m = x ∨ m ∈ r) → x ≤ m → (∀ y ∈ r, y ≤ m) → r.foldl (fun a b => if b > a then b else a) x = m
  | [], x, m, h, _, _ => by
    rcases h with h | h
    · exact h.symm
    · cases h
  | b :: r, x, m, h, hx, hr => by
    rw [List.foldl_cons]
    have hb := hr b (List.mem_cons_self ..)
    refine fold_max r _ m ?_ ?_ fun y hy => hr y (List.mem_cons_of_mem _ hy)
    · rcases h with h | h
      · subst h
        split
        · omega
        · exact .inl rfl
      · rcases List.mem_cons.mp h with h | h
        · subst h
          split
          · exact .inl rfl
          · left; omega
        · exact .inr h
    · split <;> omega
theorem fold_min : ∀ (r : List Int) (x m : Int), (m = x ∨ m ∈ r) → m ≤ x → (∀ y ∈ r, m ≤ y) → r.foldl (fun a b => if b < a then b else a) x = m
  | [], x, m, h, _, _ => by
    rcases h with h | h
    · exact h.symm
    · cases h
  | b :: r, x, m, h, hx, hr => by
    rw [List.foldl_cons]
    have hb := hr b (List.mem_cons_self ..)
    refine fold_min r _ m ?_ ?_ fun y hy => hr y (List.mem_cons_of_mem _ hy)
    · rcases h with h | h
      · subst h
        split
        · omega
        · exact .inl rfl
      · rcases List.mem_cons.mp h with h | h
        · subst h
          split
          · exact .inl rfl
          · left; omega
        · exact .inr h
    · split <;> omega
theorem pr_max1 (hcm : X.calm = true) : CallR X (.builtin "max") (rC X.K q .max1) := by
  intro pins s σ H xs us Q I r h
  obtain ⟨z, ds, c, rfl, ok, hv, hc, hp⟩ := h
  have hc : pMax1 ds = some c := hc
  unfold pMax1 at hc
  split at hc <;> try (cases hc; done)
  simp only [Option.map_eq_some_iff, Option.bind_eq_some_iff] at hc
  obtain ⟨ns, ⟨l, hl, hn⟩, m, hm, rfl⟩ := hc
  obtain ⟨v, rfl, h1⟩ := hv.one
  obtain ⟨a, vs, rfl, h2, h3⟩ := has_lst hl h1
  have e := has_ints hn h3
  subst e
  cases ns with
  | nil => simp [maxI] at hm
  | cons x rr =>
    simp only [maxI, Option.some.injEq] at hm
    refine cr_max hcm pins s σ _ _ us Q I r ⟨a, _, rfl, h2, by simp, fun m' h4 h5 => ?_⟩
    have := fold_max rr x m' (List.mem_cons.mp h4) (h5 x (List.mem_cons_self ..)) fun y hy => h5 y (List.mem_cons_of_mem _ hy)
    rw [← this, hm]
    exact hp.at ok Has.int
theorem pr_min1 (hcm : X.calm = true) : CallR X (.builtin "min") (rC X.K q .min1) := by
  intro pins s σ H xs us Q I r h
  obtain ⟨z, ds, c, rfl, ok, hv, hc, hp⟩ := h
  have hc : pMin1 ds = some c := hc
  unfold pMin1 at hc
  split at hc <;> try (cases hc; done)
  simp only [Option.map_eq_some_iff, Option.bind_eq_some_iff] at hc
  obtain ⟨ns, ⟨l, hl, hn⟩, m, hm, rfl⟩ := hc
  obtain ⟨v, rfl, h1⟩ := hv.one
  obtain ⟨a, vs, rfl, h2, h3⟩ := has_lst hl h1
  have e := has_ints hn h3
  subst e
  cases ns with
  | nil => simp [minI] at hm
  | cons x rr =>
    simp only [minI, Option.some.injEq] at hm
    refine cr_min hcm pins s σ _ _ us Q I r ⟨a, _, rfl, h2, by simp, fun m' h4 h5 => ?_⟩
    have := fold_min rr x m' (List.mem_cons.mp h4) (h5 x (List.mem_cons_self ..)) fun y hy => h5 y (List.mem_cons_of_mem _ hy)
    rw [← this, hm]
    exact hp.at ok Has.int
theorem pr_max2 (hcm : X.calm = true) : CallR X (.builtin "max") (rC X.K q .max2) := by
  intro pins s σ H xs us Q I r h
  obtain ⟨z, ds, c, rfl, ok, hv, hc, hp⟩ := h
  have hc : pMax2 ds = some c := hc
  unfold pMax2 at hc
  split at hc <;> try (cases hc; done)
  cases hc
  obtain ⟨v, u, rfl, h1, h2⟩ := hv.two
  rw [h1.of_int, h2.of_int] at r
  exact call_max2 hcm pins s σ _ _ us Q I r ⟨_, _, rfl, hp.at ok Has.int⟩
theorem pr_min2 (hcm : X.calm = true) : CallR X (.builtin "min") (rC X.K q .min2) := by
  intro pins s σ H xs us Q I r h
  obtain ⟨z, ds, c, rfl, ok, hv, hc, hp⟩ := h
  have hc : pMin2 ds = some c := hc
  unfold pMin2 at hc
  split at hc <;> try (cases hc; done)
  cases hc
  obtain ⟨v, u, rfl, h1, h2⟩ := hv.two
  rw [h1.of_int, h2.of_int] at r
  exact call_min2 hcm pins s σ _ _ us Q I r ⟨_, _, rfl, hp.at ok Has.int⟩
theorem pr_sum (hcm : X.calm = true) : CallR X (.builtin "sum") (rC X.K q .sum) := by
  intro pins s σ H xs us Q I r h
  obtain ⟨z, ds, c, rfl, ok, hv, hc, hp⟩ := h
  have hc : pSum ds = some c := hc
  unfold pSum at hc
  split at hc <;> try (cases hc; done)
  simp only [Option.map_eq_some_iff, Option.bind_eq_some_iff] at hc
  obtain ⟨ns, ⟨l, hl, hn⟩, rfl⟩ := hc
  obtain ⟨v, rfl, h1⟩ := hv.one
  obtain ⟨a, vs, rfl, h2, h3⟩ := has_lst hl h1
  have e := has_ints hn h3
  subst e
  exact cr_sum hcm pins s σ _ _ us Q I r ⟨a, _, rfl, h2, hp.at ok Has.int⟩
theorem hasL_ints {K : PySem.W.Frag} {q : Par} {z : Z} : ∀ ns : List Int, HasL K q z (ns.map .int) (ns.map V.int)
  | [] => HasL.nil
  | _ :: ns => HasL.cons Has.int (hasL_ints ns)
/-! sorted -/
open PySem.W in
theorem src_gathers {K : PySem.W.Frag} {z : Z} {d : D} {l : List D} {v : V} (ok : Ok K q z) (h : srcOf z.G d = some l) (hv : Has K q z d v) : ∃ a vs, v = .ref a ∧ HasL K q z l vs ∧
    ∀ (X : Cx) (pins : List (Addr × Obj)) (σ : L2.St) (s : Shared), X.K = K → X.calm = true → L2.Inv X pins σ z.H s → ∃ us, Vals vs us ∧ us.length ≤ sizeLine ∧ Gathers X.prog X.w X.A.in1 s a us := by
  have lstc : ∀ (a : Addr) (vs : List V), SqL K z.H a vs → ∀ (X : Cx) (pins : List (Addr × Obj)) (σ : L2.St) (s : Shared), X.K = K → X.calm = true → L2.Inv X pins σ z.H s → ∃ us, Vals vs us ∧ us.length ≤ sizeLine ∧ Gathers X.prog X.w X.A.in1 s a us := fun a vs hs X pins σ s hK hc I => by
    subst hK
    obtain ⟨its, rv, pl, hz⟩ := I.list hs
    exact ⟨its, rv, by rw [← rv.length]; exact hz, gathers_list pl.isList (by rw [← rv.length]; exact hz)⟩
  have dctc : ∀ (a : Addr) (o : Obj) (xs : List (NestedKey × Addr × Value)), z.H a = some (DictO a o) → DictRep q a o xs → ∀ (X : Cx) (pins : List (Addr × Obj)) (σ : L2.St) (s : Shared), X.K = K → X.calm = true → L2.Inv X pins σ z.H s → ∃ us, Vals (xs.map fun x => V.ref x.2.1) us ∧ us.length ≤ sizeLine ∧ Gathers X.prog X.w X.A.in1 s a us := fun a o xs ha hr X pins σ s hK hc I => by
    obtain ⟨es, ep, hraw, he, hs, lo, hz⟩ := raw_of I.hok ha hr
    refine ⟨es.toList.map (·.key), ?_, by rw [List.length_map, Array.length_toList]; exact hz, gathers_dict (A := X.A.in1) (show X.A.in1.handled = none from I.ok.hd hc) lo hraw hz⟩
    rw [he, List.map_map]
    have : ∀ ys : List (NestedKey × Addr × Value), Vals (ys.map fun x => V.ref x.2.1) (ys.map ((fun e : DictEntry => e.key) ∘ entryOfKey (nestedKind q.P q.W))) := fun ys => by
      induction ys with
      | nil => exact .nil
      | cons y ys ih => exact .cons rfl ih
    exact this xs
  cases d <;> simp only [srcOf, reduceCtorEq, Option.some.injEq] at h
  · subst h
    obtain ⟨a, vs, rfl, h1, h2⟩ := hv.ref_of_tup
    refine ⟨a, vs, rfl, h2, fun X pins σ s hK hc I => ?_⟩
    subst hK
    obtain ⟨its, rv, pl, hz⟩ := I.tuple h1
    exact ⟨its, rv, by rw [← rv.length]; exact hz, gathers_tup pl (by rw [← rv.length]; exact hz)⟩
  · subst h
    obtain ⟨a, vs, rfl, h1, _, h2⟩ := hv.of_lst
    exact ⟨a, vs, rfl, h2, lstc a vs (SqL.of h1)⟩
  · subst h
    simp only [Has] at hv
    obtain ⟨a, vs, rfl, h1, h2⟩ := hv
    refine ⟨a, vs, rfl, h2, lstc a vs ?_⟩
    rcases h1 with ⟨r, _⟩ | h1
    · exact .inl r
    · exact .inr h1
  · simp only [Has] at hv
    obtain ⟨a, rfl, h1⟩ := hv
    split at h <;> cases h
    · rename_i n l hn
      obtain ⟨a', e1, ⟨vs, e2, e3⟩, _⟩ := ok.cells _ _ hn
      rw [h1] at e1; cases e1
      exact ⟨a, vs, rfl, e3, lstc a vs (SqL.of e2)⟩
    · rename_i n ks vs hn
      obtain ⟨a', e1, ⟨o, xs, us', g1, g2, g3, g4, _⟩, _⟩ := ok.cells _ _ hn
      rw [h1] at e1; cases e1
      exact ⟨a, _, rfl, g4, dctc a o xs g1 g2⟩
  · subst h
    simp only [Has] at hv
    obtain ⟨a, o, xs, us', rfl, g1, g2, g3, g4, _⟩ := hv
    exact ⟨a, _, rfl, g4, dctc a o xs g1 g2⟩
theorem toPys_len : ∀ {l : List D} {ps : List PyData}, toPys l = some ps → ps.length = l.length
  | [], ps, h => by simp only [toPys, Option.some.injEq] at h; subst h; rfl
  | d :: l, ps, h => by
    simp only [toPys] at h
    split at h
    · rename_i p ps' h1 h2
      cases h
      rw [List.length_cons, List.length_cons, toPys_len h2]
    · cases h
open PyProof.Rows PySem.W in
theorem each_zip {K : PySem.W.Frag} {z : Z} : ∀ {l : List D} {ps : List PyData} {vs : List V} {us : List Value}, toPys l = some ps → HasL K q z l vs → Vals vs us → EachIs (fun u (b : D × PyData) => (∃ x, RelV x u ∧ Has K q z b.1 x) ∧ toPy b.1 = some b.2) us (l.zip ps)
  | [], ps, vs, us, h, hv, r => by
    simp only [toPys, Option.some.injEq] at h
    subst h
    have e := hv.nil_inv
    subst e
    cases r
    exact .nil
  | d :: l, ps, vs, us, h, hv, r => by
    simp only [toPys] at h
    split at h
    · rename_i p ps' h1 h2
      cases h
      obtain ⟨v, vr, rfl, g1, g2⟩ := hv.cons_inv
      cases r with
      | cons r1 r2 => exact .cons ⟨⟨v, r1, g1⟩, h1⟩ (each_zip h2 g2 r2)
    · cases h
open PyProof.Rows PySem.W in
theorem each_out {K : PySem.W.Frag} {z : Z} : ∀ {out : List Value} {bs : List (D × PyData)}, EachIs (fun u (b : D × PyData) => ∃ x, RelV x u ∧ Has K q z b.1 x) out bs → ∃ ys, Vals ys out ∧ HasL K q z (bs.map (·.1)) ys
  | _, _, .nil => ⟨[], .nil, HasL.nil⟩
  | _, _, .cons ⟨x, h1, h2⟩ t => by
    obtain ⟨ys, g1, g2⟩ := each_out t
    exact ⟨x :: ys, .cons h1 g1, HasL.cons h2 g2⟩
abbrev tokF (b : D × PyData) : D × List (Int ⊕ List Nat) := (b.1, PySem.W.keyToks b.2)
theorem ins_eq (x : D × PyData) : ∀ l : List (D × PyData), (PySem.W.insB (PySem.W.dataLe false (·.2)) x l).map tokF = insD (tokF x) (l.map tokF)
  | [] => rfl
  | y :: r => by
    have e : PySem.W.dataLe false (fun b : D × PyData => b.2) x y = !(PyProof.Rows.lexLt PyProof.Rows.itemOrd (PySem.W.keyToks y.2) (PySem.W.keyToks x.2)) := rfl
    show (if PySem.W.dataLe false (fun b : D × PyData => b.2) x y = true then x :: y :: r else y :: PySem.W.insB (PySem.W.dataLe false (·.2)) x r).map tokF = if PyProof.Rows.lexLt PyProof.Rows.itemOrd (PySem.W.keyToks y.2) (PySem.W.keyToks x.2) = true then tokF y :: insD (tokF x) (r.map tokF) else tokF x :: tokF y :: r.map tokF
    rw [e]
    cases PyProof.Rows.lexLt PyProof.Rows.itemOrd (PySem.W.keyToks y.2) (PySem.W.keyToks x.2) with
    | true =>
      rw [if_neg (by simp), if_pos rfl, List.map_cons, ins_eq x r]
    | false => rw [if_pos (by simp), if_neg (by simp)]; rfl
theorem isort_D : ∀ l : List (D × PyData), (PySem.W.isortB (PySem.W.dataLe false (·.2)) l).map tokF = sortD (l.map tokF)
  | [] => rfl
  | x :: r => by
    show (PySem.W.insB _ x (PySem.W.isortB _ r)).map tokF = insD (tokF x) (sortD (r.map tokF))
    rw [ins_eq, isort_D r]
theorem zip_tok : ∀ (l : List D) (ps : List PyData), (l.zip ps).map tokF = l.zip (ps.map PySem.W.keyToks)
  | [], _ => rfl
  | _ :: _, [] => rfl
  | d :: l, p :: ps => by
    rw [List.zip_cons_cons, List.map_cons, zip_tok l ps]
    rfl
open PySem.W PyProof.Rows in
theorem pr_sorted (hcm : X.calm = true) (hu : X.A.units + 64 < cLine) : CallR X (.builtin "sorted") (rC X.K q .sorted) := by
  intro pins s σ H xs us Q I r h
  obtain ⟨z, ds, c, rfl, ok, hv, hc, hp⟩ := h
  have hc : pSorted z.G ds = some c := hc
  unfold pSorted at hc
  split at hc <;> try (cases hc; done)
  simp only [Option.map_eq_some_iff, Option.bind_eq_some_iff] at hc
  obtain ⟨l2, ⟨l, hl, hn⟩, rfl⟩ := hc
  obtain ⟨v, rfl, h1⟩ := hv.one
  obtain ⟨a, vs, rfl, h2, hg⟩ := src_gathers ok hl h1
  obtain ⟨us', rv, hz, G⟩ := hg X pins σ s rfl hcm I
  rw [Vals.ref1 r]
  unfold sortL at hn
  split at hn
  · rename_i ps hps
    split at hn <;> cases hn
    rename_i hf
    obtain ⟨hf, hlz⟩ := hf
    have hlen := toPys_len hps
    unfold fitS at hf
    simp only [Bool.and_eq_true, List.all_eq_true, decide_eq_true_eq] at hf
    have em : ∀ b ∈ l.zip ps, b.2 ∈ ps := fun b hb => (List.of_mem_zip hb).2
    have each := each_zip (us := us') hps h2 rv
    have er : EachIs (fun v (b : D × PyData) => ∃ as, Reads s.heap v b.2 as) us' (l.zip ps) := each.mono fun u b ⟨⟨x, e1, e2⟩, e3⟩ => Dp.reads I _ x u (has_dp b.1 b.2 x e3 e2) e1
    refine sorted_gathers (bs := l.zip ps) (enc := (·.2)) G er (fun d hd d' hd' => ?_) (fun b hb e => ?_) hz (fun b hb => ?_) fun hp1 h' tk ep out k1 k2 hat ho holen => ?_
    · obtain ⟨b, hb, rfl⟩ := List.mem_map.mp hd
      obtain ⟨b', hb', rfl⟩ := List.mem_map.mp hd'
      exact hf.1 _ (em b hb) _ (em b' hb')
    · have := (hf.2 _ (em b hb)).2
      rw [e] at this
      cases this
    · have := (hf.2 _ (em b hb)).1
      omega
    · have eo := ho (fun u (b : D × PyData) => ∃ x, RelV x u ∧ Has X.K q z b.1 x) (each.mono fun u b h => h.1)
      obtain ⟨ys, rys, hys⟩ := each_out eo
      have ed : (isortB (dataLe false fun b : D × PyData => b.2) (l.zip ps)).map (·.1) = (sortD (l.zip (ps.map keyToks))).map (·.1) := by
        rw [← zip_tok, ← isort_D, List.map_map]
        rfl
      rw [ed] at hys
      have I1 : L2.Inv X pins σ z.H { s with heap := hp1, toks := tk } := I.kept k1
      refine ⟨.ref hp1.objs.size, upd z.H hp1.objs.size (.lst ys), I1.laid (t' := tk) k2 (Nat.le_refl _) (show ObjOk X.prog X.w _ _ _ (.lst ys) from ⟨?_, out, ep, rys, hat⟩), rfl, ?_⟩
      · rw [rys.length, holen]; exact hz
      · exact hp.put ok (I1.hok.fresh (Nat.le_refl _)) (put_lst ok (I1.hok.fresh (Nat.le_refl _)) hys)
  · cases hn
end
end PV
end
/-! ## PV5 -/
section
set_option Elab.async false
set_option linter.all false
set_option maxRecDepth 100000
set_option maxHeartbeats 4000000
/-! The rules: walks, targets, comprehensions, loops. -/
namespace PV
open PySem L2 LamX RZ
section
variable {X : Cx} {q : Par} {S : PV.Sem}

/-! ### walks -/
structure Wk (K : PySem.W.Frag) (q : Par) (J : L2.It) (ds : List D) (I : Z → Prop) : Prop where
  stop : ∀ z, Ok K q z → I z → J.stop ds.length z.H
  go : ∀ z i, Ok K q z → I z → i < ds.length → J.go i z.H
  yld : ∀ z i x H', Ok K q z → I z → i < ds.length → J.yld i z.H x H' → ∃ z' : Z, z'.H = H' ∧ z'.G = z.G ∧ Ok K q z' ∧ Ext z z' ∧ ∃ d, ds[i]? = some d ∧ Has K q z' d x
  st : ∀ z z', Mv K q z z' → I z → I z'
def rdI (K : PySem.W.Frag) (q : Par) (S : PV.Sem) (E : XK) (it : PV.It) : TI := fun σ H R => ∃ z ρ, z.H = H ∧ Ok K q z ∧ RelS K q z ρ σ ∧ wp K q z (evI S ρ it z.G) (fun ds z' => ∀ J I, Wk K q J ds I → I z' → R J z'.H) E
def SdI (X : Cx) (q : Par) (S : PV.Sem) (tg e : Expr) (it : PV.It) : Prop := ∀ E : XK, Tk X E → PI X tg e (rdI X.K q S E it)
theorem pi_imp {tg e : Expr} {t t' : TI} (h : PI X tg e t) (f : ∀ σ H R, t' σ H R → t σ H R) : PI X tg e t' := ⟨fun pins s σ H R I w => h.run pins s σ H R I (f σ H R w)⟩
theorem pi_or {tg e : Expr} {t t' : TI} (h : PI X tg e t) (h' : PI X tg e t') : PI X tg e (fun σ H R => t σ H R ∨ t' σ H R) := ⟨fun pins s σ H R I w => by
  rcases w with w | w
  · exact h.run pins s σ H R I w
  · exact h'.run pins s σ H R I w⟩
theorem wk_lst {K : PySem.W.Frag} {a : Addr} {ds : List D} {vs : List V} : Wk K q (Itl K a) ds (fun z => Rd z.H a (.lst vs) ∧ Free z a ∧ HasL K q z ds vs) where
  stop := fun z ok ⟨h1, _, h2⟩ => ⟨vs, .inl h1, by rw [h2.len]; exact Nat.le_refl _⟩
  go := fun z i ok ⟨h1, _, h2⟩ hi => ⟨vs, vs[i]'(by rw [h2.len]; exact hi), .inl h1, by simp⟩
  yld := fun z i x H' ok ⟨h1, _, h2⟩ hi ⟨e, h3⟩ => by
    subst e
    obtain ⟨d, h4, h5⟩ := h2.get' (h3 vs (.inl h1))
    exact ⟨z, rfl, rfl, ok, Ext.refl z, d, h4, h5⟩
  st := fun z z' m ⟨h1, f, h2⟩ => ⟨(m.r a vs h1 f).1, (m.r a vs h1 f).2, HasL.mv m ds vs h2⟩
theorem wk_kl {K : PySem.W.Frag} {a : Addr} {ds : List D} {vs : List V} (hk : KL K a vs) : Wk K q (Itl K a) ds (fun z => HasL K q z ds vs) where
  stop := fun z ok h2 => ⟨vs, .inr hk, by rw [h2.len]; exact Nat.le_refl _⟩
  go := fun z i ok h2 hi => ⟨vs, vs[i]'(by rw [h2.len]; exact hi), .inr hk, by simp⟩
  yld := fun z i x H' ok h2 hi ⟨e, h3⟩ => by
    subst e
    obtain ⟨d, h4, h5⟩ := h2.get' (h3 vs (.inr hk))
    exact ⟨z, rfl, rfl, ok, Ext.refl z, d, h4, h5⟩
  st := fun z z' m h2 => HasL.mv m ds vs h2
theorem wk_tup {K : PySem.W.Frag} {a : Addr} {ds : List D} {vs : List V} : Wk K q (Itt K a) ds (fun z => SqT K z.H a vs ∧ HasL K q z ds vs) where
  stop := fun z ok ⟨h1, h2⟩ => ⟨vs, h1, by rw [h2.len]; exact Nat.le_refl _⟩
  go := fun z i ok ⟨h1, h2⟩ hi => ⟨vs, vs[i]'(by rw [h2.len]; exact hi), h1, by simp⟩
  yld := fun z i x H' ok ⟨h1, h2⟩ hi ⟨e, h3⟩ => by
    subst e
    obtain ⟨d, h4, h5⟩ := h2.get' (h3 vs h1)
    exact ⟨z, rfl, rfl, ok, Ext.refl z, d, h4, h5⟩
  st := fun z z' m ⟨h1, h2⟩ => ⟨m.t a vs h1, HasL.mv m ds vs h2⟩
theorem rangeD_len (lo hi : Int) : (rangeD lo hi).length = (hi - lo).toNat := by simp [rangeD]
theorem wk_rng {K : PySem.W.Frag} {lo hi : Int} : Wk K q (Itr lo (hi - lo).toNat) (rangeD lo hi) (fun _ => True) where
  stop := fun z ok _ => by rw [rangeD_len]; exact Nat.le_refl _
  go := fun z i ok _ h => by rw [rangeD_len] at h; exact h
  yld := fun z i x H' ok _ h ⟨e, e2⟩ => by
    subst e; subst e2
    rw [rangeD_len] at h
    refine ⟨z, rfl, rfl, ok, Ext.refl z, .int (lo + i), ?_, Has.int⟩
    simp [rangeD, h]
  st := fun _ _ _ _ => trivial
theorem wk_zip {K : PySem.W.Frag} {a b : Addr} {ds es : List D} {vs ws : List V} (hl : ds.length = es.length) : Wk K q (Itz K a b) ((ds.zip es).map fun p => .tup [p.1, p.2]) (fun z => z.H a = some (.lst vs) ∧ z.H b = some (.lst ws) ∧ Free z a ∧ Free z b ∧ HasL K q z ds vs ∧ HasL K q z es ws) where
  stop := fun z ok ⟨h1, h2, _, _, h3, h4⟩ => ⟨vs, ws, SqL.of h1, SqL.of h2, .inl (by rw [h3.len]; simp [hl])⟩
  go := fun z i ok ⟨h1, h2, _, _, h3, h4⟩ hi => by
    have hi : i < ds.length := by simp [hl] at hi; omega
    exact ⟨vs, ws, vs[i]'(by rw [h3.len]; exact hi), ws[i]'(by rw [h4.len, ← hl]; exact hi), SqL.of h1, SqL.of h2, by simp, by simp⟩
  yld := fun z i x H' ok ⟨h1, h2, _, _, h3, h4⟩ hi ⟨T, x1, y1, e1, hn, e2, h5, h6⟩ => by
    subst e1; subst e2
    obtain ⟨d, g1, g2⟩ := h3.get' (h5 vs (SqL.of h1))
    obtain ⟨e, g3, g4⟩ := h4.get' (h6 ws (SqL.of h2))
    refine ⟨z.put T (.tup [x1, y1]), rfl, rfl, ok.put hn, Ext.put hn, .tup [d, e], ?_, put_tup ok hn (HasL.cons g2 (HasL.cons g4 HasL.nil))⟩
    have : (ds.zip es)[i]? = some (d, e) := List.getElem?_zip_eq_some.mpr ⟨g1, g3⟩
    rw [List.getElem?_map, this]
    rfl
  st := fun z z' m ⟨h1, h2, f1, f2, h3, h4⟩ => ⟨(m.l a vs h1 f1).1, (m.l b ws h2 f2).1, (m.l a vs h1 f1).2, (m.l b ws h2 f2).2, HasL.mv m ds vs h3, HasL.mv m es ws h4⟩
theorem wk_zipT {K : PySem.W.Frag} {a b : Addr} {ds es : List D} {vs ws : List V} (hl : ds.length = es.length) : Wk K q (ItzT K a b) ((ds.zip es).map fun p => .tup [p.1, p.2]) (fun z => SqT K z.H a vs ∧ SqT K z.H b ws ∧ HasL K q z ds vs ∧ HasL K q z es ws) where
  stop := fun z ok ⟨h1, h2, h3, h4⟩ => ⟨vs, ws, h1, h2, .inl (by rw [h3.len]; simp [hl])⟩
  go := fun z i ok ⟨h1, h2, h3, h4⟩ hi => by
    have hi : i < ds.length := by simp [hl] at hi; omega
    exact ⟨vs, ws, vs[i]'(by rw [h3.len]; exact hi), ws[i]'(by rw [h4.len, ← hl]; exact hi), h1, h2, by simp, by simp⟩
  yld := fun z i x H' ok ⟨h1, h2, h3, h4⟩ hi ⟨T, x1, y1, e1, hn, e2, h5, h6⟩ => by
    subst e1; subst e2
    obtain ⟨d, g1, g2⟩ := h3.get' (h5 vs h1)
    obtain ⟨e, g3, g4⟩ := h4.get' (h6 ws h2)
    refine ⟨z.put T (.tup [x1, y1]), rfl, rfl, ok.put hn, Ext.put hn, .tup [d, e], ?_, put_tup ok hn (HasL.cons g2 (HasL.cons g4 HasL.nil))⟩
    have : (ds.zip es)[i]? = some (d, e) := List.getElem?_zip_eq_some.mpr ⟨g1, g3⟩
    rw [List.getElem?_map, this]
    rfl
  st := fun z z' m ⟨h1, h2, h3, h4⟩ => ⟨m.t a vs h1, m.t b ws h2, HasL.mv m ds vs h3, HasL.mv m es ws h4⟩

theorem wk_str {K : PySem.W.Frag} {x : Str} : Wk K q (Its x) (x.cps.toList.map fun c => D.str ⟨#[c]⟩) (fun _ => True) where
  stop := fun z ok _ => by show x.cps.size ≤ _; simp
  go := fun z i ok _ h => by show i < x.cps.size; simpa using h
  yld := fun z i y H' ok _ h ⟨e, c, hc, e2⟩ => by
    subst e; subst e2
    refine ⟨z, rfl, rfl, ok, Ext.refl z, .str ⟨#[c]⟩, ?_, Has.str⟩
    rw [List.getElem?_map, Array.getElem?_toList, hc]
    rfl
  st := fun _ _ _ _ => trivial
/-- a walk over a list or a tuple -/
theorem sdi_seq {tg a : Expr} {ma : E} (h : Sd X q S a ma) : SdI X q S tg a (.seq ma) := fun E tk =>
  pi_imp (pi_or (pi_str (h E tk)) (pi_or (pi_list (h E tk)) (pi_tup (h E tk)))) fun σ H R ⟨z, ρ, hH, ok, rl, w⟩ => by
    have w1 := wp.bind w
    cases hr : evE S ρ ma z.G with
    | bad => rw [hr] at w1; exact w1.elim
    | exc c G' =>
      refine .inl ⟨z, ρ, hH, ok, rl, ?_⟩
      rw [hr] at w1 ⊢
      exact w1
    | ok d G' =>
      have no : walkOf d = none → ∀ P : Prop, ∀ z1 : Z, z1.G = G' → Ok X.K q z1 → Ext z z1 → P := fun hn P z1 hG ok1 e1 => by
        rw [hr] at w1
        obtain ⟨c, hc, _⟩ := wp.of (w1 z1 hG ok1 e1)
        rw [hn] at hc; cases hc
      have li : ∀ l, walkOf d = some l → ∀ z1 : Z, z1.G = G' → Ok X.K q z1 → Ext z z1 → ∀ J I, Wk X.K q J l I → I z1 → R J z1.H := fun l hl z1 hG ok1 e1 => by
        rw [hr] at w1
        obtain ⟨c, hc, hp⟩ := wp.of (w1 z1 hG ok1 e1)
        rw [hl] at hc; cases hc
        exact hp z1 rfl ok1 (Ext.refl _)
      by_cases ht : ∃ l, d = .tup l
      · obtain ⟨l, rfl⟩ := ht
        refine .inr (.inr ⟨z, ρ, hH, ok, rl, ?_⟩)
        rw [hr]
        intro z1 hG ok1 e1 v hv
        obtain ⟨a, vs, rfl, h1, h2⟩ := hv.ref_of_tup
        exact ⟨a, rfl, ⟨vs, h1⟩, li l rfl z1 hG ok1 e1 _ _ wk_tup ⟨h1, h2⟩⟩
      · by_cases hs : ∃ x, d = .str x
        · obtain ⟨x, rfl⟩ := hs
          refine .inl ⟨z, ρ, hH, ok, rl, ?_⟩
          rw [hr]
          intro z1 hG ok1 e1 v hv
          exact ⟨x, hv.of_str, li _ rfl z1 hG ok1 e1 _ _ wk_str trivial⟩
        refine .inr (.inl ⟨z, ρ, hH, ok, rl, ?_⟩)
        rw [hr]
        intro z1 hG ok1 e1 v hv
        cases d with
        | str x => exact absurd ⟨x, rfl⟩ hs
        | tup l => exact absurd ⟨l, rfl⟩ ht
        | lst l =>
          obtain ⟨a, vs, rfl, h1, f, h2⟩ := hv.of_lst
          exact ⟨a, rfl, ⟨vs, SqL.of h1⟩, li l rfl z1 hG ok1 e1 _ _ wk_lst ⟨.inl h1, f, h2⟩⟩
        | frz l =>
          simp only [Has] at hv
          obtain ⟨a, vs, rfl, h1, h2⟩ := hv
          rcases h1 with ⟨h1, f⟩ | h1
          · exact ⟨a, rfl, ⟨vs, .inl h1⟩, li l rfl z1 hG ok1 e1 _ _ wk_lst ⟨h1, f, h2⟩⟩
          · exact ⟨a, rfl, ⟨vs, .inr h1⟩, li l rfl z1 hG ok1 e1 _ _ (wk_kl h1) h2⟩
        | _ => exact no rfl _ z1 hG ok1 e1
theorem sdi_rng1 {tg a : Expr} {ma : E} {p pos : Pos} (hg : Gl X "range") (hm : X.mg "range" = none) (h : Sd X q S a ma) (hs : starEach [a] X.env = [(false, eval a X.env)] := by rfl) : SdI X q S tg (.Call (.Name "range" p) [a] [] pos) (.rng1 ma) := fun E tk =>
  pi_imp (pi_range1 hg hm (sda_cons h sda_nil (by rw [hs]; rfl) E tk) hs) fun σ H R ⟨z, ρ, hH, ok, rl, w⟩ => by
    refine ⟨z, ρ, hH, ok, rl, ?_⟩
    have e0 : evEs S ρ [ma] z.G = (evE S ρ ma z.G).bind fun d G1 => .ok [d] G1 := rfl
    have w1 := wp.bind w
    rw [e0]
    cases hr : evE S ρ ma z.G with
    | bad => rw [hr] at w1; exact w1.elim
    | exc c G' => rw [hr] at w1; exact w1
    | ok d G' =>
      rw [hr] at w1
      intro z1 hG ok1 e1 vs hvs
      have w2 := w1 z1 hG ok1 e1
      obtain ⟨v, rfl, hv⟩ := hvs.one
      cases d with
      | int j =>
        have w2 : wp X.K q z1 (if -(2 ^ 62) ≤ j ∧ j < 2 ^ 62 then PV.R.ok (rangeD 0 j) z1.G else PV.R.bad) _ E := w2
        split at w2
        · rename_i hb
          refine ⟨j, by rw [hv.of_int], hb.1, hb.2, ?_⟩
          have wk := wk_rng (K := X.K) (q := q) (lo := 0) (hi := j)
          rw [Int.sub_zero] at wk
          exact w2 z1 rfl ok1 (Ext.refl _) _ _ wk trivial
        · exact w2.elim
      | _ => exact w2.elim
theorem sdi_rng2 {tg a b : Expr} {ma mb : E} {p pos : Pos} (hg : Gl X "range") (hm : X.mg "range" = none) (h : Sd X q S a ma) (g : Sd X q S b mb) (hs : starEach [a, b] X.env = [(false, eval a X.env), (false, eval b X.env)] := by rfl) (hs2 : starEach [b] X.env = [(false, eval b X.env)] := by rfl) : SdI X q S tg (.Call (.Name "range" p) [a, b] [] pos) (.rng2 ma mb) := fun E tk =>
  pi_imp (pi_range2 hg hm (sda_cons h (sda_cons g sda_nil (by rw [hs2]; rfl)) (by rw [hs, hs2]) E tk) hs hs2) fun σ H R ⟨z, ρ, hH, ok, rl, w⟩ => by
    refine ⟨z, ρ, hH, ok, rl, ?_⟩
    have e0 : evEs S ρ [ma, mb] z.G = (evE S ρ ma z.G).bind fun d G1 => ((evE S ρ mb G1).bind fun e G2 => .ok [e] G2).bind fun ds G3 => .ok (d :: ds) G3 := rfl
    rw [e0]
    have w1 : wp X.K q z ((evE S ρ ma z.G).bind fun x G1 => (evE S ρ mb G1).bind fun y G2 => match x, y with
      | .int i, .int j => if (-(2 ^ 62) ≤ i ∧ i < 2 ^ 62) ∧ (-(2 ^ 62) ≤ j ∧ j < 2 ^ 62) then PV.R.ok (rangeD i j) G2 else .bad
      | _, _ => .bad) (fun ds z' => ∀ J I, Wk X.K q J ds I → I z' → R J z'.H) E := w
    cases hr : evE S ρ ma z.G with
    | bad => rw [hr] at w1; exact w1.elim
    | exc c G' => rw [hr] at w1; exact w1
    | ok d G' =>
      rw [hr] at w1
      show wp X.K q z (((evE S ρ mb G').bind fun e G2 => .ok [e] G2).bind fun ds G3 => .ok (d :: ds) G3) _ E
      have w1 : wp X.K q z ((evE S ρ mb G').bind fun y G2 => match d, y with
        | .int i, .int j => if (-(2 ^ 62) ≤ i ∧ i < 2 ^ 62) ∧ (-(2 ^ 62) ≤ j ∧ j < 2 ^ 62) then PV.R.ok (rangeD i j) G2 else .bad
        | _, _ => .bad) (fun ds z' => ∀ J I, Wk X.K q J ds I → I z' → R J z'.H) E := w1
      cases hr2 : evE S ρ mb G' with
      | bad => rw [hr2] at w1; exact w1.elim
      | exc c G' => rw [hr2] at w1; exact w1
      | ok e G2 =>
        rw [hr2] at w1
        intro z1 hG ok1 e1 vs hvs
        obtain ⟨v, u, rfl, hv, hu⟩ := hvs.two
        cases d with
        | int i =>
          cases e with
          | int j =>
            have w1 : wp X.K q z (if (-(2 ^ 62) ≤ i ∧ i < 2 ^ 62) ∧ (-(2 ^ 62) ≤ j ∧ j < 2 ^ 62) then PV.R.ok (rangeD i j) G2 else PV.R.bad) _ E := w1
            split at w1
            · rename_i hb
              exact ⟨i, j, by rw [hv.of_int, hu.of_int], ⟨hb.1.1, hb.1.2, hb.2.1, hb.2.2⟩, w1 z1 hG ok1 e1 _ _ wk_rng trivial⟩
            · exact w1.elim
          | _ => exact w1.elim
        | _ => exact w1.elim

/-! ### targets -/
mutual
def slotsT : Tg → List Nat
  | .nm i => [i]
  | .tp l => slotsL l
def slotsL : List Tg → List Nat
  | [] => []
  | t :: ts => slotsT t ++ slotsL ts
end
theorem assignL_len {ρ ρ' : Env} : ∀ {l : List Tg} {ds : List D}, assignL ρ l ds = some ρ' → l.length = ds.length := by
  intro l
  induction l generalizing ρ with
  | nil =>
    intro ds h
    cases ds with
    | nil => rfl
    | cons d ds => simp [assignL] at h
  | cons t ts ih =>
    intro ds h
    cases ds with
    | nil => simp [assignL] at h
    | cons d ds =>
      simp only [assignL] at h
      split at h
      · rw [List.length_cons, List.length_cons, ih h]
      · cases h
theorem wipe_get {σ : L2.St} {j : Nat} : ∀ {vs : List Nat}, j ∈ vs → (L2.wipe σ vs)[j]? = if j < σ.length then some none else none
  | [], h => by cases h
  | v :: vs, h => by
    show ((L2.wipe σ vs).set v none)[j]? = _
    by_cases e : v = j
    · subst e
      by_cases hl : v < σ.length
      · rw [List.getElem?_set_self (by rw [L2.wipe_length]; exact hl), if_pos hl]
      · rw [List.getElem?_eq_none (by rw [List.length_set, L2.wipe_length]; omega), if_neg hl]
    · rw [List.getElem?_set_ne e]
      exact wipe_get ((List.mem_cons.mp h).resolve_left fun x => e x.symm)
theorem wipe_set {σ : L2.St} {i : Nat} {x : Option V} {vs : List Nat} (h : i ∈ vs) : L2.wipe (σ.set i x) vs = L2.wipe σ vs := by
  refine List.ext_getElem? fun j => ?_
  by_cases hj : j ∈ vs
  · rw [wipe_get hj, wipe_get hj, List.length_set]
  · rw [L2.wipe_out hj, L2.wipe_out hj, List.getElem?_set_ne (fun e => hj (by rw [← e]; exact h))]
def rdG (K : PySem.W.Frag) (q : Par) (tg : Tg) : TG := fun v σ H Q => ∃ z d ρ ρ', z.H = H ∧ Ok K q z ∧ RelS K q z ρ σ ∧ Has K q z d v ∧ PV.assign ρ tg d = some ρ' ∧ ∀ σ', RelS K q z ρ' σ' → (∀ vs, (∀ i ∈ slotsT tg, i ∈ vs) → L2.wipe σ' vs = L2.wipe σ vs) → Q σ' H
def rdGs (K : PySem.W.Frag) (q : Par) (l : List Tg) : TGs := fun vs σ H Q => ∃ z ds ρ ρ', z.H = H ∧ Ok K q z ∧ RelS K q z ρ σ ∧ HasL K q z ds vs ∧ assignL ρ l ds = some ρ' ∧ ∀ σ', RelS K q z ρ' σ' → (∀ vs, (∀ i ∈ slotsL l, i ∈ vs) → L2.wipe σ' vs = L2.wipe σ vs) → Q σ' H
abbrev SdG (X : Cx) (q : Par) (e : Expr) (tg : Tg) : Prop := PG X e (rdG X.K q tg)
abbrev SdGs (X : Cx) (q : Par) (es : List Expr) (l : List Tg) : Prop := PGs X es (rdGs X.K q l)
theorem pg_imp {e : Expr} {t t' : TG} (h : PG X e t) (f : ∀ v σ H Q, t' v σ H Q → t v σ H Q) : PG X e t' := ⟨fun pins s σ H v u Q I r w => h.run pins s σ H v u Q I r (f v σ H Q w)⟩
theorem pgs_imp {e : List Expr} {t t' : TGs} (h : PGs X e t) (f : ∀ v σ H Q, t' v σ H Q → t v σ H Q) : PGs X e t' := ⟨fun pins s σ H v u Q I r w => h.run pins s σ H v u Q I r (f v σ H Q w)⟩
theorem pg_or {e : Expr} {t t' : TG} (h : PG X e t) (h' : PG X e t') : PG X e (fun v σ H Q => t v σ H Q ∨ t' v σ H Q) := ⟨fun pins s σ H v u Q I r w => by
  rcases w with w | w
  · exact h.run pins s σ H v u Q I r w
  · exact h'.run pins s σ H v u Q I r w⟩
theorem sdg_name (i : Nat) {x : Str} {pos : Pos} (hN : X.N.Nodup) (hi : X.N[i]? = some x := by rfl) (hx : Loc X.env.scope x := by first | exact Or.inl rfl | exact Or.inr rfl) (hf : X.fn x = true ∨ X.env.scope.names.lookup x = some .local := by first | exact .inl rfl | exact .inr rfl) : SdG X q (.Name x pos) (.nm i) :=
  pg_imp (pg_name hN hi hx hf) fun v σ H Q ⟨z, d, ρ, ρ', hH, ok, rl, hv, ha, k⟩ => by
    simp only [PV.assign, Option.some.injEq] at ha
    subst ha
    exact k _ (rl.set hv i) fun vs hs => wipe_set (hs i (by simp [slotsT]))
theorem sdgs_nil : SdGs X q [] [] := pgs_imp pgs_nil fun vs σ H Q ⟨z, ds, ρ, ρ', hH, ok, rl, hv, ha, k⟩ => by
  have e : ds = [] := List.eq_nil_of_length_eq_zero (assignL_len ha).symm
  subst e
  simp only [assignL, Option.some.injEq] at ha
  subst ha
  exact ⟨hv.nil_inv, k σ rl fun _ _ => rfl⟩
theorem sdgs_cons {e : Expr} {es : List Expr} {t : Tg} {l : List Tg} (h : SdG X q e t) (g : SdGs X q es l) (hs : (assignEach (e :: es) X.env).map (·.2) = PySem.assign e X.env :: (assignEach es X.env).map (·.2) := by rfl) : SdGs X q (e :: es) (t :: l) :=
  pgs_imp (pgs_cons h g hs) fun vs σ H Q ⟨z, ds, ρ, ρ', hH, ok, rl, hv, ha, k⟩ => by
    cases ds with
    | nil => simp [assignL] at ha
    | cons d ds =>
      simp only [assignL] at ha
      split at ha
      · rename_i ρ1 h1
        obtain ⟨v, r, rfl, g1, g2⟩ := hv.cons_inv
        refine ⟨v, r, rfl, z, d, ρ, ρ1, hH, ok, rl, g1, h1, fun σ1 rl1 w1 => ?_⟩
        refine ⟨z, ds, _, _, hH, ok, rl1, g2, ha, fun σ2 rl2 w2 => k σ2 rl2 fun vs hs => ?_⟩
        rw [w2 vs (fun j hj => hs j (by simp only [slotsL]; exact List.mem_append_right _ hj)), w1 vs (fun j hj => hs j (by simp only [slotsL]; exact List.mem_append_left _ hj))]
      · cases ha
theorem sdg_tup {es : List Expr} {k : Nat} {l : List Tg} {n : Nat} {pos : Pos} (hc : X.calm = true) (h : SdGs X q es l) (hln : l.length = n) (hn : (assignEach es X.env).length = n := by rfl) (hst : (assignEach es X.env).findIdx? (·.1) = none := by rfl) : SdG X q (.Tuple es k pos) (.tp l) :=
  pg_imp (pg_or (pg_tup (n := n) hc h hn hst) (pg_unl (n := n) hc h hn hst)) fun v σ H Q ⟨z, d, ρ, ρ', hH, ok, rl, hv, ha, k⟩ => by
    subst hH
    cases d <;> simp only [PV.assign, reduceCtorEq] at ha
    · rename_i ds
      obtain ⟨a, vs, rfl, h1, h2⟩ := hv.ref_of_tup
      exact .inl ⟨a, vs, rfl, h1, by rw [h2.len, ← assignL_len ha]; exact hln, z, ds, ρ, ρ', rfl, ok, rl, h2, ha, fun σ' r w => k σ' r fun vs hs => w vs fun i hi => hs i (by simpa only [slotsT] using hi)⟩
    · rename_i ds
      obtain ⟨a, vs, rfl, h1, _, h2⟩ := hv.of_lst
      exact .inr ⟨a, vs, rfl, SqL.of h1, by rw [h2.len, ← assignL_len ha]; exact hln, z, ds, ρ, ρ', rfl, ok, rl, h2, ha, fun σ' r w => k σ' r fun vs hs => w vs fun i hi => hs i (by simpa only [slotsT] using hi)⟩

/-! ### comprehensions -/
/-- the tests of a comprehension -/
def SdTs (X : Cx) (q : Par) (S : PV.Sem) (cs : List Expr) (ms : List E) : Prop := ∀ E : XK, Tk X E → PTs X cs (fun σ H Q => ∃ z ρ, z.H = H ∧ Ok X.K q z ∧ RelS X.K q z ρ σ ∧ wp X.K q z (evT S ρ ms z.G) (fun b z' => Q b z'.H) E)
theorem pts_imp {cs : List Expr} {t t' : TT} (h : PTs X cs t) (f : ∀ σ H Q, t' σ H Q → t σ H Q) : PTs X cs t' := ⟨fun pins s σ H Q I w => h.run pins s σ H Q I (f σ H Q w)⟩
theorem sdts_nil : SdTs X q S [] [] := fun E tk => pts_imp pts_nil fun σ H Q ⟨z, ρ, hH, ok, rl, w⟩ => by
  subst hH
  exact wp.here (P := fun b z' => Q b z'.H) ok w
theorem sdts_one {c : Expr} {m : E} (h : Td X q S c m) : SdTs X q S [c] [m] := fun E tk => pts_imp (pts_one (h E tk)) fun σ H Q ⟨z, ρ, hH, ok, rl, w⟩ => ⟨z, ρ, hH, ok, rl, (wp.bind w).mono fun d z1 ok1 e1 w1 => by
  cases d with
  | bl b =>
    refine ⟨b, rfl, ?_⟩
    cases b with
    | true => exact wp.here (P := fun b z' => Q b z'.H) ok1 w1
    | false => exact wp.here (P := fun b z' => Q b z'.H) ok1 w1
  | _ => exact w1.elim⟩

abbrev Z.less (z : Z) (B : List Addr) : Z := { z with B := B }
/-- one turn of a comprehension, as the evaluator has it -/
def turnC (S : PV.Sem) (ρ : Env) (tg : Tg) (cs : List E) (el : E) (d : D) (G : Gs) : R (Option D) := match PV.assign ρ tg d with
  | some ρ' => (evT S ρ' cs G).bind fun b G3 => if b then (evE S ρ' el G3).bind fun y G4 => .ok (some y) G4 else .ok none G3
  | none => .bad
theorem bind_ok {α β : Type} {r : R α} {f : α → Gs → R β} {b : β} {G : Gs} (h : r.bind f = .ok b G) : ∃ a G1, r = .ok a G1 ∧ f a G1 = .ok b G := by
  cases r with
  | ok a G1 => exact ⟨a, G1, rfl, h⟩
  | exc c G1 => cases h
  | bad => cases h
/-- the state within a comprehension -/
structure CI (K : PySem.W.Frag) (q : Par) (S : PV.Sem) (z1 : Z) (D0 : Addr) (ρ : Env) (σ : L2.St) (tg : Tg) (cs : List E) (el : E) (ds : List D) (I : Z → Prop) (PF : List D → Gs → Prop) (i : Nat) (z : Z) : Prop where
  ok : Ok K q z
  B : z.B = D0 :: z1.B
  ext : Ext z1 (z.less z1.B)
  rl : RelS K q z ρ σ
  src : I z
  acc : ∃ acc accV ys G5, z.H D0 = some (.lst accV) ∧ HasL K q z acc accV ∧ compL (turnC S ρ tg cs el) (ds.drop i) z.G = .ok ys G5 ∧ PF (acc ++ ys) G5
theorem ext_less {z z' : Z} {B : List Addr} (e : Ext z z') : Ext (z.less B) (z'.less B) := ⟨e.pre, rfl, e.live, e.keep, e.dom⟩
theorem ext_wr {z1 z : Z} {p : Addr} {vs : List V} (e : Ext z1 (z.less z1.B)) (h : z1.H p = none) (hs : ∃ o, z.H p = some o) : Ext z1 ((z.wr p vs).less z1.B) := by
  refine ⟨e.pre, rfl, e.live, fun b o hb nt nl => ?_, fun b hb => ?_⟩
  · show upd z.H p _ b = some o
    rw [upd_ne (ne_of_none hb h)]
    exact e.keep b o hb nt nl
  · by_cases eb : b = p
    · rw [eb]; exact newA h
    · refine e.dom b fun u hu => hb u ?_
      show upd z.H p _ b = some u
      rw [upd_ne eb]; exact hu
theorem ci_ext {z1 z z' : Z} {D0 : Addr} (B : z.B = D0 :: z1.B) (ext : Ext z1 (z.less z1.B)) (e : Ext z z') : z'.B = D0 :: z1.B ∧ Ext z1 (z'.less z1.B) := ⟨e.bs.trans B, ext.trans (ext_less e)⟩
theorem sd_comp {elt tg iter : Expr} {ifs : List Expr} {scope : Scope} {own : List (Str × Nat)} {pos : Pos} {tgm : Tg} {it : PV.It} {mel : E} {mcs : List E} {ownm : List Nat} (hc : X.calm = true) (hN : X.N.Nodup) (hi : SdI X q S tg iter it) (okb : BlkOk X.N X.env.scope scope own)
    (ho : ownm = own.map (·.2)) (hsl : ∀ i ∈ slotsT tgm, i ∈ ownm)
    (hg : ∀ (s : Shared) (H : Hp) (C : Addr) (cl : List (Str × Addr)) (fp : List Addr), SdG (X.blk s H scope (compEnvC scope cl C X.env) fp) q tg tgm) (ht : ∀ (s : Shared) (H : Hp) (C : Addr) (cl : List (Str × Addr)) (fp : List Addr), SdTs (X.blk s H scope (compEnvC scope cl C X.env) fp) q S ifs mcs)
    (he : ∀ (s : Shared) (H : Hp) (C : Addr) (cl : List (Str × Addr)) (fp : List Addr), Sd (X.blk s H scope (compEnvC scope cl C X.env) fp) q S elt mel) (hs : ∀ x, foldedSetIterable iter X.env x = pure x := by intro _; rfl) :
    ∀ E : XK, Tk X E → ∃ wi g tt te, PI X tg iter wi ∧ (∀ (s : Shared) (H : Hp) (C : Addr) (cl : List (Str × Addr)) (fp : List Addr), PG (X.blk s H scope (compEnvC scope cl C X.env) fp) tg g) ∧ (∀ (s : Shared) (H : Hp) (C : Addr) (cl : List (Str × Addr)) (fp : List Addr), PTs (X.blk s H scope (compEnvC scope cl C X.env) fp) ifs tt) ∧
      (∀ (s : Shared) (H : Hp) (C : Addr) (cl : List (Str × Addr)) (fp : List Addr), PE (X.blk s H scope (compEnvC scope cl C X.env) fp) elt te) ∧ ∀ σ H Q, rdE X.K q S E (.comp ownm mel tgm it mcs) σ H Q → tLc wi g tt te (own.map (·.2)) σ H Q := by
  intro E tk
  subst ho
  refine ⟨_, rdG X.K q tgm, (fun σ H Q => ∃ z ρ, z.H = H ∧ Ok X.K q z ∧ RelS X.K q z ρ σ ∧ wp X.K q z (evT S ρ mcs z.G) (fun b z' => Q b z'.H) (fun _ _ _ => False)), rdE X.K q S (fun _ _ _ => False) mel, hi E tk, hg, fun s H C cl fp => ht s H C cl fp (fun _ _ _ => False) L2.takes0, fun s H C cl fp => he s H C cl fp (fun _ _ _ => False) L2.takes0, fun σ H Q ⟨z, ρ, hH, ok, rl, w⟩ => ?_⟩
  refine ⟨z, ρ, hH, ok, rl, (wp.bind w).mono fun ds z1 ok1 e1 w1 J I wk hI D0 hD => ?_⟩
  -- what the evaluator has: all turns go, the list is short
  have rl1 := rl.ext ok e1
  obtain ⟨ys, G5, hcl, hys, hfin⟩ : ∃ ys G5, compL (turnC S (wipeE ρ (own.map (·.2))) tgm mcs mel) ds z1.G = .ok ys G5 ∧ ys.length < sizeLine ∧ ∀ z' : Z, z'.G = G5 → Ok X.K q z' → Ext z1 z' → PQ X.K q Q (.lst ys) z' := by
    have w1 : wp X.K q z1 (((compL (turnC S (wipeE ρ (own.map (·.2))) tgm mcs mel) ds z1.G).calm).bind fun ys G5 => if ys.length < sizeLine then PV.R.ok (.lst ys) G5 else .bad) (PQ X.K q Q) E := w1
    cases hr : compL (turnC S (wipeE ρ (own.map (·.2))) tgm mcs mel) ds z1.G with
    | bad => rw [hr] at w1; exact w1.elim
    | exc c G' => rw [hr] at w1; exact w1.elim
    | ok ys G5 =>
      rw [hr] at w1
      have w1 : wp X.K q z1 (if ys.length < sizeLine then PV.R.ok (.lst ys) G5 else .bad) (PQ X.K q Q) E := w1
      split at w1
      · rename_i hlt
        exact ⟨ys, G5, rfl, hlt, w1⟩
      · exact w1.elim
  have start : CI X.K q S z1 D0 (wipeE ρ (own.map (·.2))) (L2.wipe σ (own.map (·.2))) tgm mcs mel ds I (fun ys G5 => ys.length < sizeLine ∧ ∀ z' : Z, z'.G = G5 → Ok X.K q z' → Ext z1 z' → PQ X.K q Q (.lst ys) z') 0 (z1.push D0 []) := by
    refine ⟨ok1.push hD, rfl, ⟨List.prefix_refl _, rfl, fun a l => .inl l, fun b o hb _ _ => ?_, fun b hb => ?_⟩, (rl1.mv (mv_push ok1 hD)).wipe _, wk.st _ _ (mv_push ok1 hD) hI, [], [], ys, G5, upd_same, HasL.nil, hcl, hys, hfin⟩
    · show upd z1.H D0 _ b = some o
      rw [upd_ne (ne_of_none hb hD)]; exact hb
    · by_cases eb : b = D0
      · rw [eb]; exact newA hD
      · refine fun u hu => hb u ?_
        show upd z1.H D0 _ b = some u
        rw [upd_ne eb]; exact hu
  refine ⟨fun i m H => m = ds.length - i ∧ i ≤ ds.length ∧ ∃ z, z.H = H ∧ CI X.K q S z1 D0 (wipeE ρ (own.map (·.2))) (L2.wipe σ (own.map (·.2))) tgm mcs mel ds I (fun ys G5 => ys.length < sizeLine ∧ ∀ z' : Z, z'.G = G5 → Ok X.K q z' → Ext z1 z' → PQ X.K q Q (.lst ys) z') i z, ⟨ds.length, by simp, Nat.zero_le _, _, rfl, start⟩, ?_⟩
  rintro i m H ⟨rfl, hi, z2, rfl, c⟩
  obtain ⟨acc, accV, ys, G5, hacc, hav, hcl, hf⟩ := c.acc
  by_cases hlt : i < ds.length
  · refine .inr ⟨wk.go z2 i c.ok c.src hlt, fun H' => ∃ z, z.H = H' ∧ CI X.K q S z1 D0 (wipeE ρ (own.map (·.2))) (L2.wipe σ (own.map (·.2))) tgm mcs mel ds I (fun ys G5 => ys.length < sizeLine ∧ ∀ z' : Z, z'.G = G5 → Ok X.K q z' → Ext z1 z' → PQ X.K q Q (.lst ys) z') (i + 1) z, fun H' ⟨z, hz, c'⟩ => ⟨ds.length - (i + 1), by omega, rfl, hlt, z, hz, c'⟩, fun x H' hy => ?_⟩
    obtain ⟨z3, rfl, hG3, ok3, e3, d, hd, hx⟩ := wk.yld z2 i x H' c.ok c.src hlt hy
    have hdr : ds.drop i = d :: ds.drop (i + 1) := by
      rw [List.drop_eq_getElem_cons hlt]
      congr 1
      rw [List.getElem?_eq_getElem hlt] at hd
      exact Option.some.inj hd
    rw [hdr] at hcl
    obtain ⟨o, G6, h6, hcl⟩ := bind_ok hcl
    obtain ⟨r, G7, h7, hcl⟩ := bind_ok hcl
    unfold turnC at h6
    split at h6
    · rename_i ρ' hρ
      have rl3 := c.rl.ext c.ok e3
      refine ⟨z3, d, _, ρ', rfl, ok3, rl3, hx, hρ, fun σ' rl4 hw => ⟨?_, ?_⟩⟩
      · rw [hw _ hsl]
        refine List.ext_getElem? fun j => ?_
        by_cases hj : j ∈ own.map (·.2)
        · rw [wipe_get hj, wipe_get hj, L2.wipe_length]
        · rw [L2.wipe_out hj]
      · refine ⟨z3, ρ', rfl, ok3, rl4, ?_⟩
        obtain ⟨b, G8, h8, h6⟩ := bind_ok h6
        rw [hG3, h8]
        intro z4 hG4 ok4 e4
        have e24 := e3.trans e4
        obtain ⟨B4, x4⟩ := ci_ext c.B c.ext e24
        have rl5 := rl4.ext ok3 e4
        cases b with
        | false =>
          rw [if_neg (by simp)] at h6
          dsimp only
          rw [if_neg (by simp)]
          cases h6
          cases hcl
          refine ⟨z4, rfl, ok4, B4, x4, ?_, wk.st _ _ (e24.mv c.ok) c.src, acc, accV, _, _, ?_, HasL.ext c.ok e24 acc accV hav, by rw [hG4]; exact h7, hf⟩
          · exact c.rl.ext c.ok e24
          · refine e24.keep _ _ hacc (fun _ x => nomatch x) fun l => ?_
            exact c.ok.liveB l (by rw [c.B]; exact List.mem_cons_self ..)
        | true =>
          rw [if_pos rfl] at h6
          dsimp only
          rw [if_pos rfl]
          obtain ⟨y, G9, h9, h6⟩ := bind_ok h6
          cases h6
          cases hcl
          refine ⟨z4, ρ', rfl, ok4, rl5, ?_⟩
          rw [hG4, h9]
          intro z5 hG5 ok5 e5 yv hyv
          have e25 := e24.trans e5
          obtain ⟨B5, x5⟩ := ci_ext c.B c.ext e25
          have hacc5 : z5.H D0 = some (.lst accV) := e25.keep _ _ hacc (fun _ x => nomatch x) fun l => c.ok.liveB l (by rw [c.B]; exact List.mem_cons_self ..)
          have hb5 : D0 ∈ z5.B := by rw [B5]; exact List.mem_cons_self ..
          have mw := mv_wr (q := q) (K := X.K) (vs := accV ++ [yv]) hb5 hacc5
          have hacn : acc.length ≤ (acc ++ y :: r).length := by simp
          refine ⟨accV, hacc5, by rw [hav.len]; exact Nat.lt_of_le_of_lt hacn hf.1, z5.wr D0 (accV ++ [yv]), rfl, ok5.wr hb5 hacc5, B5, ext_wr x5 hD ⟨_, hacc5⟩, (c.rl.ext c.ok e25).mv mw, wk.st _ _ mw (wk.st _ _ (e25.mv c.ok) c.src), acc ++ [y], accV ++ [yv], r, _, upd_same, ?_, by show compL _ _ z5.G = _; rw [hG5]; exact h7, by rw [List.append_assoc]; exact hf⟩
          exact HasL.mv mw _ _ ((HasL.ext c.ok e25 acc accV hav).app (HasL.cons hyv HasL.nil))
    · cases h6
  · have e : i = ds.length := by omega
    subst e
    refine .inl ⟨wk.stop z2 c.ok c.src, ?_⟩
    rw [List.drop_length] at hcl
    cases hcl
    rw [List.append_nil] at hf
    have hB : ∀ b ∈ z1.B, b ∈ z2.B := fun b hb => by rw [c.B]; exact List.mem_cons_of_mem _ hb
    refine hf.2 (z2.less z1.B) rfl (c.ok.less hB) c.ext _ (Has.lst (z := z2.less z1.B) hacc ⟨fun hb => ?_, fun l => ?_⟩ (HasL.mv (mv_less hB) acc accV hav))
    · obtain ⟨vs, hv⟩ := ok1.blk D0 hb
      rw [hD] at hv; cases hv
    · exact c.ok.liveB (a := D0) l (by rw [c.B]; exact List.mem_cons_self ..)
theorem sd_lc {elt tg iter : Expr} {ifs : List Expr} {scope : Scope} {pos : Pos} {tgm : Tg} {it : PV.It} {mel : E} {mcs : List E} {ownm : List Nat} (own : List (Str × Nat)) (hc : X.calm = true) (hN : X.N.Nodup) (hi : SdI X q S tg iter it) (okb : BlkOk X.N X.env.scope scope own)
    (hg : ∀ (s : Shared) (H : Hp) (C : Addr) (cl : List (Str × Addr)) (fp : List Addr), SdG (X.blk s H scope (compEnvC scope cl C X.env) fp) q tg tgm) (ht : ∀ (s : Shared) (H : Hp) (C : Addr) (cl : List (Str × Addr)) (fp : List Addr), SdTs (X.blk s H scope (compEnvC scope cl C X.env) fp) q S ifs mcs)
    (he : ∀ (s : Shared) (H : Hp) (C : Addr) (cl : List (Str × Addr)) (fp : List Addr), Sd (X.blk s H scope (compEnvC scope cl C X.env) fp) q S elt mel) (ho : ownm = own.map (·.2) := by rfl) (hsl : ∀ i ∈ slotsT tgm, i ∈ ownm := by decide) (hs : ∀ x, foldedSetIterable iter X.env x = pure x := by intro _; rfl) :
    Sd X q S (.ListComp elt [⟨tg, iter, ifs, 0⟩] scope pos) (.comp ownm mel tgm it mcs) := fun E tk => by
  obtain ⟨wi, g, tt, te, h1, h2, h3, h4, h5⟩ := sd_comp (pos := pos) hc hN hi okb ho hsl hg ht he hs E tk
  exact pe_imp (pe_lc hc hN h1 okb h2 h3 h4 hs) h5
end
end PV
end
/-! ## PV5b -/
section
set_option Elab.async false
set_option linter.all false
set_option maxRecDepth 100000
set_option maxHeartbeats 4000000
/-! Comprehensions of two fors. -/
namespace PV
open PySem L2 LamX RZ
section
variable {X : Cx} {q : Par} {S : PV.Sem}
/-- one turn of the outer for -/
def turnC2 (S : PV.Sem) (ρ : Env) (own2 : List Nat) (t1 : Tg) (i2 : PV.It) (t2 : Tg) (cs : List E) (el : E) (d : D) (G : Gs) : R (List D) := match PV.assign ρ t1 d with
  | some ρ' => (evI S ρ' i2 G).bind fun es G3 => compL (turnC S (wipeE ρ' own2) t2 cs el) es G3
  | none => .bad
/-- the state within -/
structure CJ (K : PySem.W.Frag) (q : Par) (z1 : Z) (D0 : Addr) (ρ : Env) (σ : L2.St) (I : Z → Prop) (z : Z) : Prop where
  ok : Ok K q z
  B : z.B = D0 :: z1.B
  ext : Ext z1 (z.less z1.B)
  rl : RelS K q z ρ σ
  src : I z
theorem CJ.next {K : PySem.W.Frag} {z1 z z' : Z} {D0 : Addr} {ρ : Env} {σ : L2.St} {I : Z → Prop} (c : CJ K q z1 D0 ρ σ I z) (st : ∀ z z', Mv K q z z' → I z → I z') (e : Ext z z') (o : Ok K q z') : CJ K q z1 D0 ρ σ I z' :=
  ⟨o, (ci_ext c.B c.ext e).1, (ci_ext c.B c.ext e).2, c.rl.ext c.ok e, st _ _ (e.mv c.ok) c.src⟩
theorem CJ.notLive {K : PySem.W.Frag} {z1 z : Z} {D0 : Addr} {ρ : Env} {σ : L2.St} {I : Z → Prop} (c : CJ K q z1 D0 ρ σ I z) : ¬ Live z D0 := fun l => c.ok.liveB l (by rw [c.B]; exact List.mem_cons_self ..)
/-- what is gathered so far -/
def Acc (K : PySem.W.Frag) (q : Par) (D0 : Addr) (z : Z) (acc : List D) : Prop := ∃ accV, z.H D0 = some (.lst accV) ∧ HasL K q z acc accV
theorem Acc.next {K : PySem.W.Frag} {z1 z z' : Z} {D0 : Addr} {ρ : Env} {σ : L2.St} {I : Z → Prop} {acc : List D} (c : CJ K q z1 D0 ρ σ I z) (a : Acc K q D0 z acc) (e : Ext z z') : Acc K q D0 z' acc := by
  obtain ⟨accV, h1, h2⟩ := a
  exact ⟨accV, e.keep _ _ h1 (fun _ x => nomatch x) c.notLive, HasL.ext c.ok e acc accV h2⟩
theorem wipe_idem {σ σ' : L2.St} {vs : List Nat} (h : L2.wipe σ' vs = L2.wipe σ vs) {ws : List Nat} (hs : ∀ i ∈ ws, i ∈ vs) : L2.wipe (L2.wipe σ' ws) vs = L2.wipe σ vs := by
  rw [← h]
  refine List.ext_getElem? fun j => ?_
  by_cases hj : j ∈ vs
  · rw [wipe_get hj, wipe_get hj, L2.wipe_length]
  · rw [L2.wipe_out hj, L2.wipe_out hj, L2.wipe_out (fun h => hj (hs j h))]
theorem sd_compB {elt tg iter tg1 iter1 : Expr} {ifs1 : List Expr} {scope : Scope} {own : List (Str × Nat)} {pos : Pos} {t1 t2 : Tg} {i1 i2 : PV.It} {mel : E} {mcs : List E} {ownm own2 : List Nat} (hc : X.calm = true) (hN : X.N.Nodup) (hi : SdI X q S tg iter i1) (okb : BlkOk X.N X.env.scope scope own)
    (ho : ownm = own.map (·.2)) (hsl : ∀ i ∈ slotsT t1, i ∈ ownm) (hsl2 : ∀ i ∈ slotsT t2, i ∈ own2) (hsub : ∀ i ∈ own2, i ∈ ownm)
    (hg : ∀ (s : Shared) (H : Hp) (C : Addr) (cl : List (Str × Addr)) (fp : List Addr), SdG (X.blk s H scope (compEnvC scope cl C X.env) fp) q tg t1)
    (hi1 : ∀ (s : Shared) (H : Hp) (C : Addr) (cl : List (Str × Addr)) (fp : List Addr), SdI (X.blk s H scope (compEnvC scope cl C X.env) fp) q S tg1 iter1 i2)
    (hg1 : ∀ (s : Shared) (H : Hp) (C : Addr) (cl : List (Str × Addr)) (fp : List Addr), SdG (X.blk s H scope (compEnvC scope cl C X.env) fp) q tg1 t2)
    (ht : ∀ (s : Shared) (H : Hp) (C : Addr) (cl : List (Str × Addr)) (fp : List Addr), SdTs (X.blk s H scope (compEnvC scope cl C X.env) fp) q S ifs1 mcs)
    (he : ∀ (s : Shared) (H : Hp) (C : Addr) (cl : List (Str × Addr)) (fp : List Addr), Sd (X.blk s H scope (compEnvC scope cl C X.env) fp) q S elt mel) :
    ∀ E : XK, Tk X E → ∃ wi g wi1 g1 tt1 te, PI X tg iter wi ∧ (∀ (s : Shared) (H : Hp) (C : Addr) (cl : List (Str × Addr)) (fp : List Addr), PG (X.blk s H scope (compEnvC scope cl C X.env) fp) tg g) ∧
      (∀ (s : Shared) (H : Hp) (C : Addr) (cl : List (Str × Addr)) (fp : List Addr), PI (X.blk s H scope (compEnvC scope cl C X.env) fp) tg1 iter1 wi1) ∧ (∀ (s : Shared) (H : Hp) (C : Addr) (cl : List (Str × Addr)) (fp : List Addr), PG (X.blk s H scope (compEnvC scope cl C X.env) fp) tg1 g1) ∧
      (∀ (s : Shared) (H : Hp) (C : Addr) (cl : List (Str × Addr)) (fp : List Addr), PTs (X.blk s H scope (compEnvC scope cl C X.env) fp) ifs1 tt1) ∧ (∀ (s : Shared) (H : Hp) (C : Addr) (cl : List (Str × Addr)) (fp : List Addr), PE (X.blk s H scope (compEnvC scope cl C X.env) fp) elt te) ∧
      ∀ σ H Q, rdE X.K q S E (.comp2 ownm own2 mel t1 i1 t2 i2 mcs) σ H Q → tLc2 wi g (fun σ H Q => Q true H) wi1 g1 tt1 te (own.map (·.2)) own2 σ H Q := by
  intro E tk
  subst ho
  refine ⟨_, rdG X.K q t1, rdI X.K q S (fun _ _ _ => False) i2, rdG X.K q t2, (fun σ H Q => ∃ z ρ, z.H = H ∧ Ok X.K q z ∧ RelS X.K q z ρ σ ∧ wp X.K q z (evT S ρ mcs z.G) (fun b z' => Q b z'.H) (fun _ _ _ => False)), rdE X.K q S (fun _ _ _ => False) mel, hi E tk, hg,
    fun s H C cl fp => hi1 s H C cl fp (fun _ _ _ => False) L2.takes0, hg1, fun s H C cl fp => ht s H C cl fp (fun _ _ _ => False) L2.takes0, fun s H C cl fp => he s H C cl fp (fun _ _ _ => False) L2.takes0, fun σ H Q ⟨z, ρ, hH, ok, rl, w⟩ => ?_⟩
  refine ⟨z, ρ, hH, ok, rl, (wp.bind w).mono fun ds z1 ok1 e1 w1 J I wk hI D0 hD => ?_⟩
  have rl1 := rl.ext ok e1
  obtain ⟨ys, G5, hcl, hys, hfin⟩ : ∃ ys G5, compL2 (turnC2 S (wipeE ρ (own.map (·.2))) own2 t1 i2 t2 mcs mel) ds z1.G = .ok ys G5 ∧ ys.length < sizeLine ∧ ∀ z' : Z, z'.G = G5 → Ok X.K q z' → Ext z1 z' → PQ X.K q Q (.lst ys) z' := by
    have w1 : wp X.K q z1 (((compL2 (turnC2 S (wipeE ρ (own.map (·.2))) own2 t1 i2 t2 mcs mel) ds z1.G).calm).bind fun ys G5 => if ys.length < sizeLine then PV.R.ok (.lst ys) G5 else .bad) (PQ X.K q Q) E := w1
    cases hr : compL2 (turnC2 S (wipeE ρ (own.map (·.2))) own2 t1 i2 t2 mcs mel) ds z1.G with
    | bad => rw [hr] at w1; exact w1.elim
    | exc c G' => rw [hr] at w1; exact w1.elim
    | ok ys G5 =>
      rw [hr] at w1
      have w1 : wp X.K q z1 (if ys.length < sizeLine then PV.R.ok (.lst ys) G5 else .bad) (PQ X.K q Q) E := w1
      split at w1
      · rename_i hlt
        exact ⟨ys, G5, rfl, hlt, w1⟩
      · exact w1.elim
  let PF : List D → Gs → Prop := fun ys G5 => ys.length < sizeLine ∧ ∀ z' : Z, z'.G = G5 → Ok X.K q z' → Ext z1 z' → PQ X.K q Q (.lst ys) z'
  let ρ0 := wipeE ρ (own.map (·.2))
  let σ0 := L2.wipe σ (own.map (·.2))
  let T := turnC2 S ρ0 own2 t1 i2 t2 mcs mel
  let Inv1 : Nat → Z → Prop := fun i z => CJ X.K q z1 D0 ρ0 σ0 I z ∧ ∃ acc ys G5, Acc X.K q D0 z acc ∧ compL2 T (ds.drop i) z.G = .ok ys G5 ∧ PF (acc ++ ys) G5
  have start : Inv1 0 (z1.push D0 []) := by
    refine ⟨⟨ok1.push hD, rfl, ⟨List.prefix_refl _, rfl, fun a l => .inl l, fun b o hb _ _ => ?_, fun b hb => ?_⟩, (rl1.mv (mv_push ok1 hD)).wipe _, wk.st _ _ (mv_push ok1 hD) hI⟩, [], ys, G5, ⟨[], upd_same, HasL.nil⟩, hcl, hys, hfin⟩
    · show upd z1.H D0 _ b = some o
      rw [upd_ne (ne_of_none hb hD)]; exact hb
    · by_cases eb : b = D0
      · rw [eb]; exact newA hD
      · refine fun u hu => hb u ?_
        show upd z1.H D0 _ b = some u
        rw [upd_ne eb]; exact hu
  refine ⟨fun i m H => m = ds.length - i ∧ i ≤ ds.length ∧ ∃ z, z.H = H ∧ Inv1 i z, ⟨ds.length, by simp, Nat.zero_le _, _, rfl, start⟩, ?_⟩
  rintro i m H ⟨rfl, hi, z2, rfl, c, acc, ys2, G52, hacc, hcl2, hf⟩
  by_cases hlt : i < ds.length
  · refine .inr ⟨wk.go z2 i c.ok c.src hlt, fun H' => ∃ z, z.H = H' ∧ Inv1 (i + 1) z, fun H' ⟨z, hz, c'⟩ => ⟨ds.length - (i + 1), by omega, rfl, hlt, z, hz, c'⟩, fun x H' hy => ?_⟩
    obtain ⟨z3, rfl, hG3, ok3, e3, d, hd, hx⟩ := wk.yld z2 i x H' c.ok c.src hlt hy
    have c3 := c.next wk.st e3 ok3
    have a3 := hacc.next c e3
    have hdr : ds.drop i = d :: ds.drop (i + 1) := by
      rw [List.drop_eq_getElem_cons hlt]
      congr 1
      rw [List.getElem?_eq_getElem hlt] at hd
      exact Option.some.inj hd
    rw [hdr] at hcl2
    obtain ⟨o, G6, h6, hcl2⟩ := bind_ok hcl2
    obtain ⟨r, G7, h7, hcl2⟩ := bind_ok hcl2
    cases hcl2
    have h6 : (match PV.assign ρ0 t1 d with
      | some ρ' => (evI S ρ' i2 z2.G).bind fun es G3 => compL (turnC S (wipeE ρ' own2) t2 mcs mel) es G3
      | none => .bad) = PV.R.ok o G6 := h6
    split at h6
    · rename_i ρ' hρ
      refine ⟨z3, d, _, ρ', rfl, ok3, c3.rl, hx, hρ, fun σ' rl4 hw => ⟨?_, ?_⟩⟩
      · rw [hw _ hsl]
        refine List.ext_getElem? fun j => ?_
        by_cases hj : j ∈ own.map (·.2)
        · rw [wipe_get hj, wipe_get hj, L2.wipe_length]
        · rw [L2.wipe_out hj]
      · refine ⟨z3, ρ', rfl, ok3, rl4, ?_⟩
        obtain ⟨es, G8, h8, h6⟩ := bind_ok h6
        rw [hG3, h8]
        intro z4 hG4 ok4 e4 J1 I1 wk1 hI1
        have c4 := c3.next wk.st e4 ok4
        have a4 := a3.next c3 e4
        have rl5 : RelS X.K q z4 (wipeE ρ' own2) (L2.wipe σ' own2) := (rl4.ext ok3 e4).wipe own2
        let T2 := turnC S (wipeE ρ' own2) t2 mcs mel
        let Inv2 : Nat → Z → Prop := fun j z => CJ X.K q z1 D0 ρ0 σ0 I z ∧ RelS X.K q z (wipeE ρ' own2) (L2.wipe σ' own2) ∧ I1 z ∧ ∃ acc ys G9, Acc X.K q D0 z acc ∧ compL T2 (es.drop j) z.G = .ok ys G9 ∧ G9 = G6 ∧ PF (acc ++ ys ++ r) G52
        have start2 : Inv2 0 z4 := ⟨c4, rl5, hI1, acc, o, G6, a4, by show compL T2 es z4.G = _; rw [hG4]; exact h6, rfl, by rw [List.append_assoc]; exact hf⟩
        refine ⟨fun j k H => k = es.length - j ∧ j ≤ es.length ∧ ∃ z, z.H = H ∧ Inv2 j z, ⟨es.length, by simp, Nat.zero_le _, _, rfl, start2⟩, ?_⟩
        rintro j k H ⟨rfl, hj, z5, rfl, c5, rl6, hI5, acc5, ys5, G9, ha5, hcl5, rfl, hf5⟩
        by_cases hlt5 : j < es.length
        · refine .inr ⟨wk1.go z5 j c5.ok hI5 hlt5, fun H' => ∃ z, z.H = H' ∧ Inv2 (j + 1) z, fun H' ⟨z, hz, c'⟩ => ⟨es.length - (j + 1), by omega, rfl, hlt5, z, hz, c'⟩, fun x H' hy => ?_⟩
          obtain ⟨z6, rfl, hG6, ok6, e6, d6, hd6, hx6⟩ := wk1.yld z5 j x H' c5.ok hI5 hlt5 hy
          have c6 := c5.next wk.st e6 ok6
          have a6 := ha5.next c5 e6
          have hdr6 : es.drop j = d6 :: es.drop (j + 1) := by
            rw [List.drop_eq_getElem_cons hlt5]
            congr 1
            rw [List.getElem?_eq_getElem hlt5] at hd6
            exact Option.some.inj hd6
          rw [hdr6] at hcl5
          obtain ⟨o5, G10, h10, hcl5⟩ := bind_ok hcl5
          obtain ⟨r5, G11, h11, hcl5⟩ := bind_ok hcl5
          have h10 : (match PV.assign (wipeE ρ' own2) t2 d6 with
            | some ρ' => (evT S ρ' mcs z5.G).bind fun b G3 => if b then (evE S ρ' mel G3).bind fun y G4 => .ok (some y) G4 else .ok none G3
            | none => .bad) = PV.R.ok o5 G10 := h10
          split at h10
          · rename_i ρ6 hρ6
            have rl7 := rl6.ext c5.ok e6
            refine ⟨z6, d6, _, ρ6, rfl, ok6, rl7, hx6, hρ6, fun σ6 rl8 hw6 => ⟨?_, ?_⟩⟩
            · rw [hw6 _ hsl2]
              refine List.ext_getElem? fun j => ?_
              by_cases hj : j ∈ own2
              · rw [wipe_get hj, wipe_get hj, L2.wipe_length]
              · rw [L2.wipe_out hj]
            · refine ⟨z6, ρ6, rfl, ok6, rl8, ?_⟩
              obtain ⟨b, G12, h12, h10⟩ := bind_ok h10
              rw [hG6, h12]
              intro z7 hG7 ok7 e7
              have c7 := c6.next wk.st e7 ok7
              have a7 := a6.next c6 e7
              have rl9 := rl7.ext ok6 e7
              have hI7 := wk1.st _ _ ((e6.trans e7).mv c5.ok) hI5
              cases b with
              | false =>
                rw [if_neg (by simp)] at h10
                dsimp only
                rw [if_neg (by simp)]
                cases h10
                cases hcl5
                exact ⟨z7, rfl, c7, rl9, hI7, acc5, _, _, a7, by show compL T2 _ z7.G = _; rw [hG7]; exact h11, rfl, hf5⟩
              | true =>
                rw [if_pos rfl] at h10
                dsimp only
                rw [if_pos rfl]
                obtain ⟨y, G13, h13, h10⟩ := bind_ok h10
                cases h10
                cases hcl5
                refine ⟨z7, ρ6, rfl, ok7, rl8.ext ok6 e7, ?_⟩
                rw [hG7, h13]
                intro z8 hG8 ok8 e8 yv hyv
                have c8 := c7.next wk.st e8 ok8
                obtain ⟨accV, hacc8, hav⟩ := a7.next c7 e8
                have hb8 : D0 ∈ z8.B := by rw [c8.B]; exact List.mem_cons_self ..
                have mw := mv_wr (q := q) (K := X.K) (vs := accV ++ [yv]) hb8 hacc8
                have hacn : acc5.length ≤ (acc5 ++ y :: r5 ++ r).length := by simp
                refine ⟨accV, hacc8, by rw [hav.len]; exact Nat.lt_of_le_of_lt hacn hf5.1, z8.wr D0 (accV ++ [yv]), rfl, ⟨ok8.wr hb8 hacc8, c8.B, ext_wr c8.ext hD ⟨_, hacc8⟩, c8.rl.mv mw, wk.st _ _ mw c8.src⟩, (rl9.ext ok7 e8).mv mw, wk1.st _ _ mw (wk1.st _ _ (e8.mv ok7) hI7), acc5 ++ [y], r5, _, ⟨accV ++ [yv], upd_same, ?_⟩, by show compL T2 _ z8.G = _; rw [hG8]; exact h11, rfl, by rw [List.append_assoc acc5]; exact hf5⟩
                exact HasL.mv mw _ _ (hav.app (HasL.cons hyv HasL.nil))
          · cases h10
        · have e : j = es.length := by omega
          subst e
          rw [List.drop_length] at hcl5
          cases hcl5
          rw [List.append_nil] at hf5
          exact .inl ⟨wk1.stop z5 c5.ok hI5, z5, rfl, c5, acc5, r, G52, ha5, h7, hf5⟩
    · cases h6
  · have e : i = ds.length := by omega
    subst e
    refine .inl ⟨wk.stop z2 c.ok c.src, ?_⟩
    rw [List.drop_length] at hcl2
    cases hcl2
    rw [List.append_nil] at hf
    obtain ⟨accV, hacc, hav⟩ := hacc
    have hB : ∀ b ∈ z1.B, b ∈ z2.B := fun b hb => by rw [c.B]; exact List.mem_cons_of_mem _ hb
    refine hf.2 (z2.less z1.B) rfl (c.ok.less hB) c.ext _ (Has.lst (z := z2.less z1.B) hacc ⟨fun hb => ?_, fun l => ?_⟩ (HasL.mv (mv_less hB) acc accV hav))
    · obtain ⟨vs, hv⟩ := ok1.blk D0 hb
      rw [hD] at hv; cases hv
    · exact c.ok.liveB (a := D0) l (by rw [c.B]; exact List.mem_cons_self ..)
theorem sd_lc2 {elt tg iter tg1 iter1 : Expr} {ifs1 : List Expr} {scope : Scope} {pos : Pos} {t1 t2 : Tg} {i1 i2 : PV.It} {mel : E} {mcs : List E} {ownm own2 : List Nat} (own : List (Str × Nat)) (hc : X.calm = true) (hN : X.N.Nodup) (hi : SdI X q S tg iter i1) (okb : BlkOk X.N X.env.scope scope own)
    (hg : ∀ (s : Shared) (H : Hp) (C : Addr) (cl : List (Str × Addr)) (fp : List Addr), SdG (X.blk s H scope (compEnvC scope cl C X.env) fp) q tg t1)
    (hi1 : ∀ (s : Shared) (H : Hp) (C : Addr) (cl : List (Str × Addr)) (fp : List Addr), SdI (X.blk s H scope (compEnvC scope cl C X.env) fp) q S tg1 iter1 i2)
    (hg1 : ∀ (s : Shared) (H : Hp) (C : Addr) (cl : List (Str × Addr)) (fp : List Addr), SdG (X.blk s H scope (compEnvC scope cl C X.env) fp) q tg1 t2)
    (ht : ∀ (s : Shared) (H : Hp) (C : Addr) (cl : List (Str × Addr)) (fp : List Addr), SdTs (X.blk s H scope (compEnvC scope cl C X.env) fp) q S ifs1 mcs)
    (he : ∀ (s : Shared) (H : Hp) (C : Addr) (cl : List (Str × Addr)) (fp : List Addr), Sd (X.blk s H scope (compEnvC scope cl C X.env) fp) q S elt mel) (ho : ownm = own.map (·.2) := by rfl) (hsl : ∀ i ∈ slotsT t1, i ∈ ownm := by decide) (hsl2 : ∀ i ∈ slotsT t2, i ∈ own2 := by decide) (hsub : ∀ i ∈ own2, i ∈ ownm := by decide)
    (hs : ∀ x, foldedSetIterable iter X.env x = pure x := by intro _; rfl) (hs1 : ∀ env x, foldedSetIterable iter1 env x = pure x := by intro _ _; rfl) :
    Sd X q S (.ListComp elt [⟨tg, iter, [], 0⟩, ⟨tg1, iter1, ifs1, 0⟩] scope pos) (.comp2 ownm own2 mel t1 i1 t2 i2 mcs) := fun E tk => by
  obtain ⟨wi, g, wi1, g1, tt1, te, h1, h2, h3, h4, h5, h6, h7⟩ := sd_compB (pos := pos) hc hN hi okb ho hsl hsl2 hsub hg hi1 hg1 ht he E tk
  subst ho
  exact pe_imp (pe_lc2 hc hN h1 okb hsub h2 (fun _ _ _ _ _ => pts_nil) h3 h4 h5 h6 hs hs1) h7
end
end PV
end
/-! ## PVd -/
section
set_option Elab.async false
set_option linter.all false
set_option maxRecDepth 100000
set_option maxHeartbeats 4000000
/-! Cells' contents changed; dicts; what a value's class is. -/
namespace PV
open PySem L2 LamX PyProof.Rows RZ
section
variable {X : Cx} {q : Par} {S : PV.Sem} {K : PySem.W.Frag} {z z' : Z}
/-! ### a cell's content changed -/
abbrev Z.stC (z : Z) (n : Nat) (a : Addr) (c : C) (o : HO) : Z := { z with G := z.G.set n (some c), H := upd z.H a o }
theorem live_stC {n : Nat} {a : Addr} {c c' : C} {o : HO} (h : z.G[n]? = some (some c)) (x : Addr) : Live (z.stC n a c' o) x ↔ Live z x := by
  constructor
  · rintro ⟨m, es, h1, h2⟩
    have h1 : (z.G.set n (some c'))[m]? = some (some es) := h1
    by_cases e : n = m
    · subst e
      exact ⟨n, c, h, h2⟩
    · rw [List.getElem?_set_ne e] at h1
      exact ⟨m, es, h1, h2⟩
  · rintro ⟨m, es, h1, h2⟩
    by_cases e : n = m
    · subst e
      exact ⟨n, c', List.getElem?_set_self (List.getElem?_eq_some_iff.mp h1).1, h2⟩
    · exact ⟨m, es, by show (z.G.set n (some c'))[m]? = _; rw [List.getElem?_set_ne e]; exact h1, h2⟩
theorem ext_stC {n : Nat} {a : Addr} {c c' : C} {o : HO} (ok : Ok K q z) (h : z.G[n]? = some (some c)) (ha : z.μ[n]? = some a) (ho : ∀ ps, o ≠ .tbl ps) : Ext z (z.stC n a c' o) := by
  have la : Live z a := ⟨n, c, h, ha⟩
  refine ⟨List.prefix_refl _, rfl, fun x l => .inl ((live_stC h x).mp l), fun b u hb nt nl => ?_, fun b hb => ?_⟩
  · show upd z.H a _ b = some u
    rw [upd_ne (fun e => nl (by rw [e]; exact la))]
    exact hb
  · by_cases e : b = a
    · exact hb.no (z := z.stC n a c' o) (o := o) (by rw [e]; exact upd_same) ho
    · refine fun u hu => hb u ?_
      show upd z.H a _ b = some u
      rw [upd_ne e]; exact hu
theorem ok_stC {n : Nat} {a : Addr} {c c' : C} {o : HO} (ok : Ok K q z) (h : z.G[n]? = some (some c)) (ha : z.μ[n]? = some a) (ho : ∀ ps, o ≠ .tbl ps) (hv : ∀ z' : Z, Mv K q z z' → z'.H a = some o → HasC K q z' c' a) : Ok K q (z.stC n a c' o) := by
  have e := ext_stC (c' := c') (o := o) ok h ha ho
  obtain ⟨a0, g1, g2, g4⟩ := ok.cells n c h
  rw [ha] at g1; cases g1
  obtain ⟨u0, hu0, hc0⟩ := g2.at
  refine ⟨by show z.μ.length = (z.G.set n _).length; rw [List.length_set]; exact ok.len, fun m es hm => ?_, fun m k es fs x h1 h2 h3 h4 => ?_, fun b hb => ?_, tabs_wr hu0 hc0 ok.tabs⟩
  · have hm : (z.G.set n (some c'))[m]? = some (some es) := hm
    by_cases em : n = m
    · subst em
      rw [List.getElem?_set_self (List.getElem?_eq_some_iff.mp h).1] at hm
      cases hm
      exact ⟨a, ha, hv _ (e.mv ok) upd_same, g4⟩
    · rw [List.getElem?_set_ne em] at hm
      obtain ⟨b, k1, k2, k4⟩ := ok.cells m es hm
      refine ⟨b, k1, k2.mvAt (e.mv ok) (fun u hu _ => ?_), k4⟩
      show upd z.H a _ b = _
      rw [upd_ne (fun eb => em (ok.inj n m c es a h hm ha (by rw [← eb]; exact k1)))]
      exact hu
  · have get : ∀ (m : Nat) (es : C), (z.G.set n (some c'))[m]? = some (some es) → ∃ es', z.G[m]? = some (some es') := fun m es hm => by
      by_cases em : n = m
      · subst em; exact ⟨c, h⟩
      · rw [List.getElem?_set_ne em] at hm; exact ⟨es, hm⟩
    obtain ⟨e1, h1⟩ := get m es h1
    obtain ⟨e2, h2⟩ := get k fs h2
    exact ok.inj m k e1 e2 x h1 h2 h3 h4
  · obtain ⟨us, hu⟩ := ok.blk b hb
    refine ⟨us, ?_⟩
    show upd z.H a _ b = _
    rw [upd_ne (fun eb => g4 (by rw [← eb]; exact hb))]; exact hu
theorem cell_at {n : Nat} {v : V} {c : C} (ok : Ok K q z) (hv : Has K q z (.cell n) v) (h : z.G[n]? = some (some c)) : ∃ a, v = .ref a ∧ z.μ[n]? = some a ∧ HasC K q z c a := by
  simp only [Has] at hv
  obtain ⟨a, ea, hua⟩ := hv
  obtain ⟨a', g1, g2, g4⟩ := ok.cells n c h
  rw [hua] at g1; cases g1
  exact ⟨a, ea, hua, g2⟩

/-! ### keys -/
mutual
theorem has_key {pins : List (Addr × Obj)} {σ : L2.St} {s : Shared} (I : L2.Inv X pins σ z.H s) : ∀ (d : D) (k : NestedKey) (v : V) (u : Value), toKey d = some k → Has X.K q z d v → RelV v u → NestedIs s.heap k u
  | .non, k, v, u, e, h, r => by
    simp only [toKey, Option.some.injEq] at e
    subst e
    rw [h.of_non] at r
    rw [show u = Value.none from r]
    exact .none
  | .bl b, k, v, u, e, h, r => by
    simp only [toKey, Option.some.injEq] at e
    subst e
    rw [h.of_bl] at r
    rw [show u = Value.bool b from r]
    exact .bool rfl
  | .int i, k, v, u, e, h, r => by
    simp only [toKey, Option.some.injEq] at e
    subst e
    rw [h.of_int] at r
    obtain ⟨t, rfl⟩ := r
    exact .int i t
  | .str i, k, v, u, e, h, r => by
    simp only [toKey, Option.some.injEq] at e
    subst e
    rw [h.of_str] at r
    obtain ⟨t, rfl⟩ := r
    exact .text i t
  | .tup l, k, v, u, e, h, r => by
    simp only [toKey] at e
    split at e
    · rename_i ks hks
      cases e
      simp only [Has] at h
      obtain ⟨a, vs, rfl, h1, h2⟩ := h
      rw [show u = Value.ref a from r]
      obtain ⟨its, rv, pl, hz⟩ := I.tuple h1
      obtain ⟨o, ho, hc, n, hd⟩ := pl
      exact .tup ho hc hd (has_keys I l ks vs its hks h2 rv)
    · cases e
  | .lst l, k, v, u, e, h, r => by simp [toKey] at e
  | .frz l, k, v, u, e, h, r => by simp [toKey] at e
  | .cell l, k, v, u, e, h, r => by simp [toKey] at e
  | .lam l, k, v, u, e, h, r => by simp [toKey] at e
  | .dct _ _, k, v, u, e, h, r => by simp [toKey] at e
theorem has_keys {pins : List (Addr × Obj)} {σ : L2.St} {s : Shared} (I : L2.Inv X pins σ z.H s) : ∀ (l : List D) (ks : List NestedKey) (vs : List V) (us : List Value), toKeys l = some ks → HasL X.K q z l vs → Vals vs us → NestedAll s.heap ks us
  | [], ks, vs, us, e, h, r => by
    simp only [toKeys, Option.some.injEq] at e
    subst e
    have := h.nil_inv
    subst this
    cases r
    exact .nil
  | d :: l, ks, vs, us, e, h, r => by
    simp only [toKeys] at e
    split at e
    · rename_i p ps h1 h2
      cases e
      obtain ⟨v, vr, rfl, g1, g2⟩ := h.cons_inv
      cases r with
      | cons r1 r2 => exact .cons (has_key I d p v _ h1 g1 r1) (has_keys I l ps vr _ h2 g2 r2)
    · cases e
end
theorem keyT_tup {d : D} {k : NestedKey} (h : keyT d = some k) : toKey d = some k ∧ k.depth ≤ 8 ∧ ∃ l, d = .tup l := by
  unfold keyT at h
  split at h
  · rename_i l
    split at h
    · rename_i ks hks
      split at h
      · rename_i hd
        cases h
        exact ⟨by simp only [toKey, hks], hd, l, rfl⟩
      · cases h
    · cases h
  · cases h
theorem key_is {pins : List (Addr × Obj)} {σ : L2.St} {s : Shared} (I : L2.Inv X pins σ z.H s) {d : D} {k : NestedKey} {a : Addr} (h : keyT d = some k) (hv : Has X.K q z d (.ref a)) {P : Program} {w : World} : (nestedKind P w).is s.heap k a := by
  obtain ⟨h1, h2, _⟩ := keyT_tup h
  exact ⟨has_key I d k (.ref a) (.ref a) h1 hv rfl, h2⟩
theorem keyed_cons {d : D} {ds : List D} {k : NestedKey} {ks : List NestedKey} (h : Keyed (d :: ds) (k :: ks)) : keyT d = some k ∧ Keyed ds ks := by
  unfold Keyed at h
  rw [List.map_cons, List.map_cons] at h
  injection h with h1 h2
  exact ⟨h1, h2⟩
theorem keyed_all {pins : List (Addr × Obj)} {σ : L2.St} {s : Shared} (I : L2.Inv X pins σ z.H s) {P : Program} {w : World} : ∀ (ks : List D) (xs : List (NestedKey × Addr × Value)), Keyed ks (xs.map (·.1)) → HasL X.K q z ks (xs.map fun x => V.ref x.2.1) → ∀ x ∈ xs, (nestedKind P w).is s.heap x.1 x.2.1
  | [], [], _, _ => fun x hx => (nomatch hx)
  | [], _ :: _, h, _ => by simp [Keyed] at h
  | _ :: _, [], h, _ => by simp [Keyed] at h
  | d :: ds, x :: xs, h, hv => fun y hy => by
    obtain ⟨h1, h2⟩ := keyed_cons (ks := xs.map (·.1)) h
    obtain ⟨v, vr, e, g1, g2⟩ := hv.cons_inv
    rw [List.map_cons] at e
    injection e with e1 e2
    subst e1 e2
    rcases List.mem_cons.mp hy with rfl | hy
    · exact key_is I h1 g1
    · exact keyed_all I ds xs h2 g2 y hy
theorem isKey_eq {d : D} {k k' : NestedKey} (h : keyT d = some k) : isKey k' d = decide (k = k') := by
  unfold isKey
  rw [h, NestedKey.decide_eq]
/-- what a look-up finds -/
theorem get_at : ∀ (k : NestedKey) (ks vs : List D) (xs : List (NestedKey × Addr × Value)) (us : List V), Keyed ks (xs.map (·.1)) → Vals us (xs.map (·.2.2)) → HasL K q z vs us →
    (∀ d, getK k ks vs = some d → ∃ p x, atKey xs k = some p ∧ RelV x p.2 ∧ Has K q z d x) ∧ (getK k ks vs = none → atKey xs k = none)
  | k, [], vs, [], us, _, r, h => ⟨fun d e => by cases vs <;> simp [getK] at e, fun _ => rfl⟩
  | k, [], _, _ :: _, _, h, _, _ => by simp [Keyed] at h
  | k, _ :: _, _, [], _, h, _, _ => by simp [Keyed] at h
  | k, d :: ds, vs, x :: xs, us, h, r, hv => by
    obtain ⟨h1, h2⟩ := keyed_cons (ks := xs.map (·.1)) h
    cases r with
    | @cons u w us' ws' r1 r2 =>
      cases vs with
      | nil => have := hv.nil_inv; cases this
      | cons v vs =>
        obtain ⟨v', vr, e, g1, g2⟩ := hv.cons_inv
        cases e
        have ih := get_at k ds vs xs us' h2 r2 g2
        unfold getK
        rw [isKey_eq (k' := k) h1]
        by_cases e : x.1 = k
        · rw [if_pos (decide_eq_true e)]
          refine ⟨fun d' e' => ?_, fun e' => nomatch e'⟩
          cases e'
          exact ⟨x.2, u, by simp [atKey, e], r1, g1⟩
        · rw [if_neg (by simpa using e)]
          have e2 : atKey (x :: xs) k = atKey xs k := by simp [atKey, e]
          rw [e2]
          exact ih
theorem put_at : ∀ (k : NestedKey) (dv : D) (ks vs : List D) (xs : List (NestedKey × Addr × Value)) (us : List V) (v : V) (w : Value), Keyed ks (xs.map (·.1)) → Vals us (xs.map (·.2.2)) → HasL K q z vs us → RelV v w → Has K q z dv v →
    ∃ us', Vals us' ((xs.map (putAt k w)).map (·.2.2)) ∧ HasL K q z (putK k dv ks vs) us'
  | k, dv, [], vs, [], us, v, w, _, r, h, _, _ => ⟨us, r, by
      cases vs with
      | nil => exact h
      | cons a b => obtain ⟨_, _, e, _⟩ := h.cons_inv; subst e; cases r⟩
  | k, dv, [], _, _ :: _, _, _, _, h, _, _, _, _ => by simp [Keyed] at h
  | k, dv, _ :: _, _, [], _, _, _, h, _, _, _, _ => by simp [Keyed] at h
  | k, dv, d :: ds, vs, x :: xs, us, v, w, h, r, hv, rw', hd => by
    obtain ⟨h1, h2⟩ := keyed_cons (ks := xs.map (·.1)) h
    cases r with
    | @cons u w' us' ws' r1 r2 =>
      cases vs with
      | nil => have := hv.nil_inv; cases this
      | cons v0 vs =>
        obtain ⟨v', vr, e, g1, g2⟩ := hv.cons_inv
        cases e
        obtain ⟨us2, k1, k2⟩ := put_at k dv ds vs xs us' v w h2 r2 g2 rw' hd
        unfold putK
        rw [isKey_eq (k' := k) h1]
        by_cases e : x.1 = k
        · rw [if_pos (decide_eq_true e)]
          refine ⟨v :: us2, ?_, HasL.cons hd k2⟩
          have : putAt k w x = (x.1, x.2.1, w) := by simp [putAt, e]
          rw [List.map_cons, List.map_cons, this]
          exact .cons rw' k1
        · rw [if_neg (by simpa using e)]
          refine ⟨u :: us2, ?_, HasL.cons g1 k2⟩
          have : putAt k w x = x := by simp [putAt, e]
          rw [List.map_cons, List.map_cons, this]
          exact .cons r1 k1
theorem put_keys (k : NestedKey) (w : Value) (xs : List (NestedKey × Addr × Value)) : (xs.map (putAt k w)).map (·.1) = xs.map (·.1) ∧ (xs.map (putAt k w)).map (fun x => V.ref x.2.1) = xs.map fun x => V.ref x.2.1 := by
  refine ⟨?_, ?_⟩ <;> rw [List.map_map] <;> refine List.map_congr_left fun x _ => ?_
  · show (putAt k w x).1 = x.1
    unfold putAt; split <;> rfl
  · show V.ref (putAt k w x).2.1 = V.ref x.2.1
    unfold putAt; split <;> rfl
theorem dict_of {pins : List (Addr × Obj)} {σ : L2.St} {s : Shared} (I : L2.Inv X pins σ z.H s) (hP : q.P = X.prog) (hW : q.W = X.w) {ks vs : List D} {a : Addr} (h : HasC X.K q z (.dct ks vs) a) :
    ∃ o xs us, z.H a = some (DictO a o) ∧ DictRep q a o xs ∧ s.heap.DictOfH (nestedKind X.prog X.w) a xs ∧ Keyed ks (xs.map (·.1)) ∧ HasL X.K q z ks (xs.map fun x => V.ref x.2.1) ∧ Vals us (xs.map (·.2.2)) ∧ HasL X.K q z vs us ∧ xs.length = ks.length ∧ (a == sysModules) = false := by
  obtain ⟨o, xs, us, h1, h2, h3, h4, h5, h6⟩ := h
  obtain ⟨es, ep, e1, e2, e3, e4, e5, e6⟩ := id h2
  rw [hP, hW] at e3
  exact ⟨o, xs, us, h1, h2, ⟨o, es, ep, (I.hok a _ h1).1, e1, e2, e3, keyed_all I ks xs h3 h4, e4⟩, h3, h4, h5, h6, by have := h4.len; simpa using this, e6⟩

/-! ### stores -/
def rSetC (K : PySem.W.Frag) (q : Par) : TSet := fun o i v H Q => ∃ (z : Z) (dx dy dv : D) (G4 : Gs), z.H = H ∧ Ok K q z ∧ Has K q z dx o ∧ Has K q z dy i ∧ Has K q z dv v ∧ setD z.G dx dy dv = some G4 ∧ ∀ z' : Z, z'.G = G4 → Ok K q z' → Ext z z' → Q z'.H
theorem nroom (hu : X.A.units + 64 < cLine) : (nestedKind X.prog X.w).room X.A.in1 := by
  show X.A.units + 1 + 8 < cLine
  omega
theorem set_C (hu : X.A.units + 64 < cLine) (hP : q.P = X.prog) (hW : q.W = X.w) : PSet X (rSetC X.K q) := by
  intro pins s σ H o i v ov iv u Q I ro ri rv h
  obtain ⟨z, dx, dy, dv, G4, rfl, ok, ho, hi, hv, hG, hQ⟩ := h
  unfold setD at hG
  split at hG
  · rename_i n k
    split at hG
    · rename_i l hl
      split at hG <;> cases hG
      rename_i j hj
      obtain ⟨a, rfl, hua, vs, g2, g3⟩ := cell_at ok ho hl
      refine set_list pins s σ _ _ _ v ov iv u Q I ro ri rv ⟨a, vs, k, j, rfl, hi.of_int, g2, by rw [g3.len]; exact hj, ?_⟩
      exact hQ (z.stC n a (.lst (l.set j dv)) (.lst (vs.set j v))) rfl (ok_stC ok hl hua (fun _ x => nomatch x) fun z' m hp => ⟨_, hp, HasL.mv m _ _ (g3.set hv j)⟩) (ext_stC ok hl hua (fun _ x => nomatch x))
    · cases hG
  · rename_i n t
    split at hG
    · rename_i ks vs hl
      split at hG
      · rename_i k hk
        split at hG <;> cases hG
        rename_i hsz
        obtain ⟨a, rfl, hua, hc⟩ := cell_at ok ho hl
        obtain ⟨ob, xs, us, g1, g2, hm, g3, g4, g5, g6, hlen, lo⟩ := dict_of I hP hW hc
        obtain ⟨b, tv, rfl, _⟩ := hi.ref_of_tup
        rw [show ov = Value.ref a from ro, show iv = Value.ref b from ri]
        refine wpAny_setItem_heap (nroom hu) (key_is I hk hi) hm (fun h' hm' hs => ?_) (by omega)
        obtain ⟨ob', es', ep', f1, f2, f3, f4, f5, f6⟩ := hm'
        -- the new entries
        obtain ⟨us', n1, n2, n3, n4⟩ : ∃ us', Keyed (storeK k (.tup t) dv ks vs).1 ((storedH xs k b u).map (·.1)) ∧ HasL X.K q z (storeK k (.tup t) dv ks vs).1 ((storedH xs k b u).map fun x => V.ref x.2.1) ∧ Vals us' ((storedH xs k b u).map (·.2.2)) ∧ HasL X.K q z (storeK k (.tup t) dv ks vs).2 us' := by
          obtain ⟨l1, l2⟩ := get_at (z := z) (q := q) (K := X.K) k ks vs xs us g3 g5 g6
          unfold storeK
          cases hg : getK k ks vs with
          | some d =>
            obtain ⟨p, x, a1, _⟩ := l1 d hg
            rw [storedH_old a1]
            obtain ⟨us', b1, b2⟩ := put_at (z := z) (q := q) (K := X.K) k dv ks vs xs us v u g3 g5 g6 rv hv
            refine ⟨us', ?_, ?_, b1, b2⟩
            · show Keyed ks _
              rw [(put_keys k u xs).1]; exact g3
            · show HasL X.K q z ks _
              rw [(put_keys k u xs).2]; exact g4
          | none =>
            rw [storedH_new (l2 hg)]
            refine ⟨us ++ [v], ?_, ?_, ?_, ?_⟩
            · show Keyed (ks ++ [.tup t]) _
              unfold Keyed at g3 ⊢
              rw [List.map_append, List.map_append, List.map_append, g3]
              simp [hk]
            · show HasL X.K q z (ks ++ [.tup t]) _
              rw [List.map_append]
              exact g4.app (HasL.cons hi HasL.nil)
            · rw [List.map_append]
              exact g5.append (.cons rv .nil)
            · show HasL X.K q z (vs ++ [dv]) _
              exact g6.app (HasL.cons hv HasL.nil)
        have hlen' : (storedH xs k b u).length ≤ sizeLine := by
          unfold storedH
          split
          · rw [List.length_map]; omega
          · rw [List.length_append, List.length_singleton]; omega
        have rep : DictRep q a ob' (storedH xs k b u) := ⟨es', ep', f2, f3, by rw [f4, hP, hW], f6, hlen', lo⟩
        have I' : L2.Inv X pins σ (upd z.H a (DictO a ob')) { s with heap := h', toks := s.toks + (nestedKind X.prog X.w).draws k } :=
          I.write (x := a) (e := a) (by rw [g1]; exact trivial) (.inl rfl) (fun b' u' hb hu' => (hs.2 b' hb).trans hu') ⟨_, f1⟩ ⟨f1, ⟨_, f1⟩, fun h1 h2 e1 e2 => e2 _ e1⟩
        refine ⟨_, I', ?_⟩
        exact hQ (z.stC n a (.dct (storeK k (.tup t) dv ks vs).1 (storeK k (.tup t) dv ks vs).2) (DictO a ob')) rfl
          (ok_stC ok hl hua (fun _ x => nomatch x) fun z' m hp => ⟨ob', _, us', hp, rep, n1, HasL.mv m _ _ n2, n3, HasL.mv m _ _ n4⟩) (ext_stC ok hl hua (fun _ x => nomatch x))
      · cases hG
    · cases hG
  · cases hG

/-! ### {} -/
theorem sd_dctC {pos : Pos} : Sd X q S (.Dict [] [] pos) .dctC := fun E tk => ⟨fun pins s σ H Q I ⟨z, ρ, hH, ok, rl, w⟩ => by
  subst hH
  have new : (s.heap.push { cls := .type "dict", data := .dict #[] }).get? s.heap.objs.size = some { cls := .type "dict", data := .dict #[] } := Heap.get?_push_size _ rfl
  refine wpAny_Dict_empty ⟨.ref s.heap.objs.size, _, I.laid (a := s.heap.objs.size) (o := DictO s.heap.objs.size { cls := .type "dict", data := .dict #[] }) (t' := s.toks) (fun _ _ q => Heap.get?_push_of_some _ q) (Nat.le_refl _) ⟨new, ⟨_, new⟩, fun h1 h2 e1 e2 => e2 _ e1⟩, rfl, ?_⟩
  have hp := I.hok.fresh (Nat.le_refl _)
  refine w (z.cell s.heap.objs.size (.dct [] []) (DictO s.heap.objs.size { cls := .type "dict", data := .dict #[] })) rfl (ok.cell hp fun z' m hp' => ⟨_, [], [], hp', ⟨#[], 0, ⟨rfl, rfl, rfl⟩, rfl, rfl, List.nodup_nil, Nat.zero_le _, beq_eq_false_iff_ne.mpr (Ne.symm (Nat.ne_of_lt I.big))⟩, rfl, HasL.nil, .nil, HasL.nil⟩) (Ext.cell ok hp) _ (has_cell ?_)
  show (z.μ ++ [_])[z.G.length]? = some _
  rw [← ok.len]; simp⟩

/-! ### d[k] -/
def rIxC (K : PySem.W.Frag) (q : Par) : R2 := fun x y H Q => ∃ (z : Z) (ks vs t : List D) (k : NestedKey) (c : D) (a : Addr), z.H = H ∧ Ok K q z ∧ x = .ref a ∧ HasC K q z (.dct ks vs) a ∧ Has K q z (.tup t) y ∧ keyT (.tup t) = some k ∧ getK k ks vs = some c ∧ Post K q z Q c
theorem ix_C (hu : X.A.units + 64 < cLine) (hP : q.P = X.prog) (hW : q.W = X.w) : IxR X (rIxC X.K q) := by
  intro value slice pins s σ H x y v u Q I rx ry h hs
  obtain ⟨z, ks, vs, t, k, c, a, rfl, ok, rfl, hc, hy, hk, hg, hp⟩ := h
  obtain ⟨ob, xs, us, g1, g2, hm, g3, g4, g5, g6, hlen, lo⟩ := dict_of I hP hW hc
  obtain ⟨b, tv, rfl, _⟩ := id hy.ref_of_tup
  rw [show v = Value.ref a from rx, show u = Value.ref b from ry] at hs ⊢
  obtain ⟨p, xv, a1, a2, a3⟩ := (get_at (z := z) (q := q) (K := X.K) k ks vs xs us g3 g5 g6).1 c hg
  refine tail_any (ops := [.ref a, .ref b]) hm.typeIs slot_dict_getitem.lookup ?_ hs
  exact wpAny_getItem_heap (nroom hu) (key_is I hk hy) hm a1 ⟨xv, z.H, I.tok _, a2, hp.at ok a3⟩

/-! ### d.get(k, x) -/
theorem dct_has {dx : D} {x : V} {p : List D × List D} (ok : Ok K q z) (hx : Has K q z dx x) (h : dctAt z.G dx = some p) : ∃ a, x = .ref a ∧ HasC K q z (.dct p.1 p.2) a := by
  cases dx <;> simp only [dctAt, reduceCtorEq] at h
  · rename_i n
    split at h
    · rename_i ks vs hl
      cases h
      obtain ⟨a, e, _, hc⟩ := cell_at ok hx hl
      exact ⟨a, e, hc⟩
    · cases h
  · rename_i ks vs
    cases h
    simp only [Has] at hx
    obtain ⟨a, o, xs, us, rfl, g1, g2, g3, g4, g5, g6, fr⟩ := hx
    exact ⟨a, rfl, o, xs, us, g1, g2, g3, g4, g5, g6⟩
theorem sd_dget {o e f : Expr} {mo me mf : E} {apos cpos : Pos} (hu : X.A.units + 64 < cLine) (hP : q.P = X.prog) (hW : q.W = X.w) (ho : Sd X q S o mo) (he : Sd X q S e me) (hf : Sd X q S f mf) (m : M2 X o "get" apos e f cpos) : Sd X q S (.Call (.Attribute o "get" apos) [e, f] [] cpos) (.dget mo me mf) := fun E tk => ⟨fun pins s σ H Q I ⟨z, ρ, hH, ok, rl, w⟩ => by
  subst hH
  refine wpAny_Call_method m.base m.few m.line PySem.F.plainAttrs_dict PySem.F.slot_dict_get PySem.F.type_dict_get (thn ((ho E tk).run pins s σ z.H (fun v H' => ∃ z1 dx, z1.H = H' ∧ Ok X.K q z1 ∧ RelS X.K q z1 ρ σ ∧ Has X.K q z1 dx v ∧ wp X.K q z1 (match dctAt z1.G dx with
    | some _ => (evE S ρ me z1.G).bind fun y G2 => (evE S ρ mf G2).bind fun e G3 => .of (getD2 G3 dx y e) G3
    | none => .bad) (PQ X.K q Q) E) I ⟨z, ρ, rfl, ok, rl, (wp.bind w).mono fun d z1 ok1 e1 w1 v hv => ⟨z1, d, rfl, ok1, rl.ext ok e1, hv, w1⟩⟩) fun u s1 ⟨x, H1, I1, rx, z1, dx, hz1, ok1, rl1, hx, w1⟩ => ?_)
  subst hz1
  split at w1
  · rename_i p hp
    obtain ⟨a, rfl, hc⟩ := dct_has ok1 hx hp
    obtain ⟨ob, xs, us, g1, g2, hm, _⟩ := dict_of I1 hP hW hc
    rw [show u = Value.ref a from rx]
    refine ⟨hm.typeIs, fun b q => ?_, ?_⟩
    · cases q
      obtain ⟨ob, _, _, h1, h2, _⟩ := hm
      exact ⟨ob, h1, h2.2.1⟩
    rw [m.trees]
    refine Calls.callWith_builtin rfl (Calls.evalArgs_plain (Calls.spliced_cons (thn ((he E tk).run pins s1 σ z1.H (fun v H' => ∃ z2 dy, z2.H = H' ∧ Ok X.K q z2 ∧ RelS X.K q z2 ρ σ ∧ Has X.K q z2 dx (.ref a) ∧ Has X.K q z2 dy v ∧ wp X.K q z2 ((evE S ρ mf z2.G).bind fun e G3 => .of (getD2 G3 dx dy e) G3) (PQ X.K q Q) E) I1 ⟨z1, ρ, rfl, ok1, rl1, (wp.bind w1).mono fun d z2 ok2 e2 w2 v hv => ⟨z2, d, rfl, ok2, rl1.ext ok1 e2, Has.ext ok1 e2 _ _ hx, hv, w2⟩⟩) fun iv s2 ⟨y, H2, I2, ry, z2, dy, hz2, ok2, rl2, hx2, hy, w2⟩ => ?_)))
    subst hz2
    refine Calls.spliced_cons (thn ((hf E tk).run pins s2 σ z2.H (fun v H' => ∃ z3 de, z3.H = H' ∧ Ok X.K q z3 ∧ Has X.K q z3 dx (.ref a) ∧ Has X.K q z3 dy y ∧ Has X.K q z3 de v ∧ wp X.K q z3 (.of (getD2 z3.G dx dy de) z3.G) (PQ X.K q Q) E) I2 ⟨z2, ρ, rfl, ok2, rl2, (wp.bind w2).mono fun d z3 ok3 e3 w3 v hv => ⟨z3, d, rfl, ok3, Has.ext ok2 e3 _ _ hx2, Has.ext ok2 e3 _ _ hy, hv, w3⟩⟩) fun fv s3 ⟨zv, H3, I3, rz, z3, de, hz3, ok3, hx3, hy3, he3, w3⟩ => Calls.spliced_nil ?_)
    subst hz3
    obtain ⟨c, hc3, hp3⟩ := wp.of w3
    replace hp3 : Post X.K q z3 Q c := hp3
    unfold getD2 at hc3
    simp only [Option.bind_eq_some_iff, Option.map_eq_some_iff] at hc3
    obtain ⟨p3, hd3, k, hk, rfl⟩ := hc3
    obtain ⟨a', e', hcc⟩ := dct_has ok3 hx3 hd3
    cases e'
    obtain ⟨ob3, xs3, us3, k1, k2, hm3, k3, k4, k5, k6, klen, lo⟩ := dict_of I3 hP hW hcc
    obtain ⟨_, _, l, rfl⟩ := keyT_tup hk
    obtain ⟨b, tv, rfl, _⟩ := id hy3.ref_of_tup
    rw [show iv = Value.ref b from ry]
    refine call_meetsIn PySem.F.slot_dict_get hm3.typeIs PySem.F.entry_dict_get (PySem.F.args_dict_get_3 _ _ _) (meetsH_dict_get_default (nestedKind X.prog X.w) a b lo fv) ⟨nroom hu, k, xs3, key_is I3 hk hy3, hm3, ?_⟩
    obtain ⟨l1, l2⟩ := get_at (z := z3) (q := q) (K := X.K) k p3.1 p3.2 xs3 us3 k3 k5 k6
    cases hg : getK k p3.1 p3.2 with
    | some d =>
      obtain ⟨p, xv, a1, a2, a3⟩ := l1 d hg
      rw [a1]
      rw [hg] at hp3
      exact ⟨xv, z3.H, I3.tok _, a2, hp3.at ok3 a3⟩
    | none =>
      rw [l2 hg]
      rw [hg] at hp3
      exact ⟨zv, z3.H, I3.tok _, rz, hp3.at ok3 he3⟩
  · exact w1.elim⟩

/-! ### isinstance(x, tuple) -/
theorem isT_val {d : D} {b : Bool} {x : V} {H : Hp} (hH : z.H = H) (h : isTupD d = some b) (hx : Has K q z d x) : ∃ t, TyX K H x t ∧ PySem.W.kitOne K t (.type "tuple") = some b := by
  subst hH
  cases d <;> simp only [isTupD, reduceCtorEq, Option.some.injEq] at h
  · subst h; rw [hx.of_non]; exact ⟨_, .base .non, kit_ty (by decide +kernel)⟩
  · subst h; rw [hx.of_int]; exact ⟨_, .base (.int _), kit_ty (by decide +kernel)⟩
  · subst h; rw [hx.of_str]; exact ⟨_, .base (.str _), kit_ty (by decide +kernel)⟩
  · subst h
    obtain ⟨a, vs, rfl, h1, _⟩ := hx.ref_of_tup
    rcases h1 with (h1 | ⟨ob, h1⟩) | h1
    · exact ⟨_, .base (.tup h1), kit_ty (by decide +kernel)⟩
    · exact ⟨_, .fTuple h1, kit_ty (by decide +kernel)⟩
    · obtain ⟨o, its, n, h1, h2, _⟩ := h1
      exact ⟨_, .kTuple h1 h2, kit_ty (by decide +kernel)⟩
  · subst h
    obtain ⟨a, vs, rfl, h1, _, _⟩ := hx.of_lst
    exact ⟨_, .base (.lst h1), kit_ty (by decide +kernel)⟩
theorem sd_isTup {a : Expr} {ma : E} {p p2 pos : Pos} (hg : Gl X "isinstance") (hm : X.mg "isinstance" = none) (hg2 : Gl X "tuple") (hm2 : X.mg "tuple" = none) (ha : Sd X q S a ma) (he1 : starEach (.Name "tuple" p2 :: []) X.env = (false, eval (.Name "tuple" p2) X.env) :: starEach [] X.env := by rfl) (he2 : starEach (a :: [.Name "tuple" p2]) X.env = (false, eval a X.env) :: starEach [.Name "tuple" p2] X.env := by rfl) (hpl : (backTo pos (starEach [.Name "tuple" p2] X.env)).any (·.1) = false := by rfl) :
    Sd X q S (.Call (.Name "isinstance" p) [a, .Name "tuple" p2] [] pos) (.isTup ma) := fun E tk =>
  pe_imp (pe_callB call_isi hg hm (by decide +kernel) (pa_cons (ha E tk) (pa_cons (pe_bltn (v := .ty "tuple") hg2 hm2 (by decide +kernel) rfl) pa_nil he1) he2) (by decide) (by decide) he2 hpl) fun σ H Q ⟨z, ρ, hH, ok, rl, w⟩ => ⟨z, ρ, hH, ok, rl, (wp.bind w).mono fun d z1 ok1 e1 w1 v hv => by
    obtain ⟨c, hc, hp⟩ := wp.of w1
    replace hp : Post X.K q z1 Q c := hp
    simp only [Option.map_eq_some_iff] at hc
    obtain ⟨b, hb, rfl⟩ := hc
    obtain ⟨t, h1, h2⟩ := isT_val rfl hb hv
    exact ⟨v, .ty "tuple", t, .type "tuple", b, rfl, .ty "tuple", h1, h2, hp.at ok1 Has.bl⟩⟩

/-! ### tuple(range(n)), list(range(n)) -/
theorem rgV_has (j : Int) : HasL K q z (rangeD 0 j) (rgV 0 j) := by
  have : rgV 0 j = (List.range (j - 0).toNat).map fun (k : Nat) => V.int (0 + (k : Int)) := rfl
  rw [this]
  unfold rangeD
  generalize (List.range (j - 0).toNat) = l
  induction l with
  | nil => exact HasL.nil
  | cons a l ih => exact HasL.cons Has.int ih
theorem sd_rngT {a : Expr} {ma : E} {p p2 pos pos2 : Pos} (hc : X.calm = true) (hg : Gl X "range") (hm : X.mg "range" = none) (hg2 : Gl X "tuple") (hm2 : X.mg "tuple" = none) (ha : Sd X q S a ma) (na : starEach [a] X.env = (false, eval a X.env) :: starEach [] X.env := by rfl) (na2 : starEach [.Call (.Name "range" p) [a] [] pos] X.env = (false, eval (.Call (.Name "range" p) [a] [] pos) X.env) :: starEach [] X.env := by rfl) :
    Sd X q S (.Call (.Name "tuple" p2) [.Call (.Name "range" p) [a] [] pos] [] pos2) (.rngT ma) := fun E tk =>
  pe_imp (pe_tupRg hc hg2 hm2 (prg_1 hg hm (ha E tk) na) na2) fun σ H Q ⟨z, ρ, hH, ok, rl, w⟩ => ⟨z, ρ, hH, ok, rl, (wp.bind w).mono fun d z1 ok1 e1 w1 v hv => by
    cases d with
    | int j =>
      have w1 : wp X.K q z1 (if -(2 ^ 62) ≤ j ∧ j ≤ 100000 then R.ok (.tup (rangeD 0 j)) z1.G else .bad) (PQ X.K q Q) E := w1
      split at w1
      · rename_i hb
        refine ⟨j, hv.of_int, ⟨by omega, by omega, by omega, by omega, by omega⟩, fun p hp => ?_⟩
        exact w1 (z1.put p (.tup (rgV 0 j))) rfl (ok1.put hp) (Ext.put hp) _ (put_tup ok1 hp (rgV_has j))
      · exact w1.elim
    | _ => exact w1.elim⟩
theorem sd_rngL {a : Expr} {ma : E} {p p2 pos pos2 : Pos} (hc : X.calm = true) (hg : Gl X "range") (hm : X.mg "range" = none) (hg2 : Gl X "list") (hm2 : X.mg "list" = none) (ha : Sd X q S a ma) (na : starEach [a] X.env = (false, eval a X.env) :: starEach [] X.env := by rfl) (na2 : starEach [.Call (.Name "range" p) [a] [] pos] X.env = (false, eval (.Call (.Name "range" p) [a] [] pos) X.env) :: starEach [] X.env := by rfl) :
    Sd X q S (.Call (.Name "list" p2) [.Call (.Name "range" p) [a] [] pos] [] pos2) (.rngL ma) := fun E tk =>
  pe_imp (pe_listRg hc hg2 hm2 (prg_1 hg hm (ha E tk) na) na2) fun σ H Q ⟨z, ρ, hH, ok, rl, w⟩ => ⟨z, ρ, hH, ok, rl, (wp.bind w).mono fun d z1 ok1 e1 w1 v hv => by
    cases d with
    | int j =>
      have w1 : wp X.K q z1 (if -(2 ^ 62) ≤ j ∧ j ≤ 100000 then R.ok (.lst (rangeD 0 j)) z1.G else .bad) (PQ X.K q Q) E := w1
      split at w1
      · rename_i hb
        refine ⟨j, hv.of_int, ⟨by omega, by omega, by omega, by omega, by omega⟩, fun p hp => ?_⟩
        exact w1 (z1.put p (.lst (rgV 0 j))) rfl (ok1.put hp) (Ext.put hp) _ (put_lst ok1 hp (rgV_has j))
      · exact w1.elim
    | _ => exact w1.elim⟩
/-- what is never reached -/
theorem sd_bad {e : Expr} : Sd X q S e .bad := fun E tk => ⟨fun pins s σ H Q I ⟨z, ρ, hH, ok, rl, w⟩ => w.elim⟩
end
end PV
end
/-! ## PV6 -/
section
set_option Elab.async false
set_option linter.all false
set_option maxRecDepth 100000
set_option maxHeartbeats 4000000
/-! The rules: statements, defs. -/
namespace PV
open PySem L2 LamX PyProof.Rows
section
variable {X : Cx} {q : Par} {S : PV.Sem} {K : PySem.W.Frag} {z z' : Z}

def wpF (K : PySem.W.Frag) (q : Par) (z : Z) (f : F) (D : Ends) (E : XK) : Prop := match f with
  | .next ρ' G' => ∀ z' σ', z'.G = G' → Ok K q z' → Ext z z' → RelS K q z' ρ' σ' → D.nx σ' z'.H
  | .brk ρ' G' => ∀ z' σ', z'.G = G' → Ok K q z' → Ext z z' → RelS K q z' ρ' σ' → D.bk σ' z'.H
  | .cont ρ' G' => ∀ z' σ', z'.G = G' → Ok K q z' → Ext z z' → RelS K q z' ρ' σ' → D.ct σ' z'.H
  | .ret d G' => ∀ z' v, z'.G = G' → Ok K q z' → Ext z z' → Has K q z' d v → D.rt v z'.H
  | .exc c G' => ∀ z' : Z, z'.G = G' → Ok K q z' → Ext z z' → E (q.cls c) none z'.H
  | .bad => False
theorem wpF.ext {f : F} {D : Ends} {E : XK} (e : Ext z z') (h : wpF K q z f D E) : wpF K q z' f D E := by
  cases f with
  | next ρ' G' => exact fun w σ' hw o e' r => h w σ' hw o (e.trans e') r
  | brk ρ' G' => exact fun w σ' hw o e' r => h w σ' hw o (e.trans e') r
  | cont ρ' G' => exact fun w σ' hw o e' r => h w σ' hw o (e.trans e') r
  | ret d G' => exact fun w v hw o e' r => h w v hw o (e.trans e') r
  | exc c G' => exact fun w hw o e' => h w hw o (e.trans e')
  | bad => exact h
theorem wpF.go {α : Type} {r : R α} {f : α → Gs → F} {D : Ends} {E : XK} (h : wpF K q z (r.go f) D E) : wp K q z r (fun a z' => wpF K q z' (f a z'.G) D E) E := by
  cases r with
  | ok a G' =>
    intro w hw o e
    subst hw
    exact wpF.ext e h
  | exc c G' => exact h
  | bad => exact h
def rdS (K : PySem.W.Frag) (q : Par) (S : PV.Sem) (E : XK) (m : PV.St) : TS := fun D σ H => ∃ z ρ, z.H = H ∧ Ok K q z ∧ RelS K q z ρ σ ∧ wpF K q z (evS S m ρ z.G) D E
def rdB (K : PySem.W.Frag) (q : Par) (S : PV.Sem) (E : XK) (ms : List PV.St) : TS := fun D σ H => ∃ z ρ, z.H = H ∧ Ok K q z ∧ RelS K q z ρ σ ∧ wpF K q z (evB S ms ρ z.G) D E
def SdS (X : Cx) (q : Par) (S : PV.Sem) (st : Stmt) (m : PV.St) : Prop := ∀ E : XK, Tk X E → PS X st (rdS X.K q S E m)
def SdB (X : Cx) (q : Par) (S : PV.Sem) (sts : List Stmt) (ms : List PV.St) : Prop := ∀ E : XK, Tk X E → PSs X sts (rdB X.K q S E ms)
theorem sb_nil : SdB X q S [] [] := fun E tk => pss_imp pss_nil fun D σ H ⟨z, ρ, hH, ok, rl, w⟩ => by
  subst hH
  exact w z σ rfl ok (Ext.refl z) rl
theorem sb_cons {st : Stmt} {rest : List Stmt} {m : PV.St} {ms : List PV.St} (h : SdS X q S st m) (t : SdB X q S rest ms) : SdB X q S (st :: rest) (m :: ms) := fun E tk =>
  pss_imp (pss_cons (h E tk) (t E tk)) fun D σ H ⟨z, ρ, hH, ok, rl, w⟩ => by
    refine ⟨z, ρ, hH, ok, rl, ?_⟩
    have w : wpF X.K q z ((evS S m ρ z.G).then fun ρ' G' => evB S ms ρ' G') D E := w
    cases hr : evS S m ρ z.G with
    | next ρ' G' =>
      rw [hr] at w
      intro z1 σ1 hG ok1 e1 rl1
      subst hG
      exact ⟨z1, ρ', rfl, ok1, rl1, wpF.ext e1 w⟩
    | brk ρ' G' => rw [hr] at w; exact w
    | cont ρ' G' => rw [hr] at w; exact w
    | ret d G' => rw [hr] at w; exact w
    | exc c G' => rw [hr] at w; exact w
    | bad => rw [hr] at w; exact w
theorem ss_pass {pos : Pos} : SdS X q S (.Pass pos) .pass := fun E tk => ps_imp ps_pass fun D σ H ⟨z, ρ, hH, ok, rl, w⟩ => by
  subst hH
  exact w z σ rfl ok (Ext.refl z) rl
theorem ss_doc {x j pos pos'} : SdS X q S (.Expr (.Constant (.str x) j pos) pos') .pass := fun E tk => ps_imp ps_doc fun D σ H ⟨z, ρ, hH, ok, rl, w⟩ => by
  subst hH
  exact w z σ rfl ok (Ext.refl z) rl
theorem ss_ex {e : Expr} {m : PV.E} {pos : Pos} (h : Sd X q S e m) (hs : swapsWith e none pos.line X.env = pure false := by rfl) : SdS X q S (.Expr e pos) (.ex m) := fun E tk =>
  ps_imp (ps_expr (h E tk) hs) fun D σ H ⟨z, ρ, hH, ok, rl, w⟩ => ⟨z, ρ, hH, ok, rl, (wpF.go w).mono fun d z1 ok1 e1 w1 v hv => w1 z1 σ rfl ok1 (Ext.refl _) (rl.ext ok e1)⟩
theorem ss_ret {e : Expr} {m : PV.E} {pos : Pos} (h : Sd X q S e m) : SdS X q S (.Return (some e) pos) (.ret m) := fun E tk =>
  ps_imp (ps_ret (h E tk)) fun D σ H ⟨z, ρ, hH, ok, rl, w⟩ => ⟨z, ρ, hH, ok, rl, (wpF.go w).mono fun d z1 ok1 e1 w1 v hv => w1 z1 v rfl ok1 (Ext.refl _) hv⟩
theorem ss_if {c : Expr} {a b : List Stmt} {mc : PV.E} {ma mb : List PV.St} {pos : Pos} (hc : Td X q S c mc) (ha : SdB X q S a ma) (hb : SdB X q S b mb) : SdS X q S (.If c a b pos) (.ite mc ma mb) := fun E tk =>
  ps_imp (ps_if (hc E tk) (ha E tk) (hb E tk)) fun D σ H ⟨z, ρ, hH, ok, rl, w⟩ => ⟨z, ρ, hH, ok, rl, (wpF.go w).mono fun d z1 ok1 e1 w1 => by
    cases d with
    | bl b =>
      refine ⟨b, rfl, ?_⟩
      cases b with
      | true => exact ⟨z1, ρ, rfl, ok1, rl.ext ok e1, w1⟩
      | false => exact ⟨z1, ρ, rfl, ok1, rl.ext ok e1, w1⟩
    | _ => exact w1.elim⟩
theorem ss_set {tg e : Expr} {tgm : Tg} {m : PV.E} {pos : Pos} (hg : SdG X q tg tgm) (h : Sd X q S e m) (hs : swapsWithSole [tg] e pos.line X.env = pure false := by rfl) (hw : swappedStores [tg] e X.env = pure none := by rfl)
    (h1 : (assignEach [tg] X.env).map (·.2) = [PySem.assign tg X.env] := by rfl) : SdS X q S (.Assign [tg] e pos) (.set tgm m) := fun E tk =>
  ps_imp (ps_asg (h E tk) hg hs hw h1) fun D σ H ⟨z, ρ, hH, ok, rl, w⟩ => ⟨z, ρ, hH, ok, rl, (wpF.go w).mono fun d z1 ok1 e1 w1 v hv => by
    have w1 : wpF X.K q z1 (match PV.assign ρ tgm d with
      | some ρ' => F.next ρ' z1.G
      | none => F.bad) D E := w1
    split at w1
    · rename_i ρ' hρ
      exact ⟨z1, d, ρ, ρ', rfl, ok1, rl.ext ok e1, hv, hρ, fun σ' rl' _ => w1 z1 σ' rfl ok1 (Ext.refl _) rl'⟩
    · exact w1.elim⟩
/-- a, b = x, y: no tuple is made -/
theorem ss_par {i j : Nat} {x y : Str} {a b : Expr} {ma mb : PV.E} {px py pt pos : Pos} {kt k2 pt2} (hc : X.calm = true) (hN : X.N.Nodup) (ha : Sd X q S a ma) (hb : Sd X q S b mb) (hi : X.N[i]? = some x := by rfl) (hj : X.N[j]? = some y := by rfl) (hij : i ≠ j := by decide)
    (hx : X.env.scope.names.lookup x = some .local := by rfl) (hy : X.env.scope.names.lookup y = some .local := by rfl)
    (hw : swappedStores [.Tuple [.Name x px, .Name y py] kt pt] (.Tuple [a, b] k2 pt2) X.env = pure (some [x, y]) := by rfl)
    (hs : swapsWithSole [.Tuple [.Name x px, .Name y py] kt pt] (.Tuple [a, b] k2 pt2) pos.line X.env = pure false := by rfl)
    (he1 : starEach (b :: []) X.env = (false, eval b X.env) :: starEach [] X.env := by rfl) (he2 : starEach (a :: [b]) X.env = (false, eval a X.env) :: starEach [b] X.env := by rfl) :
    SdS X q S (.Assign [.Tuple [.Name x px, .Name y py] kt pt] (.Tuple [a, b] k2 pt2) pos) (.set (.tp [.nm i, .nm j]) (.tup [ma, mb])) := fun E tk =>
  ps_imp (ps_par hc hN hi hj hij hx hy (sda_cons ha (sda_cons hb sda_nil he1) he2 E tk) hw hs) fun D σ H ⟨z, ρ, hH, ok, rl, w⟩ => ⟨z, ρ, hH, ok, rl, by
    have w1 := wpF.go w
    refine (wp.bind w1).mono fun ds z1 ok1 e1 w2 vs hvs => ?_
    have w2 : wp X.K q z1 (if ds.length ≤ sizeLine then R.ok (PV.D.tup ds) z1.G else R.bad) _ E := w2
    split at w2
    · have w3 := w2 z1 rfl ok1 (Ext.refl _)
      have w3 : wpF X.K q z1 (match PV.assign ρ (.tp [.nm i, .nm j]) (.tup ds) with
        | some ρ' => F.next ρ' z1.G
        | none => F.bad) D E := w3
      have w3 : wpF X.K q z1 (match assignL ρ [.nm i, .nm j] ds with
        | some ρ' => F.next ρ' z1.G
        | none => F.bad) D E := by simpa only [PV.assign] using w3
      split at w3
      · rename_i ρ' hρ
        have hl := assignL_len hρ
        match ds, hl with
        | [d1, d2], _ =>
          obtain ⟨v, u, rfl, h1, h2⟩ := hvs.two
          simp only [assignL, PV.assign, Option.some.injEq] at hρ
          subst hρ
          exact ⟨v, u, rfl, w3 z1 _ rfl ok1 (Ext.refl _) (((rl.ext ok e1).set h1 i).set h2 j)⟩
      · exact w3.elim
    · exact w2.elim⟩
/-- name = [..], a comprehension -/
theorem ss_setLc {i : Nat} {y : Str} {py : Pos} {spos : Pos} {elt tg iter : Expr} {ifs : List Expr} {scope : Scope} {pos : Pos} {tgm : Tg} {it : PV.It} {mel : PV.E} {mcs : List PV.E} {ownm : List Nat} (own : List (Str × Nat)) (hc : X.calm = true) (hN : X.N.Nodup) (hi : SdI X q S tg iter it) (okb : BlkOk X.N X.env.scope scope own)
    (hg : ∀ (s : Shared) (H : Hp) (C : Addr) (cl : List (Str × Addr)) (fp : List Addr), SdG (X.blk s H scope (compEnvC scope cl C X.env) fp) q tg tgm) (ht : ∀ (s : Shared) (H : Hp) (C : Addr) (cl : List (Str × Addr)) (fp : List Addr), SdTs (X.blk s H scope (compEnvC scope cl C X.env) fp) q S ifs mcs)
    (he : ∀ (s : Shared) (H : Hp) (C : Addr) (cl : List (Str × Addr)) (fp : List Addr), Sd (X.blk s H scope (compEnvC scope cl C X.env) fp) q S elt mel) (hsw : swapsWith (.ListComp elt [⟨tg, iter, ifs, 0⟩] scope pos) (some (.Name y py)) spos.line X.env = pure true) (ho : ownm = own.map (·.2) := by rfl) (hsl : ∀ i ∈ slotsT tgm, i ∈ ownm := by decide)
    (hy : X.N[i]? = some y := by rfl) (hyl : X.env.scope.names.lookup y = some .local := by rfl) (hs : ∀ x, foldedSetIterable iter X.env x = pure x := by intro _; rfl) :
    SdS X q S (.Assign [.Name y py] (.ListComp elt [⟨tg, iter, ifs, 0⟩] scope pos) spos) (.set (.nm i) (.comp ownm mel tgm it mcs)) := fun E tk => by
  obtain ⟨wi, g, tt, te, h1, h2, h3, h4, h5⟩ := sd_comp (pos := pos) hc hN hi okb ho hsl hg ht he hs E tk
  refine ps_imp (ps_setLc hc hN hy hyl hsw h1 okb h2 h3 h4 hs) fun D σ H ⟨z, ρ, hH, ok, rl, w⟩ => h5 σ H _ ⟨z, ρ, hH, ok, rl, (wpF.go w).mono fun d z1 ok1 e1 w1 v hv => ?_⟩
  exact w1 z1 _ rfl ok1 (Ext.refl _) ((rl.ext ok e1).set hv i)

/-- name = [..], a comprehension of two fors -/
theorem ss_setLc2 {i : Nat} {y : Str} {py : Pos} {spos : Pos} {elt tg iter tg1 iter1 : Expr} {ifs1 : List Expr} {scope : Scope} {pos : Pos} {t1 t2 : Tg} {i1 i2 : PV.It} {mel : PV.E} {mcs : List PV.E} {ownm own2 : List Nat} (own : List (Str × Nat)) (hc : X.calm = true) (hN : X.N.Nodup) (hi : SdI X q S tg iter i1) (okb : BlkOk X.N X.env.scope scope own)
    (hg : ∀ (s : Shared) (H : Hp) (C : Addr) (cl : List (Str × Addr)) (fp : List Addr), SdG (X.blk s H scope (compEnvC scope cl C X.env) fp) q tg t1)
    (hi1 : ∀ (s : Shared) (H : Hp) (C : Addr) (cl : List (Str × Addr)) (fp : List Addr), SdI (X.blk s H scope (compEnvC scope cl C X.env) fp) q S tg1 iter1 i2)
    (hg1 : ∀ (s : Shared) (H : Hp) (C : Addr) (cl : List (Str × Addr)) (fp : List Addr), SdG (X.blk s H scope (compEnvC scope cl C X.env) fp) q tg1 t2)
    (ht : ∀ (s : Shared) (H : Hp) (C : Addr) (cl : List (Str × Addr)) (fp : List Addr), SdTs (X.blk s H scope (compEnvC scope cl C X.env) fp) q S ifs1 mcs)
    (he : ∀ (s : Shared) (H : Hp) (C : Addr) (cl : List (Str × Addr)) (fp : List Addr), Sd (X.blk s H scope (compEnvC scope cl C X.env) fp) q S elt mel) (hsw : swapsWith (.ListComp elt [⟨tg, iter, [], 0⟩, ⟨tg1, iter1, ifs1, 0⟩] scope pos) (some (.Name y py)) spos.line X.env = pure true)
    (ho : ownm = own.map (·.2) := by rfl) (hsl : ∀ i ∈ slotsT t1, i ∈ ownm := by decide) (hsl2 : ∀ i ∈ slotsT t2, i ∈ own2 := by decide) (hsub : ∀ i ∈ own2, i ∈ ownm := by decide)
    (hy : X.N[i]? = some y := by rfl) (hyl : X.env.scope.names.lookup y = some .local := by rfl) (hs : ∀ x, foldedSetIterable iter X.env x = pure x := by intro _; rfl) (hs1 : ∀ env x, foldedSetIterable iter1 env x = pure x := by intro _ _; rfl) :
    SdS X q S (.Assign [.Name y py] (.ListComp elt [⟨tg, iter, [], 0⟩, ⟨tg1, iter1, ifs1, 0⟩] scope pos) spos) (.set (.nm i) (.comp2 ownm own2 mel t1 i1 t2 i2 mcs)) := fun E tk => by
  obtain ⟨wi, g, wi1, g1, tt1, te, h1, h2, h3, h4, h5, h6, h7⟩ := sd_compB (pos := pos) hc hN hi okb ho hsl hsl2 hsub hg hi1 hg1 ht he E tk
  subst ho
  refine ps_imp (ps_setLc2 hc hN hy hyl hsw h1 okb hsub h2 (fun _ _ _ _ _ => pts_nil) h3 h4 h5 h6 hs hs1) fun D σ H ⟨z, ρ, hH, ok, rl, w⟩ => h7 σ H _ ⟨z, ρ, hH, ok, rl, (wpF.go w).mono fun d z1 ok1 e1 w1 v hv => ?_⟩
  exact w1 z1 _ rfl ok1 (Ext.refl _) ((rl.ext ok e1).set hv i)

/-! ### loops -/
theorem wpF.fin {f : F} {D D' : Ends} {E : XK} (h : wpF K q z f D E) (hn : ∀ σ' H', D.nx σ' H' → D'.nx σ' H') (hb : ∀ σ' H', D.bk σ' H' → D'.bk σ' H') (hc : ∀ σ' H', D.ct σ' H' → D'.ct σ' H') (hr : ∀ v H', D.rt v H' → D'.rt v H') : wpF K q z f D' E := by
  cases f with
  | next ρ' G' => exact fun w σ' hw o e' r => hn _ _ (h w σ' hw o e' r)
  | brk ρ' G' => exact fun w σ' hw o e' r => hb _ _ (h w σ' hw o e' r)
  | cont ρ' G' => exact fun w σ' hw o e' r => hc _ _ (h w σ' hw o e' r)
  | ret d G' => exact fun w v hw o e' r => hr _ _ (h w v hw o e' r)
  | exc c G' => exact h
  | bad => exact h
/-- one turn of a for -/
def turnF (S : PV.Sem) (t : Tg) (b : List PV.St) (d : PV.D) (ρ1 : Env) (G2 : Gs) : F := match PV.assign ρ1 t d with
  | some ρ2 => evB S b ρ2 G2
  | none => .bad
theorem ss_for {tg iter : Expr} {body : List Stmt} {tgm : Tg} {it : PV.It} {mb : List PV.St} {pos : Pos} (hp : PassesOwn (model X.prog X.w) X.A X.env X.xe) (hc : X.calm = true) (hi : SdI X q S tg iter it) (hg : SdG X q tg tgm) (hb : SdB X q S body mb)
    (hs : ∀ x, foldedSetIterable iter X.env x = pure x := by intro _; rfl) : SdS X q S (.For tg iter body [] pos) (.for_ tgm it mb) := fun E tk => by
  refine ps_imp (ps_for hp hc (hi E tk) hg (hb E tk) hs) fun D σ H ⟨z, ρ, hH, ok, rl, w⟩ => ⟨z, ρ, hH, ok, rl, (wpF.go w).mono fun ds z1 ok1 e1 w1 J I wk hI => ?_⟩
  have w1 : wpF X.K q z1 (forL (turnF S tgm mb) ds ρ z1.G) D E := w1
  refine ⟨fun i m σ' H' => m = ds.length - i ∧ i ≤ ds.length ∧ ∃ z' ρ', z'.H = H' ∧ Ok X.K q z' ∧ RelS X.K q z' ρ' σ' ∧ I z' ∧ wpF X.K q z' (forL (turnF S tgm mb) (ds.drop i) ρ' z'.G) D E, ⟨ds.length, by simp, Nat.zero_le _, z1, ρ, rfl, ok1, rl.ext ok e1, hI, w1⟩, ?_⟩
  rintro i m σ2 H2 ⟨rfl, hi', z2, ρ2, rfl, ok2, rl2, hI2, w2⟩
  by_cases hlt : i < ds.length
  · refine .inr ⟨wk.go z2 i ok2 hI2 hlt, fun σ' H' => ∃ z' ρ', z'.H = H' ∧ Ok X.K q z' ∧ RelS X.K q z' ρ' σ' ∧ I z' ∧ wpF X.K q z' (forL (turnF S tgm mb) (ds.drop (i + 1)) ρ' z'.G) D E, fun σ' H' h => ⟨ds.length - (i + 1), by omega, rfl, hlt, h⟩, fun x H' hy => ?_⟩
    obtain ⟨z3, rfl, hG3, ok3, e3, d, hd, hx⟩ := wk.yld z2 i x H' ok2 hI2 hlt hy
    have hdr : ds.drop i = d :: ds.drop (i + 1) := by
      rw [List.drop_eq_getElem_cons hlt]
      congr 1
      rw [List.getElem?_eq_getElem hlt] at hd
      exact Option.some.inj hd
    rw [hdr] at w2
    have w3 := wpF.ext e3 w2
    have e0 : forL (turnF S tgm mb) (d :: ds.drop (i + 1)) ρ2 z2.G = (match turnF S tgm mb d ρ2 z2.G with
      | .next ρ' G' => forL (turnF S tgm mb) (ds.drop (i + 1)) ρ' G'
      | .cont ρ' G' => forL (turnF S tgm mb) (ds.drop (i + 1)) ρ' G'
      | .brk ρ' G' => .next ρ' G'
      | .ret d G' => .ret d G'
      | .exc c G' => .exc c G'
      | .bad => .bad) := rfl
    rw [e0] at w3
    cases ha : PV.assign ρ2 tgm d with
    | none =>
      have : turnF S tgm mb d ρ2 z2.G = .bad := by unfold turnF; rw [ha]
      rw [this] at w3
      exact w3.elim
    | some ρ3 =>
      have ht : turnF S tgm mb d ρ2 z2.G = evB S mb ρ3 z3.G := by unfold turnF; rw [ha, hG3]
      rw [ht] at w3
      refine ⟨z3, d, ρ2, ρ3, rfl, ok3, rl2.ext ok2 e3, hx, ha, fun σ' rl4 _ => ⟨z3, ρ3, rfl, ok3, rl4, ?_⟩⟩
      have hI3 := wk.st _ _ (e3.mv ok2) hI2
      cases hr : evB S mb ρ3 z3.G with
      | next ρ4 G4 =>
        rw [hr] at w3
        intro z4 σ4 hG4 ok4 e4 rl4
        subst hG4
        exact ⟨z4, ρ4, rfl, ok4, rl4, wk.st _ _ (e4.mv ok3) hI3, wpF.ext e4 w3⟩
      | cont ρ4 G4 =>
        rw [hr] at w3
        intro z4 σ4 hG4 ok4 e4 rl4
        subst hG4
        exact ⟨z4, ρ4, rfl, ok4, rl4, wk.st _ _ (e4.mv ok3) hI3, wpF.ext e4 w3⟩
      | brk ρ4 G4 => rw [hr] at w3; exact w3
      | ret d' G4 => rw [hr] at w3; exact w3
      | exc c G4 => rw [hr] at w3; exact w3
      | bad => rw [hr] at w3; exact w3
  · have e : i = ds.length := by omega
    subst e
    rw [List.drop_length] at w2
    exact .inl ⟨wk.stop z2 ok2 hI2, w2 z2 σ2 rfl ok2 (Ext.refl _) rl2⟩

theorem ss_break {pos : Pos} : SdS X q S (.Break pos) .brk := fun E tk => ps_imp ps_break fun D σ H ⟨z, ρ, hH, ok, rl, w⟩ => by
  subst hH
  exact w z σ rfl ok (Ext.refl z) rl
theorem ss_continue {pos : Pos} : SdS X q S (.Continue pos) .cont := fun E tk => ps_imp ps_continue fun D σ H ⟨z, ρ, hH, ok, rl, w⟩ => by
  subst hH
  exact w z σ rfl ok (Ext.refl z) rl
/-- while, without an else -/
theorem ss_while {c : Expr} {body : List Stmt} {mc : PV.E} {mb : List PV.St} {pos : Pos} (hp : PassesOwn (model X.prog X.w) X.A X.env X.xe) (hc : Td X q S c mc) (hb : SdB X q S body mb) : SdS X q S (.While c body [] pos) (.while_ mc mb) := fun E tk => by
  refine ps_imp (ps_while hp (hc E tk) (hb E tk)) fun D σ H ⟨z, ρ, hH, ok, rl, w⟩ => ?_
  refine ⟨fun m σ' H' => ∃ z' ρ', z'.H = H' ∧ Ok X.K q z' ∧ RelS X.K q z' ρ' σ' ∧ wpF X.K q z' (whL (fun ρ1 G1 => evE S ρ1 mc G1) (fun ρ1 G1 => evB S mb ρ1 G1) m ρ' z'.G) D E, ⟨100000, z, ρ, hH, ok, rl, w⟩, ?_⟩
  rintro m σ2 H2 ⟨z2, ρ2, hH2, ok2, rl2, w2⟩
  cases m with
  | zero => exact w2.elim
  | succ n =>
    refine ⟨z2, ρ2, hH2, ok2, rl2, (wpF.go w2).mono fun d z1 ok1 e1 w1 => ?_⟩
    cases d with
    | bl b =>
      refine ⟨b, rfl, ?_⟩
      cases b with
      | false => exact w1 z1 σ2 rfl ok1 (Ext.refl _) (rl2.ext ok2 e1)
      | true =>
        refine ⟨fun σ' H' => ∃ z' ρ', z'.H = H' ∧ Ok X.K q z' ∧ RelS X.K q z' ρ' σ' ∧ wpF X.K q z' (whL (fun ρ1 G1 => evE S ρ1 mc G1) (fun ρ1 G1 => evB S mb ρ1 G1) n ρ' z'.G) D E, fun σ' H' h => ⟨n, Nat.lt_succ_self n, h⟩, z1, ρ2, rfl, ok1, rl2.ext ok2 e1, ?_⟩
        have w1 : wpF X.K q z1 (match evB S mb ρ2 z1.G with
          | .next ρ' G' => whL (fun ρ1 G1 => evE S ρ1 mc G1) (fun ρ1 G1 => evB S mb ρ1 G1) n ρ' G'
          | .cont ρ' G' => whL (fun ρ1 G1 => evE S ρ1 mc G1) (fun ρ1 G1 => evB S mb ρ1 G1) n ρ' G'
          | .brk ρ' G' => .next ρ' G'
          | .ret d G' => .ret d G'
          | .exc c G' => .exc c G'
          | .bad => .bad) D E := w1
        cases hr : evB S mb ρ2 z1.G with
        | next ρ4 G4 =>
          rw [hr] at w1
          intro z4 σ4 hG4 ok4 e4 rl4
          subst hG4
          exact ⟨z4, ρ4, rfl, ok4, rl4, wpF.ext e4 w1⟩
        | cont ρ4 G4 =>
          rw [hr] at w1
          intro z4 σ4 hG4 ok4 e4 rl4
          subst hG4
          exact ⟨z4, ρ4, rfl, ok4, rl4, wpF.ext e4 w1⟩
        | brk ρ4 G4 => rw [hr] at w1; exact w1
        | ret d' G4 => rw [hr] at w1; exact w1
        | exc c G4 => rw [hr] at w1; exact w1
        | bad => rw [hr] at w1; exact w1
    | _ => exact w1.elim
/-- name += e, name -= e, of whole numbers -/
theorem ss_aug {i : Nat} {x : Str} {e : Expr} {m : PV.E} {op : Operator} {o : Bop} {f : Int → Int → Int} {p pos : Pos} (hN : X.N.Nodup) (h : Sd X q S e m) (ho : PIp X op (ipI f)) (hf' : ∀ a b, augD o a b = some (f a b)) (hi : X.N[i]? = some x := by rfl) (hx : Loc X.env.scope x := by first | exact Or.inl rfl | exact Or.inr rfl) (hf : X.fn x = true ∨ X.env.scope.names.lookup x = some .local := by first | exact .inl rfl | exact .inr rfl) :
    SdS X q S (.AugAssign (.Name x p) op e pos) (.aug i o m) := fun E tk =>
  ps_imp (ps_aug hN hi hx (h E tk) ho hf) fun D σ H ⟨z, ρ, hH, ok, rl, w⟩ => by
    have w : wpF X.K q z (match ρ[i]? with
      | some (some (.int a)) => (evE S ρ m z.G).go fun d G1 => match d with
        | .int b => (match augD o a b with
          | some c => .next (ρ.set i (some (.int c))) G1
          | none => .bad)
        | _ => .bad
      | _ => .bad) D E := w
    split at w
    · rename_i a ha
      obtain ⟨v, h1, h2⟩ := rl.2 i _ ha
      refine ⟨v, h1, z, ρ, hH, ok, rl, (wpF.go w).mono fun d z1 ok1 e1 w1 u hu => ?_⟩
      cases d with
      | int b =>
        refine ⟨a, b, h2.of_int, hu.of_int, ?_⟩
        have w1 : wpF X.K q z1 (match augD o a b with
          | some c => .next (ρ.set i (some (.int c))) z1.G
          | none => .bad) D E := w1
        rw [hf' a b] at w1
        exact w1 z1 _ rfl ok1 (Ext.refl _) ((rl.ext ok e1).set Has.int i)
      | _ => exact w1.elim
    · exact w.elim
theorem ss_augadd {i : Nat} {x : Str} {e : Expr} {m : PV.E} {p pos : Pos} (hN : X.N.Nodup) (h : Sd X q S e m) (hi : X.N[i]? = some x := by rfl) (hx : Loc X.env.scope x := by first | exact Or.inl rfl | exact Or.inr rfl) (hf : X.fn x = true ∨ X.env.scope.names.lookup x = some .local := by first | exact .inl rfl | exact .inr rfl) : SdS X q S (.AugAssign (.Name x p) .Add e pos) (.aug i .add m) := ss_aug hN h ip_add (fun _ _ => rfl) hi hx hf
theorem ss_augsub {i : Nat} {x : Str} {e : Expr} {m : PV.E} {p pos : Pos} (hN : X.N.Nodup) (h : Sd X q S e m) (hi : X.N[i]? = some x := by rfl) (hx : Loc X.env.scope x := by first | exact Or.inl rfl | exact Or.inr rfl) (hf : X.fn x = true ∨ X.env.scope.names.lookup x = some .local := by first | exact .inl rfl | exact .inr rfl) : SdS X q S (.AugAssign (.Name x p) .Sub e pos) (.aug i .sub m) := ss_aug hN h ip_sub (fun _ _ => rfl) hi hx hf

theorem ss_setix {o i e : Expr} {mo mi me : PV.E} {pos pos2 : Pos} (hset : PSet X (rSetC X.K q)) (ho : Sd X q S o mo) (hi : Sd X q S i mi) (he : Sd X q S e me) (ha : ∀ v, PySem.assign (.Subscript o i pos) X.env v = (do
      let ov ← holding [v] (eval o X.env)
      let iv ← holding [v, ov] (eval i X.env)
      standAt pos
      holding [v, ov, iv] (setItem ov iv v)
      release [v, ov, iv] []) := by intro _; rfl) (hs : swapsWithSole [.Subscript o i pos] e pos2.line X.env = pure false := by rfl) (hw : swappedStores [.Subscript o i pos] e X.env = pure none := by rfl)
    (h1 : (assignEach [.Subscript o i pos] X.env).map (·.2) = [PySem.assign (.Subscript o i pos) X.env] := by rfl) : SdS X q S (.Assign [.Subscript o i pos] e pos2) (.setix mo mi me) := fun E tk =>
  ps_imp (ps_asg (he E tk) (pg_sub (ho E tk) (hi E tk) hset ha) hs hw h1) fun D σ H ⟨z, ρ, hH, ok, rl, w⟩ => ⟨z, ρ, hH, ok, rl, (wpF.go w).mono fun d z1 ok1 e1 w1 v hv =>
    ⟨z1, ρ, rfl, ok1, rl.ext ok e1, (wpF.go w1).mono fun x z2 ok2 e2 w2 u hu => ⟨z2, ρ, rfl, ok2, (rl.ext ok e1).ext ok1 e2, (wpF.go w2).mono fun y z3 ok3 e3 w3 t ht => by
      have w3 : wpF X.K q z3 (match setD z3.G x y d with
        | some G4 => F.next ρ G4
        | none => F.bad) D E := w3
      split at w3
      · rename_i G4 hG
        exact ⟨z3, x, y, d, G4, rfl, ok3, Has.ext ok2 e3 _ _ hu, ht, Has.ext ok2 e3 _ _ (Has.ext ok1 e2 _ _ hv), hG, fun z' hz ok' e' => w3 z' σ hz ok' e' ((((rl.ext ok e1).ext ok1 e2).ext ok2 e3).ext ok3 e')⟩
      · exact w3.elim⟩⟩⟩

/-- xs.append(e): a cell that grows -/
theorem sd_app {o e : Expr} {mo me : PV.E} {apos pos : Pos} (ho : Sd X q S o mo) (he : Sd X q S e me) (hbase : attributeBase o "append" X.env (eval o X.env) = eval o X.env := by rfl)
    (hfew : ((backTo pos (starEach [e] X.env)).all (fun x => !x.1) && (backToKw pos (keywordEach [] X.env)).all (fun x => x.1.isSome)
      && decide (([e] : List Expr).length + ([] : List Keyword).length + (if ([] : List Keyword).isEmpty then 0 else 1) < 30)) = true := by rfl)
    (hline : (apos.endLine == pos.line) = true := by rfl) (hs : starEach [e] X.env = (false, eval e X.env) :: starEach [] X.env := by rfl) (hplain : (backTo pos (starEach [] X.env)).any (·.1) = false := by rfl) : Sd X q S (.Call (.Attribute o "append" apos) [e] [] pos) (.app mo me) := fun E tk =>
  pe_imp (pe_bm PySem.F.plainAttrs_list PySem.F.slot_list_append PySem.F.type_list_append mt_append (ho E tk) (pa_cons (he E tk) pa_nil (hs)) hbase hfew hline hs hplain) fun σ H Q ⟨z, ρ, hH, ok, rl, w⟩ => ⟨z, ρ, hH, ok, rl, (wp.bind w).mono fun d z1 ok1 e1 w1 v hv => by
    cases d with
    | cell n =>
      have w1 : wp X.K q z1 (match z1.G[n]? with
        | some (some (.lst _)) => (evE S ρ me z1.G).bind fun y G2 => match G2[n]? with
          | some (some (.lst l)) => if l.length < sizeLine then PV.R.ok PV.D.non (G2.set n (some (.lst (l ++ [y])))) else .bad
          | _ => .bad
        | _ => .bad) (PQ X.K q Q) E := w1
      split at w1
      · rename_i l0 hl0
        obtain ⟨a, rfl, hua, vs, g2, g3⟩ := cell_at ok1 hv hl0
        refine ⟨.inl ⟨rfl, vs, SqL.of g2⟩, z1, ρ, rfl, ok1, rl.ext ok e1, (wp.bind w1).mono fun y z2 ok2 e2 w2 u hu => ?_⟩
        have w2 : wp X.K q z2 (match z2.G[n]? with
          | some (some (.lst l)) => if l.length < sizeLine then PV.R.ok PV.D.non (z2.G.set n (some (.lst (l ++ [y])))) else .bad
          | _ => .bad) (PQ X.K q Q) E := w2
        split at w2
        · rename_i l hl
          split at w2
          · rename_i hlen
            obtain ⟨b, eb, hub, vs2, k2, k3⟩ := cell_at ok2 (Has.ext ok1 e2 _ _ hv) hl
            cases eb
            refine ⟨a, vs2, u, rfl, rfl, k2, by rw [k3.len]; exact hlen, ?_⟩
            exact w2 (z2.stC n a (.lst (l ++ [y])) (.lst (vs2 ++ [u]))) rfl (ok_stC ok2 hl hub (fun _ x => nomatch x) fun z' m hp => ⟨_, hp, HasL.mv m _ _ (k3.app (HasL.cons hu HasL.nil))⟩) (ext_stC ok2 hl hub (fun _ x => nomatch x)) _ Has.non
          · exact w2.elim
        · exact w2.elim
      · exact w1.elim
    | _ => exact w1.elim⟩
/-- a cell given up: from here on it is what it is -/
theorem take_cell {n : Nat} {c : C} {v : V} (ok1 : Ok K q z) (hv : Has K q z (.cell n) v) (hl : z.G[n]? = some (some c)) : Ok K q { z with G := z.G.set n none } ∧ Ext z { z with G := z.G.set n none } ∧ ∃ a, v = .ref a ∧ HasC K q { z with G := z.G.set n none } c a ∧ Free { z with G := z.G.set n none } a := by
  obtain ⟨a, rfl, hua, hc⟩ := cell_at ok1 hv hl
  obtain ⟨a', g1, _, g4⟩ := ok1.cells n c hl
  rw [hua] at g1; cases g1
  have lv : ∀ x, Live { z with G := z.G.set n none } x → Live z x := fun x ⟨m', es, h1, h2⟩ => by
    by_cases e : n = m'
    · subst e
      have h1 : (z.G.set n none)[n]? = some (some es) := h1
      rw [List.getElem?_set_self (List.getElem?_eq_some_iff.mp hl).1] at h1
      cases h1
    · have h1 : (z.G.set n none)[m']? = some (some es) := h1
      rw [List.getElem?_set_ne e] at h1
      exact ⟨m', es, h1, h2⟩
  have ex : Ext z { z with G := z.G.set n none } := ⟨List.prefix_refl _, rfl, fun x hx => .inl (lv x hx), fun b o hb _ _ => hb, fun b hb => hb⟩
  have cs : ∀ (m' : Nat) (es : C), (z.G.set n none)[m']? = some (some es) → n ≠ m' ∧ z.G[m']? = some (some es) := fun m' es h1 => by
    by_cases e : n = m'
    · subst e
      rw [List.getElem?_set_self (List.getElem?_eq_some_iff.mp hl).1] at h1
      cases h1
    · rw [List.getElem?_set_ne e] at h1
      exact ⟨e, h1⟩
  refine ⟨⟨by show z.μ.length = (z.G.set n none).length; rw [List.length_set]; exact ok1.len, fun m' es h1 => ?_, fun m1 m2 ds es x h1 h2 h3 h4 => ok1.inj m1 m2 ds es x (cs m1 ds h1).2 (cs m2 es h2).2 h3 h4, ok1.blk, ok1.tabs⟩, ex, a, rfl, hc.mvAt (ex.mv ok1) (fun _ hu _ => hu), g4, fun ⟨m', es, h1, h2⟩ => ?_⟩
  · obtain ⟨x, f1, f2, f4⟩ := ok1.cells m' es (cs m' es h1).2
    exact ⟨x, f1, f2.mvAt (ex.mv ok1) (fun _ hu _ => hu), f4⟩
  · exact (cs m' es h1).1 (ok1.inj n m' c es a hl (cs m' es h1).2 hua h2)
theorem sd_take {e : Expr} {m : PV.E} (h : Sd X q S e m) : Sd X q S e (.take m) := fun E tk =>
  pe_imp (h E tk) fun σ H Q ⟨z, ρ, hH, ok, rl, w⟩ => ⟨z, ρ, hH, ok, rl, (wp.bind w).mono fun d z1 ok1 e1 w1 v hv => by
    cases d with
    | cell n =>
      have w1 : wp X.K q z1 (match z1.G[n]? with
        | some (some (.lst l)) => PV.R.ok (PV.D.lst l) (z1.G.set n none)
        | some (some (.dct ks vs)) => PV.R.ok (PV.D.dct ks vs) (z1.G.set n none)
        | _ => .bad) (PQ X.K q Q) E := w1
      split at w1
      · rename_i l hl
        obtain ⟨ok2, ex, a, rfl, ⟨vs, g2, g3⟩, fr⟩ := take_cell ok1 hv hl
        exact w1 _ rfl ok2 ex _ (Has.lst g2 fr g3)
      · rename_i ks vs hl
        obtain ⟨ok2, ex, a, rfl, ⟨o, xs, us, g1, g2, g3, g4, g5, g6⟩, fr⟩ := take_cell ok1 hv hl
        refine w1 _ rfl ok2 ex _ ?_
        simp only [Has]
        exact ⟨a, o, xs, us, rfl, g1, g2, g3, g4, g5, g6, fr⟩
      · exact w1.elim
    | _ => exact w1.elim⟩

/-! ### raise -/
theorem ss_raise {C : Addr} {c : Nat} {bmB : List Value} {B newId initId : String} {x : Str} {e : Expr} {me : PV.E} {p pos pos2 : Pos} (hc : X.calm = true) (Fx : PySem.ExcBaseFacts B newId initId bmB) (qx : PySem.W.excIn X.K C bmB newId = true) (gC : X.mg x = some (.ref C)) (kC : PySem.W.keepIn X.K (.ref C) = true) (r : Raises X (.ref C)) (hg : Gl X x)
    (hcl : q.cls c = .ref C) (he : Sd X q S e me) (hs : starEach [e] X.env = (false, eval e X.env) :: starEach [] X.env := by rfl) (hdb : (x == ("__debug__" : Str)) = false := by decide) : SdS X q S (.Raise (some (.Call (.Name x p) [e] [] pos)) none pos2) (.raise c me) := fun E tk =>
  ps_imp (ps_raise hc tk (SkE.pmk_own1 Fx qx gC kC r hg (he E tk) hs hdb)) fun D σ H ⟨z, ρ, hH, ok, rl, w⟩ => ⟨z, ρ, hH, ok, rl, (wpF.go w).mono fun d z1 ok1 e1 w1 v hv => by
    have w1 : wpF X.K q z1 (.exc c z1.G) D E := w1
    have := w1 z1 rfl ok1 (Ext.refl _)
    rw [hcl] at this
    exact this⟩
end

/-! ### what a def leaves -/
section
variable {K : PySem.W.Frag} {q : Par} {z z2 : Z}
mutual
theorem Has.mu (hH : z2.H = z.H) (hB : z2.B = z.B) (hL : ∀ a, Live z2 a → Live z a) : ∀ (d : PV.D) (v : V), free d = true → Has K q z d v → Has K q z2 d v
  | .non, v, _, h => by simpa only [Has] using h
  | .bl b, v, _, h => by simpa only [Has] using h
  | .int i, v, _, h => by simpa only [Has] using h
  | .str s, v, _, h => by simpa only [Has] using h
  | .tup ds, v, e, h => by
    simp only [Has, hH] at h ⊢
    obtain ⟨a, vs, rfl, h1, h2⟩ := h
    exact ⟨a, vs, rfl, h1, HasL.mu hH hB hL ds vs (by simpa only [free] using e) h2⟩
  | .lst ds, v, e, h => by
    simp only [Has, hH] at h ⊢
    obtain ⟨a, vs, rfl, h1, f, h2⟩ := h
    exact ⟨a, vs, rfl, h1, ⟨by rw [hB]; exact f.1, fun l => f.2 (hL a l)⟩, HasL.mu hH hB hL ds vs (by simpa only [free] using e) h2⟩
  | .frz ds, v, e, h => by
    simp only [Has, hH] at h ⊢
    obtain ⟨a, vs, rfl, h1, h2⟩ := h
    refine ⟨a, vs, rfl, ?_, HasL.mu hH hB hL ds vs (by simpa only [free] using e) h2⟩
    rcases h1 with ⟨r, f⟩ | h1
    · exact .inl ⟨r, by rw [hB]; exact f.1, fun l => f.2 (hL a l)⟩
    · exact .inr h1
  | .cell n, v, e, h => by simp [free] at e
  | .lam k, v, _, h => by
    simp only [Has, hH] at h ⊢
    exact h
  | .dct ks vs, v, e, h => by
    simp only [free, Bool.and_eq_true] at e
    simp only [Has, hH] at h ⊢
    obtain ⟨a, o, xs, us, rfl, h1, h2, h3, h4, h5, h6, f⟩ := h
    exact ⟨a, o, xs, us, rfl, h1, h2, h3, HasL.mu hH hB hL ks _ e.1 h4, h5, HasL.mu hH hB hL vs us e.2 h6, ⟨by rw [hB]; exact f.1, fun l => f.2 (hL a l)⟩⟩
theorem HasL.mu (hH : z2.H = z.H) (hB : z2.B = z.B) (hL : ∀ a, Live z2 a → Live z a) : ∀ (ds : List PV.D) (vs : List V), frees ds = true → HasL K q z ds vs → HasL K q z2 ds vs
  | [], vs, _, h => by simpa only [HasL] using h
  | d :: ds, vs, e, h => by
    simp only [frees, Bool.and_eq_true] at e
    simp only [HasL] at h ⊢
    obtain ⟨v, r, rfl, h1, h2⟩ := h
    exact ⟨v, r, rfl, Has.mu hH hB hL d v e.1 h1, HasL.mu hH hB hL ds r e.2 h2⟩
end
abbrev Z.cut (z : Z) (n : Nat) : Z := { z with μ := z.μ.take n, G := z.G.take n }
theorem live_cut {n : Nat} (a : Addr) (l : Live (z.cut n) a) : Live z a := by
  obtain ⟨m, c, h1, h2⟩ := l
  have h1 : (z.G.take n)[m]? = some (some c) := h1
  have h2 : (z.μ.take n)[m]? = some a := h2
  have hm : m < n := by
    have := (List.getElem?_eq_some_iff.mp h1).1
    rw [List.length_take] at this
    omega
  rw [List.getElem?_take_of_lt hm] at h1 h2
  exact ⟨m, c, h1, h2⟩
theorem ok_cut {n : Nat} (ok : Ok K q z) (h : clean n z.G = true) : Ok K q (z.cut n) := by
  have at_ : ∀ (m : Nat) (c : C), (z.G.take n)[m]? = some (some c) → m < n ∧ z.G[m]? = some (some c) := fun m c h1 => by
    have hm : m < n := by
      have := (List.getElem?_eq_some_iff.mp h1).1
      rw [List.length_take] at this
      omega
    rw [List.getElem?_take_of_lt hm] at h1
    exact ⟨hm, h1⟩
  refine ⟨by show (z.μ.take n).length = (z.G.take n).length; rw [List.length_take, List.length_take, ok.len], fun m c h1 => ?_, fun m1 m2 c1 c2 a h1 h2 h3 h4 => ?_, ok.blk, ok.tabs⟩
  · obtain ⟨hm, h1'⟩ := at_ m c h1
    obtain ⟨a, g1, g2, g3⟩ := ok.cells m c h1'
    refine ⟨a, by show (z.μ.take n)[m]? = _; rw [List.getElem?_take_of_lt hm]; exact g1, ?_, g3⟩
    have hf : freeC (some c) = true := List.all_eq_true.mp h _ (List.mem_of_getElem? h1)
    cases c with
    | lst l =>
      obtain ⟨vs, k1, k2⟩ := g2
      exact ⟨vs, k1, HasL.mu (z := z) (z2 := z.cut n) rfl rfl live_cut l vs hf k2⟩
    | dct ks vs =>
      simp only [freeC, Bool.and_eq_true] at hf
      obtain ⟨o, xs, us, k1, k2, k3, k4, k5, k6⟩ := g2
      exact ⟨o, xs, us, k1, k2, k3, HasL.mu (z := z) (z2 := z.cut n) rfl rfl live_cut ks _ hf.1 k4, k5, HasL.mu (z := z) (z2 := z.cut n) rfl rfl live_cut vs us hf.2 k6⟩
  · obtain ⟨l1, k1⟩ := at_ m1 c1 h1
    obtain ⟨l2, k2⟩ := at_ m2 c2 h2
    have h3 : (z.μ.take n)[m1]? = some a := h3
    have h4 : (z.μ.take n)[m2]? = some a := h4
    rw [List.getElem?_take_of_lt l1] at h3
    rw [List.getElem?_take_of_lt l2] at h4
    exact ok.inj m1 m2 c1 c2 a k1 k2 h3 h4
theorem ext_cut {z0 : Z} (ok0 : Ok K q z0) (e : Ext z0 z) : Ext z0 (z.cut z0.G.length) := by
  refine ⟨?_, e.bs, fun a l => e.live a (live_cut a l), e.keep, e.dom⟩
  obtain ⟨t, ht⟩ := e.pre
  refine ⟨[], ?_⟩
  show z0.μ ++ [] = z.μ.take z0.G.length
  rw [← ht, List.append_nil, ← ok0.len, List.take_left]
theorem gc_wp {r : R PV.D} {Q : VK} {E : XK} (ok0 : Ok K q z) (h : wp K q z (gcR z.G.length r) (PQ K q Q) E) : wp K q z r (PQ K q Q) E := by
  cases r with
  | bad => exact h
  | ok d G' =>
    intro z' hG ok' e' v hv
    have h : wp K q z (if (free d && clean z.G.length G') = true then PV.R.ok d (G'.take z.G.length) else .ok d G') (PQ K q Q) E := h
    split at h
    · rename_i hc
      simp only [Bool.and_eq_true] at hc
      subst hG
      exact h (z'.cut z.G.length) rfl (ok_cut ok' hc.2) (ext_cut ok0 e') v (Has.mu (z := z') (z2 := z'.cut z.G.length) rfl rfl live_cut d v hc.1 hv)
    · exact h z' hG ok' e' v hv
  | exc c G' =>
    intro z' hG ok' e'
    have h : wp K q z (if clean z.G.length G' = true then PV.R.exc c (G'.take z.G.length) else .exc c G') (PQ K q Q) E := h
    split at h
    · rename_i hc
      subst hG
      exact h (z'.cut z.G.length) rfl (ok_cut ok' hc) (ext_cut ok0 e')
    · exact h z' hG ok' e'
end
/-! ### defs -/
section
variable {P : Program} {w : World} {K : PySem.W.Frag} {mg : Str → Option Value} {base : Heap} {q : Par}
theorem rels_start {z : Z} {N : List Str} {ds : List D} {vs : List V} (hv : HasL K q z ds vs) (hl : ds.length ≤ N.length) : RelS K q z (ds.map some ++ List.replicate (N.length - ds.length) none) (L2.start N vs) := by
  have e := hv.len
  refine ⟨by simp [L2.start, e], fun i d h => ?_⟩
  by_cases hi : i < ds.length
  · rw [List.getElem?_append_left (by simpa using hi), List.getElem?_map] at h
    cases hd : ds[i]? with
    | none => rw [hd] at h; cases h
    | some d' =>
      rw [hd] at h
      cases h
      obtain ⟨v, h1, h2⟩ := hv.get hd
      refine ⟨v, ?_, h2⟩
      unfold L2.start
      rw [List.getElem?_append_left (by rw [List.length_map, e]; exact hi), List.getElem?_map, h1]
      rfl
  · rw [List.getElem?_append_right (by simpa using hi), List.getElem?_replicate] at h
    split at h <;> cases h
theorem fn_step {S S' : PV.Sem} {g k : Nat} {x qual : Str} {params : Arguments} {body : List Stmt} {scope : Scope} {dvs : List V} {kws : List (Str × V)} {f : Addr} {fd : FuncData} {N ps : List Str} {fn : Fn} (F : FunD K x qual params body scope dvs kws f fd) (Sc : FnScope N ps scope)
    (hS : ∀ ds G, S'.cal g ds G = runFn S fn ds G) (hns : N.length = fn.ns) (hnp : ps.length = fn.np) (hle : fn.np ≤ fn.ns)
    (hbody : ∀ (cdv : Value) (A : Around) (outer : List PySem.Env) (s : Shared) (H : Hp) (E : XK), Room k (A.deeper (envOfC qual scope s.heap.objs.size f cdv)) → SdB (cxOf (L2.CX P w) P w K mg base N qual scope f cdv A outer s H E) q S body fn.body) :
    FnOk P w K mg base (L2.CX P w) (k + 1) f fd ps (spC K q S' g ps.length) := by
  refine F.ok Sc (fun vs H Q E h => ?_) (fun cdv A outer s H vs Q E hr h => ?_)
  · obtain ⟨_, _, _, _, _, h, _⟩ := h
    exact h
  · obtain ⟨z, ds, rfl, ok, hv, hlen, hw⟩ := h
    refine ⟨_, hbody cdv A outer s z.H E hr E (takes_of rfl rfl rfl rfl), z, _, rfl, ok, rels_start hv (by rw [← hv.len, hlen, hnp, hns]; exact hle), ?_⟩
    rw [hS] at hw
    unfold runFn at hw
    replace hw := gc_wp ok hw
    have hdl : ds.length = fn.np := by rw [← hv.len, hlen, hnp]
    rw [if_pos hdl] at hw
    rw [hns, hdl]
    cases hr : evB S fn.body (ds.map some ++ List.replicate (fn.ns - fn.np) none) z.G with
    | next ρ' G' =>
      rw [hr] at hw
      exact fun z' σ' hG ok' e' _ => hw z' hG ok' e' _ Has.non
    | ret d G' =>
      rw [hr] at hw
      exact fun z' v hG ok' e' hd => hw z' hG ok' e' v hd
    | exc c G' =>
      rw [hr] at hw
      exact hw
    | brk ρ' G' => rw [hr] at hw; exact hw.elim
    | cont ρ' G' => rw [hr] at hw; exact hw.elim
    | bad => rw [hr] at hw; exact hw.elim
/-- nothing is promised at the last level -/
theorem fn_zero {S' : PV.Sem} {g k : Nat} {x qual : Str} {params : Arguments} {body : List Stmt} {scope : Scope} {dvs : List V} {kws : List (Str × V)} {f : Addr} {fd : FuncData} {N ps : List Str} (F : FunD K x qual params body scope dvs kws f fd) (Sc : FnScope N ps scope)
    (hS : ∀ ds G, S'.cal g ds G = .bad) : FnOk P w K mg base (L2.CX P w) (k + 1) f fd ps (spC K q S' g ps.length) := by
  refine F.ok Sc (fun vs H Q E h => ?_) (fun cdv A outer s H vs Q E hr h => ?_)
  · obtain ⟨_, _, _, _, _, h, _⟩ := h
    exact h
  · obtain ⟨z, ds, rfl, ok, hv, hlen, hw⟩ := h
    rw [hS] at hw
    exact hw.elim
theorem run_ar {S : PV.Sem} {fn : Fn} {n : Nat} (h : n = fn.np) : ∀ (ds : List D) (G : Gs), ds.length ≠ n → runFn S fn ds G = .bad := fun ds G hn => by
  unfold runFn
  rw [if_neg (by rw [← h]; exact hn)]
  rfl
end
end PV
end
/-! ## PV7 -/
section
set_option Elab.async false
set_option linter.all false
set_option maxRecDepth 100000
set_option maxHeartbeats 4000000
/-! The rules: items, slices, chains, methods of texts, zip, texts made of parts. -/
namespace PV
open PySem L2 LamX PyProof.Rows RZ
section
variable {X : Cx} {q : Par} {S : PV.Sem}

theorem has_at {K : PySem.W.Frag} {z : Z} {l : List PV.D} {vs : List V} {i : Int} {c : PV.D} (hv : HasL K q z l vs) (h : atI l i = some c) : ∃ v, atI vs i = some v ∧ Has K q z c v := by
  unfold atI at h ⊢
  rw [hv.len]
  cases e : ixN l.length i with
  | none => rw [e] at h; cases h
  | some j =>
    rw [e] at h
    exact hv.get h
theorem sd_ix {a b : Expr} {ma mb : PV.E} {pos : Pos} (hx : IxR X (fun x y H Q => rIx X.K x y H Q ∨ rIxC X.K q x y H Q)) (ha : Sd X q S a ma) (hb : Sd X q S b mb) (hs : PlainIx b := by intro _ _; rfl) : Sd X q S (.Subscript a b pos) (.ix ma mb) := fun E tk =>
  pe_imp (pe_ix hx (ha E tk) (hb E tk) hs) fun σ H Q ⟨z, ρ, hH, ok, rl, w⟩ => ⟨z, ρ, hH, ok, rl, (wp.bind w).mono fun d z1 ok1 e1 w1 v hv => ⟨z1, ρ, rfl, ok1, rl.ext ok e1, (wp.bind w1).mono fun e z2 ok2 e2 w2 u hu => by
    obtain ⟨c, hc, hp⟩ := wp.of w2
    replace hp : Post X.K q z2 Q c := hp
    replace hv := Has.ext ok1 e2 d v hv
    unfold ixD at hc
    split at hc
    · rename_i l i
      obtain ⟨p, vs, rfl, h1, h2⟩ := hv.ref_of_tup
      obtain ⟨x, h3, h4⟩ := has_at h2 hc
      exact .inl (.inr (.inl ⟨p, vs, i, x, rfl, hu.of_int, h1, h3, hp.at ok2 h4⟩))
    · rename_i l i
      obtain ⟨p, vs, rfl, h1, _, h2⟩ := hv.of_lst
      obtain ⟨x, h3, h4⟩ := has_at h2 hc
      exact .inl (.inl ⟨p, vs, i, x, rfl, hu.of_int, SqL.of h1, h3, hp.at ok2 h4⟩)
    · rename_i l i
      obtain ⟨p, vs, rfl, h1, h2⟩ := has_seq (d := .frz l) rfl hv
      obtain ⟨x, h3, h4⟩ := has_at h2 hc
      rcases h1 with h1 | h1
      · exact .inl (.inl ⟨p, vs, i, x, rfl, hu.of_int, h1, h3, hp.at ok2 h4⟩)
      · exact .inl (.inr (.inl ⟨p, vs, i, x, rfl, hu.of_int, h1, h3, hp.at ok2 h4⟩))
    · rename_i n i
      split at hc
      · rename_i l hl
        obtain ⟨p, rfl, h1, vs, g2, g3⟩ := cell_at ok2 hv hl
        obtain ⟨x, h3, h4⟩ := has_at g3 hc
        exact .inl (.inl ⟨p, vs, i, x, rfl, hu.of_int, SqL.of g2, h3, hp.at ok2 h4⟩)
      · cases hc
    · rename_i n t
      split at hc
      · rename_i ks vs hl
        obtain ⟨p, rfl, h1, hcc⟩ := cell_at ok2 hv hl
        simp only [Option.bind_eq_some_iff] at hc
        obtain ⟨k, hk, hg⟩ := hc
        exact .inr ⟨z2, ks, vs, t, k, c, p, rfl, ok2, rfl, hcc, hu, hk, hg, hp⟩
      · cases hc
    · rename_i ks vs t
      obtain ⟨p, rfl, hcc⟩ := dct_has (p := (ks, vs)) ok2 hv rfl
      simp only [Option.bind_eq_some_iff] at hc
      obtain ⟨k, hk, hg⟩ := hc
      exact .inr ⟨z2, ks, vs, t, k, c, p, rfl, ok2, rfl, hcc, hu, hk, hg, hp⟩
    · rename_i s i
      split at hc
      · rename_i hz
        simp only [Option.map_eq_some_iff] at hc
        obtain ⟨k, hk, rfl⟩ := hc
        exact .inl (.inr (.inr ⟨s, i, k, hv.of_str, hu.of_int, hz, hk, hp.at ok2 Has.str⟩))
      · cases hc
    · cases hc⟩⟩
theorem ix_all (hu : X.A.units + 64 < cLine) (hP : q.P = X.prog) (hW : q.W = X.w) : IxR X (fun x y H Q => rIx X.K x y H Q ∨ rIxC X.K q x y H Q) := ix_seq.or (ix_C hu hP hW)

theorem sd_neg {a : Expr} {ma : PV.E} {pos : Pos} (h : Sd X q S a ma) : Sd X q S (.UnaryOp .USub a pos) (.neg ma) := fun E tk =>
  pe_imp (pe_un un_neg (h E tk)) fun σ H Q ⟨z, ρ, hH, ok, rl, w⟩ => ⟨z, ρ, hH, ok, rl, (wp.bind w).mono fun d z1 ok1 e1 w1 v hv => by
    cases d with
    | int i => exact ⟨i, hv.of_int, wp.here (P := PQ X.K q Q) ok1 w1 _ Has.int⟩
    | _ => exact w1.elim⟩
theorem has_non {K : PySem.W.Frag} {z : Z} {d : PV.D} {v : V} (h : Has K q z d v) : decide (v = V.non) = isNonD d := by
  cases d with
  | non => rw [h.of_non]; rfl
  | int i => rw [h.of_int]; rfl
  | bl b => rw [h.of_bl]; rfl
  | str s => rw [h.of_str]; rfl
  | tup l => obtain ⟨a, vs, rfl, _⟩ := h.ref_of_tup; rfl
  | lst l => obtain ⟨a, vs, rfl, _⟩ := h.of_lst; rfl
  | frz l => simp only [Has] at h; obtain ⟨a, vs, rfl, _⟩ := h; rfl
  | cell n => simp only [Has] at h; obtain ⟨a, rfl, _⟩ := h; rfl
  | lam n => simp only [Has] at h; obtain ⟨a, c, rfl, _⟩ := h; rfl
  | dct ks vs => simp only [Has] at h; obtain ⟨a, o, xs, us, rfl, _⟩ := h; rfl
theorem od_isN : OpD X q (compareOp .Is) (fun x y => (cmpD .isN x y).map .bl) := by
  intro pins s σ H x y v u Q I rx ry h
  obtain ⟨z, d, e, c, rfl, ok, hd, he, hg, hp⟩ := h
  have hg : (cmpD .isN d e).map PV.D.bl = some c := hg
  cases e <;> (try (cases d <;> simp [cmpD] at hg))
  all_goals
    refine op_isN pins s σ _ x y v u Q I rx ry ⟨he.of_non, ?_⟩
    rw [has_non hd]
    subst hg
    exact hp.at ok Has.bl
theorem od_notN : OpD X q (compareOp .IsNot) (fun x y => (cmpD .notN x y).map .bl) := by
  intro pins s σ H x y v u Q I rx ry h
  obtain ⟨z, d, e, c, rfl, ok, hd, he, hg, hp⟩ := h
  have hg : (cmpD .notN d e).map PV.D.bl = some c := hg
  cases e <;> (try (cases d <;> simp [cmpD] at hg))
  all_goals
    refine op_notN pins s σ _ x y v u Q I rx ry ⟨he.of_non, ?_⟩
    rw [has_non hd]
    subst hg
    exact hp.at ok Has.bl

/-! ### slices -/
def SdO (X : Cx) (q : Par) (S : PV.Sem) (e : Option Expr) (m : Option PV.E) : Prop := ∀ E : XK, Tk X E → PO X e (fun σ H Q => ∃ z ρ, z.H = H ∧ Ok X.K q z ∧ RelS X.K q z ρ σ ∧ wp X.K q z (evO S ρ m z.G) (fun o z' => Q o z'.H) E)
theorem po_imp {e : Option Expr} {t t' : TO} (h : PO X e t) (f : ∀ σ H Q, t' σ H Q → t σ H Q) : PO X e t' := ⟨fun pins s σ H Q I w => h.run pins s σ H Q I (f σ H Q w)⟩
theorem sdo_none : SdO X q S none none := fun E tk => po_imp po_none fun σ H Q ⟨z, ρ, hH, ok, rl, w⟩ => by
  subst hH
  exact wp.here (P := fun o z' => Q o z'.H) ok w
theorem sdo_some {e : Expr} {m : PV.E} (h : Sd X q S e m) : SdO X q S (some e) (some m) := fun E tk => po_imp (po_some (h E tk)) fun σ H Q ⟨z, ρ, hH, ok, rl, w⟩ => ⟨z, ρ, hH, ok, rl, (wp.bind w).mono fun d z1 ok1 e1 w1 v hv => by
  cases d with
  | int i => exact ⟨i, hv.of_int, wp.here (P := fun o z' => Q o z'.H) ok1 w1⟩
  | _ => exact w1.elim⟩
theorem has_cut {K : PySem.W.Frag} {z : Z} {l : List PV.D} {vs : List V} (hv : HasL K q z l vs) (lo hi : Option Int) : HasL K q z (cutD l lo hi) (cutV vs lo hi) := by
  unfold cutD cutV
  rw [hv.len]
  exact (hv.drop _).take _
theorem cut_whole {l : List PV.D} {lo hi : Option Int} (h1 : HT.sIx l.length 0 lo = 0) (h2 : HT.sIx l.length l.length hi = l.length) : cutD l lo hi = l := by
  unfold cutD
  rw [h1, h2, Nat.sub_zero, List.drop_zero, List.take_length]
theorem sd_sl {a : Expr} {lo hi : Option Expr} {ma : PV.E} {mlo mhi : Option PV.E} {p2 pos : Pos} (ha : Sd X q S a ma) (hlo : SdO X q S lo mlo) (hhi : SdO X q S hi mhi) : Sd X q S (.Subscript a (.Slice lo hi none p2) pos) (.sl ma mlo mhi) := fun E tk =>
  pe_imp (pe_slice (sl_tupA.or (sl_list.or sl_str)) (ha E tk) (hlo E tk) (hhi E tk)) fun σ H Q ⟨z, ρ, hH, ok, rl, w⟩ => ⟨z, ρ, hH, ok, rl, (wp.bind w).mono fun d z1 ok1 e1 w1 v hv => ⟨z1, ρ, rfl, ok1, rl.ext ok e1, (wp.bind w1).mono fun l z2 ok2 e2 w2 => ⟨z2, ρ, rfl, ok2, (rl.ext ok e1).ext ok1 e2, (wp.bind w2).mono fun h z3 ok3 e3 w3 => by
    obtain ⟨c, hc, hp⟩ := wp.of w3
    replace hp : Post X.K q z3 Q c := hp
    replace hv := Has.ext ok2 e3 d v (Has.ext ok1 e2 d v hv)
    cases d <;> simp only [slD, reduceCtorEq, Option.some.injEq] at hc
    · rename_i s
      split at hc <;> cases hc
      rename_i hz
      exact .inr (.inr ⟨s, hv.of_str, hz, hp.at ok3 Has.str⟩)
    · rename_i ds
      subst hc
      obtain ⟨p, vs, rfl, h1, h2⟩ := hv.ref_of_tup
      refine .inl ⟨p, vs, rfl, h1, fun ⟨g1, g2⟩ => ?_, fun _ p' hn => hp.put ok3 hn (put_tup ok3 hn (has_cut h2 l h))⟩
      rw [h2.len] at g1 g2
      rw [cut_whole g1 g2] at hp
      exact hp.at ok3 hv
    · rename_i ds
      subst hc
      obtain ⟨p, vs, rfl, h1, _, h2⟩ := hv.of_lst
      exact .inr (.inl ⟨p, vs, rfl, SqL.of h1, fun p' hn => hp.put ok3 hn (put_lst ok3 hn (has_cut h2 l h))⟩)
    · rename_i ds
      subst hc
      simp only [Has] at hv
      obtain ⟨p, vs, rfl, h1, h2⟩ := hv
      refine .inr (.inl ⟨p, vs, rfl, ?_, fun p' hn => hp.put ok3 hn (put_lst ok3 hn (has_cut h2 l h))⟩)
      rcases h1 with ⟨r, _⟩ | h1
      · exact .inl r
      · exact .inr h1⟩⟩⟩

/-! ### a < b < c -/
theorem chain_imp {a b c : Expr} {ma mb mc : PV.E} {o1 o2 : Cop} {E : XK} {σ : L2.St} {H : Hp} {Q : VK}
    (h : rdE X.K q S E (.chain o1 o2 ma mb mc) σ H Q) (hb : ∀ x y : PV.D, cmpD o1 x y ≠ none → True) :
    tChain (rD X.K q (fun x y => (cmpD o1 x y).map .bl)) (rD X.K q (fun x y => (cmpD o2 x y).map .bl)) (rdE X.K q S E ma) (rdE X.K q S E mb) (rdE X.K q S E mc) σ H Q := by
  obtain ⟨z, ρ, hH, ok, rl, w⟩ := h
  refine ⟨z, ρ, hH, ok, rl, (wp.bind w).mono fun d z1 ok1 e1 w1 v hv => ⟨z1, ρ, rfl, ok1, rl.ext ok e1, (wp.bind w1).mono fun e z2 ok2 e2 w2 u hu => ?_⟩⟩
  have hv := Has.ext ok1 e2 d v hv
  have rl2 := (rl.ext ok e1).ext ok1 e2
  have w2 : wp X.K q z2 (match cmpD o1 d e with
    | some true => (evE S ρ mc z2.G).bind fun z G3 => .of ((cmpD o2 e z).map .bl) G3
    | some false => .ok (.bl false) z2.G
    | none => .bad) (PQ X.K q Q) E := w2
  cases hc : cmpD o1 d e with
  | none => rw [hc] at w2; exact w2.elim
  | some k =>
    rw [hc] at w2
    refine ⟨z2, d, e, .bl k, rfl, ok2, hv, hu, (by show (cmpD o1 d e).map D.bl = _; rw [hc]; rfl), fun z3 hG ok3 e3 x hx => ⟨k, hx.of_bl, ?_⟩⟩
    cases k with
    | false =>
      rw [if_neg (by simp)]
      have w2 : wp X.K q z2 (.ok (.bl false) z2.G) (PQ X.K q Q) E := w2
      exact w2 z3 hG ok3 e3 _ Has.bl
    | true =>
      rw [if_pos rfl]
      have w2 : wp X.K q z2 ((evE S ρ mc z2.G).bind fun z G3 => .of ((cmpD o2 e z).map .bl) G3) (PQ X.K q Q) E := w2
      have w3 := wp.ext e3 w2
      rw [← hG] at w3
      refine ⟨z3, ρ, rfl, ok3, rl2.ext ok2 e3, (wp.bind w3).mono fun f z4 ok4 e4 w4 t ht => ?_⟩
      obtain ⟨c', hc', hp'⟩ := wp.of w4
      exact ⟨z4, e, f, c', rfl, ok4, Has.ext ok3 e4 e u (Has.ext ok2 e3 e u hu), ht, hc', hp'⟩
theorem sd_chain {op1 op2 : CmpOp} {o1 o2 : Cop} {a b c : Expr} {ma mb mc : PV.E} {pos : Pos} (h1 : OpD X q (compareOp op1) (fun x y => (cmpD o1 x y).map .bl)) (h2 : OpD X q (compareOp op2) (fun x y => (cmpD o2 x y).map .bl)) (ha : Sd X q S a ma) (hb : Sd X q S b mb) (hc : Sd X q S c mc)
    (hm : lastMarks [op1, op2] [b, c] = false := by with_unfolding_all rfl) : Sd X q S (.Compare a [op1, op2] [b, c] pos) (.chain o1 o2 ma mb mc) := fun E tk =>
  pe_imp (pe_chain h1 h2 (ha E tk) (hb E tk) (hc E tk) hm) fun σ H Q h => chain_imp (a := a) (b := b) (c := c) h fun _ _ _ => trivial
theorem td_chain {op1 op2 : CmpOp} {o1 o2 : Cop} {a b c : Expr} {ma mb mc : PV.E} {pos : Pos} (h1 : OpD X q (compareOp op1) (fun x y => (cmpD o1 x y).map .bl)) (h2 : OpD X q (compareOp op2) (fun x y => (cmpD o2 x y).map .bl)) (ha : Sd X q S a ma) (hb : Sd X q S b mb) (hc : Sd X q S c mc)
    (hm : lastMarks [op1, op2] [b, c] = false := by with_unfolding_all rfl) : Td X q S (.Compare a [op1, op2] [b, c] pos) (.chain o1 o2 ma mb mc) := fun E tk =>
  pt_imp (pt_chain h1 h2 (ha E tk) (hb E tk) (hc E tk) hm) fun σ H Q ⟨z, ρ, hH, ok, rl, w⟩ => chain_imp (a := a) (b := b) (c := c) ⟨z, ρ, hH, ok, rl, w.mono fun d z' ok' e' ⟨b, hb, hq⟩ v hv => by
    subst hb
    exact ⟨b, hv.of_bl, hq⟩⟩ fun _ _ _ => trivial

/-! ### methods of texts -/
def rM (K : PySem.W.Frag) (q : Par) (m : Mt) : V → List V → Hp → VK → Prop := fun x vs H Q => ∃ (z : Z) (s : Str) (ds : List PV.D) (c : PV.D), z.H = H ∧ Ok K q z ∧ x = .str s ∧ HasL K q z ds vs ∧ meth m s ds = some c ∧ Post K q z Q c
theorem sd_meth1 {m : Mt} {id : String} {name : Str} {o e : Expr} {mo me : PV.E} {apos pos : Pos} (slot : Slot "str" name id) (ty : typeOf (.builtin id) = pure (.type "method_descriptor")) (rule : MtR X id (rM X.K q m)) (ho : Sd X q S o mo) (he : Sd X q S e me)
    (hs : starEach [e] X.env = [(false, eval e X.env)] := by rfl) (hbase : attributeBase o name X.env (eval o X.env) = eval o X.env := by rfl) (hline : (apos.endLine == pos.line) = true := by rfl) : Sd X q S (.Call (.Attribute o name apos) [e] [] pos) (.meth m mo [me]) := fun E tk =>
  pe_imp (pe_m1 slot ty rule (ho E tk) (he E tk) hs hbase hline) fun σ H Q ⟨z, ρ, hH, ok, rl, w⟩ => ⟨z, ρ, hH, ok, rl, (wp.bind w).mono fun d z1 ok1 e1 w1 v hv => by
    cases d with
    | str s =>
      refine ⟨⟨s, hv.of_str⟩, z1, ρ, rfl, ok1, rl.ext ok e1, ?_⟩
      have w1 : wp X.K q z1 ((evEs S ρ [me] z1.G).bind fun ds G2 => .of (meth m s ds) G2) (PQ X.K q Q) E := w1
      have e0 : ((evEs S ρ [me] z1.G).bind fun ds G2 => PV.R.of (meth m s ds) G2) = (evE S ρ me z1.G).bind fun d G2 => .of (meth m s [d]) G2 := by
        show (((evE S ρ me z1.G).bind fun d G1 => .ok [d] G1).bind fun ds G2 => PV.R.of (meth m s ds) G2) = _
        cases evE S ρ me z1.G <;> rfl
      rw [e0] at w1
      refine (wp.bind w1).mono fun e' z2 ok2 e2 w2 u hu => ?_
      obtain ⟨c, hc, hp⟩ := wp.of w2
      exact ⟨z2, s, [e'], c, rfl, ok2, hv.of_str, HasL.cons hu HasL.nil, hc, hp⟩
    | _ => exact w1.elim⟩
theorem mt_one {m : Mt} {id : String} {C : Str → Str → Prop} {g : Str → Str → PV.D} {r : V → List V → Hp → VK → Prop} (h : MtR X id r) (hm : ∀ s ds c, meth m s ds = some c → ∃ b, ds = [.str b] ∧ C s b ∧ c = g s b) (hr : ∀ (z : Z) s b Q, Ok X.K q z → C s b → Post X.K q z Q (g s b) → r (.str s) [.str b] z.H Q) : MtR X id (rM X.K q m) := by
  intro pins s σ H x xs v us Q I rx rs hh
  obtain ⟨z, a, ds, c, rfl, ok, rfl, hv, hc, hp⟩ := hh
  obtain ⟨b, rfl, hC, rfl⟩ := hm _ _ _ hc
  obtain ⟨u, rfl, h1⟩ := hv.one
  rw [h1.of_str] at rs
  exact h pins s σ z.H (.str a) [.str b] v us Q I rx rs (hr z a b Q ok hC hp)
theorem mr_removeprefix : MtR X "str.removeprefix" (rM X.K q .removeprefix) :=
  mt_one (C := fun a _ => a.length ≤ sizeLine) (g := fun a b => .str (Txt.removeprefix a b)) mt_removeprefix (fun s ds c h => by
    have h : mRemove s ds = some c := h
    unfold mRemove at h
    split at h
    · split at h <;> cases h
      rename_i hh
      exact ⟨_, rfl, hh, rfl⟩
    · cases h) fun z s b Q ok hC hp => ⟨s, b, rfl, rfl, hC, hp.at ok Has.str⟩
theorem mr_strip : MtR X "str.strip" (rM X.K q .strip1) :=
  mt_one (C := fun a _ => a.length ≤ sizeLine) (g := fun a b => .str (Txt.stripChars a b)) mt_stripChars (fun s ds c h => by
    have h : mStrip s ds = some c := h
    unfold mStrip at h
    split at h
    · split at h <;> cases h
      rename_i hh
      exact ⟨_, rfl, hh, rfl⟩
    · cases h) fun z s b Q ok hC hp => ⟨s, b, rfl, rfl, hC, hp.at ok Has.str⟩
theorem mr_count : MtR X "str.count" (rM X.K q .count) :=
  mt_one (C := fun _ _ => True) (g := fun a b => .int (Txt.count a b)) mt_count (fun s ds c h => by
    have h : mCount s ds = some c := h
    unfold mCount at h
    split at h
    · cases h
      exact ⟨_, rfl, trivial, rfl⟩
    · cases h) fun z s b Q ok hC hp => ⟨s, b, rfl, rfl, hp.at ok Has.int⟩
theorem mr_split : MtR X "str.split" (rM X.K q .split1) :=
  mt_one (C := fun a b => (b.length == 0) = false ∧ a.length + 2 ≤ sizeLine) (g := fun a b => .lst ((Txt.split a b).map .str)) mt_split (fun s ds c h => by
    have h : mSplit s ds = some c := h
    unfold mSplit at h
    split at h
    · split at h <;> cases h
      rename_i hh
      exact ⟨_, rfl, hh, rfl⟩
    · cases h) fun z s b Q ok hC hp => ⟨s, b, rfl, rfl, hC.1, hC.2, fun p hn => hp.put ok hn (put_lst ok hn (strs_has _))⟩
theorem mr_partition : MtR X "str.partition" (rM X.K q .partition) :=
  mt_one (C := fun a b => (b.length == 0) = false ∧ a.length ≤ sizeLine) (g := fun a b => .tup [.str (Txt.partition a b).1, .str (Txt.partition a b).2.1, .str (Txt.partition a b).2.2]) mt_partition (fun s ds c h => by
    have h : mPartition s ds = some c := h
    unfold mPartition at h
    split at h
    · split at h <;> cases h
      rename_i hh
      exact ⟨_, rfl, hh, rfl⟩
    · cases h) fun z s b Q ok hC hp => ⟨s, b, rfl, rfl, hC.1, hC.2, fun p hn => hp.put ok hn (put_tup ok hn (HasL.cons Has.str (HasL.cons Has.str (HasL.cons Has.str HasL.nil))))⟩
theorem mr_join : MtR X "str.join" (rM X.K q .join) := by
  intro pins s σ H x xs v us Q I rx rs hh
  obtain ⟨z, a, ds, c, rfl, ok, rfl, hv, hc, hp⟩ := hh
  have hc : mJoin a ds = some c := hc
  unfold mJoin at hc
  split at hc
  · simp only [Option.bind_eq_some_iff] at hc
    obtain ⟨ys, ⟨l, hl, hy⟩, hc⟩ := hc
    split at hc <;> cases hc
    rename_i hz
    obtain ⟨u, rfl, h1⟩ := hv.one
    obtain ⟨p, vs, rfl, h2, h3⟩ := has_seq hl h1
    have e := has_strs hy h3
    subst e
    exact mt_join pins s σ z.H (.str a) _ v us Q I rx rs ⟨a, p, ys, rfl, rfl, h2, of_decide_eq_true hz, hp.at ok Has.str⟩
  · cases hc

/-! ### zip -/
theorem sdi_zip {a b : Expr} {ma mb : PV.E} {elts : List Expr} {kk : Nat} {tpos p pos : Pos} (hg : Gl X "zip") (hm : X.mg "zip" = none) (ha : Sd X q S a ma) (hb : Sd X q S b mb)
    (hs : starEach [a, b] X.env = (false, eval a X.env) :: starEach [b] X.env := by rfl) (hs2 : starEach [b] X.env = (false, eval b X.env) :: starEach [] X.env := by rfl) (hpl : (backTo pos (starEach [b] X.env)).any (·.1) = false := by rfl) :
    SdI X q S (.Tuple elts kk tpos) (.Call (.Name "zip" p) [a, b] [] pos) (.zip2 ma mb) := fun E tk =>
  pi_imp (pi_zipA hg hm (sda_cons ha (sda_cons hb sda_nil hs2) hs E tk) hs hpl) fun σ H R ⟨z, ρ, hH, ok, rl, w⟩ => ⟨z, ρ, hH, ok, rl, by
    have e0 : ((evE S ρ ma z.G).bind fun x G1 => (evE S ρ mb G1).bind fun y G2 => PV.R.of (zipD x y) G2) = (evEs S ρ [ma, mb] z.G).bind fun ds G => match ds with
      | [x, y] => .of (zipD x y) G
      | _ => .bad := by
      show _ = ((evE S ρ ma z.G).bind fun d G1 => (((evE S ρ mb G1).bind fun e G2 => .ok [e] G2).bind fun ds G3 => PV.R.ok (d :: ds) G3)).bind _
      cases evE S ρ ma z.G with
      | ok d G1 =>
        show ((evE S ρ mb G1).bind fun y G2 => PV.R.of (zipD d y) G2) = (((evE S ρ mb G1).bind fun e G2 => .ok [e] G2).bind fun ds G3 => PV.R.ok (d :: ds) G3).bind _
        cases evE S ρ mb G1 <;> rfl
      | exc c G1 => rfl
      | bad => rfl
    have w : wp X.K q z ((evE S ρ ma z.G).bind fun x G1 => (evE S ρ mb G1).bind fun y G2 => PV.R.of (zipD x y) G2) (fun ds z' => ∀ J I, Wk X.K q J ds I → I z' → R J z'.H) E := w
    rw [e0] at w
    refine (wp.bind w).mono fun ds z1 ok1 e1 w1 vs hvs => ?_
    match ds, w1 with
    | [x, y], w1 =>
      obtain ⟨c, hc, hp⟩ := wp.of w1
      obtain ⟨v, u, rfl, hv, hu⟩ := hvs.two
      cases x <;> cases y <;> simp only [zipD, reduceCtorEq] at hc
      · split at hc <;> cases hc
        rename_i hl
        obtain ⟨p1, vs, rfl, h1, h2⟩ := hv.ref_of_tup
        obtain ⟨p2, ws, rfl, h3, h4⟩ := hu.ref_of_tup
        exact ⟨p1, p2, vs, ws, rfl, .inr ⟨h1, h3, hp z1 rfl ok1 (Ext.refl _) _ _ (wk_zipT hl) ⟨h1, h3, h2, h4⟩⟩⟩
      · split at hc <;> cases hc
        rename_i hl
        obtain ⟨p1, vs, rfl, h1, f1, h2⟩ := hv.of_lst
        obtain ⟨p2, ws, rfl, h3, f3, h4⟩ := hu.of_lst
        exact ⟨p1, p2, vs, ws, rfl, .inl ⟨SqL.of h1, SqL.of h3, hp z1 rfl ok1 (Ext.refl _) _ _ (wk_zip hl) ⟨h1, h3, f1, f3, h2, h4⟩⟩⟩⟩

/-! ### a list backwards -/
theorem HasL.rev {K : PySem.W.Frag} {z : Z} : ∀ {ds : List PV.D} {vs : List V}, HasL K q z ds vs → HasL K q z ds.reverse vs.reverse
  | [], vs, h => by
    cases h
    exact HasL.nil
  | d :: ds, vs, h => by
    obtain ⟨v, r, rfl, h1, h2⟩ := h
    rw [List.reverse_cons, List.reverse_cons]
    exact (HasL.rev h2).app (HasL.cons h1 HasL.nil)
theorem sd_rev {e : Expr} {m : PV.E} {k : Nat} {p1 p2 p3 pos : Pos} (h : Sd X q S e m) : Sd X q S (.Subscript e (.Slice none none (some (.UnaryOp .USub (.Constant (.int 1) k p1) p2)) p3) pos) (.rev m) := fun E tk =>
  pe_imp (pe_revA (h E tk)) fun σ H Q ⟨z, ρ, hH, ok, rl, w⟩ => ⟨z, ρ, hH, ok, rl, (wp.bind w).mono fun d z1 ok1 e1 w1 v hv => by
    have w1 : wp X.K q z1 (match d with
      | .tup l => PV.R.ok (.tup l.reverse) z1.G
      | x => match lstOf x with
        | some l => .ok (.lst l.reverse) z1.G
        | none => .bad) (PQ X.K q Q) E := w1
    split at w1
    · rename_i l
      obtain ⟨a, vs, rfl, h2, h3⟩ := hv.ref_of_tup
      refine ⟨a, vs, rfl, .inr ⟨h2, fun p hn => ?_⟩⟩
      exact w1 (z1.put p (.tup vs.reverse)) rfl (ok1.put hn) (Ext.put hn) _ (put_tup ok1 hn h3.rev)
    · split at w1
      · rename_i l hl
        obtain ⟨a, vs, rfl, h2, h3⟩ := has_lst hl hv
        refine ⟨a, vs, rfl, .inl ⟨h2, fun p hn => ?_⟩⟩
        exact w1 (z1.put p (.lst vs.reverse)) rfl (ok1.put hn) (Ext.put hn) _ (put_lst ok1 hn h3.rev)
      · exact w1.elim⟩
/-! ### enumerate -/
theorem wk_enum {K : PySem.W.Frag} {a : Addr} {ds : List D} {vs : List V} : Wk K q (Ite K a) (enumD ds) (fun z => z.H a = some (.lst vs) ∧ Free z a ∧ HasL K q z ds vs) where
  stop := fun z ok ⟨h1, _, h3⟩ => ⟨vs, SqL.of h1, by rw [h3.len]; simp [enumD]⟩
  go := fun z i ok ⟨h1, _, h3⟩ hi => by
    have hi : i < ds.length := by simpa [enumD] using hi
    exact ⟨vs, vs[i]'(by rw [h3.len]; exact hi), SqL.of h1, by simp⟩
  yld := fun z i x H' ok ⟨h1, _, h3⟩ hi ⟨T, x1, e1, hn, e2, h5⟩ => by
    subst e1; subst e2
    obtain ⟨d, g1, g2⟩ := h3.get' (h5 vs (SqL.of h1))
    refine ⟨z.put T (.tup [.int (i : Nat), x1]), rfl, rfl, ok.put hn, Ext.put hn, .tup [.int (i : Nat), d], ?_, put_tup ok hn (HasL.cons Has.int (HasL.cons g2 HasL.nil))⟩
    simp [enumD, g1]
  st := fun z z' m ⟨h1, f1, h3⟩ => ⟨(m.l a vs h1 f1).1, (m.l a vs h1 f1).2, HasL.mv m ds vs h3⟩
theorem wk_enumT {K : PySem.W.Frag} {a : Addr} {ds : List D} {vs : List V} : Wk K q (IteT K a) (enumD ds) (fun z => SqT K z.H a vs ∧ HasL K q z ds vs) where
  stop := fun z ok ⟨h1, h3⟩ => ⟨vs, h1, by rw [h3.len]; simp [enumD]⟩
  go := fun z i ok ⟨h1, h3⟩ hi => by
    have hi : i < ds.length := by simpa [enumD] using hi
    exact ⟨vs, vs[i]'(by rw [h3.len]; exact hi), h1, by simp⟩
  yld := fun z i x H' ok ⟨h1, h3⟩ hi ⟨T, x1, e1, hn, e2, h5⟩ => by
    subst e1; subst e2
    obtain ⟨d, g1, g2⟩ := h3.get' (h5 vs h1)
    refine ⟨z.put T (.tup [.int (i : Nat), x1]), rfl, rfl, ok.put hn, Ext.put hn, .tup [.int (i : Nat), d], ?_, put_tup ok hn (HasL.cons Has.int (HasL.cons g2 HasL.nil))⟩
    simp [enumD, g1]
  st := fun z z' m ⟨h1, h3⟩ => ⟨m.t a vs h1, HasL.mv m ds vs h3⟩
theorem sdi_enum {a : Expr} {ma : PV.E} {elts : List Expr} {kk : Nat} {tpos p pos : Pos} (hg : Gl X "enumerate") (hm : X.mg "enumerate" = none) (ha : Sd X q S a ma) (hs : starEach [a] X.env = [(false, eval a X.env)] := by rfl) :
    SdI X q S (.Tuple elts kk tpos) (.Call (.Name "enumerate" p) [a] [] pos) (.enum ma) := fun E tk =>
  pi_imp (pi_or (pi_enum hg hm (sda_cons ha sda_nil hs E tk) hs) (pi_enumT hg hm (sda_cons ha sda_nil hs E tk) hs)) fun σ H R ⟨z, ρ, hH, ok, rl, w⟩ => by
    have e0 : ((evE S ρ ma z.G).bind fun x G1 => match x with
      | .lst l => PV.R.ok (enumD l) G1
      | .tup l => PV.R.ok (enumD l) G1
      | _ => .bad) = (evEs S ρ [ma] z.G).bind fun ds G => match ds with
      | [.lst l] => .ok (enumD l) G
      | [.tup l] => .ok (enumD l) G
      | _ => .bad := by
      show _ = ((evE S ρ ma z.G).bind fun d G1 => PV.R.ok [d] G1).bind _
      cases evE S ρ ma z.G with
      | ok d G1 => cases d <;> rfl
      | exc c G1 => rfl
      | bad => rfl
    have w : wp X.K q z ((evE S ρ ma z.G).bind fun x G1 => match x with
      | .lst l => PV.R.ok (enumD l) G1
      | .tup l => PV.R.ok (enumD l) G1
      | _ => .bad) (fun ds z' => ∀ J I, Wk X.K q J ds I → I z' → R J z'.H) E := w
    rw [e0] at w
    have w1 := wp.bind w
    by_cases ht : ∃ l G', evEs S ρ [ma] z.G = .ok [.tup l] G'
    · obtain ⟨l, G', ht⟩ := ht
      refine .inr ⟨z, ρ, hH, ok, rl, ?_⟩
      rw [ht] at w1 ⊢
      intro z1 hG ok1 e1 vs hvs
      obtain ⟨v, r, rfl, hv, hr⟩ := hvs
      cases hr
      obtain ⟨p1, vs, rfl, h1, h2⟩ := hv.ref_of_tup
      exact ⟨p1, vs, rfl, h1, w1 z1 hG ok1 e1 z1 rfl ok1 (Ext.refl _) _ _ wk_enumT ⟨h1, h2⟩⟩
    · refine .inl ⟨z, ρ, hH, ok, rl, ?_⟩
      cases hr : evEs S ρ [ma] z.G with
      | bad => rw [hr] at w1; exact w1.elim
      | exc c G' => rw [hr] at w1; exact w1
      | ok ds G' =>
        rw [hr] at w1 ht
        intro z1 hG ok1 e1 vs hvs
        have w2 := w1 z1 hG ok1 e1
        dsimp only at w2
        split at w2
        · rename_i l
          obtain ⟨v, r, rfl, hv, hr⟩ := hvs
          cases hr
          obtain ⟨p1, vs, rfl, h1, f1, h2⟩ := hv.of_lst
          exact ⟨p1, vs, rfl, SqL.of h1, w2 z1 rfl ok1 (Ext.refl _) _ _ wk_enum ⟨h1, f1, h2⟩⟩
        · rename_i l
          exact absurd ⟨l, G', rfl⟩ ht
        · exact w2.elim

/-! ### texts made of parts -/
theorem sd_fv {e : Expr} {m : PV.E} {pos : Pos} (h : Sd X q S e m) : Sd X q S (.FormattedValue e (-1) none pos) (.fv m) := fun E tk =>
  pe_imp (pe_fmt (h E tk)) fun σ H Q ⟨z, ρ, hH, ok, rl, w⟩ => ⟨z, ρ, hH, ok, rl, (wp.bind w).mono fun d z1 ok1 e1 w1 v hv => by
    obtain ⟨c, hc, hp⟩ := wp.of w1
    replace hp : Post X.K q z1 Q c := hp
    cases d <;> simp only [fvD, reduceCtorEq] at hc
    · rename_i i
      split at hc <;> cases hc
      rename_i hz
      exact .inr ⟨i, hv.of_int, hz, hp.at ok1 Has.str⟩
    · rename_i y
      split at hc <;> cases hc
      rename_i hz
      exact .inl ⟨y, hv.of_str, hz, hp.at ok1 Has.str⟩⟩
/-- the parts' judgements -/
inductive SdJ (X : Cx) (q : Par) (S : PV.Sem) : List Expr → List PV.E → Prop where
  | nil : SdJ X q S [] []
  | cons {e : Expr} {m : PV.E} {es : List Expr} {ms : List PV.E} (h : Sd X q S e m) (r : SdJ X q S es ms) : SdJ X q S (e :: es) (m :: ms)
theorem SdJ.pj {es : List Expr} {ms : List PV.E} (h : SdJ X q S es ms) (E : XK) (tk : Tk X E) : PJ X es (ms.map (rdE X.K q S E)) := by
  induction h with
  | nil => exact .nil
  | cons h r ih => exact .cons (h E tk) ih
theorem evF_js {E : XK} {ρ : Env} {σ : L2.St} {Q : VK} : ∀ (ms : List PV.E) (acc : Str) (z : Z), Ok X.K q z → RelS X.K q z ρ σ → wp X.K q z (evF S ρ ms acc z.G) (PQ X.K q Q) E → tJs (ms.map (rdE X.K q S E)) acc σ z.H fun out H1 => Q (.str out) H1
  | [], acc, z, ok, rl, w => wp.here (P := PQ X.K q Q) ok w _ Has.str
  | m :: ms, acc, z, ok, rl, w => ⟨z, ρ, rfl, ok, rl, (wp.bind w).mono fun d z1 ok1 e1 w1 v hv => by
    cases d with
    | str y =>
      have w1 : wp X.K q z1 (if (acc ++ y).length ≤ sizeLine then evF S ρ ms (acc ++ y) z1.G else .bad) (PQ X.K q Q) E := w1
      split at w1
      · rename_i hz
        exact ⟨y, hv.of_str, hz, evF_js ms (acc ++ y) z1 ok1 (rl.ext ok e1) w1⟩
      · exact w1.elim
    | _ => exact w1.elim⟩
theorem sd_fmt {v1 v2 : Expr} {rest : List Expr} {ms : List PV.E} {pos : Pos} (h : SdJ X q S (v1 :: v2 :: rest) ms) : Sd X q S (.JoinedStr (v1 :: v2 :: rest) pos) (.fmt ms) := fun E tk =>
  pe_imp (pe_joined (h.pj E tk)) fun σ H Q ⟨z, ρ, hH, ok, rl, w⟩ => by
    subst hH
    exact evF_js ms Str.empty z ok rl w
end
end PV
end
/-! ## PVe -/
section
set_option Elab.async false
set_option linter.all false
set_option maxRecDepth 100000
set_option maxHeartbeats 4000000
/-! The rules: cells made by list(x) and list * int, pop, reversed, list.count, dict(pairs). -/
namespace PV
open PySem L2 LamX PyProof.Rows RZ RT
section
variable {X : Cx} {q : Par} {S : PV.Sem} {K : PySem.W.Frag} {z z' : Z}
theorem cell_new (ok1 : Ok K q z) {p : Addr} {ds : List D} {vs : List V} (hp : z.H p = none) (hvs : HasL K q z ds vs) : Ok K q (z.cell p (.lst ds) (.lst vs)) ∧ Ext z (z.cell p (.lst ds) (.lst vs)) ∧ Has K q (z.cell p (.lst ds) (.lst vs)) (.cell z.G.length) (.ref p) := by
  refine ⟨ok1.cell hp fun z' m hp' => ⟨vs, hp', HasL.mv m ds vs hvs⟩, Ext.cell ok1 hp, has_cell ?_⟩
  show (z.μ ++ [p])[z.G.length]? = some p
  rw [← ok1.len]; simp
/-- list(x): a cell -/
theorem sd_listC {x : Str} {pp pos : Pos} {e : Expr} {m : PV.E} (hg : Gl X x) (hm : X.mg x = none) (hv : bootBuiltins x = some (.type "list")) (h : Sd X q S e m)
    (hn : x ≠ "__name__" := by decide) (hdb : (x == ("__debug__" : Str)) = false := by decide) (he : starEach [e] X.env = (false, eval e X.env) :: starEach [] X.env := by rfl) (hpl : (backTo pos (starEach [] X.env)).any (·.1) = false := by rfl) : Sd X q S (.Call (.Name x pp) [e] [] pos) (.listC m) := fun E tk =>
  pe_imp (pe_callTy call_list_of hg hm hv (pa_cons (h E tk) pa_nil he) hn hdb he hpl) fun σ H Q ⟨z, ρ, hH, ok, rl, w⟩ => ⟨z, ρ, hH, ok, rl, (wp.bind w).mono fun d z1 ok1 e1 w1 v hv => by
    have w1 : wp X.K q z1 (match seqOf d with
      | some l => PV.R.ok (PV.D.cell z1.G.length) (z1.G ++ [some (.lst l)])
      | none => .bad) (PQ X.K q Q) E := w1
    split at w1
    · rename_i l hl
      obtain ⟨a, vs, rfl, h2, h3⟩ := has_seq hl hv
      refine ⟨a, vs, rfl, h2, fun p hp => ?_⟩
      obtain ⟨c1, c2, c3⟩ := cell_new ok1 hp h3
      exact w1 _ rfl c1 c2 _ c3
    · exact w1.elim⟩
/-- list * int: a cell -/
theorem sd_mulC {a b : Expr} {ma mb : PV.E} {pos : Pos} (ha : Sd X q S a ma) (hb : Sd X q S b mb) : Sd X q S (.BinOp a .Mult b pos) (.mulC ma mb) := fun E tk =>
  pe_imp (pe_op op_rep (ha E tk) (hb E tk)) fun σ H Q ⟨z, ρ, hH, ok, rl, w⟩ => ⟨z, ρ, hH, ok, rl, (wp.bind w).mono fun d z1 ok1 e1 w1 v hv => ⟨z1, ρ, rfl, ok1, rl.ext ok e1, (wp.bind w1).mono fun y z2 ok2 e2 w2 u hu => by
    have w2 : wp X.K q z2 (match binD .mul d y with
      | some (.lst l) => PV.R.ok (PV.D.cell z2.G.length) (z2.G ++ [some (.lst l)])
      | _ => .bad) (PQ X.K q Q) E := w2
    split at w2
    · rename_i l hl
      have hv' := Has.ext ok1 e2 d v hv
      cases d <;> cases y <;> simp only [binD, reduceCtorEq] at hl
      · split at hl <;> cases hl
      · split at hl <;> cases hl
      · rename_i l0 k
        split at hl <;> cases hl
        rename_i hs
        obtain ⟨a, vs, rfl, h1, _, h2⟩ := hv'.of_lst
        obtain ⟨k0, k1, k2⟩ := hs
        refine ⟨a, k, vs, rfl, hu.of_int, h1, by omega, by omega, ?_, fun p hp => ?_⟩
        · have e : vs.length ≤ 1000 := by rw [h2.len]; exact k2
          have e2 : k.toNat ≤ 1000 := by omega
          exact Nat.le_trans (Nat.mul_le_mul e e2) (by rw [sizeLine_eq]; decide)
        · obtain ⟨c1, c2, c3⟩ := cell_new ok2 hp (h2.rep k.toNat)
          exact w2 _ rfl c1 c2 _ c3
    · exact w2.elim⟩⟩
/-- xs.pop() -/
theorem HasL.dropLast {ds : List D} {vs : List V} (h : HasL K q z ds vs) : HasL K q z ds.dropLast vs.dropLast := by
  rw [List.dropLast_eq_take, List.dropLast_eq_take, h.len]
  exact h.take _
theorem sd_pop {o : Expr} {mo : PV.E} {apos pos : Pos} (ho : Sd X q S o mo) (hbase : attributeBase o "pop" X.env (eval o X.env) = eval o X.env := by rfl) (hline : (apos.endLine == pos.line) = true := by rfl) : Sd X q S (.Call (.Attribute o "pop" apos) [] [] pos) (.pop mo) := fun E tk =>
  pe_imp (pe_bm0 PySem.F.plainAttrs_list PySem.F.slot_list_pop PySem.F.type_list_pop mt_pop (ho E tk) hbase hline) fun σ H Q ⟨z, ρ, hH, ok, rl, w⟩ => ⟨z, ρ, hH, ok, rl, (wp.bind w).mono fun d z1 ok1 e1 w1 v hv => by
    cases d with
    | cell n =>
      have w1 : wp X.K q z1 (match z1.G[n]? with
        | some (some (.lst l)) => (match l[l.length - 1]? with
          | some y => PV.R.ok y (z1.G.set n (some (.lst l.dropLast)))
          | none => .bad)
        | _ => .bad) (PQ X.K q Q) E := w1
      split at w1
      · rename_i l hl
        split at w1
        · rename_i y hy
          obtain ⟨a, rfl, hua, vs, g2, g3⟩ := cell_at ok1 hv hl
          obtain ⟨u, hu, hyu⟩ := g3.get hy
          refine ⟨.inl ⟨rfl, vs, SqL.of g2⟩, a, vs, u, rfl, rfl, g2, by rw [g3.len]; exact hu, ?_⟩
          have ok2 := ok_stC (c' := .lst l.dropLast) (o := .lst vs.dropLast) ok1 hl hua (fun _ x => nomatch x) fun z' m hp => ⟨_, hp, HasL.mv m _ _ g3.dropLast⟩
          have ex2 := ext_stC (c' := .lst l.dropLast) (o := .lst vs.dropLast) ok1 hl hua (fun _ x => nomatch x)
          exact w1 (z1.stC n a (.lst l.dropLast) (.lst vs.dropLast)) rfl ok2 ex2 _ (Has.ext ok1 ex2 _ _ hyu)
        · exact w1.elim
      · exact w1.elim
    | _ => exact w1.elim⟩
/-! ### reversed -/
theorem rev_at {α : Type} {l : List α} {i : Nat} (h : i < l.length) : l.reverse[i]? = l[l.length - 1 - i]? := by
  rw [List.getElem?_reverse h]
theorem wk_rev {K : PySem.W.Frag} {a : Addr} {ds : List D} {vs : List V} {I : Z → Prop} (hI : ∀ z, Ok K q z → I z → SqL K z.H a vs ∧ HasL K q z ds vs) (st : ∀ z z', Mv K q z z' → I z → I z') : Wk K q (Itv K a ds.length) ds.reverse I where
  stop := fun z ok h => by show ds.length ≤ ds.reverse.length; simp
  go := fun z i ok h hi => by
    have hi : i < ds.length := by simpa using hi
    obtain ⟨h1, h2⟩ := hI z ok h
    exact ⟨hi, vs, vs[ds.length - 1 - i]'(by rw [h2.len]; omega), h1, by simp⟩
  yld := fun z i x H' ok h hi ⟨e, h3⟩ => by
    subst e
    have hi : i < ds.length := by simpa using hi
    obtain ⟨h1, h2⟩ := hI z ok h
    obtain ⟨d, h4, h5⟩ := h2.get' (h3 vs h1)
    exact ⟨z, rfl, rfl, ok, Ext.refl z, d, by rw [rev_at hi]; exact h4, h5⟩
  st := st
theorem wk_revT {K : PySem.W.Frag} {a : Addr} {ds : List D} {vs : List V} : Wk K q (ItvT K a ds.length) ds.reverse (fun z => SqT K z.H a vs ∧ HasL K q z ds vs) where
  stop := fun z ok h => by show ds.length ≤ ds.reverse.length; simp
  go := fun z i ok ⟨h1, h2⟩ hi => by
    have hi : i < ds.length := by simpa using hi
    exact ⟨hi, vs, vs[ds.length - 1 - i]'(by rw [h2.len]; omega), h1, by simp⟩
  yld := fun z i x H' ok ⟨h1, h2⟩ hi ⟨e, h3⟩ => by
    subst e
    have hi : i < ds.length := by simpa using hi
    obtain ⟨d, h4, h5⟩ := h2.get' (h3 vs h1)
    exact ⟨z, rfl, rfl, ok, Ext.refl z, d, by rw [rev_at hi]; exact h4, h5⟩
  st := fun z z' m ⟨h1, h2⟩ => ⟨m.t a vs h1, HasL.mv m ds vs h2⟩
theorem sdi_rev {tg e : Expr} {m : PV.E} {p pos : Pos} (hg : Gl X "reversed") (hm : X.mg "reversed" = none) (h : Sd X q S e m) (hs : starEach [e] X.env = (false, eval e X.env) :: starEach [] X.env := by rfl) : SdI X q S tg (.Call (.Name "reversed" p) [e] [] pos) (.revI m) := fun E tk =>
  pi_imp (pi_revA hg hm (h E tk) hs) fun σ H R ⟨z, ρ, hH, ok, rl, w⟩ => ⟨z, ρ, hH, ok, rl, by
    have w : wp X.K q z ((evE S ρ m z.G).bind fun x G1 => match seqOf x with
      | some l => PV.R.ok l.reverse G1
      | none => .bad) (fun ds z' => ∀ J I, Wk X.K q J ds I → I z' → R J z'.H) E := w
    refine (wp.bind w).mono fun d z1 ok1 e1 w1 v hv => ?_
    cases d with
    | tup l =>
      obtain ⟨a, vs, rfl, h1, h2⟩ := hv.ref_of_tup
      refine ⟨a, vs, rfl, .inr ⟨h1, ?_⟩⟩
      rw [h2.len]
      exact w1 z1 rfl ok1 (Ext.refl _) _ _ wk_revT ⟨h1, h2⟩
    | lst l =>
      obtain ⟨a, vs, rfl, h1, f1, h2⟩ := hv.of_lst
      refine ⟨a, vs, rfl, .inl ⟨SqL.of h1, ?_⟩⟩
      rw [h2.len]
      exact w1 z1 rfl ok1 (Ext.refl _) _ _ (wk_rev (I := fun z => z.H a = some (.lst vs) ∧ Free z a ∧ HasL X.K q z l vs) (fun z ok h => ⟨SqL.of h.1, h.2.2⟩) fun z z' m ⟨h1, f1, h2⟩ => ⟨(m.l a vs h1 f1).1, (m.l a vs h1 f1).2, HasL.mv m _ _ h2⟩) ⟨h1, f1, h2⟩
    | frz l =>
      simp only [Has] at hv
      obtain ⟨a, vs, rfl, h1, h2⟩ := hv
      rcases h1 with ⟨h1, f1⟩ | h1
      · refine ⟨a, vs, rfl, .inl ⟨.inl h1, ?_⟩⟩
        rw [h2.len]
        exact w1 z1 rfl ok1 (Ext.refl _) _ _ (wk_rev (I := fun z => Rd z.H a (.lst vs) ∧ Free z a ∧ HasL X.K q z l vs) (fun z ok h => ⟨.inl h.1, h.2.2⟩) fun z z' m ⟨h1, f1, h2⟩ => ⟨(m.r a vs h1 f1).1, (m.r a vs h1 f1).2, HasL.mv m _ _ h2⟩) ⟨h1, f1, h2⟩
      · refine ⟨a, vs, rfl, .inl ⟨.inr h1, ?_⟩⟩
        rw [h2.len]
        exact w1 z1 rfl ok1 (Ext.refl _) _ _ (wk_rev (I := fun z => HasL X.K q z l vs) (fun z ok h => ⟨.inr h1, h⟩) fun z z' m h2 => HasL.mv m _ _ h2) h2
    | _ => exact w1.elim⟩
/-! ### list.count -/
theorem sd_lcount {o e : Expr} {mo me : PV.E} {apos pos : Pos} (hu : X.A.units + 64 < cLine) (ho : Sd X q S o mo) (he : Sd X q S e me) (hbase : attributeBase o "count" X.env (eval o X.env) = eval o X.env := by rfl)
    (hfew : ((backTo pos (starEach [e] X.env)).all (fun x => !x.1) && (backToKw pos (keywordEach [] X.env)).all (fun x => x.1.isSome)
      && decide (([e] : List Expr).length + ([] : List Keyword).length + (if ([] : List Keyword).isEmpty then 0 else 1) < 30)) = true := by rfl)
    (hline : (apos.endLine == pos.line) = true := by rfl) (hs : starEach [e] X.env = (false, eval e X.env) :: starEach [] X.env := by rfl) (hplain : (backTo pos (starEach [] X.env)).any (·.1) = false := by rfl) : Sd X q S (.Call (.Attribute o "count" apos) [e] [] pos) (.lcount mo me) := fun E tk =>
  pe_imp (pe_bm PySem.F.plainAttrs_list PySem.F.slot_list_count PySem.F.type_list_count (mt_countD hu) (ho E tk) (pa_cons (he E tk) pa_nil (hs)) hbase hfew hline hs hplain) fun σ H Q ⟨z, ρ, hH, ok, rl, w⟩ => ⟨z, ρ, hH, ok, rl, by
    refine (wp.bind w).mono fun d z1 ok1 e1 w1 v hv => ?_
    have w1 : wp X.K q z1 (match lstOf d with
      | some _ => (evE S ρ me z1.G).bind fun y G2 => .of (countD d y) G2
      | none => .bad) (PQ X.K q Q) E := w1
    split at w1
    · rename_i l hl
      obtain ⟨a, vs, rfl, h1, h2⟩ := has_lst hl hv
      refine ⟨.inl ⟨rfl, vs, h1⟩, z1, ρ, rfl, ok1, rl.ext ok e1, (wp.bind w1).mono fun y z2 ok2 e2 w2 u hu => ?_⟩
      obtain ⟨c, hc, hp⟩ := wp.of w2
      unfold countD at hc
      split at hc
      · rename_i l' p hl' hy
        split at hc
        · rename_i ps hps
          split at hc <;> cases hc
          rename_i hs2
          simp only [Bool.and_eq_true] at hs2
          have hv2 := Has.ext ok1 e2 d _ hv
          have hd : toPy d = some (.list ps) := by
            cases d <;> simp only [lstOf, reduceCtorEq, Option.some.injEq] at hl'
            · subst hl'; simp only [toPy, hps, Option.map]
            · subst hl'; simp only [toPy, hps, Option.map]
          exact ⟨a, u, p, ps, rfl, rfl, has_dp d _ _ hd hv2, has_dp y p u hy hu, hs2.1.1, hs2.1.2, of_decide_eq_true hs2.2, hp _ rfl ok2 (Ext.refl _) _ Has.int⟩
        · cases hc
      · cases hc
    · exact w1.elim⟩
/-! ### dict(pairs) -/
/-- one more entry -/
theorem store_at {k : NestedKey} {dk dv : D} {b : Addr} {v : V} {u : Value} {ks vs : List D} {xs : List (NestedKey × Addr × Value)} {us : List V} (hk : keyT dk = some k) (hb : Has K q z dk (.ref b)) (hv : Has K q z dv v) (rv : RelV v u) (g3 : Keyed ks (xs.map (·.1))) (g4 : HasL K q z ks (xs.map fun x => V.ref x.2.1)) (g5 : Vals us (xs.map (·.2.2))) (g6 : HasL K q z vs us) :
    ∃ us', Keyed (storeK k dk dv ks vs).1 ((storedH xs k b u).map (·.1)) ∧ HasL K q z (storeK k dk dv ks vs).1 ((storedH xs k b u).map fun x => V.ref x.2.1) ∧ Vals us' ((storedH xs k b u).map (·.2.2)) ∧ HasL K q z (storeK k dk dv ks vs).2 us' := by
  obtain ⟨l1, l2⟩ := get_at (z := z) (q := q) (K := K) k ks vs xs us g3 g5 g6
  unfold storeK
  cases hg : getK k ks vs with
  | some d =>
    obtain ⟨p, x, a1, _⟩ := l1 d hg
    rw [storedH_old a1]
    obtain ⟨us', b1, b2⟩ := put_at (z := z) (q := q) (K := K) k dv ks vs xs us v u g3 g5 g6 rv hv
    refine ⟨us', ?_, ?_, b1, b2⟩
    · show Keyed ks _
      rw [(put_keys k u xs).1]; exact g3
    · show HasL K q z ks _
      rw [(put_keys k u xs).2]; exact g4
  | none =>
    rw [storedH_new (l2 hg)]
    refine ⟨us ++ [v], ?_, ?_, ?_, ?_⟩
    · show Keyed (ks ++ [dk]) _
      unfold Keyed at g3 ⊢
      rw [List.map_append, List.map_append, List.map_append, g3]
      simp [hk]
    · show HasL K q z (ks ++ [dk]) _
      rw [List.map_append]
      exact g4.app (HasL.cons hb HasL.nil)
    · rw [List.map_append]
      exact g5.append (.cons rv .nil)
    · show HasL K q z (vs ++ [dv]) _
      exact g6.app (HasL.cons hv HasL.nil)
abbrev dctF (acc : Option (List D × List D)) (p : D) : Option (List D × List D) := match acc, p with
    | some (ks, vs), .tup [k, v] => (keyT k).map fun x => storeK x k v ks vs
    | _, _ => none
theorem dctF_none : ∀ l : List D, l.foldl dctF none = none
  | [] => rfl
  | p :: l => dctF_none l
theorem dctF_cons {ks vs : List D} {p : D} {l : List D} {r : List D × List D} (h : (p :: l).foldl dctF (some (ks, vs)) = some r) : ∃ k v x, p = .tup [k, v] ∧ keyT k = some x ∧ l.foldl dctF (some (storeK x k v ks vs)) = some r := by
  rw [List.foldl_cons] at h
  cases hp : dctF (some (ks, vs)) p with
  | none => rw [hp, dctF_none] at h; cases h
  | some y =>
    rw [hp] at h
    unfold dctF at hp
    split at hp
    · rename_i ks' vs' k v e
      cases e
      simp only [Option.map_eq_some_iff] at hp
      obtain ⟨x, hx, rfl⟩ := hp
      exact ⟨k, v, x, rfl, hx, h⟩
    · cases hp
/-- the pairs of a list -/
theorem pairs_of {pins : List (Addr × Obj)} {σ : L2.St} {s : Shared} (I : L2.Inv X pins σ z.H s) : ∀ (l : List D) (vs : List V) (its : List Value) (ks ws : List D) (xs : List (NestedKey × Addr × Value)) (us : List V) (r : List D × List D), HasL X.K q z l vs → Vals vs its → l.foldl dctF (some (ks, ws)) = some r →
    Keyed ks (xs.map (·.1)) → HasL X.K q z ks (xs.map fun x => V.ref x.2.1) → Vals us (xs.map (·.2.2)) → HasL X.K q z ws us →
    ∃ (Ts : List Addr) (ps : List (NestedKey × Addr × Value)) (us' : List V), ps.length = l.length ∧ Ts.length = l.length ∧ its = Ts.map Value.ref ∧ (∀ (j : Nat) T p, Ts[j]? = some T → ps[j]? = some p → s.heap.IsTuple T #[.ref p.2.1, p.2.2]) ∧ (∀ p ∈ ps, NestedIs s.heap p.1 (.ref p.2.1) ∧ p.1.depth ≤ 8) ∧
      Keyed r.1 ((storedAllH xs ps).map (·.1)) ∧ HasL X.K q z r.1 ((storedAllH xs ps).map fun x => V.ref x.2.1) ∧ Vals us' ((storedAllH xs ps).map (·.2.2)) ∧ HasL X.K q z r.2 us'
  | [], vs, its, ks, ws, xs, us, r, hl, rv, hf, g3, g4, g5, g6 => by
    have := hl.nil_inv
    subst this
    cases rv
    have hf : some (ks, ws) = some r := hf
    cases hf
    exact ⟨[], [], us, rfl, rfl, rfl, (fun _ _ _ h => nomatch h), (fun _ h => nomatch h), g3, g4, g5, g6⟩
  | p :: l, vs, its, ks, ws, xs, us, r, hl, rv, hf, g3, g4, g5, g6 => by
    obtain ⟨k, v, x, rfl, hx, hf2⟩ := dctF_cons hf
    obtain ⟨pv, vr, rfl, h1, h2⟩ := hl.cons_inv
    cases rv with
    | @cons _ pu _ itr r1 r2 =>
      obtain ⟨T, tv, rfl, ht, hts⟩ := h1.ref_of_tup
      obtain ⟨kv, tr, rfl, hkv, ht2⟩ := hts.cons_inv
      obtain ⟨vv, tr2, rfl, hvv, ht3⟩ := ht2.cons_inv
      have := ht3.nil_inv
      subst this
      rw [show pu = Value.ref T from r1]
      obtain ⟨it2, rvt, pl, hz⟩ := I.tuple ht
      cases rvt with
      | @cons _ uk _ _ rk rr =>
        cases rr with
        | @cons _ uv _ _ ru rn =>
          cases rn
          obtain ⟨hk1, hk2, tl, rfl⟩ := keyT_tup hx
          obtain ⟨b, bv, rfl, _⟩ := hkv.ref_of_tup
          obtain rfl : uk = Value.ref b := rk
          obtain ⟨us2, n1, n2, n3, n4⟩ := store_at (dv := v) (ks := ks) (vs := ws) hx hkv hvv ru g3 g4 g5 g6
          obtain ⟨Ts, ps, us', a1, a2, a3, a4, a5, a6⟩ := pairs_of I l vr itr _ _ (storedH xs x b uv) us2 r h2 r2 hf2 n1 n2 n3 n4
          refine ⟨T :: Ts, (x, b, uv) :: ps, us', by simp [a1], by simp [a2], by simp [a3], fun j T' p' h1 h2 => ?_, fun p' hp => ?_, a6⟩
          · cases j with
            | zero =>
              simp at h1 h2
              subst h1 h2
              obtain ⟨o, ho, hc, n, hd⟩ := pl
              exact ⟨o, ho, hc, n, hd⟩
            | succ j =>
              simp at h1 h2
              exact a4 j T' p' h1 h2
          · rcases List.mem_cons.mp hp with rfl | hp
            · exact ⟨has_key I (.tup tl) x (.ref b) (.ref b) hk1 hkv rfl, hk2⟩
            · exact a5 p' hp
def rDctP (K : PySem.W.Frag) (q : Par) : List V → Hp → VK → Prop := fun vs H Q => ∃ (z : Z) (l : List D) (r : List D × List D), z.H = H ∧ Ok K q z ∧ HasL K q z [.lst l] vs ∧ dctP l = some r ∧ l.length ≤ sizeLine ∧ Post K q z Q (.dct r.1 r.2)
theorem call_dictP (hu : X.A.units + 64 < cLine) (hc : X.calm = true) (hP : q.P = X.prog) (hW : q.W = X.w) : CallR X (.type "dict") (rDctP X.K q) := by
  intro pins s σ H vs us Q I rv h
  obtain ⟨z, l, r, rfl, ok, hv, hd, hz, hp⟩ := h
  obtain ⟨v, vr, rfl, h1, h2⟩ := hv.cons_inv
  have := h2.nil_inv
  subst this
  obtain ⟨a, ws, rfl, ha, fa, hw⟩ := h1.of_lst
  cases rv with
  | @cons _ u _ _ r1 r2 =>
    cases r2
    rw [show u = Value.ref a from r1]
    obtain ⟨hz2, its, n, rvs, hob⟩ := I.hok a _ ha
    obtain ⟨Ts, ps, us', a1, a2, a3, a4, a5, a6, a7, a8, a9⟩ := pairs_of (q := q) I l ws its [] [] [] [] r hw rvs hd rfl HasL.nil .nil HasL.nil
    have hPI : PairItems s.heap its.toArray (fun j => Ts.getD j 0) (ps.map fun p => (Value.ref p.2.1, p.2.2)) := by
      refine ⟨by rw [a3, List.size_toArray, List.length_map, List.length_map, a1, a2], fun j k v hj => ?_⟩
      rw [List.getElem?_map, Option.map_eq_some_iff] at hj
      obtain ⟨p, hpj, e⟩ := hj
      cases e
      have hjl : j < Ts.length := by
        have := (List.getElem?_eq_some_iff.mp hpj).1
        omega
      have hT : Ts[j]? = some (Ts.getD j 0) := by
        rw [List.getD_eq_getElem?_getD, List.getElem?_eq_getElem hjl]; rfl
      refine ⟨?_, .inl (a4 j _ p hT hpj)⟩
      rw [List.getElem?_toArray, a3, List.getElem?_map, hT]; rfl
    have hkeys : ∀ h' : Heap, (∀ b o, s.heap.get? b = some o → h'.get? b = some o) → ∀ x ∈ ps, (nestedKind X.prog X.w).is h' x.1 x.2.1 := fun h' hk x hx => ⟨NestedIs.at (fun b o vs n e _ => hk b o e) _ _ (a5 x hx).1, (a5 x hx).2⟩
    refine call_dict_pairsH (knd := nestedKind X.prog X.w) (ps := ps) (PairArg.list a its.toArray (fun j => Ts.getD j 0) (ps.map fun p => (Value.ref p.2.1, p.2.2))) (I.ok.hd hc) ?_ ⟨⟨_, n, hob, rfl, rfl, rfl⟩, hPI⟩ ?_ ?_ ?_ ?_
    · show X.A.units + 1 + 1 + 8 < cLine
      omega
    · refine ⟨by rw [List.length_map], fun i key v hr => ?_⟩
      have hr : (ps.map fun p => (Value.ref p.2.1, p.2.2))[i]? = some (key, v) := hr
      rw [List.getElem?_map, Option.map_eq_some_iff] at hr
      obtain ⟨p, hpj, e⟩ := hr
      cases e
      exact ⟨p.1, p.2.1, hpj, rfl⟩
    · exact fun h' hk => hkeys h' fun b o e => hk b o (Nat.ne_of_lt (Heap.lt_size e)) (by simp) e
    · rw [List.length_map, a1]; exact hz
    · intro h' tk hD hk
      have hk : ∀ b o, s.heap.get? b = some o → h'.get? b = some o := fun b o e => hk b o (by simp) e
      obtain ⟨o, es, ep, f1, f2, f3, f4, f5, f6⟩ := hD
      have hpn := I.hok.fresh (H := z.H) (Nat.le_refl _)
      have hlen : (storedAllH [] ps).length ≤ sizeLine := by
        have := storedAllH_length ps []
        simp only [List.length_nil] at this
        omega
      have lo : (s.heap.objs.size == sysModules) = false := beq_eq_false_iff_ne.mpr (Ne.symm (Nat.ne_of_lt I.big))
      refine ⟨.ref s.heap.objs.size, upd z.H s.heap.objs.size (DictO s.heap.objs.size o), I.laid (a := s.heap.objs.size) (t' := tk) hk (Nat.le_refl _) ⟨f1, ⟨_, f1⟩, fun h1 h2 e1 e2 => e2 _ e1⟩, rfl, ?_⟩
      refine hp.put ok hpn ?_
      have okp := ok.put (o := DictO s.heap.objs.size o) hpn
      have ex : Ext z (z.put s.heap.objs.size (DictO s.heap.objs.size o)) := Ext.put hpn
      simp only [Has]
      exact ⟨s.heap.objs.size, o, _, us', rfl, upd_same, ⟨es, ep, f2, f3, by rw [f4, hP, hW], f6, hlen, lo⟩, a6, HasL.ext ok ex _ _ a7, a8, HasL.ext ok ex _ _ a9, ok.freeNew hpn⟩
theorem sd_dctP {x : Str} {pp pos : Pos} {e : Expr} {m : PV.E} (hu : X.A.units + 64 < cLine) (hc : X.calm = true) (hP : q.P = X.prog) (hW : q.W = X.w) (hg : Gl X x) (hm : X.mg x = none) (hv : bootBuiltins x = some (.type "dict")) (h : Sd X q S e m)
    (hn : x ≠ "__name__" := by decide) (hdb : (x == ("__debug__" : Str)) = false := by decide) (he : starEach [e] X.env = (false, eval e X.env) :: starEach [] X.env := by rfl) (hpl : (backTo pos (starEach [] X.env)).any (·.1) = false := by rfl) : Sd X q S (.Call (.Name x pp) [e] [] pos) (.dctP m) := fun E tk =>
  pe_imp (pe_callTy (call_dictP hu hc hP hW) hg hm hv (pa_cons (h E tk) pa_nil he) hn hdb he hpl) fun σ H Q ⟨z, ρ, hH, ok, rl, w⟩ => ⟨z, ρ, hH, ok, rl, (wp.bind w).mono fun d z1 ok1 e1 w1 v hv => by
    cases d with
    | lst l =>
      have w1 : wp X.K q z1 (match dctP l with
        | some p => if l.length ≤ sizeLine then PV.R.ok (PV.D.dct p.1 p.2) z1.G else .bad
        | none => .bad) (PQ X.K q Q) E := w1
      split at w1
      · rename_i p hp
        split at w1
        · rename_i hz
          exact ⟨z1, l, p, rfl, ok1, HasL.cons hv HasL.nil, hp, hz, w1⟩
        · exact w1.elim
      · exact w1.elim
    | _ => exact w1.elim⟩
end
end PV
end
/-! ## PV8 -/
section
set_option Elab.async false
set_option linter.all false
set_option maxRecDepth 100000
set_option maxHeartbeats 4000000
/-! The rules: what is told of a call that may be refused; lambdas. -/
namespace PV
open PySem L2 LamX PyProof.Rows RZ
/-- what the clauses tell of an exception -/
def Wt (K : PySem.W.Frag) (Q : VK) (cls : Value) (H : Hp) : List (Value × Str) → Prop
  | [] => False
  | (c, r) :: l => ∃ b, PySem.W.exmOne K cls c = some b ∧ (b = true → Q (.str r) H) ∧ (b = false → Wt K Q cls H l)
def TTm (K : PySem.W.Frag) (hl : List (Value × Str)) : (XK → Hp → VK → Prop) → Hp → VK → Prop := fun tl H Q => tl (fun cls _ H' => Wt K Q cls H' hl) H Q
abbrev sayT (r : Str) : Addr → Value → Option Addr → TS := fun _ _ _ => tRet (tC (.str r))
theorem wMany_of {K : PySem.W.Frag} {D : Ends} {cls : Value} {d : Option Addr} {σ : L2.St} {H : Hp} : ∀ {hl : List (Value × Str)}, Wt K D.rt cls H hl → wMany K (fun _ _ _ _ => False) D (hl.map fun p => (p.1, sayT p.2)) cls d σ H
  | [], h => h
  | (c, r) :: l, ⟨b, h1, h2, h3⟩ => ⟨b, h1, fun hb a _ => h2 hb, fun hb => wMany_of (h3 hb)⟩
section
variable {X : Cx} {q : Par} {S : PV.Sem}
theorem gives_many {Ng : List Str} {x a qn : Str} {sg : Scope} {g : Addr} {cdg : Value} {p1 p2 p3 p8 : Pos} {h0 : ExceptHandler} {hds : List ExceptHandler} {hl : List (Value × Str)}
    (hh : ∀ s H, HdsOk (cxOf C8.CX0 X.prog X.w X.K X.mg X.base Ng x sg g cdg X.A X.stack s H C8.E0).nox (h0 :: hds) (hl.map fun p => (p.1, sayT p.2))) (hf0 : ∀ f : Addr, (L2.start Ng [V.ref f])[0]? = some (some (V.ref f))) :
    GivesTo X Ng x sg g cdg [.Try [.Return (some (.Call (.Name a p1) [] [] p2)) p3] (h0 :: hds) [] [] p8] a qn (TTm X.K hl) := by
  intro f c1 st H Q tl act hcode hq
  let tbody : WX → TS := fun W D σ H => ∃ Eo : XK, (∀ cls d σ1 H1, Eo cls d H1 → W cls d σ1 H1) ∧ σ[0]? = some (some (.ref f)) ∧ H c1 = some (CodeO c1 qn) ∧ tl Eo H D.rt
  refine ⟨_, pss_one (ps_try_many (tb := tbody) (Wout := fun _ _ _ _ => False) rfl rfl L2.takes0 (fun W pn xe tk _ => ⟨fun pins s1 σ1 H1 D1 I1 hw => ?_⟩) (hh st H)), ?_⟩
  · obtain ⟨Eo, w1, w2, w3, w4⟩ := hw
    exact (pss_one (ps_ret (pos := p3) (act W pn xe Eo p1 p2 tk w1))).run pins s1 σ1 H1 D1 I1 ⟨w2, w3, w4⟩
  · exact ⟨fun cls _ H1 => Wt X.K Q cls H1 hl, fun cls d σ1 H1 hw => wMany_of hw, hf0 f, hcode, hq⟩
theorem ok_extN {K : PySem.W.Frag} {z : Z} (ok : Ok K q z) {H1 : Hp} (e : ExtN z.H H1) (t : Tabs q.T H1) : Ok K q { z with H := H1 } ∧ Ext z { z with H := H1 } := by
  have ex : Ext z { z with H := H1 } := by
    refine ⟨List.prefix_refl _, rfl, fun a l => .inl l, fun b o hb nt nl => e b o hb nt, fun b hn o hb => ?_⟩
    by_cases ht : ∃ ps, o = .tbl ps
    · exact ht
    · exact absurd (hn o (e b o hb fun ps hps => ht ⟨ps, hps⟩)) ht
  refine ⟨⟨ok.len, fun n ds hn => ?_, ok.inj, fun b hb => ?_, t⟩, ex⟩
  · obtain ⟨a, h1, h2, h4⟩ := ok.cells n ds hn
    exact ⟨a, h1, h2.mvAt (ex.mv ok) (fun u hu hc => e a u hu (fun ps ep => by subst ep; rcases hc with ⟨_, e⟩ | ⟨_, e, _⟩ <;> cases e)), h4⟩
  · obtain ⟨vs, hv⟩ := ok.blk b hb
    exact ⟨vs, e b _ hv (fun _ x => (nomatch x))⟩
theorem told_imp {E : XK} {mb : PV.E} {hl : List (Value × Str)} (ht : ∀ c r, S.told c = some r → ∀ (Q : VK) (H : Hp), Q (.str r) H → Wt X.K Q (q.cls c) H hl) {σ : L2.St} {H : Hp} {Q : VK} (h : rdE X.K q S E (.told mb) σ H Q) :
    tLam q.T (TTm X.K hl) (fun E' => rdE X.K q S E' mb) σ H Q := by
  obtain ⟨z, ρ, hH, ok, rl, w⟩ := h
  subst hH
  refine ⟨ok.tabs, fun H1 e t => ?_⟩
  obtain ⟨ok1, e1⟩ := ok_extN ok e t
  refine ⟨{ z with H := H1 }, ρ, rfl, ok1, rl.ext ok e1, ?_⟩
  have w : wp X.K q z (toldR S (evE S ρ mb z.G)) (PQ X.K q Q) E := w
  have w1 := wp.ext e1 w
  show wp X.K q { z with H := H1 } (evE S ρ mb z.G) _ _
  cases hr : evE S ρ mb z.G with
  | bad => rw [hr] at w1; exact w1.elim
  | ok d G' => rw [hr] at w1; exact w1
  | exc c G' =>
    rw [hr] at w1
    intro z2 hG ok2 e2
    have w1 : wp X.K q { z with H := H1 } (match S.told c with
      | some r => R.ok (.str r) G'
      | none => .bad) (PQ X.K q Q) E := w1
    cases hc : S.told c with
    | none => rw [hc] at w1; exact w1.elim
    | some r =>
      rw [hc] at w1
      exact ht c r hc Q z2.H (w1 z2 hG ok2 e2 _ Has.str)
/-- what is known of the def that tells: x(what) -/
structure ToldAt (K : PySem.W.Frag) (mg : Str → Option Value) (q : Par) (x a : Str) (Ng : List Str) (hl : List (Value × Str)) : Prop where
  ex : ∃ (g : Addr) (pg : Arguments) (bg : List Stmt) (sg : Scope) (dV kV doc pm cdv ct oc : Value) (an od : Option Addr) (osl : Array (Option Value)) (p1 p2 p3 p8 : Pos) (h0 : ExceptHandler) (hds : List ExceptHandler),
    mg x = some (.ref g) ∧ PySem.W.keepIn K (.ref g) = true ∧ K.lookup g = some ⟨oc, od, .func (PySem.W.fnOf x x pg bg sg dV kV doc pm an cdv ct), osl⟩ ∧ PySem.W.codeIn K cdv x = true ∧ L2.Binds K (PySem.W.fnOf x x pg bg sg dV kV doc pm an cdv ct) [a] [] ∧ FnScope Ng [a] sg ∧
    bg = [.Try [.Return (some (.Call (.Name a p1) [] [] p2)) p3] (h0 :: hds) [] [] p8] ∧ Ng[0]? = some a ∧ Vis sg a ∧ (∀ f : Addr, (L2.start Ng [V.ref f])[0]? = some (some (V.ref f))) ∧
    ∀ (P : Program) (w : World) (base : Heap) (A : Around) (stack : List PySem.Env) (s : Shared) (H : Hp), HdsOk (cxOf C8.CX0 P w K mg base Ng x sg g cdv A stack s H C8.E0).nox (h0 :: hds) (hl.map fun p => (p.1, sayT p.2))
theorem sd_told {x a : Str} {Ng : List Str} {hl : List (Value × Str)} {c P : Addr} {k : Nat} {params : Arguments} {body : Expr} {scope : Scope} {mb : PV.E} {p lpos pos : Pos} (Td : ToldAt X.K X.mg q x a Ng hl) (ht : ∀ c r, S.told c = some r → ∀ (Q : VK) (H : Hp), Q (.str r) H → Wt X.K Q (q.cls c) H hl)
    (hg : Gl X x) (TB : TabB X.base X.mg c P) (hcode : X.env.code = .ref c) (hmT : (P, X.env.qual ++ "<lambda>") ∈ q.T) (hu : ∀ p ∈ q.T, p.1 = P → p.2 = X.env.qual ++ "<lambda>") (hr : Room (k + 2) X.A) (L : LamS X.env.scope scope)
    (hbody : ∀ (A : Around) (outer : List PySem.Env) (s : Shared) (H : Hp) (E : XK) (f c' : Addr), Room k (A.deeper (lamEnv X scope s.heap.objs.size f c')) → Sd (lamCx X A outer s H E scope f c') q S body mb) (hdef : defaultsOf params X.env = ([], []) := by rfl)
    (hbind : ∀ (q : Str) (cl : List (Str × Addr)) (pm cv ctv : Value), bindArgs (PySem.W.kla_fn "<lambda>" q params body scope cl pm cv ctv) ⟨[], []⟩ = pure [] := by intros; rfl)
    (hdb : (x == ("__debug__" : Str)) = false := by decide) (hd : (a == ("__debug__" : Str)) = false := by decide) (hcd : (a == ("__classdict__" : Str)) = false := by decide) : Sd X q S (.Call (.Name x p) [.Lambda params body scope lpos] [] pos) (.told mb) := fun E tk => by
  obtain ⟨g, pg, bg, sg, dV, kV, doc, pm, cdv, ct, oc, an, od, osl, p1, p2, p3, p8, h0, hds, hm, hk, lk, hcg, hb, Sg, rfl, hNg, hva, hf0, hh⟩ := Td.ex
  exact pe_imp (pe_lamcall (t := fun E' => rdE X.K q S E' mb) hg hm hk lk hcg hb Sg hNg hva (gives_many (hl := hl) (fun s H => hh _ _ _ _ _ s H) hf0) TB hcode hmT hu hr L hdef hbind (fun A outer s H E' f c' hr' => hbody A outer s H E' f c' hr' E' (takes_of rfl rfl rfl rfl)) hdb hd hcd)
    fun σ H Q h => told_imp ht h
end
end PV
end
/-! ## PV9 -/
section
set_option Elab.async false
set_option linter.all false
set_option maxRecDepth 100000
set_option maxHeartbeats 4000000
/-! Lambdas that are kept: made, handed on, called by the def that tells. -/
namespace PV
open PySem L2 LamX PyProof.Rows RZ
section
variable {X : Cx} {pins : List (Addr × Obj)} {σ : L2.St} {H : Hp} {s : Shared}
theorem lamO_ok {P : Program} {w : World} {H : Hp} {h : Heap} {l : LamD} {f c : Addr} {pm ctv : Value} (e : h.get? f = some (PySem.W.kla_obj "<lambda>" l.qual l.params l.body l.scope [] pm c ctv)) : ObjOk P w H h f (lamO l f c) :=
  ⟨⟨pm, ctv, e⟩, ⟨_, e⟩, fun h1 h2 ⟨p1, c1, g⟩ st => ⟨p1, c1, st _ g⟩⟩
/-- a lambda is made and known -/
theorem lam_kept {T : List (Addr × Str)} {c P : Addr} {l : LamD} {pos : Pos} {E : Value → Shared → Prop} {Q : Value → Shared → Prop} (I : Inv X pins σ H s) (TB : TabB X.base X.mg c P) (hcode : X.env.code = .ref c) (hq : l.qual = X.env.qual ++ "<lambda>")
    (hm : (P, l.qual) ∈ T) (hu : ∀ p ∈ T, p.1 = P → p.2 = l.qual) (hT : Tabs T H) (hdef : defaultsOf l.params X.env = ([], [])) (hfree : ∀ y ∈ l.scope.names, y.2 = .free → ∃ c, X.env.cells.lookup y.1 = some c) (hclo : cloFrom X.env.cells l.scope.names [] = [])
    (h : ∀ (f c1 : Addr) (H2 : Hp) (s2 : Shared), Inv X pins σ H2 s2 → ExtN H H2 → Tabs T H2 → H2 f = some (lamO l f c1) → H2 c1 = some (CodeO c1 l.qual) → Q (.ref f) s2) :
    wpAny (model X.prog X.w) X.A (eval (.Lambda l.params l.body l.scope pos) X.env) Q E s := by
  obtain ⟨tab, hP, htri, hnames⟩ := hT _ hm
  have gP : s.heap.get? P = some { cls := .none, data := .fields tab } := I.hok P _ hP
  have bP := TB.bm.keeps I.bk
  have hclo2 : closureFor l.scope X.env = pure [] := by rw [closure_ok hfree, hclo]
  -- the last step of both ways: the function object is laid and known
  have last : ∀ {H1 : Hp} {h1 : Heap} {t1 t2 : Nat} {c1 : Addr} {pm ctv : Value}, Inv X pins σ H1 { s with heap := h1, toks := t1 } → ExtN H H1 → Tabs T H1 → H1 c1 = some (CodeO c1 l.qual) →
      Q (.ref h1.objs.size) { s with heap := h1.push (PySem.W.kla_obj "<lambda>" l.qual l.params l.body l.scope [] pm c1 ctv), toks := t2 } := fun {H1 h1 t1 t2 c1 pm ctv} J en tb hc1 => by
    have nF : H1 h1.objs.size = none := J.hok.fresh (Nat.le_refl _)
    have J2 := J.laid (a := h1.objs.size) (o := lamO l h1.objs.size c1) (t' := t2) (h' := h1.push (PySem.W.kla_obj "<lambda>" l.qual l.params l.body l.scope [] pm c1 ctv)) (fun b u e => Heap.get?_push_of_some _ e) (Nat.le_refl _) (lamO_ok (Heap.get?_push_size _ rfl))
    exact h h1.objs.size c1 _ _ J2 (en.trans (ExtN.of fun b o e => by rw [upd_ne (ne_of_none e nF)]; exact e)) (tb.ext fun b o e => by rw [upd_ne (ne_of_none e nF)]; exact e) upd_same (by rw [upd_ne (ne_of_none hc1 nF)]; exact hc1)
  refine PySem.W.kla_eval hdef ?_
  rw [← hq]
  cases hfind : codeAmong pos tab.toList with
  | some cv =>
    obtain ⟨c1, rfl, hc1⟩ := hnames pos cv hfind
    exact PySem.W.kla_makeFunctionHit (mg := X.mg) hclo2 I.ok.glob (I.mod.glob.keeps I.bk) hcode (TB.code.keeps I.bk) gP htri hfind bP fun ctv h1 t2 keep _ => last (I.kept (t' := s.toks) keep) (ExtN.refl H) hT hc1
  | none =>
    refine PySem.W.kla_makeFunction (mg := X.mg) hclo2 I.ok.glob (I.mod.glob.keeps I.bk) hcode (TB.code.keeps I.bk) gP htri hfind TB.gP bP fun c1 ctv h1 t2 but low lt rec tabP => ?_
    obtain ⟨c2, oc, vs, tk, e2, g1, g2, g3⟩ := rec
    cases e2
    have nC : H c1 = none := I.hok.fresh low
    have J := inv_table (t' := s.toks) (more := #[rawInt pos.line, rawInt pos.col, .ref c1]) (q := l.qual) I hP (fun b o hb e => but b o hb e) tabP low ⟨oc, vs, tk, g1, g2, g3⟩
    have en : ExtN H (upd (upd H P (.tbl (tab ++ #[rawInt pos.line, rawInt pos.col, .ref c1]))) c1 (CodeO c1 l.qual)) := fun b o e nt => by
      rw [upd_ne (ne_of_none e nC), upd_ne (fun e' => nt tab (Option.some.inj (e.symm.trans (by rw [e']; exact hP))))]
      exact e
    refine last J en (fun p hp => ?_) upd_same
    by_cases hb : p.1 = P
    · rw [hu p hp hb, hb]
      refine ⟨tab ++ #[rawInt pos.line, rawInt pos.col, .ref c1], by rw [upd_ne (ne_of_none hP nC), upd_same], ?_, fun p1 cv hcv => ?_⟩
      · rw [Array.toList_append]
        exact PySem.TriplesOk_snoc _ _ _ _ htri
      · rw [Array.toList_append] at hcv
        rcases among_app _ htri hcv with hcv | hcv
        · obtain ⟨c0, k1, k2⟩ := hnames p1 cv hcv
          exact ⟨c0, k1, en _ _ k2 codeO_ne⟩
        · exact ⟨c1, hcv, upd_same⟩
    · obtain ⟨ps1, a1, a2, a3⟩ := hT p hp
      refine ⟨ps1, by rw [upd_ne (ne_of_none a1 nC), upd_ne hb]; exact a1, a2, fun p1 cv hcv => ?_⟩
      obtain ⟨c0, k1, k2⟩ := a3 p1 cv hcv
      exact ⟨c0, k1, en _ _ k2 codeO_ne⟩
end
section
variable {X : Cx} {q : Par} {S : PV.Sem}
theorem sd_lam {k : Nat} {c P : Addr} {params : Arguments} {body : Expr} {scope : Scope} {pos : Pos} (hl : q.lamD k = ⟨X.env.qual ++ "<lambda>", params, body, scope⟩) (TB : TabB X.base X.mg c P) (hcode : X.env.code = .ref c) (hm : (P, X.env.qual ++ "<lambda>") ∈ q.T) (hu : ∀ p ∈ q.T, p.1 = P → p.2 = X.env.qual ++ "<lambda>")
    (hfree : ∀ y ∈ scope.names, y.2 = .free → False) (hclo : cloFrom X.env.cells scope.names [] = [] := by rfl) (hdef : defaultsOf params X.env = ([], []) := by rfl) : Sd X q S (.Lambda params body scope pos) (.lam k) := fun E tk => ⟨fun pins s σ H Q I ⟨z, ρ, hH, ok, rl, w⟩ => by
  subst hH
  refine lam_kept (l := ⟨X.env.qual ++ "<lambda>", params, body, scope⟩) I TB hcode rfl hm hu ok.tabs hdef (fun y hy e => (hfree y hy e).elim) hclo fun f c1 H2 s2 I2 en tb h1 h2 => ?_
  obtain ⟨ok2, e2⟩ := ok_extN ok en tb
  refine ⟨.ref f, H2, I2, rfl, w { z with H := H2 } rfl ok2 e2 _ ?_⟩
  simp only [Has]
  exact ⟨f, c1, rfl, by rw [hl]; exact h1, by rw [hl]; exact h2⟩⟩
end
end PV
end
/-! ## PVa -/
section
set_option Elab.async false
set_option linter.all false
set_option maxRecDepth 100000
set_option maxHeartbeats 4000000
/-! A kept lambda called; the def that tells, by values. -/
namespace PV
open PySem L2 LamX PyProof.Rows RZ
structure CloS (l : LamD) : Prop where
  kind : l.scope.kind = .function
  co : l.scope.isCoroutine = false
  gen : l.scope.isGenerator = false
  own : ∀ y ∈ l.scope.names, y.2 ≠ .local ∧ y.2 ≠ .cell ∧ y.2 ≠ .free
  bind : ∀ (qn : Str) (cl : List (Str × Addr)) (pm cv ctv : Value), bindArgs (PySem.W.kla_fn "<lambda>" qn l.params l.body l.scope cl pm cv ctv) ⟨[], []⟩ = pure []
abbrev cloEnv (l : LamD) (L f c : Addr) : PySem.Env := PySem.W.envX l.qual l.scope L f (.ref c) []
def cloCx (P : Program) (w : World) (K : PySem.W.Frag) (mg : Str → Option Value) (base : Heap) (A : Around) (outer : List PySem.Env) (s : Shared) (H : Hp) (E : XK) (l : LamD) (f c : Addr) : Cx where
  prog := P
  w := w
  K := K
  mg := mg
  base := base
  A := A.deeper (cloEnv l s.heap.objs.size f c)
  N := []
  s_0 := s
  H_0 := H
  env := cloEnv l s.heap.objs.size f c
  outer := outer
  stack := cloEnv l s.heap.objs.size f c :: outer
  ex := []
  fn := fun _ => false
  calm := true
  pn := []
  xe := fun e s' => wpAny (model P w) (A.deeper (cloEnv l s.heap.objs.size f c)) (leaving (cloEnv l s.heap.objs.size f c) e) (fun _ s'' => L2.CX P w outer H s E e s'') (fun e' s'' => L2.CX P w outer H s E e' s'') s'
section
variable {P : Program} {w : World} {K : PySem.W.Frag} {mg : Str → Option Value} {base : Heap} {A : Around} {outer : List PySem.Env} {s : Shared} {H : Hp} {E : XK} {l : LamD} {f c : Addr}
theorem clo_start {h1 : Heap} {tk : Nat} (e0 : Env0 P w K mg base A outer s H) (hd : A.handled = none) (C : CloS l) (hns : h1.Ns s.heap.objs.size fun y => ([] : List (Str × Value)).reverse.lookup y) (kp : ∀ b o, s.heap.get? b = some o → h1.get? b = some o) :
    Inv (cloCx P w K mg base A outer s H E l f c) [] [] H { s with heap := h1, toks := tk } := by
  have nn : ∀ b : Addr, b ∉ (cloCx P w K mg base A outer s H E l f c).ex := fun b hb => nomatch (show b ∈ ([] : List Addr) from hb)
  have nc : ∀ (y : Str) (a : Addr), (cloCx P w K mg base A outer s H E l f c).env.cells.lookup y = some a → False := fun y a e => nomatch (show (none : Option Addr) = some a from e)
  have okc : (cloCx P w K mg base A outer s H E l f c).Ok := by
    refine ⟨e0.mod, C.kind, rfl, rfl, Nat.le_refl _, fun x y a e _ => (nc x a e).elim, fun x hx => ?_, fun x a _ e => (nc x a e).elim, fun _ => hd, Around.frames_deeper e0.frames, .inr ⟨rfl, rfl⟩, fun b hb => (nn b hb).elim, e0.bs, e0.bsz, fun b _ _ => nn b, fun b hb => (nn b hb).elim, e0.funs, e0.frf⟩
    have hx : l.scope.names.lookup x = some .cell ∨ l.scope.names.lookup x = some .free := hx
    rcases hx with hx | hx
    · exact absurd rfl (C.own _ (PySem.mem_of_lookup hx)).2.1
    · exact absurd rfl (C.own _ (PySem.mem_of_lookup hx)).2.2
  refine ⟨okc, rfl, e0.bare, Un.kept kp, ⟨_, hns, fun i x v e1 _ _ => ?_⟩, fun x a e => (nc x a e).elim, e0.hok.fresh (Nat.le_refl _), fun x a e => (nc x a e).elim, fun p hp => ?_, e0.hok.kept kp, rfl⟩
  · exact nomatch (show ([] : List Str)[i]? = some x from e1)
  · exact nomatch (show p ∈ ([] : List (Addr × Obj)) from hp)
theorem run_closed {k : Nat} {pm ctv : Value} {tb : TE} {Q : VK} (hf : s.heap.get? f = some (PySem.W.kla_obj "<lambda>" l.qual l.params l.body l.scope [] pm c ctv)) (hc : ∃ (oc : Obj) (vs : Array Value) (t : Tok), s.heap.get? c = some oc ∧ oc.data = .fields vs ∧ vs[1]? = some (.str l.qual t)) (hr : Room (k + 1) A)
    (e0 : Env0 P w K mg base A outer s H) (C : CloS l) (hbody : Room k (A.deeper (cloEnv l s.heap.objs.size f c)) → PE (cloCx P w K mg base A outer s H E l f c) l.body tb) (h : tb [] H Q) :
    codeAny (model P w) A (.call (.ref f) ⟨[], []⟩) (CR (L2.CX P w) outer P w H s Q E) s := by
  have lim : s.heap.NoLimit := e0.mod.nolimit.keeps fun b o e => (e0.bs b o e).1
  obtain ⟨oc, vs, t, g1, g2, g3⟩ := hc
  refine PySem.W.kla_callFunE hr.depth hf rfl C.co C.gen rfl ⟨c, oc, vs, t, rfl, g1, g2, g3⟩ ?_
  rw [C.bind]
  refine wpAny_pure (wpAny_newFunctionEnv (fun y hy => (C.own y hy).2.1) (fun y hy => nomatch hy) (fun h1 hns sb => ⟨lim.fresh _ sb, ?_⟩) C.kind)
  have kp : ∀ b o, s.heap.get? b = some o → h1.get? b = some o := fun b o e => sb.extBut b o (Nat.ne_of_lt (Heap.lt_size e)) (Heap.get?_push_of_some _ e)
  have J : Inv (cloCx P w K mg base A outer s H E l f c) [] [] H { s with heap := h1, toks := s.toks + ([] : List (Str × Value)).length } := clo_start e0 hr.hd C hns kp
  refine PySem.W.kla_codeExpr (wpAny_mono ((hbody (hr.deeper _)).run [] _ _ H Q J h) (fun v s1 hq => ?_) fun _ _ hq => hq)
  obtain ⟨u, H1, J1, rv, hq⟩ := hq
  exact ⟨u, H1, J1.os, J1.bare, J1.base, J1.hok, rv, hq⟩
end
section
variable {X : Cx} {q : Par} {S0 : PV.Sem}
/-- x(), x a local that holds a kept lambda -/
def tAct (K : PySem.W.Frag) (q : Par) (L : Nat → Gs → R D) (E : XK) (i : Nat) : TE := fun σ H Q => ∃ (z : Z) (k : Nat) (v : V), z.H = H ∧ Ok K q z ∧ σ[i]? = some (some v) ∧ Has K q z (.lam k) v ∧ wp K q z (L k z.G) (PQ K q Q) E
theorem pe_actv {i k0 : Nat} {L : Nat → Gs → R D} {a : Str} {E : XK} {p1 p2 : Pos} (tk : Tk X E) (hr : Room (k0 + 1) X.A)
    (hL : ∀ (k : Nat), (∃ m : PV.E, (∀ G, L k G = evE S0 [] m G) ∧ CloS (q.lamD k) ∧ ∀ (A : Around) (outer : List PySem.Env) (s : Shared) (H : Hp) (E : XK) (f c : Addr), Room k0 (A.deeper (cloEnv (q.lamD k) s.heap.objs.size f c)) → Sd (cloCx X.prog X.w X.K X.mg X.base A outer s H E (q.lamD k) f c) q S0 (q.lamD k).body m) ∨ ∀ G, L k G = .bad)
    (hN : X.N[i]? = some a) (hv : Vis X.env.scope a) (hd : (a == ("__debug__" : Str)) = false := by decide) (hcd : (a == ("__classdict__" : Str)) = false := by decide) : PE X (.Call (.Name a p1) [] [] p2) (tAct X.K q L E i) := by
  refine ⟨fun pins s σ H Q I hw => ?_⟩
  obtain ⟨z, k, v, hz, ok, hs, hv', w⟩ := hw
  simp only [Has] at hv'
  obtain ⟨f, c, rfl, h1, h2⟩ := hv'
  rw [hz] at h1 h2
  refine wpAny_Call_Name_kw (thn ((pe_var (pos := p1) (i := i) hN hv hd hcd).run pins s σ H (fun u H1 => u = .ref f ∧ H1 = H) I ⟨.ref f, hs, rfl, rfl⟩) fun u s1 ⟨v1, H1, I1, r1, ev, eH⟩ => ?_)
  subst ev
  rw [eH] at I1
  obtain rfl : u = Value.ref f := r1
  obtain ⟨⟨pm, ctv, of1⟩, _, _⟩ := I1.hok f _ h1
  obtain ⟨oc1, _, _⟩ := I1.hok c _ h2
  refine PySem.W.callWith_F0 ⟨_, _, _, _, of1⟩ ?_
  rcases hL k with ⟨m, hm, C, hb⟩ | hbad
  · have rc := run_closed (P := X.prog) (w := X.w) (E := E) (Q := Q) (tb := rdE X.K q S0 E m) of1 oc1 hr I1.env0 C (fun hr' => hb _ _ _ _ E _ _ hr' E (takes_of rfl rfl rfl rfl)) (by
      refine ⟨z, [], hz, ok, ⟨rfl, fun j d e => nomatch (show ([] : List (Option D))[j]? = some (some d) from e)⟩, ?_⟩
      rw [hm] at w
      exact w)
    have hx := passes_tk tk
    refine wpAny_call (codeAny_mono rc fun r s2 hq => ?_)
    cases r with
    | error e => exact hx pins σ H s1 e s2 I1 hq
    | ok fl =>
      cases fl with
      | ret u => exact I1.after hq
      | next => exact False.elim hq
      | brk => exact False.elim hq
      | cont => exact False.elim hq
  · rw [hbad] at w
    exact w.elim
end
theorem toldR_wp {K : PySem.W.Frag} {q : Par} {S : PV.Sem} {hl : List (Value × Str)} (ht : ∀ c r, S.told c = some r → ∀ (Q : VK) (H : Hp), Q (.str r) H → Wt K Q (q.cls c) H hl) {z : Z} {r : R D} {Q : VK} {E : XK} (w1 : wp K q z (toldR S r) (PQ K q Q) E) : wp K q z r (PQ K q Q) (fun cls _ H' => Wt K Q cls H' hl) := by
  cases r with
  | bad => exact w1.elim
  | ok d G' => exact w1
  | exc c G' =>
    intro z2 hG ok2 e2
    have w1 : wp K q z (match S.told c with
      | some r => R.ok (.str r) G'
      | none => .bad) (PQ K q Q) E := w1
    cases hc : S.told c with
    | none => rw [hc] at w1; exact w1.elim
    | some r =>
      rw [hc] at w1
      exact ht c r hc Q z2.H (w1 z2 hG ok2 e2 _ Has.str)
section
variable {P : Program} {w : World} {K : PySem.W.Frag} {mg : Str → Option Value} {base : Heap} {q : Par}
theorem fn_told {S S' S0 : PV.Sem} {L : Nat → Gs → R D} {gi k0 : Nat} {x a qual : Str} {params : Arguments} {scope : Scope} {dvs : List V} {kws : List (Str × V)} {f : Addr} {fd : FuncData} {N : List Str} {hl : List (Value × Str)} {p1 p2 p3 p8 : Pos} {h0 : ExceptHandler} {hds : List ExceptHandler}
    (F : FunD K x qual params [.Try [.Return (some (.Call (.Name a p1) [] [] p2)) p3] (h0 :: hds) [] [] p8] scope dvs kws f fd) (Sc : FnScope N [a] scope)
    (hS : ∀ ds G, S'.cal gi ds G = toldCal S L ds G) (ht : ∀ c r, S.told c = some r → ∀ (Q : VK) (H : Hp), Q (.str r) H → Wt K Q (q.cls c) H hl)
    (hL : ∀ (k : Nat), (∃ m : PV.E, (∀ G, L k G = evE S0 [] m G) ∧ CloS (q.lamD k) ∧ ∀ (A : Around) (outer : List PySem.Env) (s : Shared) (H : Hp) (E : XK) (f c : Addr), Room k0 (A.deeper (cloEnv (q.lamD k) s.heap.objs.size f c)) → Sd (cloCx P w K mg base A outer s H E (q.lamD k) f c) q S0 (q.lamD k).body m) ∨ ∀ G, L k G = .bad)
    (hh : ∀ (cdv : Value) (A : Around) (outer : List PySem.Env) (s : Shared) (H : Hp) (E : XK), HdsOk (cxOf (L2.CX P w) P w K mg base N qual scope f cdv A outer s H E) (h0 :: hds) (hl.map fun p => (p.1, sayT p.2)))
    (hN : N[0]? = some a) (hv : Vis scope a) (hf0 : ∀ v : V, (L2.start N [v])[0]? = some (some v)) (hd : (a == ("__debug__" : Str)) = false := by decide) (hcd : (a == ("__classdict__" : Str)) = false := by decide) :
    FnOk P w K mg base (L2.CX P w) (k0 + 2) f fd [a] (spC K q S' gi [a].length) := by
  refine F.ok Sc (fun vs H Q E h => ?_) (fun cdv A outer s H vs Q E hr h => ?_)
  · obtain ⟨_, _, _, _, _, h, _⟩ := h
    exact h
  · obtain ⟨z, ds, rfl, ok, hvs, hlen, hw⟩ := h
    rw [hS] at hw
    unfold toldCal at hw
    split at hw
    · rename_i k
      obtain ⟨v, rfl, h1⟩ := hvs.one
      let tbody : WX → TS := fun W D σ H => ∃ Eo : XK, (∀ cls d σ1 H1, Eo cls d H1 → W cls d σ1 H1) ∧ tAct K q L Eo 0 σ H D.rt
      refine ⟨_, pss_one (ps_try_many (tb := tbody) (Wout := fun _ _ _ _ => False) rfl rfl L2.takes0 (fun W pn xe tk _ => ⟨fun pins s1 σ1 H1 D1 I1 hw => ?_⟩) (hh cdv A outer s z.H E)), ?_⟩
      · obtain ⟨Eo, w1, w2⟩ := hw
        exact (pss_one (ps_ret (pos := p3) (pe_actv (i := 0) (E := Eo) (Takes.imp tk fun c d σ H h => w1 c d σ H h) hr hL hN hv hd hcd))).run pins s1 σ1 H1 D1 I1 w2
      · exact ⟨fun cls _ H1 => Wt K Q cls H1 hl, fun cls d σ1 H1 h => wMany_of h, z, k, v, rfl, ok, hf0 v, h1, toldR_wp ht hw⟩
    · exact hw.elim
end
end PV
namespace PV
open PySem L2 LamX PyProof.Rows RZ
section
variable {P : Program} {w : World} {K : PySem.W.Frag} {mg : Str → Option Value} {base : Heap} {q : Par}
/-- where a def's code stands -/
def CodeAt (K : PySem.W.Frag) (f : Addr) (qual : Str) (cdv : Value) : Prop := ∃ (oc : Value) (od : Option Addr) (osl : Array (Option Value)) (fd : FuncData), K.lookup f = some ⟨oc, od, .func fd, osl⟩ ∧ fd.code = cdv ∧ PySem.W.codeIn K cdv qual = true
theorem fn_stepC {S S' : PV.Sem} {g k : Nat} {x qual : Str} {params : Arguments} {body : List Stmt} {scope : Scope} {dvs : List V} {kws : List (Str × V)} {f : Addr} {fd : FuncData} {N ps : List Str} {fn : Fn} (F : FunD K x qual params body scope dvs kws f fd) (Sc : FnScope N ps scope)
    (hS : ∀ ds G, S'.cal g ds G = runFn S fn ds G) (hns : N.length = fn.ns) (hnp : ps.length = fn.np) (hle : fn.np ≤ fn.ns)
    (hbody : ∀ (cdv : Value) (A : Around) (outer : List PySem.Env) (s : Shared) (H : Hp) (E : XK), CodeAt K f qual cdv → Room k (A.deeper (envOfC qual scope s.heap.objs.size f cdv)) → SdB (cxOf (L2.CX P w) P w K mg base N qual scope f cdv A outer s H E) q S body fn.body) :
    FnOk P w K mg base (L2.CX P w) (k + 1) f fd ps (spC K q S' g ps.length) := by
  have hex := F.ex
  obtain ⟨oc, od, dV, kV, doc, pm, an, cdv, ct, osl, e, lk, hcd, _, _⟩ := hex
  have hc : CodeAt K f qual cdv := ⟨oc, od, osl, fd, lk, by rw [e], hcd⟩
  subst e
  refine fn_of lk hcd Sc (fun vs H Q E h => ?_) fun A outer s H vs Q E hr h => ?_
  · obtain ⟨_, _, _, _, _, h, _⟩ := h
    exact h
  · obtain ⟨z, ds, rfl, ok, hv, hlen, hw⟩ := h
    refine ⟨_, hbody cdv A outer s z.H E hc hr E (takes_of rfl rfl rfl rfl), z, _, rfl, ok, rels_start hv (by rw [← hv.len, hlen, hnp, hns]; exact hle), ?_⟩
    rw [hS] at hw
    unfold runFn at hw
    replace hw := gc_wp ok hw
    have hdl : ds.length = fn.np := by rw [← hv.len, hlen, hnp]
    rw [if_pos hdl] at hw
    rw [hns, hdl]
    cases hr : evB S fn.body (ds.map some ++ List.replicate (fn.ns - fn.np) none) z.G with
    | next ρ' G' =>
      rw [hr] at hw
      exact fun z' σ' hG ok' e' _ => hw z' hG ok' e' _ Has.non
    | ret d G' =>
      rw [hr] at hw
      exact fun z' v hG ok' e' hd => hw z' hG ok' e' v hd
    | exc c G' =>
      rw [hr] at hw
      exact hw
    | brk ρ' G' => rw [hr] at hw; exact hw.elim
    | cont ρ' G' => rw [hr] at hw; exact hw.elim
    | bad => rw [hr] at hw; exact hw.elim
theorem told_ar {S : PV.Sem} {L : Nat → Gs → R D} : ∀ (ds : List D) (G : Gs), ds.length ≠ 1 → toldCal S L ds G = .bad := fun ds G hn => by
  match ds, hn with
  | [], _ => rfl
  | [d], hn => exact absurd rfl hn
  | d :: _ :: _, _ => cases d <;> rfl
/-- a law's call: the script as the evaluator has it -/
theorem law_start {S : PV.Sem} {g : Nat} {H : Hp} {a : Addr} {ns : List Int} {Gz : Gs} (ht : Tabs q.T H) (hS : SqL K H a (ns.map V.int)) (h : S.cal g [.frz (ns.map .int)] [] = .ok (.bl true) Gz) {E : XK} : spC K q S g 1 [.ref a] H (fun v _ => v = .bl true) E := by
  have hi : ∀ ms : List Int, HasL K q ⟨[], [], [], H⟩ (ms.map .int) (ms.map V.int) := fun ms => by
    induction ms with
    | nil => exact HasL.nil
    | cons m ms ih => exact HasL.cons Has.int ih
  refine ⟨⟨[], [], [], H⟩, [.frz (ns.map .int)], rfl, ⟨rfl, fun n ds hn => ?_, fun n m ds es a h1 => ?_, fun b hb => ?_, ht⟩, HasL.cons ?_ HasL.nil, rfl, ?_⟩
  · exact nomatch (show ([] : Gs)[n]? = some (some ds) from hn)
  · exact nomatch (show ([] : Gs)[n]? = some (some ds) from h1)
  · exact nomatch (show b ∈ ([] : List Addr) from hb)
  · simp only [Has]
    refine ⟨a, _, rfl, ?_, hi ns⟩
    rcases hS with hS | hS
    · exact .inl ⟨hS, (fun hb => (nomatch (show a ∈ ([] : List Addr) from hb))), fun ⟨n, ds, h1, _⟩ => (nomatch (show ([] : Gs)[n]? = some (some ds) from h1))⟩
    · exact .inr hS
  · show wp K q _ (S.cal g [.frz (ns.map .int)] []) _ _
    rw [h]
    exact fun z' hG ok e v hv => hv.of_bl
end
end PV
end
/-! ## PVs -/
section
set_option Elab.async false
set_option linter.all false
set_option maxRecDepth 200000
set_option maxHeartbeats 8000000
/-! steps of the evaluator, and the dice of the laws -/
namespace PV
open PySem L2
/-! how the evaluator steps -/
theorem rb {α β : Type} (a : α) (G : Gs) (f : α → Gs → R β) : R.bind (.ok a G) f = f a G := rfl
theorem rof {α : Type} (a : α) (G : Gs) : R.of (some a) G = .ok a G := rfl
theorem rgo {α : Type} (a : α) (G : Gs) (f : α → Gs → F) : R.go (.ok a G) f = f a G := rfl
theorem rth (ρ : PV.Env) (G : Gs) (f : PV.Env → Gs → F) : F.then (.next ρ G) f = f ρ G := rfl
theorem rtr (d : D) (G : Gs) (f : PV.Env → Gs → F) : F.then (.ret d G) f = .ret d G := rfl
theorem ba (i j : Int) : binD .add (.int i) (.int j) = some (.int (i + j)) := rfl
theorem bs (i j : Int) : binD .sub (.int i) (.int j) = some (.int (i - j)) := rfl
theorem bm (i j : Int) (h : okMul i j = true) : binD .mul (.int i) (.int j) = some (.int (i * j)) := if_pos h
theorem bd (i j : Int) (h : okDiv j = true) : binD .fdiv (.int i) (.int j) = some (.int (i.fdiv j)) := if_pos h
theorem bmo (i j : Int) (h : j ≠ 0) : binD .mod (.int i) (.int j) = some (.int (i.fmod j)) := if_pos h
theorem clt (i j : Int) : cmpD .lt (.int i) (.int j) = some (decide (i < j)) := rfl
theorem cle (i j : Int) : cmpD .le (.int i) (.int j) = some (decide (i ≤ j)) := rfl
theorem cgt (i j : Int) : cmpD .gt (.int i) (.int j) = some (decide (j < i)) := rfl
theorem cge (i j : Int) : cmpD .ge (.int i) (.int j) = some (decide (j ≤ i)) := rfl
theorem ceq (a b : D) : cmpD .eq a b = eqD a b := rfl
theorem cne (a b : D) : cmpD .ne a b = (eqD a b).map (!·) := rfl
theorem szl : sizeLine = 16777216 := rfl
theorem ok_of (b : Bool) : Option.map D.bl (some b) = some (.bl b) := rfl
theorem ite_t {α : Sort _} (a b : α) : (if True then a else b) = a := if_pos trivial
theorem ite_f {α : Sort _} (a b : α) : (if False then a else b) = b := if_neg id
theorem eqD_int (a b : Int) : eqD (.int a) (.int b) = some (decide (a = b)) := rfl
theorem okDiv_small {j : Int} (h0 : j ≠ 0) (h : j.natAbs < 1073741824) : okDiv j = true := by
  simp [okDiv]
  right
  omega
theorem log_lt {n m : Nat} (h : n < 2 ^ m) (h0 : 0 < m) : n.log2 < m := by
  by_cases hn : n = 0
  · subst hn
    simpa using h0
  · exact (Nat.log2_lt hn).mpr h
theorem ok_mul {a b : Int} {m k : Nat} (ha : a.natAbs < 2 ^ m) (hb : b.natAbs < 2 ^ k) (hm : m + k < 90000000) : okMul a b = true := by
  have h1 : a.natAbs.log2 ≤ m := by
    by_cases h0 : 0 < m
    · exact Nat.le_of_lt (log_lt ha h0)
    · have : m = 0 := by omega
      subst this
      have : a.natAbs = 0 := by omega
      rw [this]
      simp
  have h2 : b.natAbs.log2 ≤ k := by
    by_cases h0 : 0 < k
    · exact Nat.le_of_lt (log_lt hb h0)
    · have : k = 0 := by omega
      subst this
      have : b.natAbs = 0 := by omega
      rw [this]
      simp
  exact decide_eq_true (by omega)
/-! steps -/
section
variable {S : PV.Sem} {ρ ρ1 ρ2 : PV.Env} {G G1 G2 : Gs}
theorem x_v {i : Nat} {d : D} (h : ρ[i]? = some (some d) := by rfl) : evE S ρ (.var i) G = .ok d G := by simp only [evE, h]
theorem x_c {d : D} : evE S ρ (.con d) G = .ok d G := rfl
theorem x_bin {o : Bop} {a b : PV.E} {x y d : D} (h1 : evE S ρ a G = .ok x G1) (h2 : evE S ρ b G1 = .ok y G2) (h3 : binD o x y = some d) : evE S ρ (.bin o a b) G = .ok d G2 := by simp only [evE, h1, h2, rb, h3, rof]
theorem x_cmp {o : Cop} {a b : PV.E} {x y : D} {c : Bool} (h1 : evE S ρ a G = .ok x G1) (h2 : evE S ρ b G1 = .ok y G2) (h3 : cmpD o x y = some c) : evE S ρ (.cmp o a b) G = .ok (.bl c) G2 := by simp only [evE, h1, h2, rb, h3, rof, Option.map]
theorem x_orf {a b : PV.E} {r : R D} (h1 : evE S ρ a G = .ok (.bl false) G1) (h2 : evE S ρ b G1 = r) : evE S ρ (.or a b) G = r := by simp only [evE, h1, h2, rb]
theorem x_andt {a b : PV.E} {r : R D} (h1 : evE S ρ a G = .ok (.bl true) G1) (h2 : evE S ρ b G1 = r) : evE S ρ (.and a b) G = r := by simp only [evE, h1, h2, rb]
theorem x_itet {c a b : PV.E} {r : R D} (h1 : evE S ρ c G = .ok (.bl true) G1) (h2 : evE S ρ a G1 = r) : evE S ρ (.ite c a b) G = r := by simp only [evE, h1, h2, rb]
theorem x_itef {c a b : PV.E} {r : R D} (h1 : evE S ρ c G = .ok (.bl false) G1) (h2 : evE S ρ b G1 = r) : evE S ρ (.ite c a b) G = r := by simp only [evE, h1, h2, rb]
theorem x_es0 : evEs S ρ [] G = .ok [] G := rfl
theorem x_es {e : PV.E} {es : List PV.E} {d : D} {ds : List D} (h1 : evE S ρ e G = .ok d G1) (h2 : evEs S ρ es G1 = .ok ds G2) : evEs S ρ (e :: es) G = .ok (d :: ds) G2 := by simp only [evEs, h1, h2, rb]
theorem x_call {f : Nat} {es : List PV.E} {ds : List D} {r : R D} (h1 : evEs S ρ es G = .ok ds G1) (h2 : S.cal f ds G1 = r) : evE S ρ (.call f es) G = r := by simp only [evE, h1, h2, rb]
theorem x_prim {p : Pr} {es : List PV.E} {ds : List D} {d : D} (h1 : evEs S ρ es G = .ok ds G1) (h2 : prim G1 p ds = some d) : evE S ρ (.prim p es) G = .ok d G1 := by simp only [evE, h1, h2, rb, rof]
theorem x_meth {m : Mt} {a : PV.E} {es : List PV.E} {s : Str} {ds : List D} {d : D} (h0 : evE S ρ a G = .ok (.str s) G1) (h1 : evEs S ρ es G1 = .ok ds G2) (h2 : meth m s ds = some d) : evE S ρ (.meth m a es) G = .ok d G2 := by simp only [evE, h0, h1, h2, rb, rof]
theorem x_tup {es : List PV.E} {ds : List D} (h1 : evEs S ρ es G = .ok ds G1) (h2 : ds.length ≤ sizeLine := by exact Nat.le_of_ble_eq_true rfl) : evE S ρ (.tup es) G = .ok (.tup ds) G1 := by simp only [evE, h1, rb, if_pos h2]
theorem x_lst {es : List PV.E} {ds : List D} (h1 : evEs S ρ es G = .ok ds G1) (h2 : ds.length ≤ sizeLine := by exact Nat.le_of_ble_eq_true rfl) : evE S ρ (.lst es) G = .ok (.lst ds) G1 := by simp only [evE, h1, rb, if_pos h2]
theorem x_lstC {es : List PV.E} {ds : List D} (h1 : evEs S ρ es G = .ok ds G1) (h2 : ds.length ≤ sizeLine := by exact Nat.le_of_ble_eq_true rfl) : evE S ρ (.lstC es) G = .ok (.cell G1.length) (G1 ++ [some (.lst ds)]) := by simp only [evE, h1, rb, if_pos h2]
theorem x_ix {a b : PV.E} {x y d : D} (h1 : evE S ρ a G = .ok x G1) (h2 : evE S ρ b G1 = .ok y G2) (h3 : ixD G2 x y = some d) : evE S ρ (.ix a b) G = .ok d G2 := by simp only [evE, h1, h2, rb, h3, rof]
theorem s_set {t : Tg} {e : PV.E} {d : D} (h1 : evE S ρ e G = .ok d G1) (h2 : PV.assign ρ t d = some ρ1 := by rfl) : evS S (.set t e) ρ G = .next ρ1 G1 := by simp only [evS, h1, rgo, h2]
theorem s_ex {e : PV.E} {d : D} (h1 : evE S ρ e G = .ok d G1) : evS S (.ex e) ρ G = .next ρ G1 := by simp only [evS, h1, rgo]
theorem s_ret {e : PV.E} {d : D} (h1 : evE S ρ e G = .ok d G1) : evS S (.ret e) ρ G = .ret d G1 := by simp only [evS, h1, rgo]
theorem s_itef {c : PV.E} {a b : List St} {r : F} (h1 : evE S ρ c G = .ok (.bl false) G1) (h2 : evB S b ρ G1 = r) : evS S (.ite c a b) ρ G = r := by simp only [evS, h1, rgo, h2]
theorem s_itet {c : PV.E} {a b : List St} {r : F} (h1 : evE S ρ c G = .ok (.bl true) G1) (h2 : evB S a ρ G1 = r) : evS S (.ite c a b) ρ G = r := by simp only [evS, h1, rgo, h2]
theorem s_if0 {c : PV.E} {a : List St} (h1 : evE S ρ c G = .ok (.bl false) G1) : evS S (.ite c a []) ρ G = .next ρ G1 := s_itef h1 rfl
theorem s_for {t : Tg} {it : It} {b : List St} {ds : List D} {r : F} (h1 : evI S ρ it G = .ok ds G1) (h2 : forL (fun d ρ1 G2 => match PV.assign ρ1 t d with | some ρ2 => evB S b ρ2 G2 | none => .bad) ds ρ G1 = r) : evS S (.for_ t it b) ρ G = r := by
  simp only [evS, h1, rgo]
  exact h2
theorem b_next {s : St} {r : List St} {x : F} (h1 : evS S s ρ G = .next ρ1 G1) (h2 : evB S r ρ1 G1 = x) : evB S (s :: r) ρ G = x := by simp only [evB, h1, rth, h2]
theorem b_ret {s : St} {r : List St} {d : D} (h1 : evS S s ρ G = .ret d G1) : evB S (s :: r) ρ G = .ret d G1 := by simp only [evB, h1, rtr]
theorem i_seq {a : PV.E} {x : D} {ds : List D} (h1 : evE S ρ a G = .ok x G1) (h2 : walkOf x = some ds := by rfl) : evI S ρ (.seq a) G = .ok ds G1 := by simp only [evI, h1, rb, h2, rof]
theorem i_rng {a : PV.E} {j : Int} (h1 : evE S ρ a G = .ok (.int j) G1) (h2 : -(2 ^ 62) ≤ j ∧ j < 2 ^ 62) : evI S ρ (.rng1 a) G = .ok (rangeD 0 j) G1 := by simp only [evI, h1, rb, if_pos h2]
theorem run_d (f : Fn) {args : List D} {d : D} (h : args.length = f.np) (hρ : args.map some ++ List.replicate (f.ns - f.np) none = ρ) (hb : evB S f.body ρ G = .ret d G1) : runFn S f args G = gcR G.length (.ok d G1) := by
  subst hρ
  unfold runFn
  rw [if_pos h, hb]
end
/-! comprehensions -/
theorem compL_map {α : Type} (f : D → Gs → R (Option D)) (a g : α → D) (G : Gs) : ∀ xs : List α, (∀ x ∈ xs, f (a x) G = .ok (some (g x)) G) → compL f (xs.map a) G = .ok (xs.map g) G
  | [], _ => rfl
  | x :: xs, h => by
    show (f (a x) G).bind _ = _
    rw [h x (List.mem_cons_self ..), rb]
    show (compL f (xs.map a) G).bind _ = _
    rw [compL_map f a g G xs fun y hy => h y (List.mem_cons_of_mem _ hy), rb]
    rfl
theorem comp_map {α : Type} {S : PV.Sem} {ρ : PV.Env} {own : List Nat} {el : PV.E} {tg : Tg} {it : It} {G : Gs} (xs : List α) (a g : α → D) (ρx : α → PV.Env) (h1 : evI S ρ it G = .ok (xs.map a) G) (h2 : ∀ x ∈ xs, PV.assign (wipeE ρ own) tg (a x) = some (ρx x)) (h3 : ∀ x ∈ xs, evE S (ρx x) el G = .ok (g x) G) (h4 : xs.length < sizeLine) : evE S ρ (.comp own el tg it []) G = .ok (.lst (xs.map g)) G := by
  simp only [evE, h1, rb]
  rw [compL_map _ a g G xs fun x hx => by
    rw [h2 x hx]
    simp only [evT, rb, if_true]
    rw [h3 x hx, rb]]
  simp only [R.calm, rb, List.length_map]
  rw [if_pos h4]
def fDice : Fn := ⟨1, 1, [.ite (.chain .lt .lt (.bin .sub (.con (.int 0)) (.con (.int 10))) (.var 0) (.con (.int 10))) [.ret (.lstC [.prim .abs [.var 0], .con (.int 0), .con (.int 2)])] [],
    .ret (.lstC [.var 0, .bin .add (.con (.int 1)) (.bin .mod (.prim .int [.var 0]) (.con (.int 1009))), .prim .int [.cmp .ge (.var 0) (.bin .pow (.con (.int 10)) (.con (.int 18)))]])]⟩
def fRoll : Fn := ⟨2, 3, [.ite (.or (.cmp .eq (.ix (.var 0) (.con (.int 2))) (.con (.int 2))) (.and (.cmp .eq (.ix (.var 0) (.con (.int 2))) (.con (.int 1))) (.cmp .gt (.ix (.var 0) (.con (.int 0))) (.con (.int 0))))) [.set (.nm 2) (.bin .mod (.prim .int [.ix (.var 0) (.con (.int 0))]) (.var 1)),
    .setix (.var 0) (.con (.int 0)) (.bin .fdiv (.ix (.var 0) (.con (.int 0))) (.var 1)),
    .ret (.var 2)] [],
    .setix (.var 0) (.con (.int 2)) (.con (.int 0)),
    .setix (.var 0) (.con (.int 0)) (.bin .mod (.prim .int [.bin .add (.bin .add (.bin .mul (.ix (.var 0) (.con (.int 0))) (.con (.int 48271))) (.bin .mul (.ix (.var 0) (.con (.int 1))) (.con (.int 69621)))) (.con (.int 11))]) (.con (.int 2147483647))),
    .setix (.var 0) (.con (.int 1)) (.bin .add (.ix (.var 0) (.con (.int 1))) (.con (.int 1))),
    .ret (.bin .mod (.prim .int [.bin .add (.bin .fdiv (.ix (.var 0) (.con (.int 0))) (.con (.int 7))) (.ix (.var 0) (.con (.int 0)))]) (.var 1))]⟩
def fRounds (di : Nat) : Fn := ⟨2, 4, [.set (.nm 2) (.sl (.var 0) none (some (.var 1))),
    .ite (.cmp .eq (.var 2) (.lst [])) [.set (.nm 2) (.lst [.con (.int 0)])] [],
    .ret (.comp [3] (.call di [.var 3]) (.nm 3) (.seq (.var 2)) [])]⟩
section
variable {S : PV.Sem} {ρ ρ1 ρ2 : PV.Env} {G G1 G2 G3 G4 : Gs}
theorem s_setix {o i e : PV.E} {v x y : D} (h1 : evE S ρ e G = .ok v G1) (h2 : evE S ρ o G1 = .ok x G2) (h3 : evE S ρ i G2 = .ok y G3) (h4 : setD G3 x y v = some G4) : evS S (.setix o i e) ρ G = .next ρ G4 := by simp only [evS, h1, h2, h3, rgo, h4]
theorem x_ort {a b : PV.E} (h1 : evE S ρ a G = .ok (.bl true) G1) : evE S ρ (.or a b) G = .ok (.bl true) G1 := by simp only [evE, h1, rb]
theorem x_andf {a b : PV.E} (h1 : evE S ρ a G = .ok (.bl false) G1) : evE S ρ (.and a b) G = .ok (.bl false) G1 := by simp only [evE, h1, rb]
theorem x_cht {o1 o2 : Cop} {a b c : PV.E} {x y z : D} {r : Bool} (h1 : evE S ρ a G = .ok x G1) (h2 : evE S ρ b G1 = .ok y G2) (h3 : cmpD o1 x y = some true) (h4 : evE S ρ c G2 = .ok z G3) (h5 : cmpD o2 y z = some r) : evE S ρ (.chain o1 o2 a b c) G = .ok (.bl r) G3 := by simp only [evE, h1, h2, rb, h3, h4, h5, rof, Option.map]
theorem x_chf {o1 o2 : Cop} {a b c : PV.E} {x y : D} (h1 : evE S ρ a G = .ok x G1) (h2 : evE S ρ b G1 = .ok y G2) (h3 : cmpD o1 x y = some false) : evE S ρ (.chain o1 o2 a b c) G = .ok (.bl false) G2 := by simp only [evE, h1, h2, rb, h3]
theorem x_sl1 {a hi : PV.E} {x d : D} {j : Int} (h1 : evE S ρ a G = .ok x G1) (h2 : evE S ρ hi G1 = .ok (.int j) G2) (h3 : slD x none (some j) = some d) : evE S ρ (.sl a none (some hi)) G = .ok d G2 := by simp only [evE, evO, h1, h2, rb, h3, rof]
end
section
variable {S : PV.Sem} {ρ : PV.Env} {G G1 : Gs}
/-- a run whose value holds no cell, the dice alone stand -/
theorem run_d1 (f : Fn) {args : List D} {i x y z x' y' z' : Int} (h : args.length = f.np) (hρ : args.map some ++ List.replicate (f.ns - f.np) none = ρ) (hb : evB S f.body ρ [some (.lst [.int x, .int y, .int z])] = .ret (.int i) [some (.lst [.int x', .int y', .int z'])]) : runFn S f args [some (.lst [.int x, .int y, .int z])] = .ok (.int i) [some (.lst [.int x', .int y', .int z'])] := (run_d f h hρ hb).trans rfl
theorem run_dc (f : Fn) {args : List D} {n : Nat} (h : args.length = f.np) (hρ : args.map some ++ List.replicate (f.ns - f.np) none = ρ) (hb : evB S f.body ρ G = .ret (.cell n) G1) : runFn S f args G = .ok (.cell n) G1 := (run_d f h hρ hb).trans rfl
theorem run_dl (f : Fn) {args : List D} {n : Nat} (h : args.length = f.np) (hρ : args.map some ++ List.replicate (f.ns - f.np) none = ρ) (hb : evB S f.body ρ G = .ret (.lst [.cell n]) G1) : runFn S f args G = .ok (.lst [.cell n]) G1 := (run_d f h hρ hb).trans rfl
end
def BB : Nat := 1048580
/-- the dice: k rolls are left -/
def Dice (k : Nat) (G : Gs) : Prop := ∃ x y z : Int, G = [some (.lst [.int x, .int y, .int z])] ∧ x.natAbs < 2 ^ BB ∧ y.natAbs + k ≤ 10000
theorem Dice.mono {k j : Nat} {G : Gs} (h : Dice k G) (hj : j ≤ k) : Dice j G := by
  obtain ⟨x, y, z, e, h1, h2⟩ := h
  exact ⟨x, y, z, e, h1, by omega⟩
def CC (i : Int) : Prop := 0 < i ∧ i < 1000000000
theorem big31 : 2 ^ 31 ≤ 2 ^ BB := Nat.pow_le_pow_right (by decide) (by decide)
theorem fmod_in (a : Int) {m : Int} (h : 0 < m) : 0 ≤ a.fmod m ∧ a.fmod m < m := by
  rw [Int.fmod_eq_emod_of_nonneg a (by omega)]
  exact ⟨Int.emod_nonneg _ (by omega), Int.emod_lt_of_pos _ h⟩
theorem fdiv_le (a : Int) {m : Int} (h : CC m) : (a.fdiv m).natAbs ≤ a.natAbs := by
  obtain ⟨h0, _⟩ := h
  rw [Int.fdiv_eq_ediv_of_nonneg a (by omega)]
  by_cases ha : a < 0
  · have h1 : a / m < 0 := Int.ediv_neg_of_neg_of_pos ha h0
    have h2 : a ≤ a / m := by
      apply Int.le_ediv_of_mul_le h0
      have h3 : a * m ≤ a * 1 := Int.mul_le_mul_of_nonpos_left (by omega) (by omega)
      omega
    omega
  · have h1 : 0 ≤ a / m := Int.ediv_nonneg (by omega) (by omega)
    have h2 : a / m ≤ a := Int.ediv_le_self m (by omega)
    omega
theorem CC.pos {m : Int} (h : CC m) : 0 < m := h.1
theorem CC.div {m : Int} (h : CC m) : okDiv m = true := okDiv_small (by have := h.1; omega) (by have := h.1; have := h.2; omega)
/-- a roll -/
theorem roll_ok (S : PV.Sem) (k : Nat) {G : Gs} {m : Int} (hm : CC m) (h : Dice (k + 1) G) : ∃ r G', runFn S fRoll [.cell 0, .int m] G = .ok (.int r) G' ∧ 0 ≤ r ∧ r < m ∧ Dice k G' := by
  obtain ⟨x, y, z, rfl, hx, hy⟩ := h
  have m0 : m ≠ 0 := by have := hm.pos; omega
  have A : ∀ (c : evE S [some (.cell 0), some (.int m), none] (.or (.cmp .eq (.ix (.var 0) (.con (.int 2))) (.con (.int 2))) (.and (.cmp .eq (.ix (.var 0) (.con (.int 2))) (.con (.int 1))) (.cmp .gt (.ix (.var 0) (.con (.int 0))) (.con (.int 0))))) [some (.lst [.int x, .int y, .int z])] = .ok (.bl true) [some (.lst [.int x, .int y, .int z])]), ∃ r G', runFn S fRoll [.cell 0, .int m] [some (.lst [.int x, .int y, .int z])] = .ok (.int r) G' ∧ 0 ≤ r ∧ r < m ∧ Dice k G' := fun c =>
    ⟨x.fmod m, [some (.lst [.int (x.fdiv m), .int y, .int z])], run_d1 fRoll (args := [.cell 0, .int m]) (S := S) (ρ := [some (.cell 0), some (.int m), none]) rfl rfl
      (b_ret (s_itet c (b_next (s_set (x_bin (x_prim (x_es (x_ix x_v x_c rfl) x_es0) rfl) x_v (bmo _ _ m0))) (b_next (s_setix (x_bin (x_ix x_v x_c rfl) x_v (bd _ _ hm.div)) x_v x_c rfl) (b_ret (s_ret x_v)))))),
      (fmod_in x hm.pos).1, (fmod_in x hm.pos).2, _, _, _, rfl, Nat.lt_of_le_of_lt (fdiv_le x hm) hx, by omega⟩
  have B : ∀ (c : evE S [some (.cell 0), some (.int m), none] (.or (.cmp .eq (.ix (.var 0) (.con (.int 2))) (.con (.int 2))) (.and (.cmp .eq (.ix (.var 0) (.con (.int 2))) (.con (.int 1))) (.cmp .gt (.ix (.var 0) (.con (.int 0))) (.con (.int 0))))) [some (.lst [.int x, .int y, .int z])] = .ok (.bl false) [some (.lst [.int x, .int y, .int z])]), ∃ r G', runFn S fRoll [.cell 0, .int m] [some (.lst [.int x, .int y, .int z])] = .ok (.int r) G' ∧ 0 ≤ r ∧ r < m ∧ Dice k G' := fun c => by
    have o1 : okMul x 48271 = true := ok_mul (m := BB) (k := 16) hx (by decide) (by decide)
    have o2 : okMul y 69621 = true := ok_mul (m := 14) (k := 17) (by omega) (by decide) (by decide)
    have hf := fmod_in (x * 48271 + y * 69621 + 11) (m := 2147483647) (by decide)
    exact ⟨_, [some (.lst [.int ((x * 48271 + y * 69621 + 11).fmod 2147483647), .int (y + 1), .int 0])], run_d1 fRoll (args := [.cell 0, .int m]) (S := S) (ρ := [some (.cell 0), some (.int m), none]) rfl rfl
      (b_next (s_if0 c) (b_next (s_setix x_c x_v x_c rfl) (b_next (s_setix (x_bin (x_prim (x_es (x_bin (x_bin (x_bin (x_ix x_v x_c rfl) x_c (bm _ _ o1)) (x_bin (x_ix x_v x_c rfl) x_c (bm _ _ o2)) rfl) x_c rfl) x_es0) rfl) x_c (bmo _ _ (by decide))) x_v x_c rfl)
        (b_next (s_setix (x_bin (x_ix x_v x_c rfl) x_c rfl) x_v x_c rfl) (b_ret (s_ret (x_bin (x_prim (x_es (x_bin (x_bin (x_ix x_v x_c rfl) x_c (bd _ _ (by decide))) (x_ix x_v x_c rfl) rfl) x_es0) rfl) x_v (bmo _ _ m0)))))))),
      (fmod_in _ hm.pos).1, (fmod_in _ hm.pos).2, _, _, _, rfl, Nat.lt_of_lt_of_le (by omega) big31, by omega⟩
  by_cases h2 : z = 2
  · exact A (x_ort (x_cmp (x_ix x_v x_c rfl) x_c (by rw [ceq, eqD_int, decide_eq_true h2])))
  · by_cases h1 : z = 1
    · by_cases h0 : 0 < x
      · exact A (x_orf (x_cmp (x_ix x_v x_c rfl) x_c (by rw [ceq, eqD_int, decide_eq_false h2])) (x_andt (x_cmp (x_ix x_v x_c rfl) x_c (by rw [ceq, eqD_int, decide_eq_true h1])) (x_cmp (x_ix x_v x_c rfl) x_c (by rw [cgt, decide_eq_true h0]))))
      · exact B (x_orf (x_cmp (x_ix x_v x_c rfl) x_c (by rw [ceq, eqD_int, decide_eq_false h2])) (x_andt (x_cmp (x_ix x_v x_c rfl) x_c (by rw [ceq, eqD_int, decide_eq_true h1])) (x_cmp (x_ix x_v x_c rfl) x_c (by rw [cgt, decide_eq_false h0]))))
    · exact B (x_orf (x_cmp (x_ix x_v x_c rfl) x_c (by rw [ceq, eqD_int, decide_eq_false h2])) (x_andf (x_cmp (x_ix x_v x_c rfl) x_c (by rw [ceq, eqD_int, decide_eq_false h1]))))
theorem dice_ok (S : PV.Sem) (c : Int) (hc : c.natAbs < 2 ^ BB) : ∃ G', runFn S fDice [.int c] [] = .ok (.cell 0) G' ∧ Dice 8000 G' := by
  have S1 : ∀ (h : evE S [some (.int c)] (.chain .lt .lt (.bin .sub (.con (.int 0)) (.con (.int 10))) (.var 0) (.con (.int 10))) [] = .ok (.bl true) []), ∃ G', runFn S fDice [.int c] [] = .ok (.cell 0) G' ∧ Dice 8000 G' := fun h =>
    ⟨_, run_dc fDice (args := [.int c]) (S := S) (ρ := [some (.int c)]) rfl rfl (b_ret (s_itet h (b_ret (s_ret (x_lstC (x_es (x_prim (x_es x_v x_es0) rfl) (x_es x_c (x_es x_c x_es0)))))))), _, _, _, rfl, (by split <;> omega), by decide⟩
  have S2 : ∀ (h : evE S [some (.int c)] (.chain .lt .lt (.bin .sub (.con (.int 0)) (.con (.int 10))) (.var 0) (.con (.int 10))) [] = .ok (.bl false) []), ∃ G', runFn S fDice [.int c] [] = .ok (.cell 0) G' ∧ Dice 8000 G' := fun h => by
    have hf := fmod_in c (m := 1009) (by decide)
    exact ⟨_, run_dc fDice (args := [.int c]) (S := S) (ρ := [some (.int c)]) rfl rfl (b_next (s_if0 h) (b_ret (s_ret (x_lstC (x_es x_v (x_es (x_bin x_c (x_bin (x_prim (x_es x_v x_es0) rfl) x_c (bmo _ _ (by decide))) rfl) (x_es (x_prim (x_es (x_cmp x_v (x_bin x_c x_c (d := .int (10 ^ 18)) rfl) (cge _ _)) x_es0) rfl) x_es0))))))), _, _, _, rfl, hc, by omega⟩
  by_cases h1 : (0 - 10 : Int) < c
  · by_cases h2 : c < 10
    · exact S1 (x_cht (x_bin x_c x_c rfl) x_v (by rw [clt, decide_eq_true h1]) x_c (by rw [clt, decide_eq_true h2]))
    · exact S2 (x_cht (x_bin x_c x_c rfl) x_v (by rw [clt, decide_eq_true h1]) x_c (by rw [clt, decide_eq_false h2]))
  · exact S2 (x_chf (x_bin x_c x_c rfl) x_v (by rw [clt, decide_eq_false h1]))
theorem comp_one {S : PV.Sem} {ρ ρ' : PV.Env} {own : List Nat} {el : PV.E} {tg : Tg} {it : It} {G G1 G2 : Gs} {d y : D} (h1 : evI S ρ it G = .ok [d] G1) (h2 : PV.assign (wipeE ρ own) tg d = some ρ') (h3 : evE S ρ' el G1 = .ok y G2) : evE S ρ (.comp own el tg it []) G = .ok (.lst [y]) G2 := by
  simp only [evE, h1, rb, compL, h2, evT, if_true, h3, R.calm, List.length_cons, List.length_nil]
  rw [if_pos (by decide)]
theorem rounds_ok {S : PV.Sem} {di : Nat} (hd : ∀ c : Int, c.natAbs < 2 ^ BB → ∃ G', S.cal di [.int c] [] = .ok (.cell 0) G' ∧ Dice 8000 G') (ns : List Int) (h : ∀ z ∈ ns, z.natAbs < 2 ^ BB) : ∃ G', runFn S (fRounds di) [.frz (ns.map .int), .int 1] [] = .ok (.lst [.cell 0]) G' ∧ Dice 8000 G' := by
  cases ns with
  | nil =>
    obtain ⟨G', e, hG⟩ := hd 0 (by show 0 < _; exact Nat.pos_of_ne_zero (by simp))
    exact ⟨G', run_dl (fRounds di) (args := [.frz [], .int 1]) (S := S) (ρ := [some (.frz []), some (.int 1), none, none]) rfl rfl
      (b_next (s_set (x_sl1 x_v x_v (d := .lst []) rfl)) (b_next (s_itet (x_cmp x_v (x_lst x_es0) (c := true) rfl) (b_next (s_set (x_lst (x_es x_c x_es0))) rfl)) (b_ret (s_ret (comp_one (i_seq x_v) rfl (x_call (x_es x_v x_es0) e)))))), hG⟩
  | cons c r =>
    obtain ⟨G', e, hG⟩ := hd c (h c (List.mem_cons_self ..))
    have hs : slD (.frz ((c :: r).map .int)) none (some 1) = some (.lst [.int c]) := by
      have : cutD ((c :: r).map D.int) none (some 1) = [.int c] := by
        show ((D.int c :: r.map D.int).drop 0).take (min 1 (r.map D.int).length.succ - 0) = _
        rw [show min 1 (r.map D.int).length.succ - 0 = 1 by omega]
        rfl
      show some (D.lst (cutD ((c :: r).map D.int) none (some 1))) = _
      rw [this]
    exact ⟨G', run_dl (fRounds di) (args := [.frz ((c :: r).map .int), .int 1]) (S := S) (ρ := [some (.frz ((c :: r).map .int)), some (.int 1), none, none]) rfl rfl
      (b_next (s_set (x_sl1 x_v x_v hs)) (b_next (s_if0 (x_cmp x_v (x_lst x_es0) (c := false) rfl)) (b_ret (s_ret (comp_one (i_seq x_v) rfl (x_call (x_es x_v x_es0) e)))))), hG⟩
/-- a comprehension that rolls -/
theorem compL_ex (f : D → Gs → R (Option D)) (P : D → Prop) (c k : Nat) : ∀ (ds : List D) (G : Gs), Dice (k + c * ds.length) G → (∀ d ∈ ds, ∀ (i : Nat) (G : Gs), Dice (i + c) G → ∃ y G', f d G = .ok (some y) G' ∧ P y ∧ Dice i G') → ∃ ys G', compL f ds G = .ok ys G' ∧ ys.length = ds.length ∧ (∀ y ∈ ys, P y) ∧ Dice k G'
  | [], G, hG, _ => ⟨[], G, rfl, rfl, (fun y hy => nomatch hy), hG⟩
  | d :: ds, G, hG, h => by
    obtain ⟨y, G1, e1, p1, g1⟩ := h d (List.mem_cons_self ..) (k + c * ds.length) G (by rw [List.length_cons, Nat.mul_succ, ← Nat.add_assoc] at hG; exact hG)
    obtain ⟨ys, G2, e2, l2, p2, g2⟩ := compL_ex f P c k ds G1 g1 fun d hd => h d (List.mem_cons_of_mem _ hd)
    refine ⟨y :: ys, G2, ?_, by rw [List.length_cons, l2, List.length_cons], fun z hz => ?_, g2⟩
    · show (f d G).bind _ = _
      rw [e1, rb, e2, rb]
    · rcases List.mem_cons.mp hz with rfl | hz
      · exact p1
      · exact p2 z hz
theorem compL_end (f : D → Gs → R (Option D)) {ds ys : List D} {G G' : Gs} (e : compL f ds G = .ok ys G') (h : ys.length < sizeLine) : ((compL f ds G).calm.bind fun ys G5 => if ys.length < sizeLine then .ok (D.lst ys) G5 else .bad) = .ok (.lst ys) G' := by
  rw [e]
  exact if_pos h
theorem comp_ex {S : PV.Sem} {ρ : PV.Env} {own : List Nat} {el : PV.E} {tg : Tg} {it : It} {G G1 : Gs} {ds : List D} (P : D → Prop) (c k : Nat) (h1 : evI S ρ it G = .ok ds G1) (hG : Dice (k + c * ds.length) G1) (hl : ds.length < 1000) (h : ∀ d ∈ ds, ∃ ρ', PV.assign (wipeE ρ own) tg d = some ρ' ∧ ∀ (i : Nat) (G : Gs), Dice (i + c) G → ∃ y G', evE S ρ' el G = .ok y G' ∧ P y ∧ Dice i G') : ∃ ys G', evE S ρ (.comp own el tg it []) G = .ok (.lst ys) G' ∧ ys.length = ds.length ∧ (∀ y ∈ ys, P y) ∧ Dice k G' := by
  obtain ⟨ys, G', e, l, p, g⟩ := compL_ex (fun d G2 => match PV.assign (wipeE ρ own) tg d with
        | some ρ' => (evT S ρ' [] G2).bind fun b G3 => if b then (evE S ρ' el G3).bind fun y G4 => .ok (some y) G4 else .ok none G3
        | none => .bad) P c k ds G1 hG fun d hd i G hi => by
    obtain ⟨ρ', e1, h2⟩ := h d hd
    obtain ⟨y, G', e2, p, g⟩ := h2 i G hi
    exact ⟨y, G', by simp only [e1, evT, rb, if_true, e2], p, g⟩
  refine ⟨ys, G', ?_, l, p, g⟩
  simp only [evE, h1, rb]
  exact compL_end _ e (by rw [szl, l]; omega)
theorem list_str {L : List Str} : ∀ {ys : List D}, (∀ y ∈ ys, ∃ s ∈ L, y = .str s) → ∃ ss : List Str, ys = ss.map .str ∧ ∀ s ∈ ss, s ∈ L
  | [], _ => ⟨[], rfl, fun p hp => nomatch hp⟩
  | y :: ys, h => by
    obtain ⟨p, hp, rfl⟩ := h y (List.mem_cons_self ..)
    obtain ⟨ps, rfl, hs⟩ := list_str fun z hz => h z (List.mem_cons_of_mem _ hz)
    exact ⟨p :: ps, rfl, fun q hq => (List.mem_cons.mp hq).elim (fun e => e ▸ hp) (hs q)⟩
/-! tables -/
theorem tab {α β : Type} {f g : α → β} : ∀ {l : List α}, l.map f = l.map g → ∀ x ∈ l, f x = g x
  | [], _, x, hx => nomatch hx
  | y :: l, h, x, hx => by
    injection h with h1 h2
    rcases List.mem_cons.mp hx with rfl | hx
    · exact h1
    · exact tab h2 x hx
def upto (lo : Int) (n : Nat) : List Int := (List.range n).map fun (k : Nat) => lo + (k : Int)
theorem mem_upto {lo x : Int} {n : Nat} (h1 : lo ≤ x) (h2 : x < lo + n) : x ∈ upto lo n := List.mem_map.mpr ⟨(x - lo).toNat, List.mem_range.mpr (by omega), by omega⟩
def pairs (xs ys : List Int) : List (Int × Int) := xs.flatMap fun x => ys.map fun y => (x, y)
theorem mem_pairs {xs ys : List Int} {x y : Int} (h1 : x ∈ xs) (h2 : y ∈ ys) : (x, y) ∈ pairs xs ys := List.mem_flatMap.mpr ⟨x, h1, List.mem_map.mpr ⟨y, h2, rfl⟩⟩
def lists (L : List Str) : Nat → List (List Str)
  | 0 => [[]]
  | k + 1 => [] :: L.flatMap fun l => (lists L k).map (l :: ·)
theorem mem_lists {L : List Str} : ∀ {k : Nat} {ss : List Str}, ss.length ≤ k → (∀ s ∈ ss, s ∈ L) → ss ∈ lists L k
  | 0, [], _, _ => List.mem_cons_self ..
  | k + 1, [], _, _ => List.mem_cons_self ..
  | k + 1, s :: ss, hl, h => List.mem_cons_of_mem _ (List.mem_flatMap.mpr ⟨s, h s (List.mem_cons_self ..), List.mem_map.mpr ⟨ss, mem_lists (Nat.le_of_succ_le_succ hl) (fun t ht => h t (List.mem_cons_of_mem _ ht)), rfl⟩⟩)
theorem ne_int (i : Int) : cmpD .ne (.int i) (.int i) = some false := by
  rw [cne, eqD_int, decide_eq_true rfl]
  rfl
theorem ne_bl {x y : Bool} (h : x = y) : cmpD .ne (.bl x) (.bl y) = some false := by
  subst h
  cases x <;> rfl
section
variable {S : PV.Sem} {ρ : PV.Env} {G G1 : Gs}
theorem x_told {b : PV.E} {d : D} (h : evE S ρ b G = .ok d G1) : evE S ρ (.told b) G = .ok d G1 := by simp only [evE, h, toldR]
theorem x_toldx {b : PV.E} {c : Nat} {r : Str} (h : evE S ρ b G = .exc c G1) (h2 : S.told c = some r) : evE S ρ (.told b) G = .ok (.str r) G1 := by simp only [evE, h, toldR, h2]
theorem forL_next {f : D → PV.Env → Gs → F} {d : D} {ds : List D} {ρ1 : PV.Env} {x : F} (h : f d ρ G = .next ρ1 G1) (h2 : forL f ds ρ1 G1 = x) : forL f (d :: ds) ρ G = x := by simp only [forL, h, h2]
end
theorem rangeD_nat (n : Nat) : rangeD 0 (n : Int) = (List.range n).map fun (k : Nat) => D.int (0 + (k : Int)) := by
  unfold rangeD
  rw [show ((n : Int) - 0).toNat = n by omega]
theorem len_rng (r : Int) : (rangeD 0 r).length = r.toNat := by simp [rangeD]
theorem bits_lt {ns : List Int} (h2 : ∀ z ∈ ns, Builtin.Int.intBits z ≤ 1048576) : ∀ z ∈ ns, z.natAbs < 2 ^ BB := fun z hz => by
  have h := h2 z hz
  unfold Builtin.Int.intBits at h
  have k : z.natAbs < 2 ^ 1048576 := by
    by_cases h0 : z = 0
    · subst h0
      exact Nat.pow_pos (by decide)
    · rw [if_neg (by simpa using h0)] at h
      exact (Nat.log2_lt (by omega)).mp (by omega)
  exact Nat.lt_of_lt_of_le k (Nat.pow_le_pow_right (by decide) (by decide))
theorem evB_app (S : PV.Sem) : ∀ (a b : List St) (ρ : PV.Env) (G : Gs), evB S (a ++ b) ρ G = (evB S a ρ G).then (evB S b)
  | [], b, ρ, G => rfl
  | s :: a, b, ρ, G => by
    show (evS S s ρ G).then (evB S (a ++ b)) = ((evS S s ρ G).then (evB S a)).then (evB S b)
    cases evS S s ρ G with
    | next ρ' G' => exact evB_app S a b ρ' G'
    | _ => rfl
theorem app_next {S : PV.Sem} {a b : List St} {ρ ρ1 : PV.Env} {G G1 : Gs} {x : F} (h1 : evB S a ρ G = .next ρ1 G1) (h2 : evB S b ρ1 G1 = x) : evB S (a ++ b) ρ G = x := by
  rw [evB_app, h1]
  exact h2
end PV
end
/-! ## K05a -/
section
set_option Elab.async false
set_option linter.all false
set_option maxRecDepth 100000
set_option maxHeartbeats 4000000
namespace LK
open PySem L2 LamX PyProof.Rows RZ PV
/-! the text by places -/
def top (i : Nat) : Stmt := PySem.Challenge.pw_stepwright_k05_curves.main.body.getD i (.Pass ⟨0, 0, 0, 0⟩)
abbrev s_shared : Stmt := top 13
abbrev s_part : Stmt := top 14
abbrev s_plus : Stmt := top 15
abbrev s_minus : Stmt := top 16
abbrev s_times : Stmt := top 17
abbrev s_over : Stmt := top 18
abbrev s_total : Stmt := top 19
abbrev s_product : Stmt := top 20
abbrev s_small_row : Stmt := top 21
abbrev s_curve : Stmt := top 23
abbrev s_power_of : Stmt := top 24
abbrev s_part_at : Stmt := top 25
abbrev s_added : Stmt := top 26
abbrev s_scaled_curve : Stmt := top 27
abbrev s_taken : Stmt := top 28
abbrev s_multiplied : Stmt := top 29
abbrev s_divided : Stmt := top 30
abbrev s_worth : Stmt := top 31
abbrev s_slope : Stmt := top 32
abbrev s_area_under : Stmt := top 33
abbrev s_between : Stmt := top 34
abbrev s_through : Stmt := top 35
abbrev s_put_in : Stmt := top 36
abbrev s_shared_curve : Stmt := top 37
abbrev s_powers : Stmt := top 38
abbrev s_law_dice : Stmt := top 40
abbrev s_law_roll : Stmt := top 41
abbrev s_law_rounds : Stmt := top 42
abbrev s_law_told : Stmt := top 43
abbrev s_law_part : Stmt := top 44
abbrev s_law_worth : Stmt := top 45
abbrev s_law : Stmt := top 46
/-! the program as the evaluator has it -/
def m_shared : Fn := ⟨2, 2, [.ret (.prim .gcd [.var 0, .var 1])]⟩
def m_part : Fn := ⟨2, 3, [.ite (.cmp .eq (.var 1) (.con (.int 0))) [.raise 0 (.con (.str "a part by nought"))] [],
    .set (.nm 2) (.call 0 [.var 0, .var 1]),
    .ite (.cmp .lt (.var 1) (.con (.int 0))) [.set (.nm 2) (.neg (.var 2))] [],
    .ret (.tup [.bin .fdiv (.var 0) (.var 2), .bin .fdiv (.var 1) (.var 2)])]⟩
def m_plus : Fn := ⟨2, 2, [.ret (.call 1 [.bin .add (.bin .mul (.ix (.var 0) (.con (.int 0))) (.ix (.var 1) (.con (.int 1)))) (.bin .mul (.ix (.var 1) (.con (.int 0))) (.ix (.var 0) (.con (.int 1)))), .bin .mul (.ix (.var 0) (.con (.int 1))) (.ix (.var 1) (.con (.int 1)))])]⟩
def m_minus : Fn := ⟨2, 2, [.ret (.call 1 [.bin .sub (.bin .mul (.ix (.var 0) (.con (.int 0))) (.ix (.var 1) (.con (.int 1)))) (.bin .mul (.ix (.var 1) (.con (.int 0))) (.ix (.var 0) (.con (.int 1)))), .bin .mul (.ix (.var 0) (.con (.int 1))) (.ix (.var 1) (.con (.int 1)))])]⟩
def m_times : Fn := ⟨2, 2, [.ret (.call 1 [.bin .mul (.ix (.var 0) (.con (.int 0))) (.ix (.var 1) (.con (.int 0))), .bin .mul (.ix (.var 0) (.con (.int 1))) (.ix (.var 1) (.con (.int 1)))])]⟩
def m_over : Fn := ⟨2, 2, [.ret (.call 1 [.bin .mul (.ix (.var 0) (.con (.int 0))) (.ix (.var 1) (.con (.int 1))), .bin .mul (.ix (.var 0) (.con (.int 1))) (.ix (.var 1) (.con (.int 0)))])]⟩
def m_total : Fn := ⟨1, 3, [.set (.nm 1) (.tup [.con (.int 0), .con (.int 1)]),
    .for_ (.nm 2) (.seq (.var 0)) [.set (.nm 1) (.call 2 [.var 1, .var 2])],
    .ret (.var 1)]⟩
def m_product : Fn := ⟨1, 3, [.set (.nm 1) (.tup [.con (.int 1), .con (.int 1)]),
    .for_ (.nm 2) (.seq (.var 0)) [.set (.nm 1) (.call 4 [.var 1, .var 2])],
    .ret (.var 1)]⟩
def m_small_row : Fn := ⟨1, 2, [.ret (.prim .tuple [.comp [1] (.call 1 [.ix (.var 1) (.con (.int 0)), .ix (.var 1) (.con (.int 1))]) (.nm 1) (.seq (.var 0)) []])]⟩
def m_curve : Fn := ⟨1, 3, [.set (.nm 1) (.call 8 [.var 0]),
    .set (.nm 2) (.prim .len [.var 1]),
    .while_ (.and (.cmp .gt (.var 2) (.con (.int 0))) (.cmp .eq (.ix (.ix (.var 1) (.bin .sub (.var 2) (.con (.int 1)))) (.con (.int 0))) (.con (.int 0)))) [.aug 2 .sub (.con (.int 1))],
    .ret (.sl (.var 1) none (some (.var 2)))]⟩
def m_power_of : Fn := ⟨1, 1, [.ret (.bin .sub (.prim .len [.var 0]) (.con (.int 1)))]⟩
def m_part_at : Fn := ⟨2, 2, [.ite (.chain .le .lt (.con (.int 0)) (.var 1) (.prim .len [.var 0])) [.ret (.ix (.var 0) (.var 1))] [],
    .ret (.tup [.con (.int 0), .con (.int 1)])]⟩
def m_added : Fn := ⟨2, 4, [.set (.nm 2) (.prim .max2 [.prim .len [.var 0], .prim .len [.var 1]]),
    .ret (.call 9 [.comp [3] (.call 2 [.call 11 [.var 0, .var 3], .call 11 [.var 1, .var 3]]) (.nm 3) (.rng1 (.var 2)) []])]⟩
def m_scaled_curve : Fn := ⟨2, 3, [.ret (.call 9 [.comp [2] (.call 4 [.var 2, .var 1]) (.nm 2) (.seq (.var 0)) []])]⟩
def m_taken : Fn := ⟨2, 2, [.ret (.call 12 [.var 0, .call 13 [.var 1, .tup [.neg (.con (.int 1)), .con (.int 1)]]])]⟩
def m_multiplied : Fn := ⟨2, 7, [.set (.nm 2) (.mulC (.lst [.tup [.con (.int 0), .con (.int 1)]]) (.bin .add (.prim .len [.var 0]) (.prim .len [.var 1]))),
    .for_ (.tp [.nm 3, .nm 4]) (.enum (.var 0)) [.for_ (.tp [.nm 5, .nm 6]) (.enum (.var 1)) [.setix (.var 2) (.bin .add (.var 3) (.var 5)) (.call 2 [.ix (.var 2) (.bin .add (.var 3) (.var 5)), .call 4 [.var 4, .var 6]])]],
    .ret (.call 9 [.take (.var 2)])]⟩
def m_divided : Fn := ⟨2, 9, [.set (.nm 2) (.call 5 [.tup [.con (.int 1), .con (.int 1)], .call 11 [.var 1, .call 10 [.var 1]]]),
    .set (.nm 3) (.listC (.var 0)),
    .set (.nm 4) (.lstC []),
    .while_ (.cmp .ge (.prim .len [.var 3]) (.prim .len [.var 1])) [.set (.nm 5) (.call 4 [.ix (.var 3) (.neg (.con (.int 1))), .var 2]),
    .set (.nm 6) (.bin .sub (.prim .len [.var 3]) (.prim .len [.var 1])),
    .for_ (.tp [.nm 7, .nm 8]) (.enum (.var 1)) [.setix (.var 3) (.bin .add (.var 6) (.var 7)) (.call 3 [.ix (.var 3) (.bin .add (.var 6) (.var 7)), .call 4 [.var 5, .var 8]])],
    .ex (.pop (.var 3)),
    .ex (.app (.var 4) (.var 5))],
    .ret (.tup [.call 9 [.rev (.take (.var 4))], .call 9 [.take (.var 3)]])]⟩
def m_worth : Fn := ⟨2, 4, [.set (.nm 2) (.tup [.con (.int 0), .con (.int 1)]),
    .for_ (.nm 3) (.revI (.var 0)) [.set (.nm 2) (.call 2 [.call 4 [.var 2, .var 1], .var 3])],
    .ret (.var 2)]⟩
def m_slope : Fn := ⟨1, 2, [.ret (.call 9 [.comp [1] (.call 4 [.ix (.var 0) (.var 1), .tup [.var 1, .con (.int 1)]]) (.nm 1) (.rng2 (.con (.int 1)) (.prim .len [.var 0])) []])]⟩
def m_area_under : Fn := ⟨1, 3, [.ret (.call 9 [.bin .add (.lst [.tup [.con (.int 0), .con (.int 1)]]) (.comp [1, 2] (.call 5 [.var 2, .tup [.bin .add (.var 1) (.con (.int 1)), .con (.int 1)]]) (.tp [.nm 1, .nm 2]) (.enum (.var 0)) [])])]⟩
def m_between : Fn := ⟨3, 4, [.set (.nm 3) (.call 19 [.var 0]),
    .ret (.call 3 [.call 17 [.var 3, .var 2], .call 17 [.var 3, .var 1]])]⟩
def m_through : Fn := ⟨1, 9, [.set (.nm 1) (.tup []),
    .for_ (.tp [.nm 2, .tp [.nm 3, .nm 4]]) (.enum (.var 0)) [.set (.nm 5) (.call 9 [.lst [.var 4]]),
    .for_ (.tp [.nm 6, .nm 7]) (.seq (.bin .add (.sl (.var 0) none (some (.var 2))) (.sl (.var 0) (some (.bin .add (.var 2) (.con (.int 1)))) none))) [.set (.nm 8) (.call 3 [.var 3, .var 6]),
    .set (.nm 5) (.call 15 [.var 5, .call 9 [.lst [.call 5 [.call 3 [.tup [.con (.int 0), .con (.int 1)], .var 6], .var 8], .call 5 [.tup [.con (.int 1), .con (.int 1)], .var 8]]]])],
    .set (.nm 1) (.call 12 [.var 1, .var 5])],
    .ret (.var 1)]⟩
def m_put_in : Fn := ⟨2, 4, [.set (.nm 2) (.tup []),
    .for_ (.nm 3) (.revI (.var 0)) [.set (.nm 2) (.call 12 [.call 15 [.var 2, .var 1], .call 9 [.lst [.var 3]]])],
    .ret (.var 2)]⟩
def m_shared_curve : Fn := ⟨2, 2, [.while_ (.cmp .gt (.prim .len [.var 1]) (.con (.int 0))) [.set (.tp [.nm 0, .nm 1]) (.tup [.var 1, .ix (.call 16 [.var 0, .var 1]) (.con (.int 1))])],
    .ite (.cmp .eq (.prim .len [.var 0]) (.con (.int 0))) [.ret (.tup [])] [],
    .ret (.call 13 [.var 0, .call 5 [.tup [.con (.int 1), .con (.int 1)], .ix (.var 0) (.neg (.con (.int 1)))]])]⟩
def m_powers : Fn := ⟨1, 1, [.ite (.cmp .lt (.var 0) (.con (.int 0))) [.raise 5 (.fmt [.con (.str "no power "), .fv (.var 0)])] [],
    .ret (.bin .add (.bin .mul (.tup [.tup [.con (.int 0), .con (.int 1)]]) (.var 0)) (.tup [.tup [.con (.int 1), .con (.int 1)]]))]⟩
def m_law_dice : Fn := ⟨1, 1, [.ite (.chain .lt .lt (.bin .sub (.con (.int 0)) (.con (.int 10))) (.var 0) (.con (.int 10))) [.ret (.lstC [.prim .abs [.var 0], .con (.int 0), .con (.int 2)])] [],
    .ret (.lstC [.var 0, .bin .add (.con (.int 1)) (.bin .mod (.prim .int [.var 0]) (.con (.int 1009))), .prim .int [.cmp .ge (.var 0) (.bin .pow (.con (.int 10)) (.con (.int 18)))]])]⟩
def m_law_roll : Fn := ⟨2, 3, [.ite (.or (.cmp .eq (.ix (.var 0) (.con (.int 2))) (.con (.int 2))) (.and (.cmp .eq (.ix (.var 0) (.con (.int 2))) (.con (.int 1))) (.cmp .gt (.ix (.var 0) (.con (.int 0))) (.con (.int 0))))) [.set (.nm 2) (.bin .mod (.prim .int [.ix (.var 0) (.con (.int 0))]) (.var 1)),
    .setix (.var 0) (.con (.int 0)) (.bin .fdiv (.ix (.var 0) (.con (.int 0))) (.var 1)),
    .ret (.var 2)] [],
    .setix (.var 0) (.con (.int 2)) (.con (.int 0)),
    .setix (.var 0) (.con (.int 0)) (.bin .mod (.prim .int [.bin .add (.bin .add (.bin .mul (.ix (.var 0) (.con (.int 0))) (.con (.int 48271))) (.bin .mul (.ix (.var 0) (.con (.int 1))) (.con (.int 69621)))) (.con (.int 11))]) (.con (.int 2147483647))),
    .setix (.var 0) (.con (.int 1)) (.bin .add (.ix (.var 0) (.con (.int 1))) (.con (.int 1))),
    .ret (.bin .mod (.prim .int [.bin .add (.bin .fdiv (.ix (.var 0) (.con (.int 0))) (.con (.int 7))) (.ix (.var 0) (.con (.int 0)))]) (.var 1))]⟩
def m_law_rounds : Fn := ⟨2, 4, [.set (.nm 2) (.sl (.var 0) none (some (.var 1))),
    .ite (.cmp .eq (.var 2) (.lst [])) [.set (.nm 2) (.lst [.con (.int 0)])] [],
    .ret (.comp [3] (.call 25 [.var 3]) (.nm 3) (.seq (.var 2)) [])]⟩
def m_law_told : Fn := ⟨1, 1, []⟩
def m_law_part : Fn := ⟨1, 1, [.ret (.call 1 [.bin .sub (.call 26 [.var 0, .con (.int 7)]) (.con (.int 3)), .bin .add (.con (.int 1)) (.call 26 [.var 0, .con (.int 3)])])]⟩
def m_law_worth : Fn := ⟨2, 3, [.ret (.call 6 [.comp [2] (.call 4 [.ix (.var 0) (.var 2), .call 7 [.bin .mul (.lst [.var 1]) (.var 2)]]) (.nm 2) (.rng1 (.prim .len [.var 0])) []])]⟩
def m_law : Fn := ⟨1, 30, [.for_ (.nm 1) (.seq (.call 27 [.var 0, .con (.int 1)])) [.set (.tp [.nm 2, .nm 3]) (.comp [25] (.call 9 [.comp [27] (.call 29 [.var 1]) (.nm 27) (.rng1 (.call 26 [.var 1, .con (.int 5)])) []]) (.nm 25) (.rng1 (.con (.int 2))) []),
    .set (.tp [.nm 4, .nm 5]) (.tup [.call 29 [.var 1], .comp [27] (.tup [.bin .sub (.var 27) (.con (.int 4)), .con (.int 1)]) (.nm 27) (.rng1 (.con (.int 10))) []]),
    .ite (.or (.and (.cmp .ne (.var 2) (.tup [])) (.cmp .eq (.ix (.ix (.var 2) (.neg (.con (.int 1)))) (.con (.int 0))) (.con (.int 0)))) (.or (.cmp .ne (.call 10 [.var 2]) (.bin .sub (.prim .len [.var 2]) (.con (.int 1)))) (.cmp .ne (.comp [6] (.var 6) (.nm 6) (.seq (.var 5)) [.cmp .ne (.call 17 [.var 2, .var 6]) (.call 30 [.var 2, .var 6])]) (.lst [])))) [.ret (.con (.bl false))] [],
    .for_ (.nm 6) (.seq (.var 5)) [.set (.tp [.nm 7, .nm 8]) (.tup [.call 30 [.var 2, .var 6], .call 30 [.var 3, .var 6]]),
    .ite (.or (.cmp .ne (.call 17 [.call 12 [.var 2, .var 3], .var 6]) (.call 2 [.var 7, .var 8])) (.or (.cmp .ne (.call 17 [.call 14 [.var 2, .var 3], .var 6]) (.call 3 [.var 7, .var 8])) (.or (.cmp .ne (.call 17 [.call 15 [.var 2, .var 3], .var 6]) (.call 4 [.var 7, .var 8])) (.cmp .ne (.call 17 [.call 13 [.var 2, .var 4], .var 6]) (.call 4 [.var 7, .var 4]))))) [.ret (.con (.bl false))] [],
    .ite (.cmp .ne (.call 17 [.call 22 [.var 2, .var 3], .var 6]) (.call 30 [.var 2, .var 8])) [.ret (.con (.bl false))] []],
    .ite (.cmp .ne (.var 3) (.tup [])) [.set (.tp [.nm 9, .nm 10]) (.call 16 [.var 2, .var 3]),
    .ite (.or (.cmp .ne (.call 12 [.call 15 [.var 9, .var 3], .var 10]) (.var 2)) (.cmp .ge (.prim .len [.var 10]) (.prim .len [.var 3]))) [.ret (.con (.bl false))] []] [.ite (.cmp .ne (.told (.call 16 [.var 2, .var 3])) (.con (.str "part"))) [.ret (.con (.bl false))] []],
    .ite (.or (.cmp .ne (.call 18 [.var 2]) (.call 9 [.comp [27] (.call 4 [.ix (.var 2) (.var 27), .tup [.var 27, .con (.int 1)]]) (.nm 27) (.rng2 (.con (.int 1)) (.prim .len [.var 2])) []])) (.or (.cmp .ne (.call 18 [.call 19 [.var 2]]) (.var 2)) (.cmp .ne (.call 17 [.call 19 [.var 2], .tup [.con (.int 0), .con (.int 1)]]) (.tup [.con (.int 0), .con (.int 1)])))) [.ret (.con (.bl false))] [],
    .set (.tp [.nm 11, .nm 12]) (.tup [.call 29 [.var 1], .call 29 [.var 1]]),
    .ite (.cmp .ne (.call 20 [.var 2, .var 11, .var 12]) (.call 3 [.call 17 [.call 19 [.var 2], .var 12], .call 17 [.call 19 [.var 2], .var 11]])) [.ret (.con (.bl false))] [],
    .set (.nm 13) (.sl (.var 5) none (some (.bin .add (.con (.int 1)) (.call 26 [.var 1, .con (.int 5)])))),
    .set (.nm 14) (.comp [26] (.tup [.var 26, .call 29 [.var 1]]) (.nm 26) (.seq (.var 13)) []),
    .set (.nm 15) (.call 21 [.var 14]),
    .ite (.or (.cmp .gt (.prim .len [.var 15]) (.prim .len [.var 14])) (.or (.cmp .ne (.comp [26, 29] (.var 26) (.tp [.nm 26, .nm 29]) (.seq (.var 14)) [.cmp .ne (.call 17 [.var 15, .var 26]) (.var 29)]) (.lst [])) (.cmp .ne (.call 21 [.comp [26] (.tup [.var 26, .call 17 [.var 2, .var 26]]) (.nm 26) (.seq (.sl (.var 5) none (some (.con (.int 5))))) []]) (.var 2)))) [.ret (.con (.bl false))] [],
    .set (.nm 16) (.comp [27] (.tup [.bin .sub (.call 26 [.var 1, .con (.int 5)]) (.con (.int 2)), .con (.int 1)]) (.nm 27) (.rng1 (.call 26 [.var 1, .con (.int 4)])) []),
    .set (.nm 17) (.comp [27] (.tup [.bin .sub (.call 26 [.var 1, .con (.int 5)]) (.con (.int 2)), .con (.int 1)]) (.nm 27) (.rng1 (.call 26 [.var 1, .con (.int 4)])) []),
    .set (.tp [.nm 18, .nm 19]) (.tup [.tup [.tup [.con (.int 3), .con (.int 1)]], .tup [.tup [.con (.int 2), .con (.int 1)]]]),
    .for_ (.nm 20) (.seq (.var 16)) [.set (.nm 18) (.call 15 [.var 18, .call 9 [.lst [.call 3 [.tup [.con (.int 0), .con (.int 1)], .var 20], .tup [.con (.int 1), .con (.int 1)]]]])],
    .for_ (.nm 20) (.seq (.var 17)) [.set (.nm 19) (.call 15 [.var 19, .call 9 [.lst [.call 3 [.tup [.con (.int 0), .con (.int 1)], .var 20], .tup [.con (.int 1), .con (.int 1)]]]])],
    .set (.nm 21) (.tup [.tup [.con (.int 1), .con (.int 1)]]),
    .for_ (.nm 20) (.seq (.prim .sorted [.dctP (.comp [20] (.tup [.var 20, .con (.int 1)]) (.nm 20) (.seq (.var 16)) [])])) [.for_ (.nm 22) (.rng1 (.prim .min2 [.lcount (.var 16) (.var 20), .lcount (.var 17) (.var 20)])) [.set (.nm 21) (.call 15 [.var 21, .call 9 [.lst [.call 3 [.tup [.con (.int 0), .con (.int 1)], .var 20], .tup [.con (.int 1), .con (.int 1)]]]])]],
    .ite (.or (.cmp .ne (.call 23 [.var 18, .var 19]) (.var 21)) (.or (.cmp .ne (.call 23 [.var 18, .tup []]) (.call 13 [.var 18, .tup [.con (.int 1), .con (.int 3)]])) (.cmp .ne (.call 23 [.tup [], .tup []]) (.tup [])))) [.ret (.con (.bl false))] [],
    .set (.nm 23) (.call 26 [.var 1, .con (.int 5)]),
    .ite (.cmp .ne (.comp [6] (.var 6) (.nm 6) (.seq (.var 5)) [.cmp .ne (.call 17 [.call 24 [.var 23], .var 6]) (.call 7 [.bin .mul (.lst [.var 6]) (.var 23)])]) (.lst [])) [.ret (.con (.bl false))] []],
    .set (.nm 24) (.lst [.tup [.lam 0, .con (.str "part")], .tup [.lam 1, .con (.str "part")], .tup [.lam 2, .con (.str "part")], .tup [.lam 3, .con (.str "size")]]),
    .ret (.and (.cmp .eq (.comp [28] (.var 28) (.nm 28) (.seq (.var 24)) [.cmp .ne (.call 28 [.ix (.var 28) (.con (.int 0))]) (.ix (.var 28) (.con (.int 1)))]) (.lst [])) (.and (.cmp .eq (.call 9 [.lst [.tup [.con (.int 2), .con (.int 4)], .tup [.con (.int 0), .con (.int 3)]]]) (.tup [.tup [.con (.int 1), .con (.int 2)]])) (.and (.cmp .eq (.call 21 [.lst []]) (.tup [])) (.cmp .eq (.call 10 [.tup []]) (.bin .sub (.con (.int 0)) (.con (.int 1)))))))]⟩
def l_0 : PV.E := .call 16 [.tup [.tup [.con (.int 1), .con (.int 1)]], .tup []]
def l_1 : PV.E := .call 16 [.tup [], .tup []]
def l_2 : PV.E := .call 21 [.lst [.tup [.tup [.con (.int 1), .con (.int 1)], .tup [.con (.int 0), .con (.int 1)]], .tup [.tup [.con (.int 1), .con (.int 1)], .tup [.con (.int 2), .con (.int 1)]]]]
def l_3 : PV.E := .call 24 [.bin .sub (.con (.int 0)) (.con (.int 1))]
def tolds : Nat → Option Str
  | 0 => some "part"
  | 5 => some "size"
  | _ => none
def prog : Prog := { fns := [m_shared, m_part, m_plus, m_minus, m_times, m_over, m_total, m_product, m_small_row, m_curve, m_power_of, m_part_at, m_added, m_scaled_curve, m_taken, m_multiplied, m_divided, m_worth, m_slope, m_area_under, m_between, m_through, m_put_in, m_shared_curve, m_powers, m_law_dice, m_law_roll, m_law_rounds, m_law_told, m_law_part, m_law_worth, m_law], lams := [l_0, l_1, l_2, l_3], told := tolds, toldI := 28 }
def assignVal : Stmt → Expr
  | .Assign _ v _ => v
  | _ => .Constant .none 0 ⟨0, 0, 0, 0⟩
def elAt (e : Expr) (k : Nat) : Expr := match e with
  | .List es _ => es.getD k (.Constant .none 0 ⟨0, 0, 0, 0⟩)
  | .Tuple es _ _ => es.getD k (.Constant .none 0 ⟨0, 0, 0, 0⟩)
  | _ => .Constant .none 0 ⟨0, 0, 0, 0⟩
def lamOf (qual : Str) (e : Expr) : LamD := match e with
  | .Lambda a b sc _ => ⟨qual, a, b, sc⟩
  | _ => ⟨qual, { posonlyargs := [], args := [], vararg := none, kwonlyargs := [], kw_defaults := [], kwarg := none, defaults := [] }, .Constant .none 0 ⟨0, 0, 0, 0⟩, { kind := .function, names := [], isGenerator := false, isCoroutine := false }⟩
def lamDs : Nat → LamD
  | 0 => lamOf "law.<locals>.<lambda>" (elAt (elAt (assignVal ((defBody s_law).getD 1 (.Pass ⟨0, 0, 0, 0⟩))) 0) 0)
  | 1 => lamOf "law.<locals>.<lambda>" (elAt (elAt (assignVal ((defBody s_law).getD 1 (.Pass ⟨0, 0, 0, 0⟩))) 1) 0)
  | 2 => lamOf "law.<locals>.<lambda>" (elAt (elAt (assignVal ((defBody s_law).getD 1 (.Pass ⟨0, 0, 0, 0⟩))) 2) 0)
  | 3 => lamOf "law.<locals>.<lambda>" (elAt (elAt (assignVal ((defBody s_law).getD 1 (.Pass ⟨0, 0, 0, 0⟩))) 3) 0)
  | _ => lamOf "" (.Constant .none 0 ⟨0, 0, 0, 0⟩)
/-! scopes -/
abbrev N_shared : List Str := ["one", "other"]
theorem sc_shared : FnScope N_shared ["one", "other"] (defScope s_shared) := ⟨rfl, rfl, rfl, by decide +kernel, rfl, by decide +kernel, by decide +kernel⟩
abbrev N_part : List Str := ["top", "low", "by"]
theorem sc_part : FnScope N_part ["top", "low"] (defScope s_part) := ⟨rfl, rfl, rfl, by decide +kernel, rfl, by decide +kernel, by decide +kernel⟩
abbrev N_plus : List Str := ["one", "other"]
theorem sc_plus : FnScope N_plus ["one", "other"] (defScope s_plus) := ⟨rfl, rfl, rfl, by decide +kernel, rfl, by decide +kernel, by decide +kernel⟩
abbrev N_minus : List Str := ["one", "other"]
theorem sc_minus : FnScope N_minus ["one", "other"] (defScope s_minus) := ⟨rfl, rfl, rfl, by decide +kernel, rfl, by decide +kernel, by decide +kernel⟩
abbrev N_times : List Str := ["one", "other"]
theorem sc_times : FnScope N_times ["one", "other"] (defScope s_times) := ⟨rfl, rfl, rfl, by decide +kernel, rfl, by decide +kernel, by decide +kernel⟩
abbrev N_over : List Str := ["one", "other"]
theorem sc_over : FnScope N_over ["one", "other"] (defScope s_over) := ⟨rfl, rfl, rfl, by decide +kernel, rfl, by decide +kernel, by decide +kernel⟩
abbrev N_total : List Str := ["parts", "found", "one"]
theorem sc_total : FnScope N_total ["parts"] (defScope s_total) := ⟨rfl, rfl, rfl, by decide +kernel, rfl, by decide +kernel, by decide +kernel⟩
abbrev N_product : List Str := ["parts", "found", "one"]
theorem sc_product : FnScope N_product ["parts"] (defScope s_product) := ⟨rfl, rfl, rfl, by decide +kernel, rfl, by decide +kernel, by decide +kernel⟩
abbrev N_small_row : List Str := ["row", "one"]
theorem sc_small_row : FnScope N_small_row ["row"] (defScope s_small_row) := ⟨rfl, rfl, rfl, by decide +kernel, rfl, by decide +kernel, by decide +kernel⟩
abbrev N_curve : List Str := ["parts", "row", "size"]
theorem sc_curve : FnScope N_curve ["parts"] (defScope s_curve) := ⟨rfl, rfl, rfl, by decide +kernel, rfl, by decide +kernel, by decide +kernel⟩
abbrev N_power_of : List Str := ["one"]
theorem sc_power_of : FnScope N_power_of ["one"] (defScope s_power_of) := ⟨rfl, rfl, rfl, by decide +kernel, rfl, by decide +kernel, by decide +kernel⟩
abbrev N_part_at : List Str := ["one", "power"]
theorem sc_part_at : FnScope N_part_at ["one", "power"] (defScope s_part_at) := ⟨rfl, rfl, rfl, by decide +kernel, rfl, by decide +kernel, by decide +kernel⟩
abbrev N_added : List Str := ["one", "other", "size", "power"]
theorem sc_added : FnScope N_added ["one", "other"] (defScope s_added) := ⟨rfl, rfl, rfl, by decide +kernel, rfl, by decide +kernel, by decide +kernel⟩
abbrev N_scaled_curve : List Str := ["one", "by", "mine"]
theorem sc_scaled_curve : FnScope N_scaled_curve ["one", "by"] (defScope s_scaled_curve) := ⟨rfl, rfl, rfl, by decide +kernel, rfl, by decide +kernel, by decide +kernel⟩
abbrev N_taken : List Str := ["one", "other"]
theorem sc_taken : FnScope N_taken ["one", "other"] (defScope s_taken) := ⟨rfl, rfl, rfl, by decide +kernel, rfl, by decide +kernel, by decide +kernel⟩
abbrev N_multiplied : List Str := ["one", "other", "found", "low", "mine", "high", "its"]
theorem sc_multiplied : FnScope N_multiplied ["one", "other"] (defScope s_multiplied) := ⟨rfl, rfl, rfl, by decide +kernel, rfl, by decide +kernel, by decide +kernel⟩
abbrev N_divided : List Str := ["one", "other", "back", "rest", "whole", "by", "ahead", "power", "its"]
theorem sc_divided : FnScope N_divided ["one", "other"] (defScope s_divided) := ⟨rfl, rfl, rfl, by decide +kernel, rfl, by decide +kernel, by decide +kernel⟩
abbrev N_worth : List Str := ["one", "at", "found", "mine"]
theorem sc_worth : FnScope N_worth ["one", "at"] (defScope s_worth) := ⟨rfl, rfl, rfl, by decide +kernel, rfl, by decide +kernel, by decide +kernel⟩
abbrev N_slope : List Str := ["one", "power"]
theorem sc_slope : FnScope N_slope ["one"] (defScope s_slope) := ⟨rfl, rfl, rfl, by decide +kernel, rfl, by decide +kernel, by decide +kernel⟩
abbrev N_area_under : List Str := ["one", "power", "mine"]
theorem sc_area_under : FnScope N_area_under ["one"] (defScope s_area_under) := ⟨rfl, rfl, rfl, by decide +kernel, rfl, by decide +kernel, by decide +kernel⟩
abbrev N_between : List Str := ["one", "low", "high", "area"]
theorem sc_between : FnScope N_between ["one", "low", "high"] (defScope s_between) := ⟨rfl, rfl, rfl, by decide +kernel, rfl, by decide +kernel, by decide +kernel⟩
abbrev N_through : List Str := ["points", "found", "at", "place", "mine", "base", "other", "_", "apart"]
theorem sc_through : FnScope N_through ["points"] (defScope s_through) := ⟨rfl, rfl, rfl, by decide +kernel, rfl, by decide +kernel, by decide +kernel⟩
abbrev N_put_in : List Str := ["one", "other", "found", "mine"]
theorem sc_put_in : FnScope N_put_in ["one", "other"] (defScope s_put_in) := ⟨rfl, rfl, rfl, by decide +kernel, rfl, by decide +kernel, by decide +kernel⟩
abbrev N_shared_curve : List Str := ["one", "other"]
theorem sc_shared_curve : FnScope N_shared_curve ["one", "other"] (defScope s_shared_curve) := ⟨rfl, rfl, rfl, by decide +kernel, rfl, by decide +kernel, by decide +kernel⟩
abbrev N_powers : List Str := ["count"]
theorem sc_powers : FnScope N_powers ["count"] (defScope s_powers) := ⟨rfl, rfl, rfl, by decide +kernel, rfl, by decide +kernel, by decide +kernel⟩
abbrev N_law_dice : List Str := ["cell"]
theorem sc_law_dice : FnScope N_law_dice ["cell"] (defScope s_law_dice) := ⟨rfl, rfl, rfl, by decide +kernel, rfl, by decide +kernel, by decide +kernel⟩
abbrev N_law_roll : List Str := ["dice", "many", "found"]
theorem sc_law_roll : FnScope N_law_roll ["dice", "many"] (defScope s_law_roll) := ⟨rfl, rfl, rfl, by decide +kernel, rfl, by decide +kernel, by decide +kernel⟩
abbrev N_law_rounds : List Str := ["script", "most", "cells", "cell"]
theorem sc_law_rounds : FnScope N_law_rounds ["script", "most"] (defScope s_law_rounds) := ⟨rfl, rfl, rfl, by decide +kernel, rfl, by decide +kernel, by decide +kernel⟩
abbrev N_law_told : List Str := ["what"]
theorem sc_law_told : FnScope N_law_told ["what"] (defScope s_law_told) := ⟨rfl, rfl, rfl, by decide +kernel, rfl, by decide +kernel, by decide +kernel⟩
abbrev N_law_part : List Str := ["dice"]
theorem sc_law_part : FnScope N_law_part ["dice"] (defScope s_law_part) := ⟨rfl, rfl, rfl, by decide +kernel, rfl, by decide +kernel, by decide +kernel⟩
abbrev N_law_worth : List Str := ["one", "at", "k"]
theorem sc_law_worth : FnScope N_law_worth ["one", "at"] (defScope s_law_worth) := ⟨rfl, rfl, rfl, by decide +kernel, rfl, by decide +kernel, by decide +kernel⟩
abbrev N_law : List Str := ["script", "dice", "one", "other", "by", "places", "at", "a", "b", "whole", "rest", "low", "high", "xs", "points", "lowest", "roots", "more", "left", "right", "root", "due", "turn", "count", "wrong", "j", "x", "k", "pair", "y"]
theorem sc_law : FnScope N_law ["script"] (defScope s_law) := ⟨rfl, rfl, rfl, by decide +kernel, rfl, by decide +kernel, by decide +kernel⟩
/-! what the top has written -/
structure ExcAt (K : PySem.W.Frag) (mg : Str → Option Value) (q : Par) (x : Str) (c : Nat) (C : Addr) : Prop where
  xq : PySem.W.excIn K C [.type "ValueError", .type "Exception", .type "BaseException", .type "object"] "ValueError.__new__" = true
  xg : mg x = some (.ref C)
  xk : PySem.W.keepIn K (.ref C) = true
  r1 : PySem.W.subIn K (.ref C) (.type "BaseException") = some true
  r2 : PySem.W.typeIn K (.ref C) = some (.type "type")
  xc : q.cls c = .ref C
/-- the facts that the defs lean on -/
structure Txt (K : PySem.W.Frag) (mg : Str → Option Value) (q : Par) : Prop where
  b_abs : mg "abs" = none
  b_dict : mg "dict" = none
  b_enumerate : mg "enumerate" = none
  b_int : mg "int" = none
  b_len : mg "len" = none
  b_list : mg "list" = none
  b_max : mg "max" = none
  b_min : mg "min" = none
  b_range : mg "range" = none
  b_reversed : mg "reversed" = none
  b_sorted : mg "sorted" = none
  b_tuple : mg "tuple" = none
  g_gcd : mg "gcd" = some (.builtin "math.gcd")
  x_BadPart : ∃ C, ExcAt K mg q "BadPart" 0 C
  x_BadSize : ∃ C, ExcAt K mg q "BadSize" 5 C
  told : ∃ hl, ToldAt K mg q "_law_told" "what" ["what"] hl ∧ ∀ c r, tolds c = some r → ∀ (Q : VK) (H : Hp), Q (.str r) H → Wt K Q (q.cls c) H hl
structure Fns (P : Program) (w : World) (K : PySem.W.Frag) (mg : Str → Option Value) (base : Heap) (q : Par) (S : PV.Sem) (k : Nat) : Prop where
  f_shared : FnAt P w K mg base q S k 0 "shared" []
  f_part : FnAt P w K mg base q S k 1 "part" []
  d_part : FnAt P w K mg base q S k 1 "part" [.int 1]
  f_plus : FnAt P w K mg base q S k 2 "plus" []
  f_minus : FnAt P w K mg base q S k 3 "minus" []
  f_times : FnAt P w K mg base q S k 4 "times" []
  f_over : FnAt P w K mg base q S k 5 "over" []
  f_total : FnAt P w K mg base q S k 6 "total" []
  f_product : FnAt P w K mg base q S k 7 "product" []
  f_small_row : FnAt P w K mg base q S k 8 "small_row" []
  f_curve : FnAt P w K mg base q S k 9 "curve" []
  f_power_of : FnAt P w K mg base q S k 10 "power_of" []
  f_part_at : FnAt P w K mg base q S k 11 "part_at" []
  f_added : FnAt P w K mg base q S k 12 "added" []
  f_scaled_curve : FnAt P w K mg base q S k 13 "scaled_curve" []
  f_taken : FnAt P w K mg base q S k 14 "taken" []
  f_multiplied : FnAt P w K mg base q S k 15 "multiplied" []
  f_divided : FnAt P w K mg base q S k 16 "divided" []
  f_worth : FnAt P w K mg base q S k 17 "worth" []
  f_slope : FnAt P w K mg base q S k 18 "slope" []
  f_area_under : FnAt P w K mg base q S k 19 "area_under" []
  f_between : FnAt P w K mg base q S k 20 "between" []
  f_through : FnAt P w K mg base q S k 21 "through" []
  f_put_in : FnAt P w K mg base q S k 22 "put_in" []
  f_shared_curve : FnAt P w K mg base q S k 23 "shared_curve" []
  f_powers : FnAt P w K mg base q S k 24 "powers" []
  f_law_dice : FnAt P w K mg base q S k 25 "_law_dice" []
  f_law_roll : FnAt P w K mg base q S k 26 "_law_roll" []
  f_law_rounds : FnAt P w K mg base q S k 27 "_law_rounds" []
  f_law_told : FnAt P w K mg base q S k 28 "_law_told" []
  f_law_part : FnAt P w K mg base q S k 29 "_law_part" []
  f_law_worth : FnAt P w K mg base q S k 30 "_law_worth" []
  f_law : FnAt P w K mg base q S k 31 "law" []
/-! the bodies -/
section
variable {P : Program} {w : World} {K : PySem.W.Frag} {mg : Str → Option Value} {base : Heap} {q : Par} {S : PV.Sem} {k : Nat} {f : Addr} {cdv : Value} {A : Around} {outer : List PySem.Env} {s : Shared} {H : Hp} {E : XK}
set_option maxRecDepth 200000 in
theorem b_shared (T : Txt K mg q) (hqP : q.P = P) (hqW : q.W = w) (Fs : Fns P w K mg base q S k) (hr : Room (k + 2) (A.deeper (envOfC "shared" (defScope s_shared) s.heap.objs.size f cdv))) :
    SdB (cxOf (L2.CX P w) P w K mg base N_shared "shared" (defScope s_shared) f cdv A outer s H E) q S (defBody s_shared) m_shared.body :=
  (sb_cons (ss_ret (sd_callF pr_gcd rfl T.g_gcd (sda_cons (sd_var 0) (sda_cons (sd_var 1) sda_nil))))
    sb_nil)
set_option maxRecDepth 200000 in
theorem b_part (T : Txt K mg q) (hqP : q.P = P) (hqW : q.W = w) (Fs : Fns P w K mg base q S k) (hr : Room (k + 2) (A.deeper (envOfC "part" (defScope s_part) s.heap.objs.size f cdv))) :
    SdB (cxOf (L2.CX P w) P w K mg base N_part "part" (defScope s_part) f cdv A outer s H E) q S (defBody s_part) m_part.body := by
  obtain ⟨_, X_BadPart⟩ := T.x_BadPart
  exact (sb_cons (ss_if (td_cmp (od_eq hr.units) (sd_var 1) sd_int (nomark _)) (sb_cons (ss_raise rfl PySem.F.excBase_ValueError X_BadPart.xq X_BadPart.xg X_BadPart.xk (raises_own X_BadPart.r1 X_BadPart.r2) rfl X_BadPart.xc sd_str)
    sb_nil) sb_nil)
    (sb_cons (ss_set (sdg_name 2 sc_part.nd) (sd_call Fs.f_shared (hr.mono (by omega)) rfl (sda_cons (sd_var 0) (sda_cons (sd_var 1) sda_nil))))
    (sb_cons (ss_if (td_cmp od_lt (sd_var 1) sd_int (nomark _)) (sb_cons (ss_set (sdg_name 2 sc_part.nd) (sd_neg (sd_var 2)))
    sb_nil) sb_nil)
    (sb_cons (ss_ret (sd_tup (sda_cons (sd_bin od_fdiv (sd_var 0) (sd_var 2)) (sda_cons (sd_bin od_fdiv (sd_var 1) (sd_var 2)) sda_nil))))
    sb_nil))))
set_option maxRecDepth 200000 in
theorem b_plus (T : Txt K mg q) (hqP : q.P = P) (hqW : q.W = w) (Fs : Fns P w K mg base q S k) (hr : Room (k + 2) (A.deeper (envOfC "plus" (defScope s_plus) s.heap.objs.size f cdv))) :
    SdB (cxOf (L2.CX P w) P w K mg base N_plus "plus" (defScope s_plus) f cdv A outer s H E) q S (defBody s_plus) m_plus.body :=
  (sb_cons (ss_ret (sd_call Fs.f_part (hr.mono (by omega)) rfl (sda_cons (sd_bin od_add (sd_bin od_mul (sd_ix (ix_all (hr.units) hqP hqW) (sd_var 0) sd_int) (sd_ix (ix_all (hr.units) hqP hqW) (sd_var 1) sd_int)) (sd_bin od_mul (sd_ix (ix_all (hr.units) hqP hqW) (sd_var 1) sd_int) (sd_ix (ix_all (hr.units) hqP hqW) (sd_var 0) sd_int))) (sda_cons (sd_bin od_mul (sd_ix (ix_all (hr.units) hqP hqW) (sd_var 0) sd_int) (sd_ix (ix_all (hr.units) hqP hqW) (sd_var 1) sd_int)) sda_nil))))
    sb_nil)
set_option maxRecDepth 200000 in
theorem b_minus (T : Txt K mg q) (hqP : q.P = P) (hqW : q.W = w) (Fs : Fns P w K mg base q S k) (hr : Room (k + 2) (A.deeper (envOfC "minus" (defScope s_minus) s.heap.objs.size f cdv))) :
    SdB (cxOf (L2.CX P w) P w K mg base N_minus "minus" (defScope s_minus) f cdv A outer s H E) q S (defBody s_minus) m_minus.body :=
  (sb_cons (ss_ret (sd_call Fs.f_part (hr.mono (by omega)) rfl (sda_cons (sd_bin od_sub (sd_bin od_mul (sd_ix (ix_all (hr.units) hqP hqW) (sd_var 0) sd_int) (sd_ix (ix_all (hr.units) hqP hqW) (sd_var 1) sd_int)) (sd_bin od_mul (sd_ix (ix_all (hr.units) hqP hqW) (sd_var 1) sd_int) (sd_ix (ix_all (hr.units) hqP hqW) (sd_var 0) sd_int))) (sda_cons (sd_bin od_mul (sd_ix (ix_all (hr.units) hqP hqW) (sd_var 0) sd_int) (sd_ix (ix_all (hr.units) hqP hqW) (sd_var 1) sd_int)) sda_nil))))
    sb_nil)
set_option maxRecDepth 200000 in
theorem b_times (T : Txt K mg q) (hqP : q.P = P) (hqW : q.W = w) (Fs : Fns P w K mg base q S k) (hr : Room (k + 2) (A.deeper (envOfC "times" (defScope s_times) s.heap.objs.size f cdv))) :
    SdB (cxOf (L2.CX P w) P w K mg base N_times "times" (defScope s_times) f cdv A outer s H E) q S (defBody s_times) m_times.body :=
  (sb_cons (ss_ret (sd_call Fs.f_part (hr.mono (by omega)) rfl (sda_cons (sd_bin od_mul (sd_ix (ix_all (hr.units) hqP hqW) (sd_var 0) sd_int) (sd_ix (ix_all (hr.units) hqP hqW) (sd_var 1) sd_int)) (sda_cons (sd_bin od_mul (sd_ix (ix_all (hr.units) hqP hqW) (sd_var 0) sd_int) (sd_ix (ix_all (hr.units) hqP hqW) (sd_var 1) sd_int)) sda_nil))))
    sb_nil)
set_option maxRecDepth 200000 in
theorem b_over (T : Txt K mg q) (hqP : q.P = P) (hqW : q.W = w) (Fs : Fns P w K mg base q S k) (hr : Room (k + 2) (A.deeper (envOfC "over" (defScope s_over) s.heap.objs.size f cdv))) :
    SdB (cxOf (L2.CX P w) P w K mg base N_over "over" (defScope s_over) f cdv A outer s H E) q S (defBody s_over) m_over.body :=
  (sb_cons (ss_ret (sd_call Fs.f_part (hr.mono (by omega)) rfl (sda_cons (sd_bin od_mul (sd_ix (ix_all (hr.units) hqP hqW) (sd_var 0) sd_int) (sd_ix (ix_all (hr.units) hqP hqW) (sd_var 1) sd_int)) (sda_cons (sd_bin od_mul (sd_ix (ix_all (hr.units) hqP hqW) (sd_var 0) sd_int) (sd_ix (ix_all (hr.units) hqP hqW) (sd_var 1) sd_int)) sda_nil))))
    sb_nil)
set_option maxRecDepth 200000 in
theorem b_total (T : Txt K mg q) (hqP : q.P = P) (hqW : q.W = w) (Fs : Fns P w K mg base q S k) (hr : Room (k + 2) (A.deeper (envOfC "total" (defScope s_total) s.heap.objs.size f cdv))) :
    SdB (cxOf (L2.CX P w) P w K mg base N_total "total" (defScope s_total) f cdv A outer s H E) q S (defBody s_total) m_total.body :=
  (sb_cons (ss_set (sdg_name 1 sc_total.nd) (sd_tup (sda_cons sd_int (sda_cons sd_int sda_nil))))
    (sb_cons (ss_for (passes_of rfl) rfl (sdi_seq (sd_var 0)) (sdg_name 2 sc_total.nd) (sb_cons (ss_set (sdg_name 1 sc_total.nd) (sd_call Fs.f_plus (hr.mono (by omega)) rfl (sda_cons (sd_var 1) (sda_cons (sd_var 2) sda_nil))))
    sb_nil))
    (sb_cons (ss_ret (sd_var 1))
    sb_nil)))
set_option maxRecDepth 200000 in
theorem b_product (T : Txt K mg q) (hqP : q.P = P) (hqW : q.W = w) (Fs : Fns P w K mg base q S k) (hr : Room (k + 2) (A.deeper (envOfC "product" (defScope s_product) s.heap.objs.size f cdv))) :
    SdB (cxOf (L2.CX P w) P w K mg base N_product "product" (defScope s_product) f cdv A outer s H E) q S (defBody s_product) m_product.body :=
  (sb_cons (ss_set (sdg_name 1 sc_product.nd) (sd_tup (sda_cons sd_int (sda_cons sd_int sda_nil))))
    (sb_cons (ss_for (passes_of rfl) rfl (sdi_seq (sd_var 0)) (sdg_name 2 sc_product.nd) (sb_cons (ss_set (sdg_name 1 sc_product.nd) (sd_call Fs.f_times (hr.mono (by omega)) rfl (sda_cons (sd_var 1) (sda_cons (sd_var 2) sda_nil))))
    sb_nil))
    (sb_cons (ss_ret (sd_var 1))
    sb_nil)))
set_option maxRecDepth 200000 in
theorem b_small_row (T : Txt K mg q) (hqP : q.P = P) (hqW : q.W = w) (Fs : Fns P w K mg base q S k) (hr : Room (k + 2) (A.deeper (envOfC "small_row" (defScope s_small_row) s.heap.objs.size f cdv))) :
    SdB (cxOf (L2.CX P w) P w K mg base N_small_row "small_row" (defScope s_small_row) f cdv A outer s H E) q S (defBody s_small_row) m_small_row.body :=
  (sb_cons (ss_ret (sd_callTy pr_tuple rfl T.b_tuple (by decide +kernel) (sda_cons (sd_lc [("one", 1)] rfl sc_small_row.nd (sdi_seq (sd_var 0)) (blkOk_by (by kernel_rfl)) (fun _ _ _ _ _ => (sdg_name 1 sc_small_row.nd)) (fun _ _ _ _ _ => sdts_nil) (fun _ _ _ _ _ => (sd_call Fs.f_part (hr.mono (by omega)) rfl (sda_cons (sd_ix (ix_all (hr.units) hqP hqW) (sd_var 1) sd_int) (sda_cons (sd_ix (ix_all (hr.units) hqP hqW) (sd_var 1) sd_int) sda_nil))))) sda_nil)))
    sb_nil)
set_option maxRecDepth 200000 in
theorem b_curve (T : Txt K mg q) (hqP : q.P = P) (hqW : q.W = w) (Fs : Fns P w K mg base q S k) (hr : Room (k + 2) (A.deeper (envOfC "curve" (defScope s_curve) s.heap.objs.size f cdv))) :
    SdB (cxOf (L2.CX P w) P w K mg base N_curve "curve" (defScope s_curve) f cdv A outer s H E) q S (defBody s_curve) m_curve.body :=
  (sb_cons (ss_set (sdg_name 1 sc_curve.nd) (sd_call Fs.f_small_row (hr.mono (by omega)) rfl (sda_cons (sd_var 0) sda_nil)))
    (sb_cons (ss_set (sdg_name 2 sc_curve.nd) (sd_callB pr_len rfl T.b_len (by decide +kernel) (sda_cons (sd_var 1) sda_nil)))
    (sb_cons (ss_while (passes_of rfl) (TdW.td (tw_and (td_cmp od_gt (sd_var 2) sd_int (nomark _)) (tw_and1 (td_cmp (od_eq hr.units) (sd_ix (ix_all (hr.units) hqP hqW) (sd_ix (ix_all (hr.units) hqP hqW) (sd_var 1) (sd_bin od_sub (sd_var 2) sd_int)) sd_int) sd_int (nomark _))))) (sb_cons (ss_augsub (i := 2) sc_curve.nd sd_int)
    sb_nil))
    (sb_cons (ss_ret (sd_sl (sd_var 1) sdo_none (sdo_some (sd_var 2))))
    sb_nil))))
set_option maxRecDepth 200000 in
theorem b_power_of (T : Txt K mg q) (hqP : q.P = P) (hqW : q.W = w) (Fs : Fns P w K mg base q S k) (hr : Room (k + 2) (A.deeper (envOfC "power_of" (defScope s_power_of) s.heap.objs.size f cdv))) :
    SdB (cxOf (L2.CX P w) P w K mg base N_power_of "power_of" (defScope s_power_of) f cdv A outer s H E) q S (defBody s_power_of) m_power_of.body :=
  (sb_cons (ss_ret (sd_bin od_sub (sd_callB pr_len rfl T.b_len (by decide +kernel) (sda_cons (sd_var 0) sda_nil)) sd_int))
    sb_nil)
set_option maxRecDepth 200000 in
theorem b_part_at (T : Txt K mg q) (hqP : q.P = P) (hqW : q.W = w) (Fs : Fns P w K mg base q S k) (hr : Room (k + 2) (A.deeper (envOfC "part_at" (defScope s_part_at) s.heap.objs.size f cdv))) :
    SdB (cxOf (L2.CX P w) P w K mg base N_part_at "part_at" (defScope s_part_at) f cdv A outer s H E) q S (defBody s_part_at) m_part_at.body :=
  (sb_cons (ss_if (td_chain od_le od_lt sd_int (sd_var 1) (sd_callB pr_len rfl T.b_len (by decide +kernel) (sda_cons (sd_var 0) sda_nil))) (sb_cons (ss_ret (sd_ix (ix_all (hr.units) hqP hqW) (sd_var 0) (sd_var 1)))
    sb_nil) sb_nil)
    (sb_cons (ss_ret (sd_tup (sda_cons sd_int (sda_cons sd_int sda_nil))))
    sb_nil))
set_option maxRecDepth 200000 in
theorem b_added (T : Txt K mg q) (hqP : q.P = P) (hqW : q.W = w) (Fs : Fns P w K mg base q S k) (hr : Room (k + 2) (A.deeper (envOfC "added" (defScope s_added) s.heap.objs.size f cdv))) :
    SdB (cxOf (L2.CX P w) P w K mg base N_added "added" (defScope s_added) f cdv A outer s H E) q S (defBody s_added) m_added.body :=
  (sb_cons (ss_set (sdg_name 2 sc_added.nd) (sd_callB (pr_max2 rfl) rfl T.b_max (by decide +kernel) (sda_cons (sd_callB pr_len rfl T.b_len (by decide +kernel) (sda_cons (sd_var 0) sda_nil)) (sda_cons (sd_callB pr_len rfl T.b_len (by decide +kernel) (sda_cons (sd_var 1) sda_nil)) sda_nil))))
    (sb_cons (ss_ret (sd_call Fs.f_curve (hr.mono (by omega)) rfl (sda_cons (sd_lc [("power", 3)] rfl sc_added.nd (sdi_rng1 rfl T.b_range (sd_var 2)) (blkOk_by (by kernel_rfl)) (fun _ _ _ _ _ => (sdg_name 3 sc_added.nd)) (fun _ _ _ _ _ => sdts_nil) (fun _ _ _ _ _ => (sd_call Fs.f_plus (hr.mono (by omega)) rfl (sda_cons (sd_call Fs.f_part_at (hr.mono (by omega)) rfl (sda_cons (sd_var 0) (sda_cons (sd_var 3) sda_nil))) (sda_cons (sd_call Fs.f_part_at (hr.mono (by omega)) rfl (sda_cons (sd_var 1) (sda_cons (sd_var 3) sda_nil))) sda_nil))))) sda_nil)))
    sb_nil))
set_option maxRecDepth 200000 in
theorem b_scaled_curve (T : Txt K mg q) (hqP : q.P = P) (hqW : q.W = w) (Fs : Fns P w K mg base q S k) (hr : Room (k + 2) (A.deeper (envOfC "scaled_curve" (defScope s_scaled_curve) s.heap.objs.size f cdv))) :
    SdB (cxOf (L2.CX P w) P w K mg base N_scaled_curve "scaled_curve" (defScope s_scaled_curve) f cdv A outer s H E) q S (defBody s_scaled_curve) m_scaled_curve.body :=
  (sb_cons (ss_ret (sd_call Fs.f_curve (hr.mono (by omega)) rfl (sda_cons (sd_lc [("mine", 2)] rfl sc_scaled_curve.nd (sdi_seq (sd_var 0)) (blkOk_by (by kernel_rfl)) (fun _ _ _ _ _ => (sdg_name 2 sc_scaled_curve.nd)) (fun _ _ _ _ _ => sdts_nil) (fun _ _ _ _ _ => (sd_call Fs.f_times (hr.mono (by omega)) rfl (sda_cons (sd_var 2) (sda_cons (sd_var 1) sda_nil))))) sda_nil)))
    sb_nil)
set_option maxRecDepth 200000 in
theorem b_taken (T : Txt K mg q) (hqP : q.P = P) (hqW : q.W = w) (Fs : Fns P w K mg base q S k) (hr : Room (k + 2) (A.deeper (envOfC "taken" (defScope s_taken) s.heap.objs.size f cdv))) :
    SdB (cxOf (L2.CX P w) P w K mg base N_taken "taken" (defScope s_taken) f cdv A outer s H E) q S (defBody s_taken) m_taken.body :=
  (sb_cons (ss_ret (sd_call Fs.f_added (hr.mono (by omega)) rfl (sda_cons (sd_var 0) (sda_cons (sd_call Fs.f_scaled_curve (hr.mono (by omega)) rfl (sda_cons (sd_var 1) (sda_cons (sd_tup (sda_cons (sd_neg sd_int) (sda_cons sd_int sda_nil))) sda_nil))) sda_nil))))
    sb_nil)
set_option maxRecDepth 200000 in
theorem b_multiplied (T : Txt K mg q) (hqP : q.P = P) (hqW : q.W = w) (Fs : Fns P w K mg base q S k) (hr : Room (k + 2) (A.deeper (envOfC "multiplied" (defScope s_multiplied) s.heap.objs.size f cdv))) :
    SdB (cxOf (L2.CX P w) P w K mg base N_multiplied "multiplied" (defScope s_multiplied) f cdv A outer s H E) q S (defBody s_multiplied) m_multiplied.body :=
  (sb_cons (ss_set (sdg_name 2 sc_multiplied.nd) (sd_mulC (sd_lst (sda_cons (sd_tup (sda_cons sd_int (sda_cons sd_int sda_nil))) sda_nil)) (sd_bin od_add (sd_callB pr_len rfl T.b_len (by decide +kernel) (sda_cons (sd_var 0) sda_nil)) (sd_callB pr_len rfl T.b_len (by decide +kernel) (sda_cons (sd_var 1) sda_nil)))))
    (sb_cons (ss_for (passes_of rfl) rfl (sdi_enum rfl T.b_enumerate (sd_var 0)) (sdg_tup rfl (sdgs_cons (sdg_name 3 sc_multiplied.nd) (sdgs_cons (sdg_name 4 sc_multiplied.nd) sdgs_nil)) rfl) (sb_cons (ss_for (passes_of rfl) rfl (sdi_enum rfl T.b_enumerate (sd_var 1)) (sdg_tup rfl (sdgs_cons (sdg_name 5 sc_multiplied.nd) (sdgs_cons (sdg_name 6 sc_multiplied.nd) sdgs_nil)) rfl) (sb_cons (ss_setix (set_C (hr.units) hqP hqW) (sd_var 2) (sd_bin od_add (sd_var 3) (sd_var 5)) (sd_call Fs.f_plus (hr.mono (by omega)) rfl (sda_cons (sd_ix (ix_all (hr.units) hqP hqW) (sd_var 2) (sd_bin od_add (sd_var 3) (sd_var 5))) (sda_cons (sd_call Fs.f_times (hr.mono (by omega)) rfl (sda_cons (sd_var 4) (sda_cons (sd_var 6) sda_nil))) sda_nil))))
    sb_nil))
    sb_nil))
    (sb_cons (ss_ret (sd_call Fs.f_curve (hr.mono (by omega)) rfl (sda_cons (sd_take (sd_var 2)) sda_nil)))
    sb_nil)))
set_option maxRecDepth 200000 in
theorem b_divided (T : Txt K mg q) (hqP : q.P = P) (hqW : q.W = w) (Fs : Fns P w K mg base q S k) (hr : Room (k + 2) (A.deeper (envOfC "divided" (defScope s_divided) s.heap.objs.size f cdv))) :
    SdB (cxOf (L2.CX P w) P w K mg base N_divided "divided" (defScope s_divided) f cdv A outer s H E) q S (defBody s_divided) m_divided.body :=
  (sb_cons (ss_set (sdg_name 2 sc_divided.nd) (sd_call Fs.f_over (hr.mono (by omega)) rfl (sda_cons (sd_tup (sda_cons sd_int (sda_cons sd_int sda_nil))) (sda_cons (sd_call Fs.f_part_at (hr.mono (by omega)) rfl (sda_cons (sd_var 1) (sda_cons (sd_call Fs.f_power_of (hr.mono (by omega)) rfl (sda_cons (sd_var 1) sda_nil)) sda_nil))) sda_nil))))
    (sb_cons (ss_set (sdg_name 3 sc_divided.nd) (sd_listC rfl T.b_list (by decide +kernel) (sd_var 0)))
    (sb_cons (ss_set (sdg_name 4 sc_divided.nd) (sd_lstC sda_nil))
    (sb_cons (ss_while (passes_of rfl) (td_cmp od_ge (sd_callB pr_len rfl T.b_len (by decide +kernel) (sda_cons (sd_var 3) sda_nil)) (sd_callB pr_len rfl T.b_len (by decide +kernel) (sda_cons (sd_var 1) sda_nil)) (nomark _)) (sb_cons (ss_set (sdg_name 5 sc_divided.nd) (sd_call Fs.f_times (hr.mono (by omega)) rfl (sda_cons (sd_ix (ix_all (hr.units) hqP hqW) (sd_var 3) (sd_neg sd_int)) (sda_cons (sd_var 2) sda_nil))))
    (sb_cons (ss_set (sdg_name 6 sc_divided.nd) (sd_bin od_sub (sd_callB pr_len rfl T.b_len (by decide +kernel) (sda_cons (sd_var 3) sda_nil)) (sd_callB pr_len rfl T.b_len (by decide +kernel) (sda_cons (sd_var 1) sda_nil))))
    (sb_cons (ss_for (passes_of rfl) rfl (sdi_enum rfl T.b_enumerate (sd_var 1)) (sdg_tup rfl (sdgs_cons (sdg_name 7 sc_divided.nd) (sdgs_cons (sdg_name 8 sc_divided.nd) sdgs_nil)) rfl) (sb_cons (ss_setix (set_C (hr.units) hqP hqW) (sd_var 3) (sd_bin od_add (sd_var 6) (sd_var 7)) (sd_call Fs.f_minus (hr.mono (by omega)) rfl (sda_cons (sd_ix (ix_all (hr.units) hqP hqW) (sd_var 3) (sd_bin od_add (sd_var 6) (sd_var 7))) (sda_cons (sd_call Fs.f_times (hr.mono (by omega)) rfl (sda_cons (sd_var 5) (sda_cons (sd_var 8) sda_nil))) sda_nil))))
    sb_nil))
    (sb_cons (ss_ex (sd_pop (sd_var 3)))
    (sb_cons (ss_ex (sd_app (sd_var 4) (sd_var 5)))
    sb_nil))))))
    (sb_cons (ss_ret (sd_tup (sda_cons (sd_call Fs.f_curve (hr.mono (by omega)) rfl (sda_cons (sd_rev (sd_take (sd_var 4))) sda_nil)) (sda_cons (sd_call Fs.f_curve (hr.mono (by omega)) rfl (sda_cons (sd_take (sd_var 3)) sda_nil)) sda_nil))))
    sb_nil)))))
set_option maxRecDepth 200000 in
theorem b_worth (T : Txt K mg q) (hqP : q.P = P) (hqW : q.W = w) (Fs : Fns P w K mg base q S k) (hr : Room (k + 2) (A.deeper (envOfC "worth" (defScope s_worth) s.heap.objs.size f cdv))) :
    SdB (cxOf (L2.CX P w) P w K mg base N_worth "worth" (defScope s_worth) f cdv A outer s H E) q S (defBody s_worth) m_worth.body :=
  (sb_cons (ss_set (sdg_name 2 sc_worth.nd) (sd_tup (sda_cons sd_int (sda_cons sd_int sda_nil))))
    (sb_cons (ss_for (passes_of rfl) rfl (sdi_rev rfl T.b_reversed (sd_var 0)) (sdg_name 3 sc_worth.nd) (sb_cons (ss_set (sdg_name 2 sc_worth.nd) (sd_call Fs.f_plus (hr.mono (by omega)) rfl (sda_cons (sd_call Fs.f_times (hr.mono (by omega)) rfl (sda_cons (sd_var 2) (sda_cons (sd_var 1) sda_nil))) (sda_cons (sd_var 3) sda_nil))))
    sb_nil))
    (sb_cons (ss_ret (sd_var 2))
    sb_nil)))
set_option maxRecDepth 200000 in
theorem b_slope (T : Txt K mg q) (hqP : q.P = P) (hqW : q.W = w) (Fs : Fns P w K mg base q S k) (hr : Room (k + 2) (A.deeper (envOfC "slope" (defScope s_slope) s.heap.objs.size f cdv))) :
    SdB (cxOf (L2.CX P w) P w K mg base N_slope "slope" (defScope s_slope) f cdv A outer s H E) q S (defBody s_slope) m_slope.body :=
  (sb_cons (ss_ret (sd_call Fs.f_curve (hr.mono (by omega)) rfl (sda_cons (sd_lc [("power", 1)] rfl sc_slope.nd (sdi_rng2 rfl T.b_range sd_int (sd_callB pr_len rfl T.b_len (by decide +kernel) (sda_cons (sd_var 0) sda_nil))) (blkOk_by (by kernel_rfl)) (fun _ _ _ _ _ => (sdg_name 1 sc_slope.nd)) (fun _ _ _ _ _ => sdts_nil) (fun _ _ _ _ _ => (sd_call Fs.f_times (hr.mono (by omega)) rfl (sda_cons (sd_ix (ix_all (hr.units) hqP hqW) (sd_var 0) (sd_var 1)) (sda_cons (sd_tup (sda_cons (sd_var 1) (sda_cons sd_int sda_nil))) sda_nil))))) sda_nil)))
    sb_nil)
set_option maxRecDepth 200000 in
theorem b_area_under (T : Txt K mg q) (hqP : q.P = P) (hqW : q.W = w) (Fs : Fns P w K mg base q S k) (hr : Room (k + 2) (A.deeper (envOfC "area_under" (defScope s_area_under) s.heap.objs.size f cdv))) :
    SdB (cxOf (L2.CX P w) P w K mg base N_area_under "area_under" (defScope s_area_under) f cdv A outer s H E) q S (defBody s_area_under) m_area_under.body :=
  (sb_cons (ss_ret (sd_call Fs.f_curve (hr.mono (by omega)) rfl (sda_cons (sd_bin od_add (sd_lst (sda_cons (sd_tup (sda_cons sd_int (sda_cons sd_int sda_nil))) sda_nil)) (sd_lc [("power", 1), ("mine", 2)] rfl sc_area_under.nd (sdi_enum rfl T.b_enumerate (sd_var 0)) (blkOk_by (by kernel_rfl)) (fun _ _ _ _ _ => (sdg_tup rfl (sdgs_cons (sdg_name 1 sc_area_under.nd) (sdgs_cons (sdg_name 2 sc_area_under.nd) sdgs_nil)) rfl)) (fun _ _ _ _ _ => sdts_nil) (fun _ _ _ _ _ => (sd_call Fs.f_over (hr.mono (by omega)) rfl (sda_cons (sd_var 2) (sda_cons (sd_tup (sda_cons (sd_bin od_add (sd_var 1) sd_int) (sda_cons sd_int sda_nil))) sda_nil)))))) sda_nil)))
    sb_nil)
set_option maxRecDepth 200000 in
theorem b_between (T : Txt K mg q) (hqP : q.P = P) (hqW : q.W = w) (Fs : Fns P w K mg base q S k) (hr : Room (k + 2) (A.deeper (envOfC "between" (defScope s_between) s.heap.objs.size f cdv))) :
    SdB (cxOf (L2.CX P w) P w K mg base N_between "between" (defScope s_between) f cdv A outer s H E) q S (defBody s_between) m_between.body :=
  (sb_cons (ss_set (sdg_name 3 sc_between.nd) (sd_call Fs.f_area_under (hr.mono (by omega)) rfl (sda_cons (sd_var 0) sda_nil)))
    (sb_cons (ss_ret (sd_call Fs.f_minus (hr.mono (by omega)) rfl (sda_cons (sd_call Fs.f_worth (hr.mono (by omega)) rfl (sda_cons (sd_var 3) (sda_cons (sd_var 2) sda_nil))) (sda_cons (sd_call Fs.f_worth (hr.mono (by omega)) rfl (sda_cons (sd_var 3) (sda_cons (sd_var 1) sda_nil))) sda_nil))))
    sb_nil))
set_option maxRecDepth 200000 in
theorem b_through (T : Txt K mg q) (hqP : q.P = P) (hqW : q.W = w) (Fs : Fns P w K mg base q S k) (hr : Room (k + 2) (A.deeper (envOfC "through" (defScope s_through) s.heap.objs.size f cdv))) :
    SdB (cxOf (L2.CX P w) P w K mg base N_through "through" (defScope s_through) f cdv A outer s H E) q S (defBody s_through) m_through.body :=
  (sb_cons (ss_set (sdg_name 1 sc_through.nd) (sd_tup sda_nil))
    (sb_cons (ss_for (passes_of rfl) rfl (sdi_enum rfl T.b_enumerate (sd_var 0)) (sdg_tup rfl (sdgs_cons (sdg_name 2 sc_through.nd) (sdgs_cons (sdg_tup rfl (sdgs_cons (sdg_name 3 sc_through.nd) (sdgs_cons (sdg_name 4 sc_through.nd) sdgs_nil)) rfl) sdgs_nil)) rfl) (sb_cons (ss_set (sdg_name 5 sc_through.nd) (sd_call Fs.f_curve (hr.mono (by omega)) rfl (sda_cons (sd_lst (sda_cons (sd_var 4) sda_nil)) sda_nil)))
    (sb_cons (ss_for (passes_of rfl) rfl (sdi_seq (sd_bin od_add (sd_sl (sd_var 0) sdo_none (sdo_some (sd_var 2))) (sd_sl (sd_var 0) (sdo_some (sd_bin od_add (sd_var 2) sd_int)) sdo_none))) (sdg_tup rfl (sdgs_cons (sdg_name 6 sc_through.nd) (sdgs_cons (sdg_name 7 sc_through.nd) sdgs_nil)) rfl) (sb_cons (ss_set (sdg_name 8 sc_through.nd) (sd_call Fs.f_minus (hr.mono (by omega)) rfl (sda_cons (sd_var 3) (sda_cons (sd_var 6) sda_nil))))
    (sb_cons (ss_set (sdg_name 5 sc_through.nd) (sd_call Fs.f_multiplied (hr.mono (by omega)) rfl (sda_cons (sd_var 5) (sda_cons (sd_call Fs.f_curve (hr.mono (by omega)) rfl (sda_cons (sd_lst (sda_cons (sd_call Fs.f_over (hr.mono (by omega)) rfl (sda_cons (sd_call Fs.f_minus (hr.mono (by omega)) rfl (sda_cons (sd_tup (sda_cons sd_int (sda_cons sd_int sda_nil))) (sda_cons (sd_var 6) sda_nil))) (sda_cons (sd_var 8) sda_nil))) (sda_cons (sd_call Fs.f_over (hr.mono (by omega)) rfl (sda_cons (sd_tup (sda_cons sd_int (sda_cons sd_int sda_nil))) (sda_cons (sd_var 8) sda_nil))) sda_nil))) sda_nil)) sda_nil))))
    sb_nil)))
    (sb_cons (ss_set (sdg_name 1 sc_through.nd) (sd_call Fs.f_added (hr.mono (by omega)) rfl (sda_cons (sd_var 1) (sda_cons (sd_var 5) sda_nil))))
    sb_nil))))
    (sb_cons (ss_ret (sd_var 1))
    sb_nil)))
set_option maxRecDepth 200000 in
theorem b_put_in (T : Txt K mg q) (hqP : q.P = P) (hqW : q.W = w) (Fs : Fns P w K mg base q S k) (hr : Room (k + 2) (A.deeper (envOfC "put_in" (defScope s_put_in) s.heap.objs.size f cdv))) :
    SdB (cxOf (L2.CX P w) P w K mg base N_put_in "put_in" (defScope s_put_in) f cdv A outer s H E) q S (defBody s_put_in) m_put_in.body :=
  (sb_cons (ss_set (sdg_name 2 sc_put_in.nd) (sd_tup sda_nil))
    (sb_cons (ss_for (passes_of rfl) rfl (sdi_rev rfl T.b_reversed (sd_var 0)) (sdg_name 3 sc_put_in.nd) (sb_cons (ss_set (sdg_name 2 sc_put_in.nd) (sd_call Fs.f_added (hr.mono (by omega)) rfl (sda_cons (sd_call Fs.f_multiplied (hr.mono (by omega)) rfl (sda_cons (sd_var 2) (sda_cons (sd_var 1) sda_nil))) (sda_cons (sd_call Fs.f_curve (hr.mono (by omega)) rfl (sda_cons (sd_lst (sda_cons (sd_var 3) sda_nil)) sda_nil)) sda_nil))))
    sb_nil))
    (sb_cons (ss_ret (sd_var 2))
    sb_nil)))
set_option maxRecDepth 200000 in
theorem b_shared_curve (T : Txt K mg q) (hqP : q.P = P) (hqW : q.W = w) (Fs : Fns P w K mg base q S k) (hr : Room (k + 2) (A.deeper (envOfC "shared_curve" (defScope s_shared_curve) s.heap.objs.size f cdv))) :
    SdB (cxOf (L2.CX P w) P w K mg base N_shared_curve "shared_curve" (defScope s_shared_curve) f cdv A outer s H E) q S (defBody s_shared_curve) m_shared_curve.body :=
  (sb_cons (ss_while (passes_of rfl) (td_cmp od_gt (sd_callB pr_len rfl T.b_len (by decide +kernel) (sda_cons (sd_var 1) sda_nil)) sd_int (nomark _)) (sb_cons (ss_par (i := 0) (j := 1) rfl sc_shared_curve.nd (sd_var 1) (sd_ix (ix_all (hr.units) hqP hqW) (sd_call Fs.f_divided (hr.mono (by omega)) rfl (sda_cons (sd_var 0) (sda_cons (sd_var 1) sda_nil))) sd_int))
    sb_nil))
    (sb_cons (ss_if (td_cmp (od_eq hr.units) (sd_callB pr_len rfl T.b_len (by decide +kernel) (sda_cons (sd_var 0) sda_nil)) sd_int (nomark _)) (sb_cons (ss_ret (sd_tup sda_nil))
    sb_nil) sb_nil)
    (sb_cons (ss_ret (sd_call Fs.f_scaled_curve (hr.mono (by omega)) rfl (sda_cons (sd_var 0) (sda_cons (sd_call Fs.f_over (hr.mono (by omega)) rfl (sda_cons (sd_tup (sda_cons sd_int (sda_cons sd_int sda_nil))) (sda_cons (sd_ix (ix_all (hr.units) hqP hqW) (sd_var 0) (sd_neg sd_int)) sda_nil))) sda_nil))))
    sb_nil)))
set_option maxRecDepth 200000 in
theorem b_powers (T : Txt K mg q) (hqP : q.P = P) (hqW : q.W = w) (Fs : Fns P w K mg base q S k) (hr : Room (k + 2) (A.deeper (envOfC "powers" (defScope s_powers) s.heap.objs.size f cdv))) :
    SdB (cxOf (L2.CX P w) P w K mg base N_powers "powers" (defScope s_powers) f cdv A outer s H E) q S (defBody s_powers) m_powers.body := by
  obtain ⟨_, X_BadSize⟩ := T.x_BadSize
  exact (sb_cons (ss_if (td_cmp od_lt (sd_var 0) sd_int (nomark _)) (sb_cons (ss_raise rfl PySem.F.excBase_ValueError X_BadSize.xq X_BadSize.xg X_BadSize.xk (raises_own X_BadSize.r1 X_BadSize.r2) rfl X_BadSize.xc (sd_fmt (SdJ.cons sd_str (SdJ.cons (sd_fv (sd_var 0)) SdJ.nil))))
    sb_nil) sb_nil)
    (sb_cons (ss_ret (sd_bin od_add (sd_bin od_mul (sd_tup (sda_cons (sd_tup (sda_cons sd_int (sda_cons sd_int sda_nil))) sda_nil)) (sd_var 0)) (sd_tup (sda_cons (sd_tup (sda_cons sd_int (sda_cons sd_int sda_nil))) sda_nil))))
    sb_nil))
set_option maxRecDepth 200000 in
theorem b_law_dice (T : Txt K mg q) (hqP : q.P = P) (hqW : q.W = w) (Fs : Fns P w K mg base q S k) (hr : Room (k + 2) (A.deeper (envOfC "_law_dice" (defScope s_law_dice) s.heap.objs.size f cdv))) :
    SdB (cxOf (L2.CX P w) P w K mg base N_law_dice "_law_dice" (defScope s_law_dice) f cdv A outer s H E) q S (defBody s_law_dice) m_law_dice.body :=
  (sb_cons (ss_if (td_chain od_lt od_lt (sd_bin od_sub sd_int sd_int) (sd_var 0) sd_int) (sb_cons (ss_ret (sd_lstC (sda_cons (sd_callB pr_abs rfl T.b_abs (by decide +kernel) (sda_cons (sd_var 0) sda_nil)) (sda_cons sd_int (sda_cons sd_int sda_nil)))))
    sb_nil) sb_nil)
    (sb_cons (ss_ret (sd_lstC (sda_cons (sd_var 0) (sda_cons (sd_bin od_add sd_int (sd_bin od_mod (sd_callTy pr_int rfl T.b_int (by decide +kernel) (sda_cons (sd_var 0) sda_nil)) sd_int)) (sda_cons (sd_callTy pr_int rfl T.b_int (by decide +kernel) (sda_cons (sd_cmp od_ge (sd_var 0) (sd_bin od_pow sd_int sd_int) (nomark _)) sda_nil)) sda_nil)))))
    sb_nil))
set_option maxRecDepth 200000 in
theorem b_law_roll (T : Txt K mg q) (hqP : q.P = P) (hqW : q.W = w) (Fs : Fns P w K mg base q S k) (hr : Room (k + 2) (A.deeper (envOfC "_law_roll" (defScope s_law_roll) s.heap.objs.size f cdv))) :
    SdB (cxOf (L2.CX P w) P w K mg base N_law_roll "_law_roll" (defScope s_law_roll) f cdv A outer s H E) q S (defBody s_law_roll) m_law_roll.body :=
  (sb_cons (ss_if (TdW.td (tw_or (td_cmp (od_eq hr.units) (sd_ix (ix_all (hr.units) hqP hqW) (sd_var 0) sd_int) sd_int (nomark _)) (tw_or1 (TdW.td (tw_and (td_cmp (od_eq hr.units) (sd_ix (ix_all (hr.units) hqP hqW) (sd_var 0) sd_int) sd_int (nomark _)) (tw_and1 (td_cmp od_gt (sd_ix (ix_all (hr.units) hqP hqW) (sd_var 0) sd_int) sd_int (nomark _)))))))) (sb_cons (ss_set (sdg_name 2 sc_law_roll.nd) (sd_bin od_mod (sd_callTy pr_int rfl T.b_int (by decide +kernel) (sda_cons (sd_ix (ix_all (hr.units) hqP hqW) (sd_var 0) sd_int) sda_nil)) (sd_var 1)))
    (sb_cons (ss_setix (set_C (hr.units) hqP hqW) (sd_var 0) sd_int (sd_bin od_fdiv (sd_ix (ix_all (hr.units) hqP hqW) (sd_var 0) sd_int) (sd_var 1)))
    (sb_cons (ss_ret (sd_var 2))
    sb_nil))) sb_nil)
    (sb_cons (ss_setix (set_C (hr.units) hqP hqW) (sd_var 0) sd_int sd_int)
    (sb_cons (ss_setix (set_C (hr.units) hqP hqW) (sd_var 0) sd_int (sd_bin od_mod (sd_callTy pr_int rfl T.b_int (by decide +kernel) (sda_cons (sd_bin od_add (sd_bin od_add (sd_bin od_mul (sd_ix (ix_all (hr.units) hqP hqW) (sd_var 0) sd_int) sd_int) (sd_bin od_mul (sd_ix (ix_all (hr.units) hqP hqW) (sd_var 0) sd_int) sd_int)) sd_int) sda_nil)) sd_int))
    (sb_cons (ss_setix (set_C (hr.units) hqP hqW) (sd_var 0) sd_int (sd_bin od_add (sd_ix (ix_all (hr.units) hqP hqW) (sd_var 0) sd_int) sd_int))
    (sb_cons (ss_ret (sd_bin od_mod (sd_callTy pr_int rfl T.b_int (by decide +kernel) (sda_cons (sd_bin od_add (sd_bin od_fdiv (sd_ix (ix_all (hr.units) hqP hqW) (sd_var 0) sd_int) sd_int) (sd_ix (ix_all (hr.units) hqP hqW) (sd_var 0) sd_int)) sda_nil)) (sd_var 1)))
    sb_nil)))))
set_option maxRecDepth 200000 in
theorem b_law_rounds (T : Txt K mg q) (hqP : q.P = P) (hqW : q.W = w) (Fs : Fns P w K mg base q S k) (hr : Room (k + 2) (A.deeper (envOfC "_law_rounds" (defScope s_law_rounds) s.heap.objs.size f cdv))) :
    SdB (cxOf (L2.CX P w) P w K mg base N_law_rounds "_law_rounds" (defScope s_law_rounds) f cdv A outer s H E) q S (defBody s_law_rounds) m_law_rounds.body :=
  (sb_cons (ss_set (sdg_name 2 sc_law_rounds.nd) (sd_sl (sd_var 0) sdo_none (sdo_some (sd_var 1))))
    (sb_cons (ss_if (td_cmp (od_eq hr.units) (sd_var 2) (sd_lst sda_nil) (nomark _)) (sb_cons (ss_set (sdg_name 2 sc_law_rounds.nd) (sd_lst (sda_cons sd_int sda_nil)))
    sb_nil) sb_nil)
    (sb_cons (ss_ret (sd_lc [("cell", 3)] rfl sc_law_rounds.nd (sdi_seq (sd_var 2)) (blkOk_by (by kernel_rfl)) (fun _ _ _ _ _ => (sdg_name 3 sc_law_rounds.nd)) (fun _ _ _ _ _ => sdts_nil) (fun _ _ _ _ _ => (sd_call Fs.f_law_dice (hr.mono (by omega)) rfl (sda_cons (sd_var 3) sda_nil)))))
    sb_nil)))
set_option maxRecDepth 200000 in
theorem b_law_part (T : Txt K mg q) (hqP : q.P = P) (hqW : q.W = w) (Fs : Fns P w K mg base q S k) (hr : Room (k + 2) (A.deeper (envOfC "_law_part" (defScope s_law_part) s.heap.objs.size f cdv))) :
    SdB (cxOf (L2.CX P w) P w K mg base N_law_part "_law_part" (defScope s_law_part) f cdv A outer s H E) q S (defBody s_law_part) m_law_part.body :=
  (sb_cons (ss_ret (sd_call Fs.f_part (hr.mono (by omega)) rfl (sda_cons (sd_bin od_sub (sd_call Fs.f_law_roll (hr.mono (by omega)) rfl (sda_cons (sd_var 0) (sda_cons sd_int sda_nil))) sd_int) (sda_cons (sd_bin od_add sd_int (sd_call Fs.f_law_roll (hr.mono (by omega)) rfl (sda_cons (sd_var 0) (sda_cons sd_int sda_nil)))) sda_nil))))
    sb_nil)
set_option maxRecDepth 200000 in
theorem b_law_worth (T : Txt K mg q) (hqP : q.P = P) (hqW : q.W = w) (Fs : Fns P w K mg base q S k) (hr : Room (k + 2) (A.deeper (envOfC "_law_worth" (defScope s_law_worth) s.heap.objs.size f cdv))) :
    SdB (cxOf (L2.CX P w) P w K mg base N_law_worth "_law_worth" (defScope s_law_worth) f cdv A outer s H E) q S (defBody s_law_worth) m_law_worth.body :=
  (sb_cons (ss_ret (sd_call Fs.f_total (hr.mono (by omega)) rfl (sda_cons (sd_lc [("k", 2)] rfl sc_law_worth.nd (sdi_rng1 rfl T.b_range (sd_callB pr_len rfl T.b_len (by decide +kernel) (sda_cons (sd_var 0) sda_nil))) (blkOk_by (by kernel_rfl)) (fun _ _ _ _ _ => (sdg_name 2 sc_law_worth.nd)) (fun _ _ _ _ _ => sdts_nil) (fun _ _ _ _ _ => (sd_call Fs.f_times (hr.mono (by omega)) rfl (sda_cons (sd_ix (ix_all (hr.units) hqP hqW) (sd_var 0) (sd_var 2)) (sda_cons (sd_call Fs.f_product (hr.mono (by omega)) rfl (sda_cons (sd_bin od_mul (sd_lst (sda_cons (sd_var 1) sda_nil)) (sd_var 2)) sda_nil)) sda_nil))))) sda_nil)))
    sb_nil)
set_option maxRecDepth 200000 in
theorem b_law (T : Txt K mg q) (hqP : q.P = P) (hqW : q.W = w) (Fs : Fns P w K mg base q S k) (hr : Room (k + 2) (A.deeper (envOfC "law" (defScope s_law) s.heap.objs.size f cdv))) {c Pt : Addr} (TB : TabB base mg c Pt) (hcode : cdv = .ref c) (hmT : (Pt, ("law.<locals>.<lambda>" : Str)) ∈ q.T) (huT : ∀ p ∈ q.T, p.1 = Pt → p.2 = ("law.<locals>.<lambda>" : Str)) (hS : S.told = tolds) (hLD : q.lamD = lamDs) :
    SdB (cxOf (L2.CX P w) P w K mg base N_law "law" (defScope s_law) f cdv A outer s H E) q S (defBody s_law) m_law.body := by
  obtain ⟨hl, TO, TH⟩ := T.told
  rw [← hS] at TH
  exact (sb_cons (ss_for (passes_of rfl) rfl (sdi_seq (sd_call Fs.f_law_rounds (hr.mono (by omega)) rfl (sda_cons (sd_var 0) (sda_cons sd_int sda_nil)))) (sdg_name 1 sc_law.nd) (sb_cons (ss_set (sdg_tup rfl (sdgs_cons (sdg_name 2 sc_law.nd) (sdgs_cons (sdg_name 3 sc_law.nd) sdgs_nil)) rfl) (sd_lc [("j", 25)] rfl sc_law.nd (sdi_rng1 rfl T.b_range sd_int) (blkOk_by (by kernel_rfl)) (fun _ _ _ _ _ => (sdg_name 25 sc_law.nd)) (fun _ _ _ _ _ => sdts_nil) (fun _ _ _ _ _ => (sd_call Fs.f_curve (hr.mono (by omega)) rfl (sda_cons (sd_lc [("k", 27)] rfl sc_law.nd (sdi_rng1 rfl T.b_range (sd_call Fs.f_law_roll (hr.mono (by omega)) rfl (sda_cons (sd_var 1) (sda_cons sd_int sda_nil)))) (blkOk_by (by kernel_rfl)) (fun _ _ _ _ _ => (sdg_name 27 sc_law.nd)) (fun _ _ _ _ _ => sdts_nil) (fun _ _ _ _ _ => (sd_call Fs.f_law_part (hr.mono (by omega)) rfl (sda_cons (sd_var 1) sda_nil)))) sda_nil)))))
    (sb_cons (ss_par (i := 4) (j := 5) rfl sc_law.nd (sd_call Fs.f_law_part (hr.mono (by omega)) rfl (sda_cons (sd_var 1) sda_nil)) (sd_lc [("k", 27)] rfl sc_law.nd (sdi_rng1 rfl T.b_range sd_int) (blkOk_by (by kernel_rfl)) (fun _ _ _ _ _ => (sdg_name 27 sc_law.nd)) (fun _ _ _ _ _ => sdts_nil) (fun _ _ _ _ _ => (sd_tup (sda_cons (sd_bin od_sub (sd_var 27) sd_int) (sda_cons sd_int sda_nil))))))
    (sb_cons (ss_if (TdW.td (tw_or (TdW.td (tw_and (td_cmp (od_ne hr.units) (sd_var 2) (sd_tup sda_nil) (nomark _)) (tw_and1 (td_cmp (od_eq hr.units) (sd_ix (ix_all (hr.units) hqP hqW) (sd_ix (ix_all (hr.units) hqP hqW) (sd_var 2) (sd_neg sd_int)) sd_int) sd_int (nomark _))))) (tw_or (td_cmp (od_ne hr.units) (sd_call Fs.f_power_of (hr.mono (by omega)) rfl (sda_cons (sd_var 2) sda_nil)) (sd_bin od_sub (sd_callB pr_len rfl T.b_len (by decide +kernel) (sda_cons (sd_var 2) sda_nil)) sd_int) (nomark _)) (tw_or1 (td_cmp (od_ne hr.units) (sd_lc [("at", 6)] rfl sc_law.nd (sdi_seq (sd_var 5)) (blkOk_by (by kernel_rfl)) (fun _ _ _ _ _ => (sdg_name 6 sc_law.nd)) (fun _ _ _ _ _ => (sdts_one (td_cmp (od_ne hr.units) (sd_call Fs.f_worth (hr.mono (by omega)) rfl (sda_cons (sd_var 2) (sda_cons (sd_var 6) sda_nil))) (sd_call Fs.f_law_worth (hr.mono (by omega)) rfl (sda_cons (sd_var 2) (sda_cons (sd_var 6) sda_nil))) (nomark _)))) (fun _ _ _ _ _ => (sd_var 6))) (sd_lst sda_nil) (nomark _)))))) (sb_cons (ss_ret sd_bl)
    sb_nil) sb_nil)
    (sb_cons (ss_for (passes_of rfl) rfl (sdi_seq (sd_var 5)) (sdg_name 6 sc_law.nd) (sb_cons (ss_par (i := 7) (j := 8) rfl sc_law.nd (sd_call Fs.f_law_worth (hr.mono (by omega)) rfl (sda_cons (sd_var 2) (sda_cons (sd_var 6) sda_nil))) (sd_call Fs.f_law_worth (hr.mono (by omega)) rfl (sda_cons (sd_var 3) (sda_cons (sd_var 6) sda_nil))))
    (sb_cons (ss_if (TdW.td (tw_or (td_cmp (od_ne hr.units) (sd_call Fs.f_worth (hr.mono (by omega)) rfl (sda_cons (sd_call Fs.f_added (hr.mono (by omega)) rfl (sda_cons (sd_var 2) (sda_cons (sd_var 3) sda_nil))) (sda_cons (sd_var 6) sda_nil))) (sd_call Fs.f_plus (hr.mono (by omega)) rfl (sda_cons (sd_var 7) (sda_cons (sd_var 8) sda_nil))) (nomark _)) (tw_or (td_cmp (od_ne hr.units) (sd_call Fs.f_worth (hr.mono (by omega)) rfl (sda_cons (sd_call Fs.f_taken (hr.mono (by omega)) rfl (sda_cons (sd_var 2) (sda_cons (sd_var 3) sda_nil))) (sda_cons (sd_var 6) sda_nil))) (sd_call Fs.f_minus (hr.mono (by omega)) rfl (sda_cons (sd_var 7) (sda_cons (sd_var 8) sda_nil))) (nomark _)) (tw_or (td_cmp (od_ne hr.units) (sd_call Fs.f_worth (hr.mono (by omega)) rfl (sda_cons (sd_call Fs.f_multiplied (hr.mono (by omega)) rfl (sda_cons (sd_var 2) (sda_cons (sd_var 3) sda_nil))) (sda_cons (sd_var 6) sda_nil))) (sd_call Fs.f_times (hr.mono (by omega)) rfl (sda_cons (sd_var 7) (sda_cons (sd_var 8) sda_nil))) (nomark _)) (tw_or1 (td_cmp (od_ne hr.units) (sd_call Fs.f_worth (hr.mono (by omega)) rfl (sda_cons (sd_call Fs.f_scaled_curve (hr.mono (by omega)) rfl (sda_cons (sd_var 2) (sda_cons (sd_var 4) sda_nil))) (sda_cons (sd_var 6) sda_nil))) (sd_call Fs.f_times (hr.mono (by omega)) rfl (sda_cons (sd_var 7) (sda_cons (sd_var 4) sda_nil))) (nomark _))))))) (sb_cons (ss_ret sd_bl)
    sb_nil) sb_nil)
    (sb_cons (ss_if (td_cmp (od_ne hr.units) (sd_call Fs.f_worth (hr.mono (by omega)) rfl (sda_cons (sd_call Fs.f_put_in (hr.mono (by omega)) rfl (sda_cons (sd_var 2) (sda_cons (sd_var 3) sda_nil))) (sda_cons (sd_var 6) sda_nil))) (sd_call Fs.f_law_worth (hr.mono (by omega)) rfl (sda_cons (sd_var 2) (sda_cons (sd_var 8) sda_nil))) (nomark _)) (sb_cons (ss_ret sd_bl)
    sb_nil) sb_nil)
    sb_nil))))
    (sb_cons (ss_if (td_cmp (od_ne hr.units) (sd_var 3) (sd_tup sda_nil) (nomark _)) (sb_cons (ss_set (sdg_tup rfl (sdgs_cons (sdg_name 9 sc_law.nd) (sdgs_cons (sdg_name 10 sc_law.nd) sdgs_nil)) rfl) (sd_call Fs.f_divided (hr.mono (by omega)) rfl (sda_cons (sd_var 2) (sda_cons (sd_var 3) sda_nil))))
    (sb_cons (ss_if (TdW.td (tw_or (td_cmp (od_ne hr.units) (sd_call Fs.f_added (hr.mono (by omega)) rfl (sda_cons (sd_call Fs.f_multiplied (hr.mono (by omega)) rfl (sda_cons (sd_var 9) (sda_cons (sd_var 3) sda_nil))) (sda_cons (sd_var 10) sda_nil))) (sd_var 2) (nomark _)) (tw_or1 (td_cmp od_ge (sd_callB pr_len rfl T.b_len (by decide +kernel) (sda_cons (sd_var 10) sda_nil)) (sd_callB pr_len rfl T.b_len (by decide +kernel) (sda_cons (sd_var 3) sda_nil)) (nomark _))))) (sb_cons (ss_ret sd_bl)
    sb_nil) sb_nil)
    sb_nil)) (sb_cons (ss_if (td_cmp (od_ne hr.units) (sd_told TO TH rfl TB hcode hmT huT hr (lamS_by (by kernel_rfl)) (fun A2 o2 s2 H2 E2 f2 c2 hr2 => (sd_call Fs.f_divided (hr2) rfl (sda_cons (sd_var 2) (sda_cons (sd_var 3) sda_nil))))) sd_str (nomark _)) (sb_cons (ss_ret sd_bl)
    sb_nil) sb_nil)
    sb_nil))
    (sb_cons (ss_if (TdW.td (tw_or (td_cmp (od_ne hr.units) (sd_call Fs.f_slope (hr.mono (by omega)) rfl (sda_cons (sd_var 2) sda_nil)) (sd_call Fs.f_curve (hr.mono (by omega)) rfl (sda_cons (sd_lc [("k", 27)] rfl sc_law.nd (sdi_rng2 rfl T.b_range sd_int (sd_callB pr_len rfl T.b_len (by decide +kernel) (sda_cons (sd_var 2) sda_nil))) (blkOk_by (by kernel_rfl)) (fun _ _ _ _ _ => (sdg_name 27 sc_law.nd)) (fun _ _ _ _ _ => sdts_nil) (fun _ _ _ _ _ => (sd_call Fs.f_times (hr.mono (by omega)) rfl (sda_cons (sd_ix (ix_all (hr.units) hqP hqW) (sd_var 2) (sd_var 27)) (sda_cons (sd_tup (sda_cons (sd_var 27) (sda_cons sd_int sda_nil))) sda_nil))))) sda_nil)) (nomark _)) (tw_or (td_cmp (od_ne hr.units) (sd_call Fs.f_slope (hr.mono (by omega)) rfl (sda_cons (sd_call Fs.f_area_under (hr.mono (by omega)) rfl (sda_cons (sd_var 2) sda_nil)) sda_nil)) (sd_var 2) (nomark _)) (tw_or1 (td_cmp (od_ne hr.units) (sd_call Fs.f_worth (hr.mono (by omega)) rfl (sda_cons (sd_call Fs.f_area_under (hr.mono (by omega)) rfl (sda_cons (sd_var 2) sda_nil)) (sda_cons (sd_tup (sda_cons sd_int (sda_cons sd_int sda_nil))) sda_nil))) (sd_tup (sda_cons sd_int (sda_cons sd_int sda_nil))) (nomark _)))))) (sb_cons (ss_ret sd_bl)
    sb_nil) sb_nil)
    (sb_cons (ss_par (i := 11) (j := 12) rfl sc_law.nd (sd_call Fs.f_law_part (hr.mono (by omega)) rfl (sda_cons (sd_var 1) sda_nil)) (sd_call Fs.f_law_part (hr.mono (by omega)) rfl (sda_cons (sd_var 1) sda_nil)))
    (sb_cons (ss_if (td_cmp (od_ne hr.units) (sd_call Fs.f_between (hr.mono (by omega)) rfl (sda_cons (sd_var 2) (sda_cons (sd_var 11) (sda_cons (sd_var 12) sda_nil)))) (sd_call Fs.f_minus (hr.mono (by omega)) rfl (sda_cons (sd_call Fs.f_worth (hr.mono (by omega)) rfl (sda_cons (sd_call Fs.f_area_under (hr.mono (by omega)) rfl (sda_cons (sd_var 2) sda_nil)) (sda_cons (sd_var 12) sda_nil))) (sda_cons (sd_call Fs.f_worth (hr.mono (by omega)) rfl (sda_cons (sd_call Fs.f_area_under (hr.mono (by omega)) rfl (sda_cons (sd_var 2) sda_nil)) (sda_cons (sd_var 11) sda_nil))) sda_nil))) (nomark _)) (sb_cons (ss_ret sd_bl)
    sb_nil) sb_nil)
    (sb_cons (ss_set (sdg_name 13 sc_law.nd) (sd_sl (sd_var 5) sdo_none (sdo_some (sd_bin od_add sd_int (sd_call Fs.f_law_roll (hr.mono (by omega)) rfl (sda_cons (sd_var 1) (sda_cons sd_int sda_nil)))))))
    (sb_cons (ss_setLc (i := 14) [("x", 26)] rfl sc_law.nd (sdi_seq (sd_var 13)) (blkOk_by (by kernel_rfl)) (fun _ _ _ _ _ => (sdg_name 26 sc_law.nd)) (fun _ _ _ _ _ => sdts_nil) (fun _ _ _ _ _ => (sd_tup (sda_cons (sd_var 26) (sda_cons (sd_call Fs.f_law_part (hr.mono (by omega)) rfl (sda_cons (sd_var 1) sda_nil)) sda_nil)))) (sw_true rfl rfl rfl (by kernel_rfl)))
    (sb_cons (ss_set (sdg_name 15 sc_law.nd) (sd_call Fs.f_through (hr.mono (by omega)) rfl (sda_cons (sd_var 14) sda_nil)))
    (sb_cons (ss_if (TdW.td (tw_or (td_cmp od_gt (sd_callB pr_len rfl T.b_len (by decide +kernel) (sda_cons (sd_var 15) sda_nil)) (sd_callB pr_len rfl T.b_len (by decide +kernel) (sda_cons (sd_var 14) sda_nil)) (nomark _)) (tw_or (td_cmp (od_ne hr.units) (sd_lc [("x", 26), ("y", 29)] rfl sc_law.nd (sdi_seq (sd_var 14)) (blkOk_by (by kernel_rfl)) (fun _ _ _ _ _ => (sdg_tup rfl (sdgs_cons (sdg_name 26 sc_law.nd) (sdgs_cons (sdg_name 29 sc_law.nd) sdgs_nil)) rfl)) (fun _ _ _ _ _ => (sdts_one (td_cmp (od_ne hr.units) (sd_call Fs.f_worth (hr.mono (by omega)) rfl (sda_cons (sd_var 15) (sda_cons (sd_var 26) sda_nil))) (sd_var 29) (nomark _)))) (fun _ _ _ _ _ => (sd_var 26))) (sd_lst sda_nil) (nomark _)) (tw_or1 (td_cmp (od_ne hr.units) (sd_call Fs.f_through (hr.mono (by omega)) rfl (sda_cons (sd_lc [("x", 26)] rfl sc_law.nd (sdi_seq (sd_sl (sd_var 5) sdo_none (sdo_some sd_int))) (blkOk_by (by kernel_rfl)) (fun _ _ _ _ _ => (sdg_name 26 sc_law.nd)) (fun _ _ _ _ _ => sdts_nil) (fun _ _ _ _ _ => (sd_tup (sda_cons (sd_var 26) (sda_cons (sd_call Fs.f_worth (hr.mono (by omega)) rfl (sda_cons (sd_var 2) (sda_cons (sd_var 26) sda_nil))) sda_nil))))) sda_nil)) (sd_var 2) (nomark _)))))) (sb_cons (ss_ret sd_bl)
    sb_nil) sb_nil)
    (sb_cons (ss_setLc (i := 16) [("k", 27)] rfl sc_law.nd (sdi_rng1 rfl T.b_range (sd_call Fs.f_law_roll (hr.mono (by omega)) rfl (sda_cons (sd_var 1) (sda_cons sd_int sda_nil)))) (blkOk_by (by kernel_rfl)) (fun _ _ _ _ _ => (sdg_name 27 sc_law.nd)) (fun _ _ _ _ _ => sdts_nil) (fun _ _ _ _ _ => (sd_tup (sda_cons (sd_bin od_sub (sd_call Fs.f_law_roll (hr.mono (by omega)) rfl (sda_cons (sd_var 1) (sda_cons sd_int sda_nil))) sd_int) (sda_cons sd_int sda_nil)))) (sw_true rfl rfl rfl (by kernel_rfl)))
    (sb_cons (ss_setLc (i := 17) [("k", 27)] rfl sc_law.nd (sdi_rng1 rfl T.b_range (sd_call Fs.f_law_roll (hr.mono (by omega)) rfl (sda_cons (sd_var 1) (sda_cons sd_int sda_nil)))) (blkOk_by (by kernel_rfl)) (fun _ _ _ _ _ => (sdg_name 27 sc_law.nd)) (fun _ _ _ _ _ => sdts_nil) (fun _ _ _ _ _ => (sd_tup (sda_cons (sd_bin od_sub (sd_call Fs.f_law_roll (hr.mono (by omega)) rfl (sda_cons (sd_var 1) (sda_cons sd_int sda_nil))) sd_int) (sda_cons sd_int sda_nil)))) (sw_true rfl rfl rfl (by kernel_rfl)))
    (sb_cons (ss_set (sdg_tup rfl (sdgs_cons (sdg_name 18 sc_law.nd) (sdgs_cons (sdg_name 19 sc_law.nd) sdgs_nil)) rfl) (sd_tup (sda_cons (sd_tup (sda_cons (sd_tup (sda_cons sd_int (sda_cons sd_int sda_nil))) sda_nil)) (sda_cons (sd_tup (sda_cons (sd_tup (sda_cons sd_int (sda_cons sd_int sda_nil))) sda_nil)) sda_nil))))
    (sb_cons (ss_for (passes_of rfl) rfl (sdi_seq (sd_var 16)) (sdg_name 20 sc_law.nd) (sb_cons (ss_set (sdg_name 18 sc_law.nd) (sd_call Fs.f_multiplied (hr.mono (by omega)) rfl (sda_cons (sd_var 18) (sda_cons (sd_call Fs.f_curve (hr.mono (by omega)) rfl (sda_cons (sd_lst (sda_cons (sd_call Fs.f_minus (hr.mono (by omega)) rfl (sda_cons (sd_tup (sda_cons sd_int (sda_cons sd_int sda_nil))) (sda_cons (sd_var 20) sda_nil))) (sda_cons (sd_tup (sda_cons sd_int (sda_cons sd_int sda_nil))) sda_nil))) sda_nil)) sda_nil))))
    sb_nil))
    (sb_cons (ss_for (passes_of rfl) rfl (sdi_seq (sd_var 17)) (sdg_name 20 sc_law.nd) (sb_cons (ss_set (sdg_name 19 sc_law.nd) (sd_call Fs.f_multiplied (hr.mono (by omega)) rfl (sda_cons (sd_var 19) (sda_cons (sd_call Fs.f_curve (hr.mono (by omega)) rfl (sda_cons (sd_lst (sda_cons (sd_call Fs.f_minus (hr.mono (by omega)) rfl (sda_cons (sd_tup (sda_cons sd_int (sda_cons sd_int sda_nil))) (sda_cons (sd_var 20) sda_nil))) (sda_cons (sd_tup (sda_cons sd_int (sda_cons sd_int sda_nil))) sda_nil))) sda_nil)) sda_nil))))
    sb_nil))
    (sb_cons (ss_set (sdg_name 21 sc_law.nd) (sd_tup (sda_cons (sd_tup (sda_cons sd_int (sda_cons sd_int sda_nil))) sda_nil)))
    (sb_cons (ss_for (passes_of rfl) rfl (sdi_seq (sd_callB (pr_sorted rfl (hr.units)) rfl T.b_sorted (by decide +kernel) (sda_cons (sd_dctP (hr.units) rfl hqP hqW rfl T.b_dict (by decide +kernel) (sd_lc [("root", 20)] rfl sc_law.nd (sdi_seq (sd_var 16)) (blkOk_by (by kernel_rfl)) (fun _ _ _ _ _ => (sdg_name 20 sc_law.nd)) (fun _ _ _ _ _ => sdts_nil) (fun _ _ _ _ _ => (sd_tup (sda_cons (sd_var 20) (sda_cons sd_int sda_nil)))))) sda_nil))) (sdg_name 20 sc_law.nd) (sb_cons (ss_for (passes_of rfl) rfl (sdi_rng1 rfl T.b_range (sd_callB (pr_min2 rfl) rfl T.b_min (by decide +kernel) (sda_cons (sd_lcount (hr.units) (sd_var 16) (sd_var 20)) (sda_cons (sd_lcount (hr.units) (sd_var 17) (sd_var 20)) sda_nil)))) (sdg_name 22 sc_law.nd) (sb_cons (ss_set (sdg_name 21 sc_law.nd) (sd_call Fs.f_multiplied (hr.mono (by omega)) rfl (sda_cons (sd_var 21) (sda_cons (sd_call Fs.f_curve (hr.mono (by omega)) rfl (sda_cons (sd_lst (sda_cons (sd_call Fs.f_minus (hr.mono (by omega)) rfl (sda_cons (sd_tup (sda_cons sd_int (sda_cons sd_int sda_nil))) (sda_cons (sd_var 20) sda_nil))) (sda_cons (sd_tup (sda_cons sd_int (sda_cons sd_int sda_nil))) sda_nil))) sda_nil)) sda_nil))))
    sb_nil))
    sb_nil))
    (sb_cons (ss_if (TdW.td (tw_or (td_cmp (od_ne hr.units) (sd_call Fs.f_shared_curve (hr.mono (by omega)) rfl (sda_cons (sd_var 18) (sda_cons (sd_var 19) sda_nil))) (sd_var 21) (nomark _)) (tw_or (td_cmp (od_ne hr.units) (sd_call Fs.f_shared_curve (hr.mono (by omega)) rfl (sda_cons (sd_var 18) (sda_cons (sd_tup sda_nil) sda_nil))) (sd_call Fs.f_scaled_curve (hr.mono (by omega)) rfl (sda_cons (sd_var 18) (sda_cons (sd_tup (sda_cons sd_int (sda_cons sd_int sda_nil))) sda_nil))) (nomark _)) (tw_or1 (td_cmp (od_ne hr.units) (sd_call Fs.f_shared_curve (hr.mono (by omega)) rfl (sda_cons (sd_tup sda_nil) (sda_cons (sd_tup sda_nil) sda_nil))) (sd_tup sda_nil) (nomark _)))))) (sb_cons (ss_ret sd_bl)
    sb_nil) sb_nil)
    (sb_cons (ss_set (sdg_name 23 sc_law.nd) (sd_call Fs.f_law_roll (hr.mono (by omega)) rfl (sda_cons (sd_var 1) (sda_cons sd_int sda_nil))))
    (sb_cons (ss_if (td_cmp (od_ne hr.units) (sd_lc [("at", 6)] rfl sc_law.nd (sdi_seq (sd_var 5)) (blkOk_by (by kernel_rfl)) (fun _ _ _ _ _ => (sdg_name 6 sc_law.nd)) (fun _ _ _ _ _ => (sdts_one (td_cmp (od_ne hr.units) (sd_call Fs.f_worth (hr.mono (by omega)) rfl (sda_cons (sd_call Fs.f_powers (hr.mono (by omega)) rfl (sda_cons (sd_var 23) sda_nil)) (sda_cons (sd_var 6) sda_nil))) (sd_call Fs.f_product (hr.mono (by omega)) rfl (sda_cons (sd_bin od_mul (sd_lst (sda_cons (sd_var 6) sda_nil)) (sd_var 23)) sda_nil)) (nomark _)))) (fun _ _ _ _ _ => (sd_var 6))) (sd_lst sda_nil) (nomark _)) (sb_cons (ss_ret sd_bl)
    sb_nil) sb_nil)
    sb_nil)))))))))))))))))))))))
    (sb_cons (ss_set (sdg_name 24 sc_law.nd) (sd_lst (sda_cons (sd_tup (sda_cons (sd_lam (k := 0) (by rw [hLD]; rfl) TB hcode hmT huT (by decide +kernel)) (sda_cons sd_str sda_nil))) (sda_cons (sd_tup (sda_cons (sd_lam (k := 1) (by rw [hLD]; rfl) TB hcode hmT huT (by decide +kernel)) (sda_cons sd_str sda_nil))) (sda_cons (sd_tup (sda_cons (sd_lam (k := 2) (by rw [hLD]; rfl) TB hcode hmT huT (by decide +kernel)) (sda_cons sd_str sda_nil))) (sda_cons (sd_tup (sda_cons (sd_lam (k := 3) (by rw [hLD]; rfl) TB hcode hmT huT (by decide +kernel)) (sda_cons sd_str sda_nil))) sda_nil))))))
    (sb_cons (ss_ret (sd_and (sd_cmp (od_eq hr.units) (sd_lc [("pair", 28)] rfl sc_law.nd (sdi_seq (sd_var 24)) (blkOk_by (by kernel_rfl)) (fun _ _ _ _ _ => (sdg_name 28 sc_law.nd)) (fun _ _ _ _ _ => (sdts_one (td_cmp (od_ne hr.units) (sd_call Fs.f_law_told (hr.mono (by omega)) rfl (sda_cons (sd_ix (ix_all (hr.units) hqP hqW) (sd_var 28) sd_int) sda_nil)) (sd_ix (ix_all (hr.units) hqP hqW) (sd_var 28) sd_int) (nomark _)))) (fun _ _ _ _ _ => (sd_var 28))) (sd_lst sda_nil) (nomark _)) (sd_and (sd_cmp (od_eq hr.units) (sd_call Fs.f_curve (hr.mono (by omega)) rfl (sda_cons (sd_lst (sda_cons (sd_tup (sda_cons sd_int (sda_cons sd_int sda_nil))) (sda_cons (sd_tup (sda_cons sd_int (sda_cons sd_int sda_nil))) sda_nil))) sda_nil)) (sd_tup (sda_cons (sd_tup (sda_cons sd_int (sda_cons sd_int sda_nil))) sda_nil)) (nomark _)) (sd_and (sd_cmp (od_eq hr.units) (sd_call Fs.f_through (hr.mono (by omega)) rfl (sda_cons (sd_lst sda_nil) sda_nil)) (sd_tup sda_nil) (nomark _)) (sd_one (sd_cmp (od_eq hr.units) (sd_call Fs.f_power_of (hr.mono (by omega)) rfl (sda_cons (sd_tup sda_nil) sda_nil)) (sd_bin od_sub sd_int sd_int) (nomark _)))))))
    sb_nil)))
end
end LK
end
/-! ## R1 -/
section
set_option linter.all false
/-! Polynomials over the parts, as lists of coefficients. -/
namespace RP
def ev : List Rat → Rat → Rat
  | [], _ => 0
  | a :: l, x => a + x * ev l x
def trim : List Rat → List Rat
  | [] => []
  | a :: l => match trim l with
    | [] => if a = 0 then [] else [a]
    | b :: r => a :: b :: r
abbrev Tr (l : List Rat) : Prop := trim l = l
theorem trim_cons_nil {a : Rat} {l : List Rat} (h : trim l = []) : trim (a :: l) = if a = 0 then [] else [a] := by simp only [trim, h]
theorem trim_cons_ne {a : Rat} {l : List Rat} (h : trim l ≠ []) : trim (a :: l) = a :: trim l := by
  cases e : trim l with
  | nil => exact absurd e h
  | cons b r => simp only [trim, e]
theorem ev_trim (x : Rat) : ∀ l : List Rat, ev (trim l) x = ev l x
  | [] => rfl
  | a :: l => by
    have ih := ev_trim x l
    by_cases h : trim l = []
    · rw [trim_cons_nil h]
      rw [h] at ih
      by_cases ha : a = 0
      · rw [if_pos ha]
        show (0 : Rat) = a + x * ev l x
        rw [← ih, ha]
        show (0 : Rat) = 0 + x * 0
        grind
      · rw [if_neg ha]
        show a + x * 0 = a + x * ev l x
        rw [← ih]
        rfl
    · rw [trim_cons_ne h]
      show a + x * ev (trim l) x = a + x * ev l x
      rw [ih]
theorem trim_len : ∀ l : List Rat, (trim l).length ≤ l.length
  | [] => Nat.le_refl _
  | a :: l => by
    have ih := trim_len l
    by_cases h : trim l = []
    · rw [trim_cons_nil h]
      split <;> simp
    · rw [trim_cons_ne h]
      simp only [List.length_cons]
      omega
theorem trim_trim : ∀ l : List Rat, Tr (trim l)
  | [] => rfl
  | a :: l => by
    have ih : trim (trim l) = trim l := trim_trim l
    show trim (trim (a :: l)) = trim (a :: l)
    by_cases h : trim l = []
    · rw [trim_cons_nil h]
      by_cases ha : a = 0
      · rw [if_pos ha]; rfl
      · rw [if_neg ha, trim_cons_nil rfl, if_neg ha]
    · rw [trim_cons_ne h, trim_cons_ne (by rw [ih]; exact h), ih]
theorem trim_mem : ∀ {l : List Rat} {r : Rat}, r ∈ trim l → r ∈ l
  | [], r, h => h
  | a :: l, r, h => by
    by_cases e : trim l = []
    · rw [trim_cons_nil e] at h
      split at h
      · cases h
      · exact List.mem_cons.mpr (.inl (List.mem_singleton.mp h))
    · rw [trim_cons_ne e] at h
      rcases List.mem_cons.mp h with h | h
      · exact List.mem_cons.mpr (.inl h)
      · exact List.mem_cons_of_mem _ (trim_mem h)
theorem trim_snoc0 : ∀ l : List Rat, trim (l ++ [0]) = trim l
  | [] => by simp [trim]
  | a :: l => by
    have ih := trim_snoc0 l
    show trim (a :: (l ++ [0])) = trim (a :: l)
    by_cases h : trim l = []
    · rw [trim_cons_nil h, trim_cons_nil (by rw [ih]; exact h)]
    · rw [trim_cons_ne h, trim_cons_ne (by rw [ih]; exact h), ih]
theorem trim_snoc {a : Rat} (h : a ≠ 0) : ∀ l : List Rat, trim (l ++ [a]) = l ++ [a]
  | [] => by simp [trim, h]
  | b :: l => by
    have ih := trim_snoc h l
    show trim (b :: (l ++ [a])) = b :: (l ++ [a])
    rw [trim_cons_ne (by rw [ih]; simp), ih]
theorem Tr.last {l : List Rat} (h : Tr l) {a : Rat} (hl : l.getLast? = some a) : a ≠ 0 := by
  intro e
  subst e
  obtain ⟨r, rfl⟩ := List.getLast?_eq_some_iff.mp hl
  have h1 : trim (r ++ [0]) = r ++ [0] := h
  rw [trim_snoc0] at h1
  have := trim_len r
  rw [h1] at this
  simp at this
  omega
theorem tr_of_last {l : List Rat} (h : ∀ a, l.getLast? = some a → a ≠ 0) : Tr l := by
  cases hl : l.getLast? with
  | none => rw [List.getLast?_eq_none_iff] at hl; subst hl; rfl
  | some a =>
    obtain ⟨r, rfl⟩ := List.getLast?_eq_some_iff.mp hl
    exact trim_snoc (h a hl) r
/-! ### zero everywhere -/
def addP : List Rat → List Rat → List Rat
  | [], q => q
  | p, [] => p
  | a :: p, b :: q => (a + b) :: addP p q
def scP (c : Rat) (p : List Rat) : List Rat := p.map (c * ·)
theorem ev_add (x : Rat) : ∀ p q : List Rat, ev (addP p q) x = ev p x + ev q x
  | [], q => by
    have : addP [] q = q := by cases q <;> rfl
    rw [this]; show _ = 0 + _; grind
  | a :: p, [] => by show _ = _ + (0 : Rat); simp only [addP]; grind
  | a :: p, b :: q => by
    have ih := ev_add x p q
    show (a + b) + x * ev (addP p q) x = (a + x * ev p x) + (b + x * ev q x)
    rw [ih]; grind
theorem ev_sc (c x : Rat) : ∀ p : List Rat, ev (scP c p) x = c * ev p x
  | [] => by show (0 : Rat) = c * 0; grind
  | a :: p => by
    have ih := ev_sc c x p
    show c * a + x * ev (scP c p) x = c * (a + x * ev p x)
    rw [ih]; grind
theorem add_len : ∀ p q : List Rat, (addP p q).length = max p.length q.length
  | [], q => by
    have : addP [] q = q := by cases q <;> rfl
    rw [this]; simp
  | a :: p, [] => by simp [addP]
  | a :: p, b :: q => by
    have ih := add_len p q
    show (addP p q).length + 1 = max (p.length + 1) (q.length + 1)
    omega
def syn (r : Rat) : List Rat → List Rat
  | [] => []
  | _ :: t => addP t (scP r (syn r t))
theorem syn_len (r : Rat) : ∀ l : List Rat, (syn r l).length ≤ l.length - 1
  | [] => Nat.le_refl _
  | a :: t => by
    have ih := syn_len r t
    show (addP t (scP r (syn r t))).length ≤ t.length + 1 - 1
    rw [add_len]
    simp only [scP, List.length_map]
    omega
theorem ev_syn (r x : Rat) : ∀ l : List Rat, ev l x - ev l r = (x - r) * ev (syn r l) x
  | [] => by show (0 : Rat) - 0 = (x - r) * 0; grind
  | a :: t => by
    have ih := ev_syn r x t
    show (a + x * ev t x) - (a + r * ev t r) = (x - r) * ev (addP t (scP r (syn r t))) x
    rw [ev_add, ev_sc]
    grind
theorem zero_of_roots : ∀ (n : Nat) (l rs : List Rat), l.length ≤ n → rs.length = n → rs.Nodup → (∀ r ∈ rs, ev l r = 0) → ∀ x, ev l x = 0
  | 0, l, rs, hl, _, _, _, x => by
    have : l = [] := List.eq_nil_of_length_eq_zero (by omega)
    subst this; rfl
  | n + 1, l, [], _, h, _, _, _ => by cases h
  | n + 1, l, r :: rs, hl, hr, hn, h, x => by
    have h0 := h r (List.mem_cons_self ..)
    obtain ⟨h1, h2⟩ := List.nodup_cons.mp hn
    have hs := syn_len r l
    have ih := zero_of_roots n (syn r l) rs (by omega) (by simpa using hr) h2 fun s hs => by
      have e := ev_syn r s l
      rw [h0, h s (List.mem_cons_of_mem _ hs)] at e
      have ne : s - r ≠ 0 := fun e0 => h1 (by have : s = r := by grind
                                              rw [← this]; exact hs)
      grind
    have e := ev_syn r x l
    rw [h0, ih x] at e
    grind
theorem coef_zero : ∀ (n : Nat) (l : List Rat), l.length ≤ n → (∀ x, ev l x = 0) → ∀ c ∈ l, c = 0
  | 0, l, hl, _, c, hc => by
    have : l = [] := List.eq_nil_of_length_eq_zero (by omega)
    subst this; cases hc
  | n + 1, [], _, _, c, hc => by cases hc
  | n + 1, a :: t, hl, h, c, hc => by
    have ha : a = 0 := by
      have := h 0
      have e : ev (a :: t) 0 = a + 0 * ev t 0 := rfl
      rw [e] at this
      grind
    have ht : ∀ x, x ≠ 0 → ev t x = 0 := fun x hx => by
      have := h x
      have e : ev (a :: t) x = a + x * ev t x := rfl
      rw [e, ha] at this
      grind
    have hl' : t.length ≤ n := by simpa using hl
    have hz := zero_of_roots n t ((List.range n).map fun (k : Nat) => ((k : Rat) + 1)) hl' (by simp) (by
      rw [List.nodup_iff_pairwise_ne, List.pairwise_map]
      refine List.Pairwise.imp ?_ (List.nodup_iff_pairwise_ne.mp List.nodup_range)
      intro a b hab e
      have e1 : (a : Rat) = (b : Rat) := by grind
      exact hab (by exact_mod_cast e1)) fun r hr => by
      obtain ⟨k, _, rfl⟩ := List.mem_map.mp hr
      refine ht _ fun e => ?_
      have : ((k + 1 : Nat) : Rat) = 0 := by push_cast; exact e
      have := Rat.natCast_eq_zero_iff.mp this
      omega
    rcases List.mem_cons.mp hc with rfl | hc
    · exact ha
    · exact coef_zero n t hl' hz c hc
theorem tr_zero : ∀ {l : List Rat}, (∀ c ∈ l, c = 0) → trim l = []
  | [], _ => rfl
  | a :: l, h => by
    rw [trim_cons_nil (tr_zero fun c hc => h c (List.mem_cons_of_mem _ hc)), if_pos (h a (List.mem_cons_self ..))]
theorem tr_tail {a : Rat} {l : List Rat} (h : Tr (a :: l)) : Tr l := by
  by_cases e : trim l = []
  · have h : trim (a :: l) = a :: l := h
    rw [trim_cons_nil e] at h
    split at h
    · cases h
    · injection h with _ h2
      show trim l = l
      rw [e, h2]
  · have h : trim (a :: l) = a :: l := h
    rw [trim_cons_ne e] at h
    injection h
/-- alike everywhere: the same -/
theorem tr_ext : ∀ {p q : List Rat}, Tr p → Tr q → (∀ x, ev p x = ev q x) → p = q
  | [], [], _, _, _ => rfl
  | [], b :: q, _, hq, h => by
    have z := coef_zero _ (b :: q) (Nat.le_refl _) fun x => (h x).symm
    have := tr_zero z
    rw [hq] at this
    cases this
  | a :: p, [], hp, _, h => by
    have z := coef_zero _ (a :: p) (Nat.le_refl _) fun x => h x
    have := tr_zero z
    rw [hp] at this
    cases this
  | a :: p, b :: q, hp, hq, h => by
    have ha : a = b := by
      have := h 0
      have e1 : ev (a :: p) 0 = a + 0 * ev p 0 := rfl
      have e2 : ev (b :: q) 0 = b + 0 * ev q 0 := rfl
      rw [e1, e2] at this
      grind
    subst ha
    have ht : ∀ x, ev p x = ev q x := fun x => by
      have hz : ∀ y, ev (addP (a :: p) (scP (-1) (a :: q))) y = 0 := fun y => by
        rw [ev_add, ev_sc, h y]; grind
      have z := coef_zero _ _ (Nat.le_refl _) hz
      have e : ∀ y, ev (addP p (scP (-1) q)) y = 0 := fun y => by
        have z2 : ∀ c ∈ addP p (scP (-1) q), c = 0 := fun c hc => z c (List.mem_cons_of_mem _ hc)
        have := ev_trim y (addP p (scP (-1) q))
        rw [tr_zero z2] at this
        exact this.symm
      have := e x
      rw [ev_add, ev_sc] at this
      grind
    rw [tr_ext (tr_tail hp) (tr_tail hq) ht]
theorem trim_ext {p q : List Rat} (h : ∀ x, ev p x = ev q x) : trim p = trim q := tr_ext (trim_trim p) (trim_trim q) fun x => by rw [ev_trim, ev_trim, h x]
/-- alike at enough places -/
theorem ev_ext {p q rs : List Rat} (hn : rs.Nodup) (h1 : p.length ≤ rs.length) (h2 : q.length ≤ rs.length) (h : ∀ r ∈ rs, ev p r = ev q r) : ∀ x, ev p x = ev q x := fun x => by
  have z := zero_of_roots rs.length (addP p (scP (-1) q)) rs (by rw [add_len]; simp only [scP, List.length_map]; omega) rfl hn (fun r hr => by rw [ev_add, ev_sc, h r hr]; grind) x
  rw [ev_add, ev_sc] at z
  grind
/-! ### products -/
def mulP : List Rat → List Rat → List Rat
  | [], _ => []
  | a :: p, q => addP (scP a q) (0 :: mulP p q)
theorem ev_mul (x : Rat) : ∀ p q : List Rat, ev (mulP p q) x = ev p x * ev q x
  | [], q => by show (0 : Rat) = 0 * _; grind
  | a :: p, q => by
    have ih := ev_mul x p q
    show ev (addP (scP a q) (0 :: mulP p q)) x = (a + x * ev p x) * ev q x
    rw [ev_add, ev_sc]
    show a * ev q x + (0 + x * ev (mulP p q) x) = _
    rw [ih]; grind
theorem mul_len : ∀ p q : List Rat, (mulP p q).length ≤ p.length + q.length - 1 ∨ q = []
  | [], q => .inl (Nat.zero_le _)
  | a :: p, [] => .inr rfl
  | a :: p, b :: q => by
    rcases mul_len p (b :: q) with ih | ih
    · refine .inl ?_
      show (addP (scP a (b :: q)) (0 :: mulP p (b :: q))).length ≤ p.length + 1 + (q.length + 1) - 1
      rw [add_len]
      simp only [scP, List.length_map, List.length_cons] at *
      omega
    · cases ih
/-! ### stores -/
theorem ev_set (c x : Rat) : ∀ (F : List Rat) (k : Nat), k < F.length → ev (F.set k (F.getD k 0 + c)) x = ev F x + c * x ^ k
  | [], k, h => by cases h
  | a :: F, 0, _ => by
    show (a + c) + x * ev F x = (a + x * ev F x) + c * x ^ 0
    grind
  | a :: F, k + 1, h => by
    have ih := ev_set c x F k (by simpa using h)
    show a + x * ev (F.set k (F.getD k 0 + c)) x = (a + x * ev F x) + c * x ^ (k + 1)
    rw [ih]; grind
theorem ev_rep (x : Rat) : ∀ n : Nat, ev (List.replicate n 0) x = 0
  | 0 => rfl
  | n + 1 => by
    show (0 : Rat) + x * ev (List.replicate n 0) x = 0
    rw [ev_rep x n]; grind
theorem ev_app (x : Rat) : ∀ p q : List Rat, ev (p ++ q) x = ev p x + x ^ p.length * ev q x
  | [], q => by show ev q x = 0 + x ^ 0 * ev q x; grind
  | a :: p, q => by
    have ih := ev_app x p q
    show a + x * ev (p ++ q) x = (a + x * ev p x) + x ^ (p.length + 1) * ev q x
    rw [ih]; grind
/-! ### bounds -/
/-- a part of D, at most B of them -/
def Bd (D B : Nat) (r : Rat) : Prop := ∃ k : Int, r = (k : Rat) / (D : Rat) ∧ k.natAbs ≤ B ∧ 0 < D
theorem Bd.add {D B C : Nat} {a b : Rat} (h1 : Bd D B a) (h2 : Bd D C b) : Bd D (B + C) (a + b) := by
  obtain ⟨k, rfl, hk, hD⟩ := h1
  obtain ⟨j, rfl, hj, _⟩ := h2
  refine ⟨k + j, ?_, by omega, hD⟩
  rw [Rat.intCast_add]
  grind
theorem Bd.neg {D B : Nat} {a : Rat} (h1 : Bd D B a) : Bd D B (-a) := by
  obtain ⟨k, rfl, hk, hD⟩ := h1
  refine ⟨-k, ?_, by omega, hD⟩
  rw [Rat.intCast_neg]
  grind
theorem Bd.sub {D B C : Nat} {a b : Rat} (h1 : Bd D B a) (h2 : Bd D C b) : Bd D (B + C) (a - b) := by
  rw [Rat.sub_eq_add_neg]
  exact h1.add h2.neg
theorem Bd.mul {D B E C : Nat} {a b : Rat} (h1 : Bd D B a) (h2 : Bd E C b) : Bd (D * E) (B * C) (a * b) := by
  obtain ⟨k, rfl, hk, hD⟩ := h1
  obtain ⟨j, rfl, hj, hE⟩ := h2
  refine ⟨k * j, ?_, by rw [Int.natAbs_mul]; exact Nat.mul_le_mul hk hj, Nat.mul_pos hD hE⟩
  have hD' : (D : Rat) ≠ 0 := fun e => by have := Rat.natCast_eq_zero_iff.mp e; omega
  have hE' : (E : Rat) ≠ 0 := fun e => by have := Rat.natCast_eq_zero_iff.mp e; omega
  rw [Rat.intCast_mul, Rat.natCast_mul]
  grind
theorem Bd.mono {D B C : Nat} {a : Rat} (h1 : Bd D B a) (h : B ≤ C) : Bd D C a := by
  obtain ⟨k, e, hk, hD⟩ := h1
  exact ⟨k, e, by omega, hD⟩
theorem Bd.up {D B E : Nat} {a : Rat} (h1 : Bd D B a) (hE : 0 < E) : Bd (D * E) (B * E) a := by
  have h2 : Bd E E (1 : Rat) := ⟨(E : Int), by
    have hE' : (E : Rat) ≠ 0 := fun e => by have := Rat.natCast_eq_zero_iff.mp e; omega
    rw [Rat.intCast_natCast]; grind, by omega, hE⟩
  have := h1.mul h2
  rw [Rat.mul_one] at this
  exact this
theorem Bd.int {k : Int} {B : Nat} (h : k.natAbs ≤ B) : Bd 1 B (k : Rat) := ⟨k, by grind, h, by decide⟩
theorem Bd.zero {D : Nat} (h : 0 < D) : Bd D 0 0 := ⟨0, by grind, by decide, h⟩
end RP
end
/-! ## R2 -/
section
set_option Elab.async false
set_option linter.all false
set_option maxRecDepth 200000
set_option maxHeartbeats 8000000
namespace LK
open PySem PV RP
abbrev Sa (n : Nat) : PV.Sem := semAt prog n
theorem cal_at (n g : Nat) {f : Fn} (h1 : g ≠ prog.toldI) (h : prog.fns[g]? = some f) (args : List D) (G : Gs) : (Sa (n + 1)).cal g args G = runFn (Sa n) f args G := by
  show calAt (semAt prog n) prog g args G = _
  unfold calAt
  rw [if_neg h1, h]
def gOf (t l : Int) : Int := if l < 0 then -((Nat.gcd t.natAbs l.natAbs : Nat) : Int) else ((Nat.gcd t.natAbs l.natAbs : Nat) : Int)
def pq (t l : Int) : Int × Int := (t.fdiv (gOf t l), l.fdiv (gOf t l))
theorem gOf_pos {t l : Int} (hl : 0 < l) : 0 < gOf t l ∧ gOf t l ≤ l := by
  unfold gOf
  rw [if_neg (by omega)]
  have h1 : 0 < Nat.gcd t.natAbs l.natAbs := Nat.gcd_pos_of_pos_right _ (by omega)
  have h2 := Nat.gcd_le_right t.natAbs (show 0 < l.natAbs by omega)
  omega
theorem ok_div {t l : Int} {m : Nat} (hl : 0 < l) (hb : l.natAbs < 2 ^ m) (hm : m ≤ 9000) : okDiv (gOf t l) = true := by
  obtain ⟨h1, h2⟩ := gOf_pos (t := t) hl
  have h3 : (gOf t l).natAbs < 2 ^ m := by omega
  have h0 : 0 < m := by
    rcases Nat.eq_zero_or_pos m with e | e
    · subst e
      omega
    · exact e
  have h4 := log_lt h3 h0
  simp [okDiv]
  left
  omega
/-- the divisor divides both -/
theorem gOf_dvd (t l : Int) : gOf t l ∣ t ∧ gOf t l ∣ l := by
  have h1 : ((Nat.gcd t.natAbs l.natAbs : Nat) : Int) ∣ t := Int.ofNat_dvd_left.mpr (Nat.gcd_dvd_left _ _)
  have h2 : ((Nat.gcd t.natAbs l.natAbs : Nat) : Int) ∣ l := Int.ofNat_dvd_left.mpr (Nat.gcd_dvd_right _ _)
  unfold gOf
  split
  · exact ⟨Int.neg_dvd.mpr h1, Int.neg_dvd.mpr h2⟩
  · exact ⟨h1, h2⟩
theorem gOf_ne {t l : Int} (h : l ≠ 0) : gOf t l ≠ 0 := by
  have h1 : 0 < Nat.gcd t.natAbs l.natAbs := Nat.gcd_pos_of_pos_right _ (by omega)
  unfold gOf
  split <;> omega
theorem fdiv_mul {g t : Int} (h : g ∣ t) : t.fdiv g * g = t := by
  rw [Int.fdiv_eq_ediv_of_dvd h]
  exact Int.ediv_mul_cancel h
theorem pq1 (t l : Int) : (pq t l).1 * gOf t l = t := fdiv_mul (gOf_dvd t l).1
theorem pq2 (t l : Int) : (pq t l).2 * gOf t l = l := fdiv_mul (gOf_dvd t l).2
theorem pq_cross (t l : Int) : (pq t l).1 * l = t * (pq t l).2 := by
  have h1 := pq1 t l
  have h2 := pq2 t l
  grind
theorem pq_pos {t l : Int} (h : l ≠ 0) : 0 < (pq t l).2 := by
  have h2 := pq2 t l
  have h3 := gOf_ne (t := t) h
  have hg : (0 < l → 0 < gOf t l) ∧ (l < 0 → gOf t l < 0) := by
    have h1 : 0 < Nat.gcd t.natAbs l.natAbs := Nat.gcd_pos_of_pos_right _ (by omega)
    unfold gOf
    split <;> omega
  generalize hg' : gOf t l = g at *
  generalize hy : (pq t l).2 = y at *
  rcases Int.lt_trichotomy y 0 with hy0 | hy0 | hy0
  · exfalso
    rcases Int.lt_or_gt_of_ne h with hl | hl
    · have := Int.mul_pos_of_neg_of_neg hy0 (hg.2 hl)
      omega
    · have := Int.mul_neg_of_neg_of_pos hy0 (hg.1 hl)
      omega
  · subst hy0
    simp at h2
    omega
  · exact hy0
theorem pq_cop {t l : Int} (h : l ≠ 0) : Nat.gcd (pq t l).1.natAbs (pq t l).2.natAbs = 1 := by
  have h1 := congrArg Int.natAbs (pq1 t l)
  have h2 := congrArg Int.natAbs (pq2 t l)
  rw [Int.natAbs_mul] at h1 h2
  have hg : (gOf t l).natAbs = Nat.gcd t.natAbs l.natAbs := by
    unfold gOf
    split <;> omega
  have h0 : 0 < Nat.gcd t.natAbs l.natAbs := Nat.gcd_pos_of_pos_right _ (by omega)
  have e := Nat.gcd_mul_right (pq t l).1.natAbs (gOf t l).natAbs (pq t l).2.natAbs
  rw [h1, h2, hg] at e
  exact Nat.eq_of_mul_eq_mul_right h0 (by omega)
theorem red_eq {x y u v : Int} (hy : 0 < y) (hv : 0 < v) (h1 : Nat.gcd x.natAbs y.natAbs = 1) (h2 : Nat.gcd u.natAbs v.natAbs = 1) (h : x * v = u * y) : x = u ∧ y = v := by
  have e := congrArg Int.natAbs h
  rw [Int.natAbs_mul, Int.natAbs_mul] at e
  have d1 : y.natAbs ∣ v.natAbs := by
    have : y.natAbs ∣ x.natAbs * v.natAbs := ⟨u.natAbs, by rw [e, Nat.mul_comm]⟩
    exact Nat.Coprime.dvd_of_dvd_mul_left (by show Nat.gcd _ _ = 1; rw [Nat.gcd_comm]; exact h1) this
  have d2 : v.natAbs ∣ y.natAbs := by
    have : v.natAbs ∣ u.natAbs * y.natAbs := ⟨x.natAbs, by rw [← e, Nat.mul_comm]⟩
    exact Nat.Coprime.dvd_of_dvd_mul_left (by show Nat.gcd _ _ = 1; rw [Nat.gcd_comm]; exact h2) this
  have e2 := Nat.dvd_antisymm d1 d2
  have e3 : y = v := by omega
  subst e3
  exact ⟨Int.eq_of_mul_eq_mul_right (by omega) h, rfl⟩
theorem pq_eq {t l t' l' : Int} (h : l ≠ 0) (h' : l' ≠ 0) (e : t * l' = t' * l) : pq t l = pq t' l' := by
  have c1 := pq_cross t l
  have c2 := pq_cross t' l'
  have p1 := pq_pos (t := t) h
  have p2 := pq_pos (t := t') h'
  have k : (pq t l).1 * (pq t' l').2 = (pq t' l').1 * (pq t l).2 := by
    have : l * l' * ((pq t l).1 * (pq t' l').2) = l * l' * ((pq t' l').1 * (pq t l).2) := by grind
    exact Int.eq_of_mul_eq_mul_left (Int.mul_ne_zero h h') this
  obtain ⟨e1, e2⟩ := red_eq p1 p2 (pq_cop h) (pq_cop h') k
  exact Prod.ext e1 e2
theorem natAbs_le_of_mul {x g t : Int} (h : x * g = t) (hg : g ≠ 0) : x.natAbs ≤ t.natAbs := by
  rw [← h, Int.natAbs_mul]
  exact Nat.le_mul_of_pos_right _ (by omega)
theorem mul_lt2 {a b : Int} {m k : Nat} (ha : a.natAbs < 2 ^ m) (hb : b.natAbs < 2 ^ k) : (a * b).natAbs < 2 ^ (m + k) := by
  rw [Int.natAbs_mul, Nat.pow_add]
  exact Nat.mul_lt_mul'' ha hb

/-! parts -/
theorem rat_of {t l p q : Int} (hl : l ≠ 0) (hq : 0 < q) (hc : Nat.gcd p.natAbs q.natAbs = 1) (h : p * l = t * q) : ((t : Rat) / (l : Rat)).num = p ∧ ((((t : Rat) / (l : Rat)).den : Nat) : Int) = q := by
  have hn : q.toNat ≠ 0 := by omega
  have hc' : p.natAbs.Coprime q.toNat := by
    have : q.toNat = q.natAbs := by omega
    rw [this]; exact hc
  have e : (t : Rat) / (l : Rat) = ⟨p, q.toNat, hn, hc'⟩ := by
    rw [Rat.mk_eq_divInt, ← Rat.divInt_eq_div]
    have hq' : ((q.toNat : Nat) : Int) = q := by omega
    rw [hq', Rat.divInt_eq_divInt_iff hl (by omega)]
    exact h.symm
  rw [e]
  exact ⟨rfl, by show ((q.toNat : Nat) : Int) = q; omega⟩
def pt (r : Rat) : D := .tup [.int r.num, .int ((r.den : Nat) : Int)]
theorem pt_pq {t l : Int} (hl : l ≠ 0) : D.tup [.int (pq t l).1, .int (pq t l).2] = pt ((t : Rat) / (l : Rat)) := by
  obtain ⟨h1, h2⟩ := rat_of hl (pq_pos (t := t) hl) (pq_cop hl) (pq_cross t l)
  unfold pt
  rw [h1, h2]
theorem rat_eq (a : Rat) : a = (a.num : Rat) / (a.den : Rat) := by rw [← Rat.mkRat_eq_div, Rat.mkRat_self]
theorem den_ne (a : Rat) : (a.den : Rat) ≠ 0 := fun e => by have := Rat.natCast_eq_zero_iff.mp e; have := a.den_pos; omega
theorem num_zero {a : Rat} : a.num = 0 ↔ a = 0 := Rat.num_eq_zero
/-- fits -/
structure Fi (r : Rat) : Prop where
  a : r.num.natAbs < 2 ^ 4000
  b : r.den < 2 ^ 4000
theorem _root_.RP.Bd.fi {D B : Nat} {r : Rat} (h : Bd D B r) (h1 : D < 2 ^ 4000) (h2 : B < 2 ^ 4000) : Fi r := by
  obtain ⟨k, rfl, hk, hD⟩ := h
  have hl : (D : Int) ≠ 0 := by omega
  have e : ((k : Rat) / (D : Rat)) = (k : Rat) / ((D : Int) : Rat) := by rw [Rat.intCast_natCast]
  obtain ⟨e1, e2⟩ := rat_of hl (pq_pos (t := k) hl) (pq_cop hl) (pq_cross k D)
  have a1 := natAbs_le_of_mul (pq1 k D) (gOf_ne hl)
  have a2 := natAbs_le_of_mul (pq2 k D) (gOf_ne hl)
  refine ⟨?_, ?_⟩
  · rw [e, e1]
    exact Nat.lt_of_le_of_lt (Nat.le_trans a1 hk) h2
  · rw [e]
    have : (((k : Rat) / ((D : Int) : Rat)).den : Int) = (pq k D).2 := e2
    have p := pq_pos (t := k) hl
    have : ((k : Rat) / ((D : Int) : Rat)).den = (pq k D).2.natAbs := by omega
    rw [this]
    exact Nat.lt_of_le_of_lt (Nat.le_trans a2 (by omega)) h1
theorem gc_self {d : D} {G : Gs} : gcR G.length (.ok d G) = .ok d G := by
  show (if (free d && clean G.length G) = true then (R.ok d (G.take G.length) : R D) else .ok d G) = _
  split
  · rw [List.take_length]
  · rfl
theorem gc_exc {c : Nat} {G : Gs} : gcR G.length (.exc c G : R D) = .exc c G := by
  show (if clean G.length G = true then (R.exc c (G.take G.length) : R D) else .exc c G) = _
  split
  · rw [List.take_length]
  · rfl
theorem cal_shared (n : Nat) (a b : Int) (G : Gs) : (Sa (n + 1)).cal 0 [.int a, .int b] G = .ok (.int (Nat.gcd a.natAbs b.natAbs : Nat)) G := by
  show runFn (Sa n) m_shared [.int a, .int b] G = _
  exact (run_d m_shared (ρ := [some (.int a), some (.int b)]) rfl rfl (b_ret (s_ret (x_prim (x_es x_v (x_es x_v x_es0)) rfl)))).trans gc_self
theorem cal_part (n : Nat) (t l : Int) (G : Gs) (h0 : l ≠ 0) (hb : okDiv (gOf t l) = true) : (Sa (n + 2)).cal 1 [.int t, .int l] G = .ok (pt ((t : Rat) / (l : Rat))) G := by
  show runFn (Sa (n + 1)) m_part [.int t, .int l] G = _
  rw [← pt_pq h0, show pq t l = (t.fdiv (gOf t l), l.fdiv (gOf t l)) from rfl]
  generalize hg : gOf t l = g at hb ⊢
  have d1 : ∀ i, binD .fdiv (.int i) (.int g) = some (.int (i.fdiv g)) := fun i => bd i g hb
  unfold gOf at hg
  by_cases hl : l < 0
  · rw [if_pos hl] at hg
    simp [runFn, m_part, evE, evEs, evB, evS, rb, rof, rgo, rth, rtr, clt, ceq, eqD_int, h0, hl, cal_shared, PV.assign, szl, hg, d1, gc_self]
  · rw [if_neg hl] at hg
    simp [runFn, m_part, evE, evEs, evB, evS, rb, rof, rgo, rth, rtr, clt, ceq, eqD_int, h0, hl, cal_shared, PV.assign, szl, hg, d1, gc_self]
theorem cal_part0 (n : Nat) (t : Int) (G : Gs) : (Sa (n + 2)).cal 1 [.int t, .int 0] G = .exc 0 G := by
  show runFn (Sa (n + 1)) m_part [.int t, .int 0] G = _
  simp [runFn, m_part, evE, evEs, evB, evS, rb, rof, rgo, rth, rtr, clt, ceq, eqD_int, F.then, gc_exc]
theorem run_ret (S : PV.Sem) (e : PV.E) (ρ : PV.Env) (G : Gs) : (match evB S [.ret e] ρ G with | .next _ G' => (.ok .non G' : R D) | .ret d G' => .ok d G' | .exc c G' => .exc c G' | _ => .bad) = evE S ρ e G := by
  simp only [evB, evS]
  cases evE S ρ e G <;> rfl
theorem run_e (S : PV.Sem) (f : Fn) {e : PV.E} (hf : f.body = [.ret e]) {args : List D} {ρ : PV.Env} {G : Gs} {r : R D} (h : args.length = f.np) (hρ : args.map some ++ List.replicate (f.ns - f.np) none = ρ) (he : evE S ρ e G = r) : runFn S f args G = gcR G.length r := by
  subst hρ he
  unfold runFn
  rw [if_pos h, hf]
  exact congrArg (gcR G.length) (run_ret S e _ G)
theorem ix0 (G : Gs) (p : Rat) : ixD G (pt p) (.int 0) = some (.int p.num) := rfl
theorem ix1 (G : Gs) (p : Rat) : ixD G (pt p) (.int 1) = some (.int ((p.den : Nat) : Int)) := rfl
theorem ok_nd {a b : Rat} (ha : Fi a) (hb : Fi b) : okMul a.num ((b.den : Nat) : Int) = true := ok_mul (m := 4000) (k := 4000) ha.1 (by have := hb.2; simpa using this) (by decide)
theorem ok_dd {a b : Rat} (ha : Fi a) (hb : Fi b) : okMul ((a.den : Nat) : Int) ((b.den : Nat) : Int) = true := ok_mul (m := 4000) (k := 4000) (by have := ha.2; simpa using this) (by have := hb.2; simpa using this) (by decide)
theorem ok_nn {a b : Rat} (ha : Fi a) (hb : Fi b) : okMul a.num b.num = true := ok_mul (m := 4000) (k := 4000) ha.1 hb.1 (by decide)
theorem ok_dn {a b : Rat} (ha : Fi a) (hb : Fi b) : okMul ((a.den : Nat) : Int) b.num = true := ok_mul (m := 4000) (k := 4000) (by have := ha.2; simpa using this) hb.1 (by decide)
theorem dd_lt {a b : Rat} (ha : Fi a) (hb : Fi b) : (((a.den : Nat) : Int) * ((b.den : Nat) : Int)).natAbs < 2 ^ (4000 + 4000) := mul_lt2 (by have := ha.2; simpa using this) (by have := hb.2; simpa using this)
theorem dd_pos (a b : Rat) : 0 < ((a.den : Nat) : Int) * ((b.den : Nat) : Int) := Int.mul_pos (by have := a.den_pos; omega) (by have := b.den_pos; omega)
theorem cal_plus (n : Nat) {a b : Rat} (G : Gs) (ha : Fi a) (hb : Fi b) : (Sa (n + 3)).cal 2 [pt a, pt b] G = .ok (pt (a + b)) G := by
  have e : (Sa (n + 3)).cal 2 [pt a, pt b] G = _ := run_e (Sa (n + 2)) m_plus rfl (ρ := [some (pt a), some (pt b)]) rfl rfl
    (x_call (x_es (x_bin (x_bin (x_ix x_v x_c (ix0 _ a)) (x_ix x_v x_c (ix1 _ b)) (bm _ _ (ok_nd ha hb))) (x_bin (x_ix x_v x_c (ix0 _ b)) (x_ix x_v x_c (ix1 _ a)) (bm _ _ (ok_nd hb ha))) (ba _ _)) (x_es (x_bin (x_ix x_v x_c (ix1 _ a)) (x_ix x_v x_c (ix1 _ b)) (bm _ _ (ok_dd ha hb))) x_es0)) (cal_part n _ _ G (by have := dd_pos a b; omega) (ok_div (dd_pos a b) (dd_lt ha hb) (by decide))))
  rw [e, gc_self]
  congr 2
  rw [Rat.intCast_add, Rat.intCast_mul, Rat.intCast_mul, Rat.intCast_mul, Rat.intCast_natCast, Rat.intCast_natCast]
  have h1 := den_ne a
  have h2 := den_ne b
  conv => rhs; rw [rat_eq a, rat_eq b]
  grind
theorem cal_minus (n : Nat) {a b : Rat} (G : Gs) (ha : Fi a) (hb : Fi b) : (Sa (n + 3)).cal 3 [pt a, pt b] G = .ok (pt (a - b)) G := by
  have e : (Sa (n + 3)).cal 3 [pt a, pt b] G = _ := run_e (Sa (n + 2)) m_minus rfl (ρ := [some (pt a), some (pt b)]) rfl rfl
    (x_call (x_es (x_bin (x_bin (x_ix x_v x_c (ix0 _ a)) (x_ix x_v x_c (ix1 _ b)) (bm _ _ (ok_nd ha hb))) (x_bin (x_ix x_v x_c (ix0 _ b)) (x_ix x_v x_c (ix1 _ a)) (bm _ _ (ok_nd hb ha))) (bs _ _)) (x_es (x_bin (x_ix x_v x_c (ix1 _ a)) (x_ix x_v x_c (ix1 _ b)) (bm _ _ (ok_dd ha hb))) x_es0)) (cal_part n _ _ G (by have := dd_pos a b; omega) (ok_div (dd_pos a b) (dd_lt ha hb) (by decide))))
  rw [e, gc_self]
  congr 2
  rw [Rat.intCast_sub, Rat.intCast_mul, Rat.intCast_mul, Rat.intCast_mul, Rat.intCast_natCast, Rat.intCast_natCast]
  have h1 := den_ne a
  have h2 := den_ne b
  conv => rhs; rw [rat_eq a, rat_eq b]
  grind
theorem cal_times (n : Nat) {a b : Rat} (G : Gs) (ha : Fi a) (hb : Fi b) : (Sa (n + 3)).cal 4 [pt a, pt b] G = .ok (pt (a * b)) G := by
  have e : (Sa (n + 3)).cal 4 [pt a, pt b] G = _ := run_e (Sa (n + 2)) m_times rfl (ρ := [some (pt a), some (pt b)]) rfl rfl
    (x_call (x_es (x_bin (x_ix x_v x_c (ix0 _ a)) (x_ix x_v x_c (ix0 _ b)) (bm _ _ (ok_nn ha hb))) (x_es (x_bin (x_ix x_v x_c (ix1 _ a)) (x_ix x_v x_c (ix1 _ b)) (bm _ _ (ok_dd ha hb))) x_es0)) (cal_part n _ _ G (by have := dd_pos a b; omega) (ok_div (dd_pos a b) (dd_lt ha hb) (by decide))))
  rw [e, gc_self]
  congr 2
  rw [Rat.intCast_mul, Rat.intCast_mul, Rat.intCast_natCast, Rat.intCast_natCast]
  have h1 := den_ne a
  have h2 := den_ne b
  conv => rhs; rw [rat_eq a, rat_eq b]
  grind
theorem ok_div0 {t l : Int} {m : Nat} (hl : l ≠ 0) (hb : l.natAbs < 2 ^ m) (hm : m ≤ 9000) (hs : 0 < l ∨ l.natAbs < 1073741824) : okDiv (gOf t l) = true := by
  rcases hs with h | h
  · exact ok_div h hb hm
  · have h1 := natAbs_le_of_mul (fdiv_mul (gOf_dvd t l).2) (gOf_ne hl)
    have h2 : (gOf t l).natAbs ≤ l.natAbs := by
      have := Nat.gcd_le_right t.natAbs (show 0 < l.natAbs by omega)
      unfold gOf
      split <;> omega
    exact okDiv_small (gOf_ne hl) (by omega)
/-- a share; what it is by is no nought, and above or small -/
theorem cal_over (n : Nat) {a b : Rat} (G : Gs) (ha : Fi a) (hb : Fi b) (h0 : b ≠ 0) (hs : 0 < b.num ∨ (((a.den : Nat) : Int) * b.num).natAbs < 1073741824) : (Sa (n + 3)).cal 5 [pt a, pt b] G = .ok (pt (a / b)) G := by
  have hn : b.num ≠ 0 := fun e => h0 (num_zero.mp e)
  have hd : ((a.den : Nat) : Int) ≠ 0 := by have := a.den_pos; omega
  have hl : ((a.den : Nat) : Int) * b.num ≠ 0 := Int.mul_ne_zero hd hn
  have e : (Sa (n + 3)).cal 5 [pt a, pt b] G = _ := run_e (Sa (n + 2)) m_over rfl (ρ := [some (pt a), some (pt b)]) rfl rfl
    (x_call (x_es (x_bin (x_ix x_v x_c (ix0 _ a)) (x_ix x_v x_c (ix1 _ b)) (bm _ _ (ok_nd ha hb))) (x_es (x_bin (x_ix x_v x_c (ix1 _ a)) (x_ix x_v x_c (ix0 _ b)) (bm _ _ (ok_dn ha hb))) x_es0)) (cal_part n _ _ G hl (ok_div0 (m := 4000 + 4000) hl (mul_lt2 (by have := ha.2; simpa using this) hb.1) (by decide) (by
      rcases hs with h | h
      · exact .inl (Int.mul_pos (by omega) h)
      · exact .inr h))))
  rw [e, gc_self]
  congr 2
  rw [Rat.intCast_mul, Rat.intCast_mul, Rat.intCast_natCast, Rat.intCast_natCast]
  have h1 := den_ne a
  have h2 := den_ne b
  have h3 : (b.num : Rat) ≠ 0 := fun e => hn (Rat.intCast_eq_zero_iff.mp e)
  conv => rhs; rw [rat_eq a, rat_eq b]
  grind
theorem cal_over0 (n : Nat) {a : Rat} (G : Gs) (ha : Fi a) : (Sa (n + 3)).cal 5 [pt a, pt 0] G = .exc 0 G := by
  have hz : Fi 0 := ⟨by show 0 < _; exact Nat.pow_pos (by decide), by show 1 < 2 ^ 4000; exact Nat.one_lt_two_pow (by decide)⟩
  refine (run_e (r := .exc 0 G) (Sa (n + 2)) m_over rfl (ρ := [some (pt a), some (pt 0)]) rfl rfl
    (x_call (x_es (x_bin (x_ix x_v x_c (ix0 _ a)) (x_ix x_v x_c (ix1 _ 0)) (bm _ _ (ok_nd ha hz))) (x_es (x_bin (x_ix x_v x_c (ix1 _ a)) (x_ix x_v x_c (ix0 _ 0)) (bm _ _ (ok_dn ha hz))) x_es0)) ?_)).trans gc_exc
  have e0 : ((a.den : Nat) : Int) * (0 : Rat).num = 0 := Int.mul_zero _
  rw [e0]
  exact cal_part0 n _ G
end LK
end
/-! ## R3 -/
section
set_option Elab.async false
set_option linter.all false
set_option maxRecDepth 200000
set_option maxHeartbeats 8000000
set_option exponentiation.threshold 300
namespace LK
open PySem PV RP
/-! curves -/
def cv (l : List Rat) : D := .tup (l.map pt)
def lv (l : List Rat) : D := .lst (l.map pt)
def FiL (l : List Rat) : Prop := ∀ r ∈ l, Fi r
theorem pt_int (k : Int) : D.tup [.int k, .int 1] = pt (k : Rat) := rfl
theorem pt0 : D.tup [.int 0, .int 1] = pt 0 := rfl
theorem pt1 : D.tup [.int 1, .int 1] = pt 1 := rfl
theorem fi_small {k : Int} (h : k.natAbs < 1000) : Fi (k : Rat) := ⟨by
  rw [Rat.num_intCast]
  exact Nat.lt_of_lt_of_le (show k.natAbs < 2 ^ 10 by omega) (Nat.pow_le_pow_right (by decide) (by decide)), by
  rw [Rat.den_intCast]
  exact Nat.one_lt_two_pow (by decide)⟩
theorem fi0 : Fi 0 := fi_small (k := 0) (by decide)
theorem fi1 : Fi 1 := fi_small (k := 1) (by decide)
theorem ix_cv {G : Gs} {l : List Rat} {k : Nat} {r : Rat} (h : l[k]? = some r) : ixD G (cv l) (.int (k : Int)) = some (pt r) := by
  show L2.atI (l.map pt) (k : Int) = _
  exact L2.atI_nat (by rw [List.getElem?_map, h]; rfl)
theorem ix_lv {G : Gs} {l : List Rat} {k : Nat} {r : Rat} (h : l[k]? = some r) : ixD G (lv l) (.int (k : Int)) = some (pt r) := by
  show L2.atI (l.map pt) (k : Int) = _
  exact L2.atI_nat (by rw [List.getElem?_map, h]; rfl)
theorem ix_last {G : Gs} {l : List Rat} {r : Rat} : ixD G (cv (l ++ [r])) (.int (-1)) = some (pt r) := by
  show L2.atI ((l ++ [r]).map pt) (-1) = _
  rw [List.map_append]
  exact L2.atI_last _ _
theorem cut_take {α : Type} (l : List D) (j : Nat) : cutD l none (some (j : Int)) = l.take j := by
  unfold cutD
  rw [HT.sIx_nat, HT.sIx_none, List.drop_zero, Nat.sub_zero]
  by_cases h : j ≤ l.length
  · rw [Nat.min_eq_left h]
  · rw [Nat.min_eq_right (by omega), List.take_length, List.take_of_length_le (by omega)]
theorem sl_cv (l : List Rat) (j : Nat) : slD (cv l) none (some (j : Int)) = some (cv (l.take j)) := by
  show some (D.tup (cutD (l.map pt) none (some (j : Int)))) = _
  rw [cut_take (α := Nat), ← List.map_take]
  rfl
theorem sl_lst (l : List D) (j : Nat) : slD (.lst l) none (some (j : Int)) = some (.lst (l.take j)) := by
  show some (D.lst (cutD l none (some (j : Int)))) = _
  rw [cut_take (α := Nat)]
theorem len_cv {G : Gs} (l : List Rat) : prim G .len [cv l] = some (.int (l.length : Nat)) := by
  show (some (D.int ((l.map pt).length : Nat))) = _
  rw [List.length_map]
theorem part_id (n : Nat) (G : Gs) {r : Rat} (h : Fi r) : (Sa (n + 2)).cal 1 [.int r.num, .int ((r.den : Nat) : Int)] G = .ok (pt r) G := by
  have hd := r.den_pos
  rw [cal_part n _ _ G (by omega) (ok_div (m := 4000) (by omega) (by have := h.2; simpa using this) (by decide)), Rat.intCast_natCast, ← rat_eq]
theorem cal_small (n : Nat) (G : Gs) {x : D} {l : List Rat} (hx : walkOf x = some (l.map pt)) (hf : FiL l) (hl : l.length < 1000) : (Sa (n + 3)).cal 8 [x] G = .ok (cv l) G := by
  have c : evE (Sa (n + 2)) [some x, none] (.comp [1] (.call 1 [.ix (.var 1) (.con (.int 0)), .ix (.var 1) (.con (.int 1))]) (.nm 1) (.seq (.var 0)) []) G = .ok (.lst (l.map pt)) G :=
    comp_map l pt pt (fun r => [some x, some (pt r)]) (i_seq x_v hx) (fun r _ => rfl) (fun r hr => x_call (x_es (x_ix x_v x_c (ix0 _ r)) (x_es (x_ix x_v x_c (ix1 _ r)) x_es0)) (part_id n G (hf r hr))) (by rw [szl]; omega)
  exact (run_d m_small_row (args := [x]) (S := Sa (n + 2)) (ρ := [some x, none]) rfl rfl (b_ret (s_ret (x_prim (x_es c x_es0) rfl)))).trans gc_self
theorem wh_stop {S : PV.Sem} {c : PV.Env → Gs → R D} {f : PV.Env → Gs → F} {m : Nat} {ρ : PV.Env} {G G1 : Gs} (h : c ρ G = .ok (.bl false) G1) : whL c f (m + 1) ρ G = .next ρ G1 := by
  show (c ρ G).go _ = _
  rw [h]; rfl
theorem wh_go {S : PV.Sem} {c : PV.Env → Gs → R D} {f : PV.Env → Gs → F} {m : Nat} {ρ ρ1 : PV.Env} {G G1 G2 : Gs} {r : F} (h : c ρ G = .ok (.bl true) G1) (h2 : f ρ G1 = .next ρ1 G2) (h3 : whL c f m ρ1 G2 = r) : whL c f (m + 1) ρ G = r := by
  show (c ρ G).go _ = _
  rw [h]
  show (match f ρ G1 with | .next ρ' G' => whL c f m ρ' G' | .cont ρ' G' => whL c f m ρ' G' | .brk ρ' G' => .next ρ' G' | .ret d G' => .ret d G' | .exc c G' => .exc c G' | .bad => .bad) = r
  rw [h2]
  exact h3
def cvTest : PV.E := .and (.cmp .gt (.var 2) (.con (.int 0))) (.cmp .eq (.ix (.ix (.var 1) (.bin .sub (.var 2) (.con (.int 1)))) (.con (.int 0))) (.con (.int 0)))
theorem loop_curve (S : PV.Sem) (x : Option D) (l : List Rat) (G : Gs) : ∀ (k m : Nat), k ≤ l.length → trim (l.take k) = trim l → k < m →
    whL (fun ρ1 G1 => evE S ρ1 cvTest G1) (fun ρ1 G1 => evB S [.aug 2 .sub (.con (.int 1))] ρ1 G1) m [x, some (cv l), some (.int (k : Nat))] G = .next [x, some (cv l), some (.int ((trim l).length : Nat))] G ∧ l.take (trim l).length = trim l
  | 0, m + 1, _, h, _ => by
    have e : trim l = [] := h.symm
    rw [e]
    exact ⟨wh_stop (S := S) (x_andf (x_cmp x_v x_c rfl)), rfl⟩
  | k + 1, m + 1, hk, h, hm => by
    have hr : l[k]? = some (l[k]'(by omega)) := List.getElem?_eq_getElem (by omega)
    generalize l[k]'(by omega) = r at hr
    have ht : l.take (k + 1) = l.take k ++ [r] := by
      rw [List.take_add_one, hr]; rfl
    have hg : cmpD .gt (.int ((k + 1 : Nat) : Int)) (.int 0) = some true := by rw [cgt, decide_eq_true (by omega)]
    have hi : ixD G (cv l) (.int (((k + 1 : Nat) : Int) - 1)) = some (pt r) := by
      have : ((k + 1 : Nat) : Int) - 1 = (k : Nat) := by omega
      rw [this]; exact ix_cv hr
    by_cases h0 : r = 0
    · subst h0
      have t2 : trim (l.take k) = trim l := by rw [← h, ht, trim_snoc0]
      obtain ⟨i1, i2⟩ := loop_curve S x l G k m (by omega) t2 (by omega)
      refine ⟨?_, i2⟩
      refine wh_go (S := S) (ρ1 := [x, some (cv l), some (.int (k : Nat))]) (G1 := G) (G2 := G) (x_andt (x_cmp x_v x_c hg) (x_cmp (x_ix (x_ix x_v (x_bin x_v x_c (bs _ _)) hi) x_c (ix0 _ 0)) x_c rfl)) ?_ i1
      show F.then (.next [x, some (cv l), some (.int (((k + 1 : Nat) : Int) - 1))] G) _ = _
      have : ((k + 1 : Nat) : Int) - 1 = (k : Nat) := by omega
      rw [this]; rfl
    · have t2 : trim l = l.take (k + 1) := by rw [← h, ht, trim_snoc h0]
      have hlen : (trim l).length = k + 1 := by rw [t2, List.length_take]; omega
      refine ⟨?_, by rw [hlen]; exact t2.symm⟩
      rw [hlen]
      refine wh_stop (S := S) (x_andt (x_cmp x_v x_c hg) (x_cmp (x_ix (x_ix x_v (x_bin x_v x_c (bs _ _)) hi) x_c (ix0 _ r)) x_c ?_))
      rw [ceq, eqD_int, decide_eq_false (fun e => h0 (num_zero.mp e))]
theorem cal_curve (n : Nat) (G : Gs) {x : D} {l : List Rat} (hx : walkOf x = some (l.map pt)) (hf : FiL l) (hl : l.length < 1000) : (Sa (n + 4)).cal 9 [x] G = .ok (cv (trim l)) G := by
  obtain ⟨w, t⟩ := loop_curve (Sa (n + 3)) (some x) l G l.length 100000 (Nat.le_refl _) (by rw [List.take_length]) (by omega)
  have hs : slD (cv l) none (some (((trim l).length : Nat) : Int)) = some (cv (trim l)) := by rw [sl_cv, t]
  exact (run_d m_curve (args := [x]) (S := Sa (n + 3)) (ρ := [some x, none, none]) rfl rfl
    (b_next (s_set (x_call (x_es x_v x_es0) (cal_small n G hx hf hl))) (b_next (s_set (x_prim (x_es x_v x_es0) (len_cv l))) (b_next w (b_ret (s_ret (x_sl1 x_v x_v hs))))))).trans gc_self
theorem cal_power (n : Nat) (G : Gs) (l : List Rat) : (Sa (n + 1)).cal 10 [cv l] G = .ok (.int ((l.length : Nat) - 1)) G :=
  (run_d m_power_of (args := [cv l]) (S := Sa n) (ρ := [some (cv l)]) rfl rfl (b_ret (s_ret (x_bin (x_prim (x_es x_v x_es0) (len_cv l)) x_c (bs _ _))))).trans gc_self
theorem cal_part_at (n : Nat) (G : Gs) (l : List Rat) (k : Nat) : (Sa (n + 1)).cal 11 [cv l, .int (k : Nat)] G = .ok (pt (l.getD k 0)) G := by
  have h0 : cmpD .le (.int 0) (.int (k : Nat)) = some true := by rw [cle, decide_eq_true (by omega)]
  by_cases hk : k < l.length
  · have hr : l[k]? = some (l.getD k 0) := by rw [List.getD_eq_getElem?_getD, List.getElem?_eq_getElem hk]; rfl
    exact (run_d m_part_at (args := [cv l, .int (k : Nat)]) (S := Sa n) (ρ := [some (cv l), some (.int (k : Nat))]) rfl rfl (b_ret (s_itet (x_cht x_c x_v h0 (x_prim (x_es x_v x_es0) (len_cv l)) (by rw [clt, decide_eq_true (by omega)])) (b_ret (s_ret (x_ix x_v x_v (ix_cv hr))))))).trans gc_self
  · have hr : l.getD k 0 = 0 := by rw [List.getD_eq_getElem?_getD, List.getElem?_eq_none (by omega)]; rfl
    rw [hr]
    exact (run_d m_part_at (args := [cv l, .int (k : Nat)]) (S := Sa n) (ρ := [some (cv l), some (.int (k : Nat))]) rfl rfl (b_next (s_if0 (x_cht x_c x_v h0 (x_prim (x_es x_v x_es0) (len_cv l)) (by rw [clt, decide_eq_false (by omega)]))) (b_ret (s_ret (x_tup (x_es x_c (x_es x_c x_es0))))))).trans gc_self
/-- the power below nought -/
theorem cal_part_neg (n : Nat) (G : Gs) (l : List Rat) : (Sa (n + 1)).cal 11 [cv l, .int (-1)] G = .ok (pt 0) G :=
  (run_d m_part_at (args := [cv l, .int (-1)]) (S := Sa n) (ρ := [some (cv l), some (.int (-1))]) rfl rfl (b_next (s_if0 (x_chf x_c x_v rfl)) (b_ret (s_ret (x_tup (x_es x_c (x_es x_c x_es0))))))).trans gc_self
def addR (p q : List Rat) : List Rat := (List.range (max p.length q.length)).map fun k => p.getD k 0 + q.getD k 0
theorem add_get : ∀ (p q : List Rat) (k : Nat), k < max p.length q.length → (addP p q)[k]? = some (p.getD k 0 + q.getD k 0)
  | [], q, k, h => by
    have : addP [] q = q := by cases q <;> rfl
    rw [this]
    have hk : k < q.length := by simpa using h
    rw [List.getD_eq_getElem?_getD, List.getD_eq_getElem?_getD, List.getElem?_eq_getElem hk]
    show some _ = some ((0 : Rat) + _)
    congr 1
    show _ = (0 : Rat) + q[k]
    grind
  | a :: p, [], k, h => by
    have hk : k < (a :: p).length := by simpa using h
    show (a :: p)[k]? = some ((a :: p).getD k 0 + ([] : List Rat).getD k 0)
    rw [List.getD_eq_getElem?_getD, List.getElem?_eq_getElem hk]
    congr 1
    show _ = (a :: p)[k] + (0 : Rat)
    grind
  | a :: p, b :: q, 0, h => rfl
  | a :: p, b :: q, k + 1, h => by
    show (addP p q)[k]? = some (p.getD k 0 + q.getD k 0)
    exact add_get p q k (by simp only [List.length_cons] at h; omega)
theorem addR_eq (p q : List Rat) : addR p q = addP p q := by
  apply List.ext_getElem?
  intro k
  unfold addR
  rw [List.getElem?_map]
  by_cases h : k < max p.length q.length
  · rw [List.getElem?_range h, add_get p q k h]; rfl
  · rw [List.getElem?_eq_none (by rw [List.length_range]; omega), List.getElem?_eq_none (by rw [add_len]; omega)]; rfl
theorem getD_mem {l : List Rat} {P : Rat → Prop} (h0 : P 0) (h : ∀ r ∈ l, P r) (k : Nat) : P (l.getD k 0) := by
  rw [List.getD_eq_getElem?_getD]
  cases e : l[k]? with
  | none => exact h0
  | some r => exact h r (List.mem_of_getElem? e)
theorem cal_added (n : Nat) (G : Gs) {p q : List Rat} (hp : FiL p) (hq : FiL q) (hs : FiL (addP p q)) (hl : p.length < 500 ∧ q.length < 500) : (Sa (n + 5)).cal 12 [cv p, cv q] G = .ok (cv (trim (addP p q))) G := by
  have hm : prim G .max2 [.int (p.length : Nat), .int (q.length : Nat)] = some (.int ((max p.length q.length : Nat) : Int)) := by
    show some (D.int (if ((q.length : Nat) : Int) > (p.length : Nat) then _ else _)) = _
    by_cases h : ((q.length : Nat) : Int) > (p.length : Nat)
    · rw [if_pos h, Nat.max_eq_right (by omega)]
    · rw [if_neg h, Nat.max_eq_left (by omega)]
  have c : evE (Sa (n + 4)) [some (cv p), some (cv q), some (.int ((max p.length q.length : Nat) : Int)), none] (.comp [3] (.call 2 [.call 11 [.var 0, .var 3], .call 11 [.var 1, .var 3]]) (.nm 3) (.rng1 (.var 2)) []) G = .ok (.lst ((List.range (max p.length q.length)).map fun k => pt (p.getD k 0 + q.getD k 0))) G :=
    comp_map (List.range (max p.length q.length)) (fun (k : Nat) => D.int (0 + (k : Int))) _ (fun (k : Nat) => [some (cv p), some (cv q), some (.int ((max p.length q.length : Nat) : Int)), some (.int (k : Nat))]) (by
      have h := i_rng (S := Sa (n + 4)) (ρ := [some (cv p), some (cv q), some (.int ((max p.length q.length : Nat) : Int)), none]) (a := .var 2) (G := G) (G1 := G) x_v (by omega)
      rw [rangeD_nat] at h
      exact h) (fun k _ => by rw [Int.zero_add]; rfl) (fun k hk => x_call (x_es (x_call (x_es x_v (x_es x_v x_es0)) (cal_part_at (n + 3) G p k)) (x_es (x_call (x_es x_v (x_es x_v x_es0)) (cal_part_at (n + 3) G q k)) x_es0)) (cal_plus (n + 1) G (getD_mem fi0 hp k) (getD_mem fi0 hq k))) (by rw [szl, List.length_range]; omega)
  have hlst : D.lst ((List.range (max p.length q.length)).map fun k => pt (p.getD k 0 + q.getD k 0)) = lv (addP p q) := by
    rw [← addR_eq]
    unfold lv addR
    rw [List.map_map]; rfl
  rw [hlst] at c
  exact (run_d m_added (args := [cv p, cv q]) (S := Sa (n + 4)) (ρ := [some (cv p), some (cv q), none, none]) rfl rfl
    (b_next (s_set (x_prim (x_es (x_prim (x_es x_v x_es0) (len_cv p)) (x_es (x_prim (x_es x_v x_es0) (len_cv q)) x_es0)) hm)) (b_ret (s_ret (x_call (x_es c x_es0) (cal_curve n G rfl hs (by rw [add_len]; omega))))))).trans gc_self
theorem cal_scaled (n : Nat) (G : Gs) {p : List Rat} {c : Rat} (hp : FiL p) (hc : Fi c) (hs : FiL (scP c p)) (hl : p.length < 1000) : (Sa (n + 5)).cal 13 [cv p, pt c] G = .ok (cv (trim (scP c p))) G := by
  have e : evE (Sa (n + 4)) [some (cv p), some (pt c), none] (.comp [2] (.call 4 [.var 2, .var 1]) (.nm 2) (.seq (.var 0)) []) G = .ok (.lst (p.map fun r => pt (r * c))) G :=
    comp_map p pt _ (fun r => [some (cv p), some (pt c), some (pt r)]) (i_seq x_v) (fun r _ => rfl) (fun r hr => x_call (x_es x_v (x_es x_v x_es0)) (cal_times (n + 1) G (hp r hr) hc)) (by rw [szl]; omega)
  have hlst : D.lst (p.map fun r => pt (r * c)) = lv (scP c p) := by
    unfold lv scP
    rw [List.map_map]
    congr 1
    refine List.map_congr_left fun r _ => ?_
    show pt (r * c) = pt (c * r)
    rw [Rat.mul_comm]
  rw [hlst] at e
  exact (run_d m_scaled_curve (args := [cv p, pt c]) (S := Sa (n + 4)) (ρ := [some (cv p), some (pt c), none]) rfl rfl (b_ret (s_ret (x_call (x_es e x_es0) (cal_curve n G rfl hs (by unfold scP; rw [List.length_map]; omega)))))).trans gc_self
end LK
end
/-! ## R4 -/
section
set_option Elab.async false
set_option linter.all false
set_option maxRecDepth 200000
set_option maxHeartbeats 8000000
set_option exponentiation.threshold 300
namespace LK
open PySem PV RP
theorem forL_inv {α : Type} (f : D → PV.Env → Gs → F) (a : α → D) (P : List α → PV.Env → Gs → Prop) : ∀ (r s : List α) (ρ : PV.Env) (G : Gs), P s ρ G → (∀ s' c t ρ G, s ++ r = s' ++ c :: t → P s' ρ G → ∃ ρ' G', f (a c) ρ G = .next ρ' G' ∧ P (s' ++ [c]) ρ' G') → ∃ ρ' G', forL f (r.map a) ρ G = .next ρ' G' ∧ P (s ++ r) ρ' G'
  | [], s, ρ, G, h, _ => ⟨ρ, G, rfl, by rw [List.append_nil]; exact h⟩
  | c :: r, s, ρ, G, h, st => by
    obtain ⟨ρ1, G1, e, h1⟩ := st s c r ρ G rfl h
    obtain ⟨ρ2, G2, e2, h2⟩ := forL_inv f a P r (s ++ [c]) ρ1 G1 h1 fun s' c' t ρ G hs hP => st s' c' t ρ G (by rw [← hs]; simp) hP
    exact ⟨ρ2, G2, forL_next e e2, by have : s ++ [c] ++ r = s ++ c :: r := by simp
                                      rw [← this]; exact h2⟩
theorem i_rev {S : PV.Sem} {ρ : PV.Env} {G G1 : Gs} {a : PV.E} {x : D} {ds : List D} (h1 : evE S ρ a G = .ok x G1) (h2 : seqOf x = some ds) : evI S ρ (.revI a) G = .ok ds.reverse G1 := by simp only [evI, h1, rb, h2]
/-! bounds of worths -/
def LB (D B N : Nat) (l : List Rat) : Prop := 0 < D ∧ l.length ≤ N ∧ ∀ r ∈ l, Bd D B r
def X (B E C : Nat) : Nat → Nat
  | 0 => 0
  | n + 1 => B * E ^ (n + 1) + C * X B E C n
theorem ev_Bd {D B E C : Nat} {x : Rat} (hD : 0 < D) (hx : Bd E C x) : ∀ (n : Nat) (v : List Rat), v.length ≤ n → (∀ r ∈ v, Bd D B r) → Bd (D * E ^ n) (X B E C n) (ev v x)
  | n, [], _, _ => by
    obtain ⟨_, _, _, hE⟩ := hx
    exact (Bd.zero (Nat.mul_pos hD (Nat.pow_pos hE))).mono (Nat.zero_le _)
  | 0, a :: v, h, _ => by cases h
  | n + 1, a :: v, h, hv => by
    have hE : 0 < E := by obtain ⟨_, _, _, hE⟩ := hx; exact hE
    have h1 := (hv a (List.mem_cons_self ..)).up (E := E ^ (n + 1)) (Nat.pow_pos hE)
    have h2 := hx.mul (ev_Bd hD hx n v (by simpa using h) fun r hr => hv r (List.mem_cons_of_mem _ hr))
    have e : E * (D * E ^ n) = D * E ^ (n + 1) := by rw [Nat.pow_succ]; simp [Nat.mul_comm, Nat.mul_left_comm]
    rw [e] at h2
    exact h1.add h2
theorem X_le (B E C : Nat) : ∀ n : Nat, X B E C n ≤ B * (E + C + 1) ^ (n + 1)
  | 0 => Nat.zero_le _
  | n + 1 => by
    have ih := X_le B E C n
    have h1 : E ^ (n + 1) ≤ (E + C + 1) ^ (n + 1) := Nat.pow_le_pow_left (by omega) _
    have h2 : B * E ^ (n + 1) ≤ B * (E + C + 1) ^ (n + 1) := Nat.mul_le_mul_left _ h1
    have h3 : C * X B E C n ≤ C * (B * (E + C + 1) ^ (n + 1)) := Nat.mul_le_mul_left _ ih
    show B * E ^ (n + 1) + C * X B E C n ≤ B * ((E + C + 1) ^ (n + 1) * (E + C + 1))
    generalize (E + C + 1) ^ (n + 1) = p at *
    have : B * (p * (E + C + 1)) = B * p * E + C * (B * p) + B * p := by
      rw [Nat.mul_add, Nat.mul_add, Nat.mul_add, Nat.mul_add, Nat.mul_one, ← Nat.mul_assoc, ← Nat.mul_assoc, Nat.mul_comm C (B * p)]
    omega
structure Lim (m : Nat) : Prop where
  a : m < 2 ^ 4000
/-- one bound for all -/
abbrev MM (D B E C N : Nat) : Nat := D * (B + 1) * (E + C + 1) ^ (N + 3)
section
variable {D B E C N : Nat}
theorem pow_pos' : 0 < (E + C + 1) ^ (N + 3) := Nat.pow_pos (by omega)
theorem mm_den {n : Nat} (hn : n ≤ N + 3) : D * E ^ n ≤ MM D B E C N := by
  have h1 : E ^ n ≤ (E + C + 1) ^ (N + 3) := Nat.le_trans (Nat.pow_le_pow_left (by omega) _) (Nat.pow_le_pow_right (by omega) hn)
  have h2 : D ≤ D * (B + 1) := Nat.le_mul_of_pos_right _ (by omega)
  exact Nat.mul_le_mul h2 h1
theorem mm_num {n k : Nat} (hD : 0 < D) (h : k ≤ B * (E + C + 1) ^ n) (hn : n ≤ N + 3) : k ≤ MM D B E C N := by
  have h1 : (E + C + 1) ^ n ≤ (E + C + 1) ^ (N + 3) := Nat.pow_le_pow_right (by omega) hn
  have h2 : B * (E + C + 1) ^ n ≤ (B + 1) * (E + C + 1) ^ (N + 3) := Nat.mul_le_mul (by omega) h1
  exact Nat.le_trans h (Nat.le_trans h2 (Nat.mul_le_mul_right _ (Nat.le_mul_of_pos_left _ hD)))
theorem mm_pow {n : Nat} (hD : 0 < D) (hn : n ≤ N + 3) : E ^ n ≤ MM D B E C N ∧ C ^ n ≤ MM D B E C N := by
  have h1 : E ^ n ≤ (E + C + 1) ^ (N + 3) := Nat.le_trans (Nat.pow_le_pow_left (by omega) _) (Nat.pow_le_pow_right (by omega) hn)
  have h1' : C ^ n ≤ (E + C + 1) ^ (N + 3) := Nat.le_trans (Nat.pow_le_pow_left (by omega) _) (Nat.pow_le_pow_right (by omega) hn)
  have h3 : (E + C + 1) ^ (N + 3) ≤ D * (B + 1) * (E + C + 1) ^ (N + 3) := Nat.le_mul_of_pos_left _ (Nat.mul_pos hD (by omega))
  exact ⟨Nat.le_trans h1 h3, Nat.le_trans h1' h3⟩
theorem _root_.RP.Bd.fi' {D B M : Nat} {r : Rat} (h : Bd D B r) (h1 : D ≤ M) (h2 : B ≤ M) (hM : Lim M) : Fi r := h.fi (Nat.lt_of_le_of_lt h1 hM.a) (Nat.lt_of_le_of_lt h2 hM.a)
variable {l : List Rat} {x : Rat} (h : LB D B N l) (hx : Bd E C x) (hM : Lim (MM D B E C N))
include h hx hM
theorem hy_ev {v : List Rat} (hv : ∀ r ∈ v, r ∈ l) (hl : v.length ≤ N) : Fi (ev v x) ∧ Fi (ev v x * x) := by
  obtain ⟨hD, _, hb⟩ := h
  have h1 := ev_Bd hD hx N v hl fun r hr => hb r (hv r hr)
  have hX := X_le B E C N
  refine ⟨h1.fi' (mm_den (by omega)) (mm_num hD hX (by omega)) hM, (h1.mul hx).fi' ?_ (mm_num (n := N + 2) hD ?_ (by omega)) hM⟩
  · have : D * E ^ N * E = D * E ^ (N + 1) := by rw [Nat.pow_succ, Nat.mul_assoc]
    rw [this]
    exact mm_den (by omega)
  · have : B * (E + C + 1) ^ (N + 2) = B * (E + C + 1) ^ (N + 1) * (E + C + 1) := by rw [Nat.pow_succ, Nat.mul_assoc]
    rw [this]
    exact Nat.mul_le_mul hX (by omega)
theorem hy_l : FiL l := fun r hr => (h.2.2 r hr).fi' (by have := mm_den (D := D) (B := B) (E := E) (C := C) (N := N) (n := 0) (by omega); simpa using this) (mm_num (n := 0) h.1 (by simp) (by omega)) hM
theorem bd_pow : ∀ k : Nat, Bd (E ^ k) (C ^ k) (x ^ k)
  | 0 => ⟨1, by rw [Nat.pow_zero]; show x ^ 0 = ((1 : Int) : Rat) / ((1 : Nat) : Rat); grind, by simp, by simp⟩
  | k + 1 => by
    have h1 := (bd_pow k).mul hx
    rw [Rat.pow_succ, Nat.pow_succ, Nat.pow_succ]
    exact h1
theorem hy_pow {k : Nat} (hk : k ≤ N + 3) : Fi (x ^ k) := (bd_pow h hx hM k).fi' (mm_pow h.1 hk).1 (mm_pow h.1 hk).2 hM
theorem hy_x : Fi x := by
  have := hy_pow h hx hM (k := 1) (by omega)
  rwa [show x ^ 1 = x by grind] at this
theorem hy_term {r : Rat} (hr : r ∈ l) {k : Nat} (hk : k ≤ N + 1) : Fi (r * x ^ k) := by
  refine ((h.2.2 r hr).mul (bd_pow h hx hM k)).fi' (mm_den (by omega)) (mm_num (n := k) h.1 ?_ (by omega)) hM
  exact Nat.mul_le_mul_left _ (Nat.pow_le_pow_left (by omega) _)
end
/-! sums, products, worths -/
def tot (l : List Rat) : Rat := l.foldl (· + ·) 0
theorem tot_snoc (l : List Rat) (c : Rat) : tot (l ++ [c]) = tot l + c := by unfold tot; rw [List.foldl_append]; rfl
theorem cal_total (n : Nat) (G : Gs) {l : List Rat} (hf : FiL l) (hs : ∀ u v, l = u ++ v → Fi (tot u)) : (Sa (n + 4)).cal 6 [lv l] G = .ok (pt (tot l)) G := by
  obtain ⟨ρ', G', e, rfl, z, rfl⟩ := forL_inv (fun d ρ1 G2 => match PV.assign ρ1 (.nm 2) d with | some ρ2 => evB (Sa (n + 3)) [.set (.nm 1) (.call 2 [.var 1, .var 2])] ρ2 G2 | none => .bad) pt (fun s ρ G' => G = G' ∧ ∃ z, ρ = [some (lv l), some (pt (tot s)), z]) l [] [some (lv l), some (pt 0), none] G ⟨rfl, none, rfl⟩ fun s c t ρ G' hs' ⟨hG, z, hρ⟩ => by
    subst hG hρ
    have hl : l = s ++ c :: t := hs'
    have h1 := hs s (c :: t) hl
    have h2 : Fi c := hf c (by rw [hl]; simp)
    exact ⟨_, _, b_next (s_set (x_call (x_es x_v (x_es x_v x_es0)) (cal_plus n _ h1 h2))) rfl, rfl, some (pt c), by rw [tot_snoc]; rfl⟩
  exact (run_d m_total (args := [lv l]) (S := Sa (n + 3)) (ρ := [some (lv l), none, none]) rfl rfl (b_next (s_set (x_tup (x_es x_c (x_es x_c x_es0)))) (b_next (s_for (i_seq x_v) e) (b_ret (s_ret x_v))))).trans gc_self
theorem cal_product (n : Nat) (G : Gs) {x : Rat} (k : Nat) (hf : ∀ j ≤ k, Fi (x ^ j)) (hx : Fi x) : (Sa (n + 4)).cal 7 [lv (List.replicate k x)] G = .ok (pt (x ^ k)) G := by
  obtain ⟨ρ', G', e, rfl, z, rfl⟩ := forL_inv (fun d ρ1 G2 => match PV.assign ρ1 (.nm 2) d with | some ρ2 => evB (Sa (n + 3)) [.set (.nm 1) (.call 4 [.var 1, .var 2])] ρ2 G2 | none => .bad) pt (fun s ρ G' => G = G' ∧ ∃ z, ρ = [some (lv (List.replicate k x)), some (pt (x ^ s.length)), z]) (List.replicate k x) [] [some (lv (List.replicate k x)), some (pt 1), none] G ⟨rfl, none, by show _ = [_, some (pt (x ^ 0)), none]; rw [show x ^ 0 = 1 by grind]⟩ fun s c t ρ G' hs' ⟨hG, z, hρ⟩ => by
    subst hG hρ
    have hl : List.replicate k x = s ++ c :: t := hs'
    have hc : c = x := by
      have : c ∈ List.replicate k x := by rw [hl]; simp
      exact (List.mem_replicate.mp this).2
    subst hc
    have hk : s.length ≤ k := by
      have := congrArg List.length hl
      simp at this
      omega
    exact ⟨_, _, b_next (s_set (x_call (x_es x_v (x_es x_v x_es0)) (cal_times n _ (hf _ hk) hx))) rfl, rfl, some (pt c), by rw [List.length_append, List.length_singleton, Rat.pow_succ]; rfl⟩
  rw [List.nil_append, List.length_replicate] at e
  exact (run_d m_product (args := [lv (List.replicate k x)]) (S := Sa (n + 3)) (ρ := [some (lv (List.replicate k x)), none, none]) rfl rfl (b_next (s_set (x_tup (x_es x_c (x_es x_c x_es0)))) (b_next (s_for (i_seq x_v) e) (b_ret (s_ret x_v))))).trans gc_self
theorem rep_pt (x : Rat) (k : Nat) : (List.replicate k [pt x]).flatten = (List.replicate k x).map pt := by
  induction k with
  | zero => rfl
  | succ c ih =>
    rw [List.replicate_succ, List.flatten_cons, ih]
    rfl
theorem mul_rep {x : Rat} {k : Nat} (h : k ≤ 1000) : binD .mul (.lst [pt x]) (.int (k : Nat)) = some (lv (List.replicate k x)) := by
  unfold lv
  rw [← rep_pt]
  exact if_pos ⟨by omega, by omega, by simp⟩
/-- the terms of a worth -/
def terms (l : List Rat) (x : Rat) : List Rat := (List.range l.length).map fun k => l.getD k 0 * x ^ k
theorem terms_snoc (p : List Rat) (c x : Rat) : terms (p ++ [c]) x = terms p x ++ [c * x ^ p.length] := by
  unfold terms
  rw [List.length_append, List.length_singleton, List.range_succ, List.map_append]
  congr 1
  · refine List.map_congr_left fun k hk => ?_
    have hk := List.mem_range.mp hk
    rw [List.getD_eq_getElem?_getD, List.getD_eq_getElem?_getD, List.getElem?_append_left hk]
  · show [(p ++ [c]).getD p.length 0 * x ^ p.length] = [_]
    rw [List.getD_eq_getElem?_getD, List.getElem?_append_right (Nat.le_refl _)]
    simp
theorem tot_terms (x : Rat) : ∀ (n : Nat) (l : List Rat), l.length = n → tot (terms l x) = ev l x
  | 0, l, h => by
    have : l = [] := List.eq_nil_of_length_eq_zero h
    subst this; rfl
  | n + 1, l, h => by
    obtain ⟨p, c, rfl⟩ : ∃ p c, l = p ++ [c] := ⟨l.dropLast, l.getLast (by intro e; subst e; cases h), (List.dropLast_concat_getLast _).symm⟩
    rw [terms_snoc, tot_snoc, tot_terms x n p (by simpa using h), ev_app]
    show _ = ev p x + x ^ p.length * (c + x * 0)
    grind
theorem terms_take (x : Rat) (l : List Rat) (j : Nat) (h : j ≤ l.length) : (terms l x).take j = terms (l.take j) x := by
  unfold terms
  rw [← List.map_take, List.take_range, List.length_take, Nat.min_eq_left h]
  refine List.map_congr_left fun k hk => ?_
  have hk := List.mem_range.mp hk
  rw [List.getD_eq_getElem?_getD, List.getD_eq_getElem?_getD, List.getElem?_take_of_lt hk]
section
variable {D0 B E C N : Nat} {l : List Rat} {x : Rat} (h : LB D0 B N l) (hx : Bd E C x) (hM : Lim (MM D0 B E C N)) (hN : N ≤ 900)
include h hx hM hN
theorem cal_law_worth (n : Nat) (G : Gs) : (Sa (n + 5)).cal 30 [cv l, pt x] G = .ok (pt (ev l x)) G := by
  have hl := h.2.1
  have hr : ∀ k, k < l.length → ∃ r, l[k]? = some r ∧ l.getD k 0 = r ∧ r ∈ l := fun k hk => ⟨l[k], List.getElem?_eq_getElem hk, by rw [List.getD_eq_getElem?_getD, List.getElem?_eq_getElem hk]; rfl, List.getElem_mem hk⟩
  have c : evE (Sa (n + 4)) [some (cv l), some (pt x), none] (.comp [2] (.call 4 [.ix (.var 0) (.var 2), .call 7 [.bin .mul (.lst [.var 1]) (.var 2)]]) (.nm 2) (.rng1 (.prim .len [.var 0])) []) G = .ok (.lst ((List.range l.length).map fun k => pt (l.getD k 0 * x ^ k))) G :=
    comp_map (List.range l.length) (fun (k : Nat) => D.int (0 + (k : Int))) _ (fun (k : Nat) => [some (cv l), some (pt x), some (.int (k : Nat))]) (by
      have h := i_rng (S := Sa (n + 4)) (ρ := [some (cv l), some (pt x), none]) (a := .prim .len [.var 0]) (G := G) (G1 := G) (x_prim (x_es x_v x_es0) (len_cv l)) (by omega)
      rw [rangeD_nat] at h
      exact h) (fun k _ => by rw [Int.zero_add]; rfl) (fun k hk => by
        have hk := List.mem_range.mp hk
        obtain ⟨r, h1, h2, h3⟩ := hr k hk
        rw [h2]
        exact x_call (x_es (x_ix x_v x_v (ix_cv h1)) (x_es (x_call (x_es (x_bin (x_lst (x_es x_v x_es0)) x_v (mul_rep (by omega))) x_es0) (cal_product n G k (fun j hj => hy_pow h hx hM (by omega)) (hy_x h hx hM))) x_es0)) (cal_times (n + 1) G (hy_l h hx hM r h3) (hy_pow h hx hM (by omega)))) (by rw [szl, List.length_range]; omega)
  have hlst : D.lst ((List.range l.length).map fun k => pt (l.getD k 0 * x ^ k)) = lv (terms l x) := by
    unfold lv terms
    rw [List.map_map]; rfl
  rw [hlst] at c
  have t := cal_total n G (l := terms l x) (fun r hr' => by
    obtain ⟨k, hk, rfl⟩ := List.mem_map.mp hr'
    have hk := List.mem_range.mp hk
    obtain ⟨r, h1, h2, h3⟩ := hr k hk
    rw [h2]
    exact hy_term h hx hM h3 (by omega)) (fun u v e => by
    have hj : u = (terms l x).take u.length := by rw [e, List.take_left]
    have hlen : u.length ≤ l.length := by
      have := congrArg List.length e
      rw [List.length_append] at this
      unfold terms at this
      rw [List.length_map, List.length_range] at this
      omega
    have et : tot u = ev (l.take u.length) x := (congrArg tot hj).trans (by rw [terms_take x l _ hlen]; exact tot_terms x _ _ rfl)
    refine et ▸ (hy_ev h hx hM (fun r hr' => List.mem_of_mem_take hr') (by rw [List.length_take]; omega)).1)
  have t := t.trans (congrArg (fun r => (R.ok (pt r) G : R D)) (tot_terms x _ l rfl))
  have b : evB (Sa (n + 4)) m_law_worth.body [some (cv l), some (pt x), none] G = .ret (pt (ev l x)) G := b_ret (s_ret (x_call (x_es c x_es0) t))
  have a := run_d m_law_worth (args := [cv l, pt x]) (S := Sa (n + 4)) (ρ := [some (cv l), some (pt x), none]) (G := G) rfl rfl b
  exact ((cal_at (n + 4) 30 (by decide) rfl _ G).trans a).trans gc_self
theorem cal_worth (n : Nat) (G : Gs) : (Sa (n + 4)).cal 17 [cv l, pt x] G = .ok (pt (ev l x)) G := by
  have hl := h.2.1
  obtain ⟨ρ', G', e, rfl, z, rfl⟩ := forL_inv (fun d ρ1 G2 => match PV.assign ρ1 (.nm 3) d with | some ρ2 => evB (Sa (n + 3)) [.set (.nm 2) (.call 2 [.call 4 [.var 2, .var 1], .var 3])] ρ2 G2 | none => .bad) pt (fun s ρ G' => G = G' ∧ ∃ z, ρ = [some (cv l), some (pt x), some (pt (ev s.reverse x)), z]) l.reverse [] [some (cv l), some (pt x), some (pt 0), none] G ⟨rfl, none, rfl⟩ fun s c t ρ G' hs' ⟨hG, z, hρ⟩ => by
    subst hG hρ
    have hlr : l.reverse = s ++ c :: t := hs'
    have hle : l = t.reverse ++ (c :: s.reverse) := by
      have := congrArg List.reverse hlr
      rw [List.reverse_reverse] at this
      rw [this]; simp
    have hv := hy_ev h hx hM (v := s.reverse) (fun r hr => by rw [hle]; simp at hr ⊢; exact .inr (.inr hr)) (by
      have := congrArg List.length hle
      simp at this ⊢
      omega)
    have hc : Fi c := hy_l h hx hM c (by rw [hle]; simp)
    exact ⟨_, _, b_next (s_set (x_call (x_es (x_call (x_es x_v (x_es x_v x_es0)) (cal_times n _ hv.1 (hy_x h hx hM))) (x_es x_v x_es0)) (cal_plus n _ hv.2 hc))) rfl, rfl, some (pt c), by
      rw [List.reverse_append]
      show _ = [_, _, some (pt (c + x * ev s.reverse x)), _]
      rw [show c + x * ev s.reverse x = ev s.reverse x * x + c by grind]
      rfl⟩
  rw [List.nil_append, List.reverse_reverse, List.map_reverse] at e
  have hi : evI (Sa (n + 3)) [some (cv l), some (pt x), some (pt 0), none] (.revI (.var 0)) G = .ok (l.map pt).reverse G := i_rev x_v rfl
  exact (run_d m_worth (args := [cv l, pt x]) (S := Sa (n + 3)) (ρ := [some (cv l), some (pt x), none, none]) rfl rfl (b_next (s_set (x_tup (x_es x_c (x_es x_c x_es0)))) (b_next (s_for hi e) (b_ret (s_ret x_v))))).trans gc_self
end
end LK
end
/-! ## R5 -/
section
set_option Elab.async false
set_option linter.all false
set_option maxRecDepth 200000
set_option maxHeartbeats 8000000
set_option exponentiation.threshold 300
namespace LK
open PySem PV RP
/-! cells -/
section
variable {S : PV.Sem} {ρ ρ1 ρ2 : PV.Env} {G G1 G2 : Gs}
theorem x_mulC {a b : PV.E} {x y : D} {l : List D} (h1 : evE S ρ a G = .ok x G1) (h2 : evE S ρ b G1 = .ok y G2) (h3 : binD .mul x y = some (.lst l)) : evE S ρ (.mulC a b) G = .ok (.cell G2.length) (G2 ++ [some (.lst l)]) := by simp only [evE, h1, h2, rb, h3]
theorem x_listC {a : PV.E} {x : D} {l : List D} (h1 : evE S ρ a G = .ok x G1) (h2 : seqOf x = some l) : evE S ρ (.listC a) G = .ok (.cell G1.length) (G1 ++ [some (.lst l)]) := by simp only [evE, h1, rb, h2]
theorem x_take {a : PV.E} {n : Nat} {l : List D} (h1 : evE S ρ a G = .ok (.cell n) G1) (h2 : G1[n]? = some (some (.lst l))) : evE S ρ (.take a) G = .ok (.lst l) (G1.set n none) := by simp only [evE, h1, rb, h2]
theorem x_pop {a : PV.E} {n : Nat} {l : List D} {y : D} (h1 : evE S ρ a G = .ok (.cell n) G1) (h2 : G1[n]? = some (some (.lst l))) (h3 : l[l.length - 1]? = some y) : evE S ρ (.pop a) G = .ok y (G1.set n (some (.lst l.dropLast))) := by simp only [evE, h1, rb, h2, h3]
theorem x_app {a b : PV.E} {n : Nat} {l l0 : List D} {y : D} (h1 : evE S ρ a G = .ok (.cell n) G1) (h2 : G1[n]? = some (some (.lst l0))) (h3 : evE S ρ b G1 = .ok y G2) (h4 : G2[n]? = some (some (.lst l))) (h5 : l.length < sizeLine) : evE S ρ (.app a b) G = .ok .non (G2.set n (some (.lst (l ++ [y])))) := by
  simp only [evE, h1, rb, h2, h3, h4]
  rw [if_pos h5]
theorem x_rev {a : PV.E} {l : List D} (h1 : evE S ρ a G = .ok (.lst l) G1) : evE S ρ (.rev a) G = .ok (.lst l.reverse) G1 := by simp only [evE, h1, rb, lstOf]
theorem x_neg {a : PV.E} {i : Int} (h1 : evE S ρ a G = .ok (.int i) G1) : evE S ρ (.neg a) G = .ok (.int (-i)) G1 := by simp only [evE, h1, rb]
theorem i_enum {a : PV.E} {l : List D} (h1 : evE S ρ a G = .ok (.tup l) G1) : evI S ρ (.enum a) G = .ok (enumD l) G1 := by simp only [evI, h1, rb]
theorem i_enumL {a : PV.E} {l : List D} (h1 : evE S ρ a G = .ok (.lst l) G1) : evI S ρ (.enum a) G = .ok (enumD l) G1 := by simp only [evI, h1, rb]
end
theorem free_pts : ∀ l : List Rat, frees (l.map pt) = true
  | [] => rfl
  | a :: l => by
    show (free (pt a) && frees (l.map pt)) = true
    rw [free_pts l]; rfl
theorem free_cv (l : List Rat) : free (cv l) = true := free_pts l
def Cl (G : Gs) : Prop := G.all freeC = true
theorem gc_drop {d : D} {G : Gs} {r : List (Option C)} (hG : Cl G) (hd : free d = true) : gcR G.length (.ok d (G ++ r)) = .ok d G := by
  show (if (free d && clean G.length (G ++ r)) = true then (R.ok d ((G ++ r).take G.length) : R D) else .ok d (G ++ r)) = _
  have hc : clean G.length (G ++ r) = true := by
    unfold clean
    rw [List.take_left]; exact hG
  rw [hd, hc, List.take_left]; rfl
theorem gc_dropx {c : Nat} {G : Gs} {r : List (Option C)} (hG : Cl G) : gcR G.length (.exc c (G ++ r) : R D) = .exc c G := by
  show (if clean G.length (G ++ r) = true then (R.exc c ((G ++ r).take G.length) : R D) else .exc c (G ++ r)) = _
  have hc : clean G.length (G ++ r) = true := by
    unfold clean
    rw [List.take_left]; exact hG
  rw [hc, List.take_left]; rfl
theorem at_end {G : Gs} {x : Option C} {r : Gs} : (G ++ x :: r)[G.length]? = some x := by simp
theorem set_end {G : Gs} {x y : Option C} {r : Gs} : (G ++ x :: r).set G.length y = G ++ y :: r := by
  rw [List.set_append_right _ _ (Nat.le_refl _), Nat.sub_self]; rfl
theorem ix_cell {G r : Gs} {l : List Rat} {k : Nat} {v : Rat} (h : l[k]? = some v) : ixD (G ++ some (.lst (l.map pt)) :: r) (.cell G.length) (.int (k : Int)) = some (pt v) := by
  show (match (G ++ some (.lst (l.map pt)) :: r)[G.length]? with
    | some (some (.lst l)) => L2.atI l (k : Int)
    | _ => none) = _
  rw [at_end]
  exact L2.atI_nat (by rw [List.getElem?_map, h]; rfl)
theorem set_cell {G r : Gs} {l : List Rat} {k : Nat} {v : Rat} (h : k < l.length) : setD (G ++ some (.lst (l.map pt)) :: r) (.cell G.length) (.int (k : Int)) (pt v) = some (G ++ some (.lst ((l.set k v).map pt)) :: r) := by
  have hi : L2.ixN (l.map pt).length (k : Int) = some k := by
    unfold L2.ixN
    rw [if_pos (by omega), if_pos (by rw [List.length_map]; omega)]
    rfl
  unfold setD
  simp only [at_end, hi]
  rw [set_end, List.map_set]
theorem rpow_add (x : Rat) (m : Nat) : ∀ n : Nat, x ^ (m + n) = x ^ m * x ^ n
  | 0 => by show x ^ m = x ^ m * x ^ 0; grind
  | n + 1 => by
    have ih := rpow_add x m n
    rw [show m + (n + 1) = (m + n) + 1 by omega, Rat.pow_succ, ih, Rat.pow_succ]
    grind
theorem enum_pt (l : List Rat) : enumD (l.map pt) = l.zipIdx.map fun x => D.tup [.int (x.2 : Nat), pt x.1] := by
  unfold enumD
  rw [List.zipIdx_map, List.map_map]
  rfl
theorem zip_at {α : Type} {l : List α} {s t : List (α × Nat)} {c : α × Nat} (h : l.zipIdx = s ++ c :: t) : c.2 = s.length ∧ l[s.length]? = some c.1 ∧ s.length < l.length := by
  have e : (l.zipIdx)[s.length]? = some c := by rw [h]; simp
  rw [List.getElem?_zipIdx, Option.map_eq_some_iff] at e
  obtain ⟨a, h1, h2⟩ := e
  subst h2
  exact ⟨by simp, h1, (List.getElem?_eq_some_iff.mp h1).1⟩
theorem zip_len {α : Type} (l : List α) : l.zipIdx.length = l.length := by simp
theorem take_snoc {l : List Rat} {j : Nat} {c : Rat} (h : l[j]? = some c) : l.take (j + 1) = l.take j ++ [c] := by
  rw [List.take_add_one, h]; rfl
theorem ev_take {l : List Rat} {j : Nat} {c : Rat} (h : l[j]? = some c) (x : Rat) : ev (l.take (j + 1)) x = ev (l.take j) x + x ^ j * c := by
  have hj := (List.getElem?_eq_some_iff.mp h).1
  rw [take_snoc h, ev_app, List.length_take, Nat.min_eq_left (by omega)]
  show _ + x ^ j * (c + x * 0) = _
  grind
theorem getD_of {l : List Rat} {k : Nat} (h : k < l.length) : l[k]? = some (l.getD k 0) := by
  rw [List.getD_eq_getElem?_getD, List.getElem?_eq_getElem h]; rfl
theorem mem_set {l : List Rat} {P : Rat → Prop} {k : Nat} {v : Rat} (h : ∀ r ∈ l, P r) (hv : P v) : ∀ r ∈ l.set k v, P r := fun r hr => by
  rcases List.mem_or_eq_of_mem_set hr with h1 | h1
  · exact h r h1
  · rw [h1]; exact hv
/-! products -/
section
variable {D1 B1 D2 B2 N : Nat} {p q : List Rat}
abbrev mulB (B1 B2 N : Nat) : Nat := (N * N + 1) * (B1 * B2)
theorem cal_mul (n : Nat) {G : Gs} (hG : Cl G) (hp : LB D1 B1 N p) (hq : LB D2 B2 N q) (hN : N ≤ 400) (hM : Lim (D1 * D2 * (mulB B1 B2 N + B1 + B2 + 1))) : (Sa (n + 5)).cal 15 [cv p, cv q] G = .ok (cv (trim (mulP p q))) G ∧ ∃ F : List Rat, trim F = trim (mulP p q) ∧ ∀ r ∈ F, Bd (D1 * D2) (mulB B1 B2 N) r := by
  obtain ⟨hD1, hl1, hb1⟩ := hp
  obtain ⟨hD2, hl2, hb2⟩ := hq
  have hDD : 0 < D1 * D2 := Nat.mul_pos hD1 hD2
  have hM1 : D1 * D2 ≤ D1 * D2 * (mulB B1 B2 N + B1 + B2 + 1) := Nat.le_mul_of_pos_right _ (by omega)
  have hM2 : ∀ k, k ≤ mulB B1 B2 N + B1 + B2 + 1 → k ≤ D1 * D2 * (mulB B1 B2 N + B1 + B2 + 1) := fun k hk => Nat.le_trans hk (Nat.le_mul_of_pos_left _ hDD)
  have fp : FiL p := fun r hr => (hb1 r hr).fi' (Nat.le_trans (Nat.le_mul_of_pos_right _ hD2) hM1) (hM2 _ (by omega)) hM
  have fq : FiL q := fun r hr => (hb2 r hr).fi' (Nat.le_trans (Nat.le_mul_of_pos_left _ hD1) hM1) (hM2 _ (by omega)) hM
  have fF : ∀ c : Nat, c ≤ N * N + 1 → ∀ r, Bd (D1 * D2) (c * (B1 * B2)) r → Fi r := fun c hc r hr => hr.fi' hM1 (hM2 _ (Nat.le_trans (Nat.mul_le_mul_right _ hc) (show mulB B1 B2 N ≤ mulB B1 B2 N + B1 + B2 + 1 by omega))) hM
  -- the loops
  let X0 : Option D := some (cv p)
  let X1 : Option D := some (cv q)
  obtain ⟨ρ', G', e, F, c, hF, hc, hB, hE, z3, z4, z5, z6, hρ, hG'⟩ := forL_inv (fun d ρ1 G2 => match PV.assign ρ1 (.tp [.nm 3, .nm 4]) d with | some ρ2 => evB (Sa (n + 4)) [.for_ (.tp [.nm 5, .nm 6]) (.enum (.var 1)) [.setix (.var 2) (.bin .add (.var 3) (.var 5)) (.call 2 [.ix (.var 2) (.bin .add (.var 3) (.var 5)), .call 4 [.var 4, .var 6]])]] ρ2 G2 | none => .bad) (fun x : Rat × Nat => D.tup [.int (x.2 : Nat), pt x.1])
    (fun s ρ G' => ∃ (F : List Rat) (c : Nat), F.length = p.length + q.length ∧ c ≤ s.length * N ∧ (∀ r ∈ F, Bd (D1 * D2) (c * (B1 * B2)) r) ∧ (∀ x, ev F x = ev (p.take s.length) x * ev q x) ∧ ∃ z3 z4 z5 z6, ρ = [X0, X1, some (.cell G.length), z3, z4, z5, z6] ∧ G' = G ++ [some (.lst (F.map pt))])
    p.zipIdx [] [X0, X1, some (.cell G.length), none, none, none, none] (G ++ [some (.lst ((List.replicate (p.length + q.length) 0).map pt))])
    ⟨List.replicate (p.length + q.length) 0, 0, by simp, Nat.zero_le _, fun r hr => by rw [(List.mem_replicate.mp hr).2, Nat.zero_mul]; exact Bd.zero hDD, fun x => by rw [ev_rep]; show (0 : Rat) = 0 * _; grind, none, none, none, none, rfl, rfl⟩
    fun s ci t ρ G' hs ⟨F, c, hF, hc, hB, hE, z3, z4, z5, z6, hρ, hG'⟩ => by
      subst hρ hG'
      obtain ⟨ei, ha, hsl⟩ := zip_at hs
      obtain ⟨a, i⟩ := ci
      have ei : i = s.length := ei
      subst ei
      have ha : p[s.length]? = some a := ha
      have hap : a ∈ p := List.mem_of_getElem? ha
      -- the inner one
      obtain ⟨ρ', G', e, F', c', hF', hc', hB', hE', z5', z6', hρ', hG'⟩ := forL_inv (fun d ρ1 G2 => match PV.assign ρ1 (.tp [.nm 5, .nm 6]) d with | some ρ2 => evB (Sa (n + 4)) [.setix (.var 2) (.bin .add (.var 3) (.var 5)) (.call 2 [.ix (.var 2) (.bin .add (.var 3) (.var 5)), .call 4 [.var 4, .var 6]])] ρ2 G2 | none => .bad) (fun x : Rat × Nat => D.tup [.int (x.2 : Nat), pt x.1])
        (fun u ρ G' => ∃ (F' : List Rat) (c' : Nat), F'.length = p.length + q.length ∧ c' ≤ c + u.length ∧ (∀ r ∈ F', Bd (D1 * D2) (c' * (B1 * B2)) r) ∧ (∀ x, ev F' x = ev F x + a * x ^ s.length * ev (q.take u.length) x) ∧ ∃ z5 z6, ρ = [X0, X1, some (.cell G.length), some (.int (s.length : Nat)), some (pt a), z5, z6] ∧ G' = G ++ [some (.lst (F'.map pt))])
        q.zipIdx [] [X0, X1, some (.cell G.length), some (.int (s.length : Nat)), some (pt a), z5, z6] (G ++ [some (.lst (F.map pt))])
        ⟨F, c, hF, Nat.le_refl _, hB, fun x => by show _ = _ + a * x ^ s.length * 0; grind, z5, z6, rfl, rfl⟩
        fun u cj v ρ G' hu ⟨F', c', hF', hc', hB', hE', z5, z6, hρ, hG'⟩ => by
          subst hρ hG'
          obtain ⟨ej, hb, hul⟩ := zip_at hu
          obtain ⟨b, j⟩ := cj
          have ej : j = u.length := ej
          subst ej
          have hb : q[u.length]? = some b := hb
          have hbq : b ∈ q := List.mem_of_getElem? hb
          have hk : s.length + u.length < F'.length := by omega
          have hg := getD_of hk
          have hcb : c' ≤ N * N := by
            have h1 : s.length * N + N ≤ N * N := by
              have : (s.length + 1) * N ≤ N * N := Nat.mul_le_mul_right _ (by omega)
              rw [Nat.succ_mul] at this
              exact this
            omega
          have f1 : Fi (F'.getD (s.length + u.length) 0) := fF c' (by omega) _ (hB' _ (List.mem_of_getElem? hg))
          have b2 : Bd (D1 * D2) (B1 * B2) (a * b) := (hb1 a hap).mul (hb2 b hbq)
          have f2 : Fi (a * b) := fF 1 (by omega) _ (by rw [Nat.one_mul]; exact b2)
          have hidx : ((s.length : Nat) : Int) + ((u.length : Nat) : Int) = ((s.length + u.length : Nat) : Int) := by omega
          refine ⟨_, _, b_next (s_setix (x_call (x_es (x_ix x_v (x_bin x_v x_v (ba _ _)) (by rw [hidx]; exact ix_cell hg)) (x_es (x_call (x_es x_v (x_es x_v x_es0)) (cal_times (n + 1) _ (fp a hap) (fq b hbq))) x_es0)) (cal_plus (n + 1) _ f1 f2)) x_v (x_bin x_v x_v (ba _ _)) (by rw [hidx]; exact set_cell hk)) rfl, F'.set (s.length + u.length) (F'.getD (s.length + u.length) 0 + a * b), c' + 1, by rw [List.length_set]; exact hF', by rw [List.length_append, List.length_singleton]; omega, ?_, fun x => ?_, some (.int (u.length : Nat)), some (pt b), rfl, rfl⟩
          · have e1 : (c' + 1) * (B1 * B2) = c' * (B1 * B2) + B1 * B2 := by rw [Nat.succ_mul]
            rw [e1]
            exact mem_set (fun r hr => (hB' r hr).mono (by omega)) ((hB' _ (List.mem_of_getElem? hg)).add b2)
          · rw [ev_set _ x F' _ hk, hE' x, List.length_append, List.length_singleton, ev_take hb x, rpow_add]
            grind
      rw [List.nil_append, zip_len] at hc' hE'
      refine ⟨_, _, b_next (s_for (i_enum x_v) (by rw [enum_pt]; exact e)) rfl, F', c', hF', ?_, hB', fun x => ?_, _, _, _, _, hρ', hG'⟩
      · rw [List.length_append, List.length_singleton, Nat.succ_mul]; omega
      · rw [hE' x, hE x, List.length_append, List.length_singleton, ev_take ha x, List.take_length]
        grind
  rw [List.nil_append, zip_len] at hc hE
  have hE2 : ∀ x, ev F x = ev (mulP p q) x := fun x => by rw [hE x, ev_mul, List.take_length]
  have hcN : c ≤ N * N + 1 := by
    have : p.length * N ≤ N * N := Nat.mul_le_mul_right _ hl1
    omega
  have hbF : ∀ r ∈ F, Bd (D1 * D2) (mulB B1 B2 N) r := fun r hr => (hB r hr).mono (Nat.mul_le_mul_right _ hcN)
  refine ⟨?_, F, trim_ext hE2, hbF⟩
  subst hρ hG'
  have hrep : binD .mul (.lst [.tup [.int 0, .int 1]]) (.int (((p.length : Nat) : Int) + ((q.length : Nat) : Int))) = some (.lst ((List.replicate (p.length + q.length) 0).map pt)) := by
    have h := mul_rep (x := 0) (k := p.length + q.length) (by omega)
    rw [show ((p.length + q.length : Nat) : Int) = ((p.length : Nat) : Int) + ((q.length : Nat) : Int) by omega] at h
    exact h
  have b : evB (Sa (n + 4)) m_multiplied.body [X0, X1, none, none, none, none, none] G = .ret (cv (trim F)) (G ++ [none]) :=
    b_next (s_set (x_mulC (x_lst (x_es (x_tup (x_es x_c (x_es x_c x_es0))) x_es0)) (x_bin (x_prim (x_es x_v x_es0) (len_cv p)) (x_prim (x_es x_v x_es0) (len_cv q)) (ba _ _)) hrep)) (b_next (s_for (i_enum x_v) (by rw [enum_pt]; exact e))
      (b_ret (s_ret (x_call (x_es (x_take x_v at_end) x_es0) (by rw [set_end]; exact cal_curve n _ rfl (fun r hr => fF c hcN r (hB r hr)) (by omega))))))
  have a := run_d m_multiplied (args := [cv p, cv q]) (S := Sa (n + 4)) (ρ := [X0, X1, none, none, none, none, none]) (G := G) rfl rfl b
  rw [trim_ext hE2] at a
  exact ((cal_at (n + 4) 15 (by decide) rfl _ G).trans a).trans (gc_drop hG (free_cv _))
end
end LK
end
/-! ## R6 -/
section
set_option Elab.async false
set_option linter.all false
set_option maxRecDepth 200000
set_option maxHeartbeats 8000000
set_option exponentiation.threshold 300
namespace LK
open PySem PV RP
theorem Lim.of {m : Nat} (h : decide (m < 2 ^ 4000) = true) : Lim m := ⟨of_decide_eq_true h⟩
theorem Lim.le {m k : Nat} (h : Lim m) (hk : k ≤ m) : Lim k := ⟨Nat.lt_of_le_of_lt hk h.a⟩
theorem LB.fi {D B N : Nat} {l : List Rat} (h : LB D B N l) (hM : Lim (D + B)) : FiL l := fun r hr => (h.2.2 r hr).fi' (by omega) (by omega) hM
theorem LB.mono {D B N B' N' : Nat} {l : List Rat} (h : LB D B N l) (hB : B ≤ B') (hN : N ≤ N') : LB D B' N' l := ⟨h.1, Nat.le_trans h.2.1 hN, fun r hr => (h.2.2 r hr).mono hB⟩
theorem LB.up {D B N E : Nat} {l : List Rat} (h : LB D B N l) (hE : 0 < E) : LB (D * E) (B * E) N l := ⟨Nat.mul_pos h.1 hE, h.2.1, fun r hr => (h.2.2 r hr).up hE⟩
theorem LB.trim {D B N : Nat} {l : List Rat} (h : LB D B N l) : LB D B N (trim l) := ⟨h.1, Nat.le_trans (trim_len l) h.2.1, fun r hr => h.2.2 r (trim_mem hr)⟩
theorem add_bd {D B C : Nat} : ∀ {p q : List Rat}, (∀ r ∈ p, Bd D B r) → (∀ r ∈ q, Bd D C r) → ∀ r ∈ addP p q, Bd D (B + C) r
  | [], q, _, hq => fun r hr => by
    have : addP [] q = q := by cases q <;> rfl
    rw [this] at hr
    exact (hq r hr).mono (by omega)
  | a :: p, [], hp, _ => fun r hr => (hp r hr).mono (by omega)
  | a :: p, b :: q, hp, hq => fun r hr => by
    rcases List.mem_cons.mp hr with rfl | hr
    · exact (hp a (List.mem_cons_self ..)).add (hq b (List.mem_cons_self ..))
    · exact add_bd (fun r hr => hp r (List.mem_cons_of_mem _ hr)) (fun r hr => hq r (List.mem_cons_of_mem _ hr)) r hr
theorem cal_add (n : Nat) (G : Gs) {D B C N : Nat} {p q : List Rat} (hp : LB D B N p) (hq : LB D C N q) (hN : N ≤ 400) (hM : Lim (D + B + C)) : (Sa (n + 5)).cal 12 [cv p, cv q] G = .ok (cv (trim (addP p q))) G ∧ LB D (B + C) N (trim (addP p q)) := by
  have hs : LB D (B + C) N (addP p q) := ⟨hp.1, by rw [add_len]; have := hp.2.1; have := hq.2.1; omega, add_bd hp.2.2 hq.2.2⟩
  exact ⟨cal_added n G (hp.fi (hM.le (by omega))) (hq.fi (hM.le (by omega))) (hs.fi (hM.le (by omega))) ⟨by have := hp.2.1; omega, by have := hq.2.1; omega⟩, hs.trim⟩
theorem cal_scale (n : Nat) (G : Gs) {D B E C N : Nat} {p : List Rat} {c : Rat} (hp : LB D B N p) (hc : Bd E C c) (hN : N ≤ 400) (hM : Lim (D * E + B * C + D + B + E + C)) : (Sa (n + 5)).cal 13 [cv p, pt c] G = .ok (cv (trim (scP c p))) G ∧ LB (D * E) (B * C) N (trim (scP c p)) := by
  have hE : 0 < E := by obtain ⟨_, _, _, hE⟩ := hc; exact hE
  have hs : LB (D * E) (B * C) N (scP c p) := ⟨Nat.mul_pos hp.1 hE, by unfold scP; rw [List.length_map]; exact hp.2.1, fun r hr => by
    obtain ⟨a, ha, rfl⟩ := List.mem_map.mp hr
    rw [Rat.mul_comm]
    exact (hp.2.2 a ha).mul hc⟩
  exact ⟨cal_scaled n G (hp.fi (hM.le (by omega))) (hc.fi' (by omega) (by omega) hM) (hs.fi (hM.le (by omega))) (by have := hp.2.1; omega), hs.trim⟩
theorem pt_neg1 : D.tup [.int (-1), .int 1] = pt (-1) := rfl
theorem cal_taken (n : Nat) (G : Gs) {D B C N : Nat} {p q : List Rat} (hp : LB D B N p) (hq : LB D C N q) (hN : N ≤ 400) (hM : Lim (D + B + C + D + C + 10)) : ∃ f, (Sa (n + 6)).cal 14 [cv p, cv q] G = .ok (cv f) G ∧ LB D (B + C) N f ∧ ∀ x, ev f x = ev p x - ev q x := by
  obtain ⟨e1, b1⟩ := cal_scale n G hq (Bd.int (k := -1) (B := 1) (by decide)) hN (hM.le (by omega))
  rw [Nat.mul_one, Nat.mul_one] at b1
  obtain ⟨e2, b2⟩ := cal_add n G hp b1 hN (hM.le (by omega))
  refine ⟨_, ((run_e (Sa (n + 5)) m_taken rfl (args := [cv p, cv q]) (ρ := [some (cv p), some (cv q)]) rfl rfl (x_call (x_es x_v (x_es (x_call (x_es x_v (x_es (x_tup (x_es (x_neg x_c) (x_es x_c x_es0))) x_es0)) e1) x_es0)) e2)).trans gc_self), b2, fun x => ?_⟩
  rw [ev_trim, ev_add, ev_trim, ev_sc]
  have : ((-1 : Int) : Rat) = -1 := rfl
  rw [this]; grind
/-! one put into another -/
theorem mulP_len {p q : List Rat} {a b : Nat} (h1 : p.length ≤ a) (h2 : q.length ≤ b) : (trim (mulP p q)).length ≤ a + b := by
  rcases mul_len p q with h | h
  · have := trim_len (mulP p q); omega
  · subst h
    have : ∀ x, ev (mulP p []) x = ev [] x := fun x => by rw [ev_mul]; show _ * (0 : Rat) = 0; grind
    rw [trim_ext this]
    exact Nat.zero_le _
/-- bounds of a product's coefficients -/
theorem mul_lb {D1 B1 D2 B2 N M : Nat} {p q F : List Rat} (h1 : 0 < D1 * D2) (hF : trim F = trim (mulP p q)) (hB : ∀ r ∈ F, Bd (D1 * D2) (mulB B1 B2 N) r) (hM : (trim (mulP p q)).length ≤ M) : LB (D1 * D2) (mulB B1 B2 N) M (trim (mulP p q)) := ⟨h1, hM, fun r hr => hB r (trim_mem (hF ▸ hr))⟩
/-- the bound of what is put in so far -/
def PB : Nat → Nat
  | 0 => 0
  | k + 1 => mulB (PB k) 18 16 + 18 * 6 ^ (k + 1)
theorem cal_putin (n : Nat) {G : Gs} (hG : Cl G) {p q : List Rat} (hp : LB 6 18 4 p) (hq : LB 6 18 4 q) : ∃ f k, k ≤ 4 ∧ (Sa (n + 6)).cal 22 [cv p, cv q] G = .ok (cv f) G ∧ LB (6 * 6 ^ k) (PB k) 16 f ∧ ∀ x, ev f x = ev p (ev q x) := by
  obtain ⟨ρ', G', e, rfl, f, z, rfl, hlen, hb, hE⟩ := forL_inv (fun d ρ1 G2 => match PV.assign ρ1 (.nm 3) d with | some ρ2 => evB (Sa (n + 5)) [.set (.nm 2) (.call 12 [.call 15 [.var 2, .var 1], .call 9 [.lst [.var 3]]])] ρ2 G2 | none => .bad) pt
    (fun s ρ G' => G = G' ∧ ∃ f z, ρ = [some (cv p), some (cv q), some (cv f), z] ∧ f.length ≤ 4 * s.length ∧ LB (6 * 6 ^ s.length) (PB s.length) 16 f ∧ ∀ x, ev f x = ev s.reverse (ev q x)) p.reverse [] [some (cv p), some (cv q), some (cv []), none] G ⟨rfl, [], none, rfl, Nat.le_refl _, ⟨by decide, by decide, fun r hr => nomatch hr⟩, fun x => rfl⟩
    fun s c t ρ G' hs ⟨hG', f, z, hρ, hlen, hb, hE⟩ => by
      subst hG' hρ
      have hs : p.reverse = s ++ c :: t := hs
      have hk : s.length < 4 := by
        have := congrArg List.length hs
        rw [List.length_reverse, List.length_append, List.length_cons] at this
        have := hp.2.1
        omega
      have hc : c ∈ p := by rw [← List.mem_reverse, hs]; simp
      have hlim : Lim (6 * 6 ^ s.length * 6 * (mulB (PB s.length) 18 16 + PB s.length + 18 + 1)) ∧ Lim (6 * 6 ^ (s.length + 1) + mulB (PB s.length) 18 16 + 18 * 6 ^ (s.length + 1)) := by
        generalize s.length = k at hk
        match k, hk with
        | 0, _ => exact ⟨.of (by decide +kernel), .of (by decide +kernel)⟩
        | 1, _ => exact ⟨.of (by decide +kernel), .of (by decide +kernel)⟩
        | 2, _ => exact ⟨.of (by decide +kernel), .of (by decide +kernel)⟩
        | 3, _ => exact ⟨.of (by decide +kernel), .of (by decide +kernel)⟩
      obtain ⟨e1, F, hF, hFB⟩ := cal_mul n hG hb (hq.mono (Nat.le_refl _) (show 4 ≤ 16 by decide)) (by decide) hlim.1
      have lm := mul_lb (M := 16) (Nat.mul_pos hb.1 (by decide)) hF hFB (Nat.le_trans (mulP_len hlen hq.2.1) (by omega))
      have e6 : 6 * 6 ^ s.length * 6 = 6 * 6 ^ (s.length + 1) := by rw [Nat.pow_succ, Nat.mul_assoc]
      rw [e6] at lm
      have lc : LB (6 * 6 ^ (s.length + 1)) (18 * 6 ^ (s.length + 1)) 16 [c] := ⟨Nat.mul_pos (by decide) (Nat.pow_pos (by decide)), by simp, fun r hr => by
        rw [List.mem_singleton.mp hr]
        exact (hp.2.2 c hc).up (Nat.pow_pos (by decide))⟩
      have e2 := cal_curve (n + 1) G (x := .lst [pt c]) (l := [c]) rfl (lc.fi (hlim.2.le (by omega))) (by simp)
      obtain ⟨e3, l3⟩ := cal_add n G lm lc.trim (by decide) (hlim.2.le (by omega))
      refine ⟨_, _, b_next (s_set (x_call (x_es (x_call (x_es x_v (x_es x_v x_es0)) e1) (x_es (x_call (x_es (x_lst (x_es x_v x_es0)) x_es0) e2) x_es0)) e3)) rfl, rfl, _, some (pt c), rfl, ?_, ?_, fun x => ?_⟩
      · have h1 := trim_len (addP (trim (mulP f q)) (trim [c]))
        rw [add_len] at h1
        have h2 := mulP_len hlen hq.2.1
        have h3 := trim_len [c]
        rw [List.length_append, List.length_singleton]
        simp only [List.length_singleton] at h3
        omega
      · rw [List.length_append, List.length_singleton]
        exact l3
      · rw [ev_trim, ev_add, ev_trim, ev_trim, ev_mul, hE x, List.reverse_append]
        show _ + (c + x * 0) = c + ev q x * ev s.reverse (ev q x)
        grind
  rw [List.nil_append, List.length_reverse] at hb
  rw [List.nil_append, List.reverse_reverse] at hE
  rw [List.map_reverse] at e
  refine ⟨f, p.length, hp.2.1, ?_, hb, hE⟩
  have b : evB (Sa (n + 5)) m_put_in.body [some (cv p), some (cv q), none, none] G = .ret (cv f) G := b_next (s_set (x_tup x_es0)) (b_next (s_for (i_rev x_v rfl) e) (b_ret (s_ret x_v)))
  exact ((cal_at (n + 5) 22 (by decide) rfl _ G).trans (run_d m_put_in (args := [cv p, cv q]) (S := Sa (n + 5)) (ρ := [some (cv p), some (cv q), none, none]) (G := G) rfl rfl b)).trans gc_self
end LK
end
/-! ## R6b -/
section
set_option Elab.async false
set_option linter.all false
set_option maxRecDepth 200000
set_option maxHeartbeats 8000000
set_option exponentiation.threshold 300
namespace LK
open PySem PV RP
/-! slopes, areas, powers -/
theorem i_rng2 {S : PV.Sem} {ρ : PV.Env} {G G1 G2 : Gs} {a b : PV.E} {i j : Int} (h1 : evE S ρ a G = .ok (.int i) G1) (h2 : evE S ρ b G1 = .ok (.int j) G2) (h3 : -(2 ^ 62) ≤ i ∧ i < 2 ^ 62) (h4 : -(2 ^ 62) ≤ j ∧ j < 2 ^ 62) : evI S ρ (.rng2 a b) G = .ok (rangeD i j) G2 := by simp only [evI, h1, rb, h2, if_pos (And.intro h3 h4)]
theorem rangeD1 (n : Nat) : rangeD 1 (n : Int) = (List.range (n - 1)).map fun (k : Nat) => D.int (1 + (k : Int)) := by
  unfold rangeD
  rw [show ((n : Int) - 1).toNat = n - 1 by omega]
def slP (p : List Rat) : List Rat := (List.range (p.length - 1)).map fun k => p.getD (1 + k) 0 * (((1 + (k : Int) : Int)) : Rat)
theorem comp_slope {S : PV.Sem} {ρ : PV.Env} {G : Gs} {n iv jv : Nat} {p : List Rat} (hS : S = Sa (n + 3)) (h0 : ∀ v, (wipeE ρ [jv]).set jv v = ρ.set jv v) (hi : ρ[iv]? = some (some (cv p))) (hj : jv < ρ.length) (hne : iv ≠ jv) (hf : FiL p) (hl : p.length ≤ 900) :
    evE S ρ (.comp [jv] (.call 4 [.ix (.var iv) (.var jv), .tup [.var jv, .con (.int 1)]]) (.nm jv) (.rng2 (.con (.int 1)) (.prim .len [.var iv])) []) G = .ok (lv (slP p)) G := by
  subst hS
  have hlst : lv (slP p) = .lst ((List.range (p.length - 1)).map fun k => pt (p.getD (1 + k) 0 * (((1 + (k : Int) : Int)) : Rat))) := by
    unfold lv slP
    rw [List.map_map]; rfl
  rw [hlst]
  have hr : evI (Sa (n + 3)) ρ (.rng2 (.con (.int 1)) (.prim .len [.var iv])) G = .ok ((List.range (p.length - 1)).map fun (k : Nat) => D.int (1 + (k : Int))) G := by
    have h := i_rng2 (S := Sa (n + 3)) (ρ := ρ) (a := .con (.int 1)) (b := .prim .len [.var iv]) (G := G) x_c (x_prim (x_es (x_v hi) x_es0) (len_cv p)) (by omega) (by omega)
    rw [rangeD1] at h
    exact h
  refine comp_map (List.range (p.length - 1)) (fun (k : Nat) => D.int (1 + (k : Int))) _ (fun (k : Nat) => ρ.set jv (some (.int (1 + (k : Int))))) hr (fun k _ => by show some ((wipeE ρ [jv]).set jv _) = _; rw [h0]) (fun k hk => ?_) (by rw [szl, List.length_range]; omega)
  have hk := List.mem_range.mp hk
  have hkk : 1 + k < p.length := by omega
  have hg := getD_of hkk
  have v1 : (ρ.set jv (some (.int (1 + (k : Int)))))[iv]? = some (some (cv p)) := by rw [List.getElem?_set_ne (Ne.symm hne)]; exact hi
  have v2 : (ρ.set jv (some (.int (1 + (k : Int)))))[jv]? = some (some (.int (1 + (k : Int)))) := List.getElem?_set_self hj
  have hx : ixD G (cv p) (.int (1 + (k : Int))) = some (pt (p.getD (1 + k) 0)) := by
    have e : (1 + (k : Int)) = ((1 + k : Nat) : Int) := by omega
    rw [e]; exact ix_cv hg
  have e1 : evE (Sa (n + 3)) (ρ.set jv (some (.int (1 + (k : Int))))) (.ix (.var iv) (.var jv)) G = .ok (pt (p.getD (1 + k) 0)) G := x_ix (x_v v1) (x_v v2) hx
  have e2 : evE (Sa (n + 3)) (ρ.set jv (some (.int (1 + (k : Int))))) (.tup [.var jv, .con (.int 1)]) G = .ok (pt (((1 + (k : Int) : Int)) : Rat)) G := x_tup (x_es (x_v v2) (x_es x_c x_es0))
  have e3 := cal_times n G (a := p.getD (1 + k) 0) (b := (((1 + (k : Int) : Int)) : Rat)) (hf _ (List.mem_of_getElem? hg)) (fi_small (by omega))
  exact x_call (x_es e1 (x_es e2 x_es0)) e3
end LK
end
/-! ## R6c -/
section
set_option Elab.async false
set_option linter.all false
set_option maxRecDepth 200000
set_option maxHeartbeats 8000000
set_option exponentiation.threshold 300
namespace LK
open PySem PV RP
theorem cal_slope (n : Nat) (G : Gs) {p : List Rat} (hf : FiL p) (hs : FiL (slP p)) (hl : p.length ≤ 900) : (Sa (n + 5)).cal 18 [cv p] G = .ok (cv (trim (slP p))) G := by
  have c := comp_slope (S := Sa (n + 4)) (ρ := [some (cv p), none]) (G := G) (n := n + 1) (iv := 0) (jv := 1) rfl (fun v => rfl) rfl (by simp) (by decide) hf hl
  have d := cal_curve n G (x := lv (slP p)) (l := slP p) rfl hs (by unfold slP; rw [List.length_map, List.length_range]; omega)
  have b : evB (Sa (n + 4)) m_slope.body [some (cv p), none] G = .ret (cv (trim (slP p))) G := b_ret (s_ret (x_call (x_es c x_es0) d))
  exact ((cal_at (n + 4) 18 (by decide) rfl _ G).trans (run_d m_slope (args := [cv p]) (S := Sa (n + 4)) (ρ := [some (cv p), none]) (G := G) rfl rfl b)).trans gc_self
def arP (p : List Rat) : List Rat := 0 :: p.zipIdx.map fun x => x.1 / ((((x.2 : Nat) : Int) + 1 : Int) : Rat)
theorem cal_area (n : Nat) (G : Gs) {p : List Rat} (hf : FiL p) (hs : FiL (arP p)) (hl : p.length ≤ 900) : (Sa (n + 5)).cal 19 [cv p] G = .ok (cv (trim (arP p))) G := by
  have c : evE (Sa (n + 4)) [some (cv p), none, none] (.comp [1, 2] (.call 5 [.var 2, .tup [.bin .add (.var 1) (.con (.int 1)), .con (.int 1)]]) (.tp [.nm 1, .nm 2]) (.enum (.var 0)) []) G = .ok (.lst (p.zipIdx.map fun x => pt (x.1 / ((((x.2 : Nat) : Int) + 1 : Int) : Rat)))) G :=
    comp_map p.zipIdx (fun x => D.tup [.int (x.2 : Nat), pt x.1]) _ (fun x => [some (cv p), some (.int (x.2 : Nat)), some (pt x.1)]) ((i_enum x_v).trans (by rw [enum_pt])) (fun x _ => rfl) (fun x hx => by
      obtain ⟨a, i⟩ := x
      have hx := List.mem_zipIdx hx
      have hi : i < p.length := by have := hx.2.1; omega
      have ha : a ∈ p := by
        have := hx.2.2
        rw [this]; exact List.getElem_mem _
      have e2 : evE (Sa (n + 4)) [some (cv p), some (.int (i : Nat)), some (pt a)] (.tup [.bin .add (.var 1) (.con (.int 1)), .con (.int 1)]) G = .ok (pt ((((i : Nat) : Int) + 1 : Int) : Rat)) G := x_tup (x_es (x_bin x_v x_c (ba _ _)) (x_es x_c x_es0))
      have e3 := cal_over (n + 1) G (a := a) (b := ((((i : Nat) : Int) + 1 : Int) : Rat)) (hf a ha) (fi_small (k := ((i : Nat) : Int) + 1) (by omega)) (fun e => by
        have := Rat.intCast_eq_zero_iff.mp e
        omega) (.inl (by rw [Rat.num_intCast]; omega))
      exact x_call (x_es x_v (x_es e2 x_es0)) e3) (by rw [szl, zip_len]; omega)
  have hadd : binD .add (.lst [.tup [.int 0, .int 1]]) (.lst (p.zipIdx.map fun x => pt (x.1 / ((((x.2 : Nat) : Int) + 1 : Int) : Rat)))) = some (lv (arP p)) := by
    have h1 : lv (arP p) = .lst ([D.tup [.int 0, .int 1]] ++ p.zipIdx.map fun x => pt (x.1 / ((((x.2 : Nat) : Int) + 1 : Int) : Rat))) := by
      unfold lv arP
      rw [List.map_cons, List.map_map]; rfl
    rw [h1]
    refine if_pos ?_
    rw [szl, List.length_map, zip_len, List.length_singleton]
    omega
  have d := cal_curve n G (x := lv (arP p)) (l := arP p) rfl hs (by unfold arP; rw [List.length_cons, List.length_map, zip_len]; omega)
  have b : evB (Sa (n + 4)) m_area_under.body [some (cv p), none, none] G = .ret (cv (trim (arP p))) G := b_ret (s_ret (x_call (x_es (x_bin (x_lst (x_es (x_tup (x_es x_c (x_es x_c x_es0))) x_es0)) c hadd) x_es0) d))
  exact ((cal_at (n + 4) 19 (by decide) rfl _ G).trans (run_d m_area_under (args := [cv p]) (S := Sa (n + 4)) (ρ := [some (cv p), none, none]) (G := G) rfl rfl b)).trans gc_self
theorem rep_ptT (x : Rat) (k : Nat) : (List.replicate k [pt x]).flatten = (List.replicate k x).map pt := rep_pt x k
theorem cal_powers (n : Nat) (G : Gs) (k : Nat) (hk : k ≤ 900) : (Sa (n + 1)).cal 24 [.int (k : Nat)] G = .ok (cv (List.replicate k 0 ++ [1])) G := by
  have h1 : binD .mul (.tup [.tup [.int 0, .int 1]]) (.int (k : Nat)) = some (.tup ((List.replicate k 0).map pt)) := by
    rw [← rep_pt]
    exact if_pos ⟨by omega, by omega, by simp⟩
  have h2 : binD .add (.tup ((List.replicate k 0).map pt)) (.tup [.tup [.int 1, .int 1]]) = some (cv (List.replicate k 0 ++ [1])) := by
    have e : cv (List.replicate k 0 ++ [1]) = .tup ((List.replicate k 0).map pt ++ [.tup [.int 1, .int 1]]) := by
      unfold cv
      rw [List.map_append]; rfl
    rw [e]
    refine if_pos ?_
    rw [szl, List.length_map, List.length_replicate, List.length_singleton]
    omega
  have b : evB (Sa n) m_powers.body [some (.int (k : Nat))] G = .ret (cv (List.replicate k 0 ++ [1])) G := b_next (s_if0 (x_cmp x_v x_c (by rw [clt, decide_eq_false (by omega)]))) (b_ret (s_ret (x_bin (x_bin (x_tup (x_es (x_tup (x_es x_c (x_es x_c x_es0))) x_es0)) x_v h1) (x_tup (x_es (x_tup (x_es x_c (x_es x_c x_es0))) x_es0)) h2)))
  exact ((cal_at n 24 (by decide) rfl _ G).trans (run_d m_powers (args := [.int (k : Nat)]) (S := Sa n) (ρ := [some (.int (k : Nat))]) (G := G) rfl rfl b)).trans gc_self
end LK
end
/-! ## R7 -/
section
set_option Elab.async false
set_option linter.all false
set_option maxRecDepth 200000
set_option maxHeartbeats 8000000
set_option exponentiation.threshold 300
namespace LK
open PySem PV RP
/-! shares -/
def LA : Nat := 12252240
def DT (t : Nat) : Nat := 6 * (6 * LA) ^ t
def BT (t : Nat) : Nat := 18 * (114 * LA) ^ t
theorem DT_succ (t : Nat) : DT (t + 1) = DT t * (6 * LA) := by unfold DT; rw [Nat.pow_succ, Nat.mul_assoc]
theorem BT_succ (t : Nat) : BT (t + 1) = BT t * (114 * LA) := by unfold BT; rw [Nat.pow_succ, Nat.mul_assoc]
theorem lim_T {t : Nat} (h : t ≤ 5) : Lim (DT t + BT t) := by
  match t, h with
  | 0, _ => exact .of (by decide +kernel)
  | 1, _ => exact .of (by decide +kernel)
  | 2, _ => exact .of (by decide +kernel)
  | 3, _ => exact .of (by decide +kernel)
  | 4, _ => exact .of (by decide +kernel)
  | 5, _ => exact .of (by decide +kernel)
theorem la_dvd {k : Nat} (h0 : 0 < k) (h : k ≤ 18) : ∃ j, LA = k * j := by
  have : ∀ k ∈ List.range 19, 0 < k → k * (LA / k) = LA := by decide +kernel
  exact ⟨LA / k, (this k (List.mem_range.mpr (by omega)) h0).symm⟩
theorem bd_inv {c : Rat} (h : Bd 6 18 c) (h0 : c ≠ 0) : Bd LA (6 * LA) (1 / c) ∧ c.num.natAbs ≤ 18 := by
  obtain ⟨k, rfl, hk, _⟩ := h
  have hk0 : k ≠ 0 := fun e => h0 (by subst e; grind)
  obtain ⟨j, hj⟩ := la_dvd (k := k.natAbs) (by omega) hk
  have hl : ((6 : Nat) : Int) ≠ 0 := by decide
  refine ⟨⟨6 * (k.sign * (j : Int)), ?_, ?_, by decide⟩, ?_⟩
  · have hLA : ((LA : Nat) : Rat) = (k : Rat) * ((k.sign * (j : Int) : Int) : Rat) := by
      have e : ((LA : Nat) : Int) = k * (k.sign * (j : Int)) := by
        rw [hj]
        rcases Int.lt_or_gt_of_ne hk0 with h1 | h1
        · rw [Int.sign_eq_neg_one_of_neg h1]
          have : ((k.natAbs : Nat) : Int) = -k := by omega
          rw [Int.natCast_mul, this]; grind
        · rw [Int.sign_eq_one_of_pos h1]
          have : ((k.natAbs : Nat) : Int) = k := by omega
          rw [Int.natCast_mul, this]; grind
      rw [← Rat.intCast_mul, ← e, Rat.intCast_natCast]
    have hkr : (k : Rat) ≠ 0 := fun e => hk0 (Rat.intCast_eq_zero_iff.mp e)
    have hLA0 : ((LA : Nat) : Rat) ≠ 0 := fun e => by have := Rat.natCast_eq_zero_iff.mp e; exact absurd this (by decide)
    rw [Rat.intCast_mul]
    have h6 : ((6 : Int) : Rat) = 6 := rfl
    have h6' : (((6 : Nat)) : Rat) = 6 := rfl
    rw [h6, h6']
    generalize ((k.sign * (j : Int) : Int) : Rat) = y at *
    generalize ((LA : Nat) : Rat) = z at *
    generalize (k : Rat) = u at *
    grind
  · rw [Int.natAbs_mul, Int.natAbs_mul, Int.natAbs_sign]
    have hjL : j ≤ LA := by
      rw [hj]
      exact Nat.le_mul_of_pos_left _ (by omega)
    split <;> simp <;> omega
  · have hl : ((6 : Int)) ≠ 0 := by decide
    have e : ((k : Rat) / ((6 : Nat) : Rat)) = (k : Rat) / ((6 : Int) : Rat) := rfl
    obtain ⟨e1, _⟩ := rat_of hl (pq_pos (t := k) hl) (pq_cop hl) (pq_cross k 6)
    rw [e, e1]
    exact Nat.le_trans (natAbs_le_of_mul (pq1 k 6) (gOf_ne hl)) hk
theorem at_end2 {G : Gs} {x y : Option C} {r : Gs} : (G ++ x :: y :: r)[G.length + 1]? = some y := by simp
theorem set_end2 {G : Gs} {x y v : Option C} {r : Gs} : (G ++ x :: y :: r).set (G.length + 1) v = G ++ x :: v :: r := by
  rw [List.set_append_right _ _ (by omega), show G.length + 1 - G.length = 1 by omega]; rfl
theorem len_cell {G r : Gs} (l : List Rat) : prim (G ++ some (.lst (l.map pt)) :: r) .len [.cell G.length] = some (.int (l.length : Nat)) := by
  show (match (G ++ some (.lst (l.map pt)) :: r)[G.length]? with
    | some (some (.lst l)) => some (D.int l.length)
    | some (some (.dct ks vs)) => some (D.int ks.length)
    | _ => none) = _
  rw [at_end]
  show some (D.int ((l.map pt).length : Nat)) = _
  rw [List.length_map]
theorem ixl_cell {G r : Gs} {l : List Rat} {v : Rat} : ixD (G ++ some (.lst ((l ++ [v]).map pt)) :: r) (.cell G.length) (.int (-1)) = some (pt v) := by
  unfold ixD
  simp only [at_end]
  rw [List.map_append]
  exact L2.atI_last _ _
def divIn : List St := [.setix (.var 3) (.bin .add (.var 6) (.var 7)) (.call 3 [.ix (.var 3) (.bin .add (.var 6) (.var 7)), .call 4 [.var 5, .var 8]])]
def divBody : List St := [.set (.nm 5) (.call 4 [.ix (.var 3) (.neg (.con (.int 1))), .var 2]),
    .set (.nm 6) (.bin .sub (.prim .len [.var 3]) (.prim .len [.var 1])),
    .for_ (.tp [.nm 7, .nm 8]) (.enum (.var 1)) divIn,
    .ex (.pop (.var 3)),
    .ex (.app (.var 4) (.var 5))]
def divTest : PV.E := .cmp .ge (.prim .len [.var 3]) (.prim .len [.var 1])
section
variable (n : Nat) {G : Gs} {p q0 : List Rat} {c : Rat} (hq : LB 6 18 4 (q0 ++ [c])) (hc : c ≠ 0)
include hq hc
theorem div_in {t : Nat} (ht : t ≤ 4) {R w : List Rat} {by_ : Rat} (hr : q0.length + 1 ≤ R.length) (hR : ∀ r ∈ R, Bd (DT t) (BT t) r) (hby : Bd (DT t * LA) (BT t * (6 * LA)) by_) (X0 X2 z7 z8 : Option D) :
    ∃ R' z7' z8', forL (fun d ρ1 G2 => match PV.assign ρ1 (.tp [.nm 7, .nm 8]) d with | some ρ2 => evB (Sa (n + 5)) divIn ρ2 G2 | none => .bad) ((q0 ++ [c]).zipIdx.map fun x => D.tup [.int (x.2 : Nat), pt x.1]) [X0, some (cv (q0 ++ [c])), X2, some (.cell G.length), some (.cell (G.length + 1)), some (pt by_), some (.int ((R.length - (q0.length + 1) : Nat) : Int)), z7, z8] (G ++ [some (C.lst (R.map pt)), some (C.lst (w.map pt))]) = .next [X0, some (cv (q0 ++ [c])), X2, some (.cell G.length), some (.cell (G.length + 1)), some (pt by_), some (.int ((R.length - (q0.length + 1) : Nat) : Int)), z7', z8'] (G ++ [some (C.lst (R'.map pt)), some (C.lst (w.map pt))]) ∧
      R'.length = R.length ∧ (∀ r ∈ R', Bd (DT (t + 1)) (BT (t + 1)) r) ∧ (∀ x, ev R' x = ev R x - by_ * x ^ (R.length - (q0.length + 1)) * ev (q0 ++ [c]) x) ∧ R'.getD (R.length - 1) 0 = R.getD (R.length - 1) 0 - by_ * c := by
  have hlen : (q0 ++ [c]).length = q0.length + 1 := by simp
  have eD : DT t * LA * 6 = DT (t + 1) := by rw [DT_succ, Nat.mul_assoc, Nat.mul_comm LA 6]
  have e108 : BT t * (6 * LA) * 18 + BT t * (6 * LA) ≤ BT (t + 1) := by
    rw [BT_succ]
    have : BT t * (114 * LA) = BT t * (6 * LA) * 18 + BT t * (6 * LA) := by
      rw [show 114 * LA = (6 * LA) * 18 + 6 * LA by unfold LA; rfl, Nat.mul_add, Nat.mul_assoc (BT t) (6 * LA) 18]
    omega
  have hRu : ∀ r ∈ R, Bd (DT (t + 1)) (BT t * (6 * LA)) r := fun r hr => by
    have := (hR r hr).up (E := 6 * LA) (by decide)
    rw [← DT_succ] at this
    exact this
  have lim1 := lim_T (t := t + 1) (by omega)
  have fR : ∀ r, Bd (DT (t + 1)) (BT (t + 1)) r → Fi r := fun r h => h.fi' (by omega) (by omega) lim1
  have fby : Fi by_ := by
    have := hby.up (E := 6) (by decide)
    rw [eD] at this
    exact fR _ (this.mono (by omega))
  have hR1 : ∀ r ∈ R, Bd (DT (t + 1)) (BT (t + 1)) r := fun r hr => (hRu r hr).mono (by omega)
  obtain ⟨ρ', G', e, R', h1, h2, h3, h4, h5, z7', z8', rfl, rfl⟩ := forL_inv (fun d ρ1 G2 => match PV.assign ρ1 (.tp [.nm 7, .nm 8]) d with | some ρ2 => evB (Sa (n + 5)) divIn ρ2 G2 | none => .bad) (fun x : Rat × Nat => D.tup [.int (x.2 : Nat), pt x.1])
    (fun u ρ G' => ∃ R', R'.length = R.length ∧ (∀ k, R.length - (q0.length + 1) + u.length ≤ k → R'.getD k 0 = R.getD k 0) ∧ (∀ r ∈ R', Bd (DT (t + 1)) (BT (t + 1)) r) ∧ (∀ x, ev R' x = ev R x - by_ * x ^ (R.length - (q0.length + 1)) * ev ((q0 ++ [c]).take u.length) x) ∧ (u.length = q0.length + 1 → R'.getD (R.length - 1) 0 = R.getD (R.length - 1) 0 - by_ * c) ∧ ∃ z7 z8, ρ = [X0, some (cv (q0 ++ [c])), X2, some (.cell G.length), some (.cell (G.length + 1)), some (pt by_), some (.int ((R.length - (q0.length + 1) : Nat) : Int)), z7, z8] ∧ G' = G ++ [some (C.lst (R'.map pt)), some (C.lst (w.map pt))])
    (q0 ++ [c]).zipIdx [] [X0, some (cv (q0 ++ [c])), X2, some (.cell G.length), some (.cell (G.length + 1)), some (pt by_), some (.int ((R.length - (q0.length + 1) : Nat) : Int)), z7, z8] (G ++ [some (C.lst (R.map pt)), some (C.lst (w.map pt))])
    ⟨R, rfl, fun k _ => rfl, hR1, fun x => by show _ = _ - by_ * _ * (0 : Rat); grind, fun e => absurd e (by simp), z7, z8, rfl, rfl⟩
    fun u bj v ρ G' hu ⟨R', h1, h2, h3, h4, h5, z7, z8, hρ, hG'⟩ => by
      subst hρ hG'
      obtain ⟨ej, hb, hul⟩ := zip_at hu
      obtain ⟨b, j⟩ := bj
      have ej : j = u.length := ej
      subst ej
      have hb : (q0 ++ [c])[u.length]? = some b := hb
      rw [hlen] at hul
      have hbq := hq.2.2 b (List.mem_of_getElem? hb)
      have hk : R.length - (q0.length + 1) + u.length < R'.length := by omega
      have hg := getD_of hk
      have hold := h2 _ (Nat.le_refl _)
      have hkR : R.length - (q0.length + 1) + u.length < R.length := by omega
      have bold : Bd (DT (t + 1)) (BT t * (6 * LA)) (R'.getD (R.length - (q0.length + 1) + u.length) 0) := by
        rw [hold]
        exact hRu _ (List.mem_of_getElem? (getD_of hkR))
      have bprod : Bd (DT (t + 1)) (BT t * (6 * LA) * 18) (by_ * b) := by
        have := hby.mul hbq
        rw [eD] at this
        exact this
      have bnew := bold.sub bprod
      have fb : Fi b := hbq.fi' (M := 18) (by decide) (by decide) (.of (by decide +kernel))
      have f1 : Fi (R'.getD (R.length - (q0.length + 1) + u.length) 0) := fR _ (bold.mono (by omega))
      have f2 : Fi (by_ * b) := fR _ (bprod.mono (by omega))
      have hidx : ((R.length - (q0.length + 1) : Nat) : Int) + ((u.length : Nat) : Int) = ((R.length - (q0.length + 1) + u.length : Nat) : Int) := by omega
      have hix : ixD (G ++ some (.lst (R'.map pt)) :: [some (.lst (w.map pt))]) (.cell G.length) (.int (((R.length - (q0.length + 1) : Nat) : Int) + ((u.length : Nat) : Int))) = some (pt (R'.getD (R.length - (q0.length + 1) + u.length) 0)) := by rw [hidx]; exact ix_cell hg
      have hst : setD (G ++ some (.lst (R'.map pt)) :: [some (.lst (w.map pt))]) (.cell G.length) (.int (((R.length - (q0.length + 1) : Nat) : Int) + ((u.length : Nat) : Int))) (pt (R'.getD (R.length - (q0.length + 1) + u.length) 0 - by_ * b)) = some (G ++ some (.lst ((R'.set (R.length - (q0.length + 1) + u.length) (R'.getD (R.length - (q0.length + 1) + u.length) 0 - by_ * b)).map pt)) :: [some (.lst (w.map pt))]) := by rw [hidx]; exact set_cell hk
      refine ⟨_, _, b_next (s_setix (x_call (x_es (x_ix x_v (x_bin x_v x_v (ba _ _)) hix) (x_es (x_call (x_es x_v (x_es x_v x_es0)) (cal_times (n + 2) _ fby fb)) x_es0)) (cal_minus (n + 2) _ f1 f2)) x_v (x_bin x_v x_v (ba _ _)) hst) rfl, R'.set (R.length - (q0.length + 1) + u.length) (R'.getD (R.length - (q0.length + 1) + u.length) 0 - by_ * b), by rw [List.length_set]; exact h1, fun k hkk => ?_, mem_set h3 (bnew.mono (by omega)), fun x => ?_, fun hul2 => ?_, some (.int (u.length : Nat)), some (pt b), rfl, rfl⟩
      · rw [List.length_append, List.length_singleton] at hkk
        rw [List.getD_eq_getElem?_getD, List.getElem?_set_ne (by omega), ← List.getD_eq_getElem?_getD]
        exact h2 k (by omega)
      · rw [Rat.sub_eq_add_neg, ev_set _ x R' _ hk, h4 x, List.length_append, List.length_singleton, ev_take hb x, rpow_add]
        grind
      · rw [List.length_append, List.length_singleton] at hul2
        have e1 : R.length - (q0.length + 1) + u.length = R.length - 1 := by omega
        have e2 : b = c := by
          have : u.length = q0.length := by omega
          rw [this, List.getElem?_append_right (Nat.le_refl _), Nat.sub_self] at hb
          exact (Option.some.inj hb).symm
        rw [e1] at hold ⊢
        rw [List.getD_eq_getElem?_getD, List.getElem?_set_self (by omega), hold, e2]
        rfl
  rw [List.nil_append, zip_len, hlen] at h4 h5
  refine ⟨R', z7', z8', e, h1, h3, fun x => ?_, h5 rfl⟩
  rw [h4 x, ← hlen, List.take_length]
end
end LK
end
/-! ## R7b -/
section
set_option Elab.async false
set_option linter.all false
set_option maxRecDepth 200000
set_option maxHeartbeats 8000000
set_option exponentiation.threshold 300
namespace LK
open PySem PV RP
theorem getLast_getD (l : List Rat) (h : 0 < l.length) : l = l.dropLast ++ [l.getD (l.length - 1) 0] := by
  have hne : l ≠ [] := by intro e; subst e; cases h
  have := (List.dropLast_concat_getLast hne).symm
  have e : l.getLast hne = l.getD (l.length - 1) 0 := by
    rw [List.getLast_eq_getElem, List.getD_eq_getElem?_getD, List.getElem?_eq_getElem (by omega)]; rfl
  rw [e] at this
  exact this
theorem LT_mono {t : Nat} {r : Rat} (h : Bd (DT t) (BT t) r) : Bd (DT (t + 1)) (BT (t + 1)) r := by
  have h1 := h.up (E := 6 * LA) (by decide)
  rw [← DT_succ] at h1
  refine h1.mono ?_
  rw [BT_succ]
  exact Nat.mul_le_mul_left _ (by unfold LA; decide)
abbrev dEnv (X0 X1 : Option D) (c : Rat) (G : Gs) (z5 z6 z7 z8 : Option D) : PV.Env := [X0, X1, some (pt (1 / c)), some (.cell G.length), some (.cell (G.length + 1)), z5, z6, z7, z8]
section
variable (n : Nat) {G : Gs} {p q0 : List Rat} {c : Rat} (hq : LB 6 18 4 (q0 ++ [c])) (hc : c ≠ 0)
include hq hc
theorem div_loop (X0 : Option D) (P : Rat → Rat) : ∀ (r m t : Nat) (R w : List Rat) (z5 z6 z7 z8 : Option D), R.length = r → r + t ≤ 4 → r < m → (∀ x ∈ R, Bd (DT t) (BT t) x) → (∀ x ∈ w, Bd (DT t) (BT t) x) → w.length ≤ t → (∀ x, P x = ev (q0 ++ [c]) x * (x ^ (r + 1 - (q0.length + 1)) * ev w.reverse x) + ev R x) →
    ∃ (t' : Nat) (R' w' : List Rat) (y5 y6 y7 y8 : Option D), t' ≤ 4 ∧ whL (fun ρ1 G1 => evE (Sa (n + 5)) ρ1 divTest G1) (fun ρ1 G1 => evB (Sa (n + 5)) divBody ρ1 G1) m (dEnv X0 (some (cv (q0 ++ [c]))) c G z5 z6 z7 z8) (G ++ [some (C.lst (R.map pt)), some (C.lst (w.map pt))]) = .next (dEnv X0 (some (cv (q0 ++ [c]))) c G y5 y6 y7 y8) (G ++ [some (C.lst (R'.map pt)), some (C.lst (w'.map pt))]) ∧
      R'.length ≤ r ∧ R'.length < q0.length + 1 ∧ (∀ x ∈ R', Bd (DT t') (BT t') x) ∧ (∀ x ∈ w', Bd (DT t') (BT t') x) ∧ w'.length ≤ t' ∧ ∀ x, P x = ev (q0 ++ [c]) x * ev w'.reverse x + ev R' x
  | r, 0, _, _, _, _, _, _, _, _, _, hm, _, _, _, _ => by omega
  | r, m + 1, t, R, w, z5, z6, z7, z8, hr, hrt, hm, hR, hw, hwl, hP => by
    have hlen : (q0 ++ [c]).length = q0.length + 1 := by simp
    by_cases h : r < q0.length + 1
    · refine ⟨t, R, w, z5, z6, z7, z8, by omega, wh_stop (S := Sa (n + 5)) (x_cmp (x_prim (x_es x_v x_es0) (len_cell R)) (x_prim (x_es x_v x_es0) (len_cv (q0 ++ [c]))) ?_), by omega, by omega, hR, hw, hwl, fun x => ?_⟩
      · rw [cge, decide_eq_false (by omega)]
      · rw [hP x, show r + 1 - (q0.length + 1) = 0 by omega]
        grind
    · have hR0 : 0 < R.length := by omega
      have hsplit := getLast_getD R hR0
      have hb0 : Bd (DT t) (BT t) (R.getD (R.length - 1) 0) := hR _ (List.mem_of_getElem? (getD_of (by omega)))
      generalize hc0 : R.getD (R.length - 1) 0 = c0 at hsplit hb0
      have hcb := hq.2.2 c (by simp)
      obtain ⟨hinv, _⟩ := bd_inv hcb hc
      have hby : Bd (DT t * LA) (BT t * (6 * LA)) (c0 * (1 / c)) := hb0.mul hinv
      have lim0 := lim_T (t := t) (by omega)
      have f0 : Fi c0 := hb0.fi' (by omega) (by omega) lim0
      have fi : Fi (1 / c) := hinv.fi' (M := 6 * LA) (by decide) (Nat.le_refl _) (.of (by decide +kernel))
      obtain ⟨R', z7', z8', e, h1, h2, h3, h4⟩ := div_in n hq hc (G := G) (t := t) (by omega) (R := R) (w := w) (by_ := c0 * (1 / c)) (by omega) hR hby X0 (some (pt (1 / c))) z7 z8
      rw [hc0] at h4
      have hz : R'.getD (R.length - 1) 0 = 0 := by rw [h4]; grind
      have hs' := getLast_getD R' (by omega)
      rw [h1, hz] at hs'
      have bby : Bd (DT (t + 1)) (BT (t + 1)) (c0 * (1 / c)) := by
        have := hby.up (E := 6) (by decide)
        rw [show DT t * LA * 6 = DT (t + 1) by rw [DT_succ, Nat.mul_assoc, Nat.mul_comm LA 6]] at this
        refine this.mono ?_
        rw [BT_succ, Nat.mul_assoc]
        exact Nat.mul_le_mul_left _ (by unfold LA; decide)
      have hlast : (G ++ some (C.lst (R.map pt)) :: [some (C.lst (w.map pt))]) = G ++ some (C.lst ((R.dropLast ++ [c0]).map pt)) :: [some (C.lst (w.map pt))] := by rw [← hsplit]
      have hix : ixD (G ++ some (C.lst (R.map pt)) :: [some (C.lst (w.map pt))]) (.cell G.length) (.int (-1)) = some (pt c0) := by rw [hlast]; exact ixl_cell
      have ha : cmpD .ge (.int (R.length : Nat)) (.int ((q0 ++ [c]).length : Nat)) = some true := by rw [cge, decide_eq_true (by omega)]
      have hsub : binD .sub (.int (R.length : Nat)) (.int ((q0 ++ [c]).length : Nat)) = some (.int ((R.length - (q0.length + 1) : Nat) : Int)) := by
        rw [bs, hlen]
        have : ((R.length : Nat) : Int) - ((q0.length + 1 : Nat) : Int) = ((R.length - (q0.length + 1) : Nat) : Int) := by omega
        rw [this]
      have hpop : (R'.map pt)[(R'.map pt).length - 1]? = some (pt 0) := by
        rw [List.length_map, h1]
        have hg := getD_of (l := R') (k := R.length - 1) (by omega)
        rw [hz] at hg
        rw [List.getElem?_map, hg]; rfl
      have hdl : (R'.map pt).dropLast = R'.dropLast.map pt := by rw [List.map_dropLast]
      have hwlen : (w.map pt).length < sizeLine := by rw [List.length_map, szl]; omega
      have hP' : ∀ x, P x = ev (q0 ++ [c]) x * (x ^ (r - 1 + 1 - (q0.length + 1)) * ev (w ++ [c0 * (1 / c)]).reverse x) + ev R'.dropLast x := fun x => by
        have hd : ev R' x = ev R'.dropLast x := by
          have e1 : ev R' x = ev (R'.dropLast ++ [0]) x := congrArg (fun l => ev l x) hs'
          rw [e1, ev_app]
          show _ + x ^ _ * ((0 : Rat) + x * 0) = _
          grind
        rw [← hd, h3 x, hP x, List.reverse_append]
        show _ = ev (q0 ++ [c]) x * (_ * (c0 * (1 / c) + x * ev w.reverse x)) + _
        rw [show r + 1 - (q0.length + 1) = (R.length - (q0.length + 1)) + 1 by omega, show r - 1 + 1 - (q0.length + 1) = R.length - (q0.length + 1) by omega, Rat.pow_succ]
        grind
      obtain ⟨t', Rf, wf, y5, y6, y7, y8, g1, g2, g3, g4, g5, g6, g7, g8⟩ := div_loop X0 P (r - 1) m (t + 1) R'.dropLast (w ++ [c0 * (1 / c)]) (some (pt (c0 * (1 / c)))) (some (.int ((R.length - (q0.length + 1) : Nat) : Int))) z7' z8' (by rw [List.length_dropLast]; omega) (by omega) (by omega) (fun x hx => h2 x (List.mem_of_mem_take (List.dropLast_eq_take ▸ hx))) (fun x hx => by
        rcases List.mem_append.mp hx with hx | hx
        · exact LT_mono (hw x hx)
        · rw [List.mem_singleton.mp hx]; exact bby) (by rw [List.length_append, List.length_singleton]; omega) hP'
      have step : evB (Sa (n + 5)) divBody (dEnv X0 (some (cv (q0 ++ [c]))) c G z5 z6 z7 z8) (G ++ [some (C.lst (R.map pt)), some (C.lst (w.map pt))]) = .next (dEnv X0 (some (cv (q0 ++ [c]))) c G (some (pt (c0 * (1 / c)))) (some (.int ((R.length - (q0.length + 1) : Nat) : Int))) z7' z8') (G ++ [some (C.lst (R'.dropLast.map pt)), some (C.lst ((w ++ [c0 * (1 / c)]).map pt))]) := by
        refine b_next (s_set (x_call (x_es (x_ix x_v (x_neg x_c) hix) (x_es x_v x_es0)) (cal_times (n + 2) _ f0 fi))) (b_next (s_set (x_bin (x_prim (x_es x_v x_es0) (len_cell R)) (x_prim (x_es x_v x_es0) (len_cv (q0 ++ [c]))) hsub)) (b_next (s_for (i_enum x_v) (by rw [enum_pt]; exact e)) (b_next (s_ex (x_pop x_v at_end hpop)) ?_)))
        rw [set_end, hdl]
        refine b_next (s_ex (x_app x_v at_end2 x_v at_end2 hwlen)) ?_
        rw [set_end2, List.map_append]
        rfl
      exact ⟨t', Rf, wf, y5, y6, y7, y8, g1, wh_go (S := Sa (n + 5)) (x_cmp (x_prim (x_es x_v x_es0) (len_cell R)) (x_prim (x_es x_v x_es0) (len_cv (q0 ++ [c]))) ha) step g2, by omega, g4, g5, g6, g7, g8⟩
theorem cal_divided (hG : Cl G) (hp : LB 6 18 4 p) : ∃ W R t, t ≤ 4 ∧ (Sa (n + 6)).cal 16 [cv p, cv (q0 ++ [c])] G = .ok (.tup [cv (trim W), cv (trim R)]) G ∧ R.length < q0.length + 1 ∧ R.length ≤ 4 ∧ W.length ≤ 4 ∧ (∀ x ∈ R, Bd (DT t) (BT t) x) ∧ (∀ x ∈ W, Bd (DT t) (BT t) x) ∧ ∀ x, ev p x = ev (q0 ++ [c]) x * ev W x + ev R x := by
  have hcb := hq.2.2 c (by simp)
  obtain ⟨hinv, hnum⟩ := bd_inv hcb hc
  have fc : Fi c := hcb.fi' (M := 18) (by decide) (by decide) (.of (by decide +kernel))
  have hlen : (q0 ++ [c]).length = q0.length + 1 := by simp
  obtain ⟨t, R, w, y5, y6, y7, y8, g1, g2, g3, g4, g5, g6, g7, g8⟩ := div_loop n hq hc (G := G) (some (cv p)) (ev p) p.length 100000 0 p [] none none none none rfl (by have := hp.2.1; omega) (by have := hp.2.1; omega) (fun x hx => hp.2.2 x hx) (fun x hx => nomatch hx) (Nat.le_refl _) (fun x => by show _ = _ * (_ * (0 : Rat)) + _; grind)
  have hgd : (q0 ++ [c]).getD q0.length 0 = c := by
    rw [List.getD_eq_getElem?_getD, List.getElem?_append_right (Nat.le_refl _), Nat.sub_self]; rfl
  have ep : (Sa (n + 5)).cal 11 [cv (q0 ++ [c]), .int (((q0 ++ [c]).length : Nat) - 1)] G = .ok (pt c) G := by
    have h := cal_part_at (n + 4) G (q0 ++ [c]) q0.length
    rw [hgd] at h
    rw [hlen, show (((q0.length + 1 : Nat) : Int) - 1) = (q0.length : Nat) by omega]
    exact h
  have eo := cal_over (n + 2) G (a := 1) (b := c) fi1 fc hc (.inr (by
    show (((1 : Rat).den : Int) * c.num).natAbs < 1073741824
    rw [show ((1 : Rat).den : Int) = 1 from rfl, Int.one_mul]
    omega))
  have lim := lim_T (t := t) (by omega)
  have eR := cal_curve (n + 1) (G ++ [none, none]) (x := lv R) (l := R) rfl (fun r hr => (g5 r hr).fi' (by omega) (by omega) lim) (by have := hp.2.1; omega)
  have eW := cal_curve (n + 1) (G ++ [some (C.lst (R.map pt)), none]) (x := lv w.reverse) (l := w.reverse) rfl (fun r hr => (g6 r (List.mem_reverse.mp hr)).fi' (by omega) (by omega) lim) (by rw [List.length_reverse]; omega)
  have hrev : (w.map pt).reverse = w.reverse.map pt := by rw [List.map_reverse]
  have b : evB (Sa (n + 5)) m_divided.body [some (cv p), some (cv (q0 ++ [c])), none, none, none, none, none, none, none] G = .ret (.tup [cv (trim w.reverse), cv (trim R)]) (G ++ [none, none]) := by
    refine b_next (s_set (x_call (x_es (x_tup (x_es x_c (x_es x_c x_es0))) (x_es (x_call (x_es x_v (x_es (x_call (x_es x_v x_es0) (cal_power (n + 4) G _)) x_es0)) ep) x_es0)) eo)) (b_next (s_set (x_listC x_v rfl)) (b_next (s_set (x_lstC x_es0)) ?_))
    have e0 : (G ++ [some (C.lst (p.map pt))]) ++ [some (C.lst [])] = G ++ [some (C.lst (p.map pt)), some (C.lst ((([] : List Rat)).map pt))] := by simp
    have e1 : (G ++ [some (C.lst (p.map pt))]).length = G.length + 1 := by simp
    rw [e0, e1]
    refine b_next g2 (b_ret (s_ret (x_tup (x_es (x_call (x_es (x_rev (x_take x_v at_end2)) x_es0) (r := .ok (cv (trim w.reverse)) (G ++ [some (C.lst (R.map pt)), none])) ?_) (x_es (x_call (x_es (x_take x_v at_end) x_es0) (r := .ok (cv (trim R)) (G ++ [none, none])) ?_) x_es0)))))
    · rw [set_end2, hrev]; exact eW
    · rw [set_end]; exact eR
  refine ⟨w.reverse, R, t, g1, ((cal_at (n + 5) 16 (by decide) rfl _ G).trans (run_d m_divided (args := [cv p, cv (q0 ++ [c])]) (S := Sa (n + 5)) (ρ := [some (cv p), some (cv (q0 ++ [c])), none, none, none, none, none, none, none]) (G := G) rfl rfl b)).trans (gc_drop hG ?_), g4, by have := hp.2.1; omega, by rw [List.length_reverse]; omega, g5, fun x hx => g6 x (List.mem_reverse.mp hx), g8⟩
  show (free (cv (trim w.reverse)) && (free (cv (trim R)) && true)) = true
  rw [free_cv, free_cv]; rfl
end
end LK
end
/-! ## R8 -/
section
set_option Elab.async false
set_option linter.all false
set_option maxRecDepth 200000
set_option maxHeartbeats 8000000
set_option exponentiation.threshold 300
namespace LK
open PySem PV RP
/-! the lowest through points -/
def dPt (z : Int × Rat) : D := .tup [pt (z.1 : Rat), pt z.2]
def prodL (xi : Int) (u : List Int) (x : Rat) : Rat := u.foldl (fun (a : Rat) (o : Int) => a * ((x - (o : Rat)) / ((xi : Rat) - (o : Rat)))) 1
theorem prodL_snoc (xi : Int) (u : List Int) (o : Int) (x : Rat) : prodL xi (u ++ [o]) x = prodL xi u x * ((x - (o : Rat)) / ((xi : Rat) - (o : Rat))) := by unfold prodL; rw [List.foldl_append]; rfl
theorem fold_zero (xi : Int) (x : Rat) : ∀ u : List Int, u.foldl (fun (a : Rat) (o : Int) => a * ((x - (o : Rat)) / ((xi : Rat) - (o : Rat)))) 0 = 0
  | [] => rfl
  | o :: u => by
    rw [List.foldl_cons, Rat.zero_mul]
    exact fold_zero xi x u
theorem fold_mem (xi : Int) (k : Int) : ∀ (u : List Int) (a : Rat), k ∈ u → u.foldl (fun (a : Rat) (o : Int) => a * (((k : Rat) - (o : Rat)) / ((xi : Rat) - (o : Rat)))) a = 0
  | [], a, h => by cases h
  | o :: u, a, h => by
    rw [List.foldl_cons]
    rcases List.mem_cons.mp h with rfl | h
    · have : a * (((k : Rat) - (k : Rat)) / ((xi : Rat) - (k : Rat))) = 0 := by grind
      rw [this]
      exact fold_zero xi _ u
    · exact fold_mem xi k u _ h
theorem prodL_zero {xi k : Int} {u : List Int} (h : k ∈ u) : prodL xi u (k : Rat) = 0 := fold_mem xi k u 1 h
theorem prodL_one {xi : Int} : ∀ {u : List Int}, xi ∉ u → prodL xi u (xi : Rat) = 1
  | [], _ => rfl
  | o :: u, h => by
    have h1 : xi ≠ o := fun e => h (by rw [e]; exact List.mem_cons_self ..)
    have h2 : (xi : Rat) - (o : Rat) ≠ 0 := fun e => h1 (Rat.intCast_inj.mp (by grind))
    have h3 : (1 : Rat) * (((xi : Rat) - (o : Rat)) / ((xi : Rat) - (o : Rat))) = 1 := by grind
    show u.foldl _ ((1 : Rat) * (((xi : Rat) - (o : Rat)) / ((xi : Rat) - (o : Rat)))) = 1
    rw [h3]
    exact prodL_one fun h' => h (List.mem_cons_of_mem _ h')
theorem inv2520 {a : Int} (h0 : a ≠ 0) (h : a.natAbs ≤ 10) : Bd 2520 2520 (1 / (a : Rat)) := by
  have hd : ∀ k ∈ List.range 11, 0 < k → k * (2520 / k) = 2520 := by decide +kernel
  have hk := hd a.natAbs (List.mem_range.mpr (by omega)) (by omega)
  generalize 2520 / a.natAbs = j at hk
  have hj : j ≤ 2520 := by rw [← hk]; exact Nat.le_mul_of_pos_left _ (by omega)
  have ha : (a : Rat) ≠ 0 := fun e => h0 (Rat.intCast_eq_zero_iff.mp e)
  refine ⟨a.sign * (j : Int), ?_, ?_, by decide⟩
  · have e : ((2520 : Nat) : Int) = a * (a.sign * (j : Int)) := by
      rw [← hk]
      rcases Int.lt_or_gt_of_ne h0 with h1 | h1
      · rw [Int.sign_eq_neg_one_of_neg h1]
        have : ((a.natAbs : Nat) : Int) = -a := by omega
        rw [Int.natCast_mul, this]; grind
      · rw [Int.sign_eq_one_of_pos h1]
        have : ((a.natAbs : Nat) : Int) = a := by omega
        rw [Int.natCast_mul, this]; grind
    have e2 : ((2520 : Nat) : Rat) = (a : Rat) * ((a.sign * (j : Int) : Int) : Rat) := by rw [← Rat.intCast_mul, ← e, Rat.intCast_natCast]
    have h2 : ((2520 : Nat) : Rat) ≠ 0 := fun e => by have := Rat.natCast_eq_zero_iff.mp e; omega
    generalize ((a.sign * (j : Int) : Int) : Rat) = y at *
    generalize ((2520 : Nat) : Rat) = z at *
    generalize (a : Rat) = u at *
    grind
  · rw [Int.natAbs_mul, Int.natAbs_sign]
    split <;> simp <;> omega
def QB : Nat → Nat
  | 0 => 3000
  | k + 1 => mulB (QB k) 12600 8
theorem cut_drop (l : List D) (j : Nat) : cutD l (some (j : Int)) none = l.drop j := by
  unfold cutD
  rw [HT.sIx_nat, HT.sIx_none]
  by_cases h : j ≤ l.length
  · rw [Nat.min_eq_left h, List.take_of_length_le (by rw [List.length_drop]; omega)]
  · rw [Nat.min_eq_right (by omega), List.drop_of_length_le (Nat.le_refl _), List.drop_of_length_le (by omega)]
    simp
theorem sl_drop (l : List D) (j : Nat) : slD (.lst l) (some (j : Int)) none = some (.lst (l.drop j)) := by
  show some (D.lst (cutD l (some (j : Int)) none)) = _
  rw [cut_drop]
theorem x_sl2 {S : PV.Sem} {ρ : PV.Env} {G G1 G2 : Gs} {a lo : PV.E} {x d : D} {j : Int} (h1 : evE S ρ a G = .ok x G1) (h2 : evE S ρ lo G1 = .ok (.int j) G2) (h3 : slD x (some j) none = some d) : evE S ρ (.sl a (some lo) none) G = .ok d G2 := by simp only [evE, evO, h1, h2, rb, h3, rof]
def thIn : List St := [.set (.nm 8) (.call 3 [.var 3, .var 6]),
    .set (.nm 5) (.call 15 [.var 5, .call 9 [.lst [.call 5 [.call 3 [.tup [.con (.int 0), .con (.int 1)], .var 6], .var 8], .call 5 [.tup [.con (.int 1), .con (.int 1)], .var 8]]]])]
theorem th_in (n : Nat) {G : Gs} (hG : Cl G) {xi : Int} {y : Rat} (hx : xi.natAbs ≤ 5) (hy : Bd 6 3000 y) (os : List (Int × Rat)) (ho : ∀ o ∈ os, o.1.natAbs ≤ 5 ∧ o.1 ≠ xi) (hl : os.length ≤ 4) (X0 X1 X2 X4 z6 z7 z8 : Option D) :
    ∃ f z6' z7' z8', forL (fun d ρ1 G2 => match PV.assign ρ1 (.tp [.nm 6, .nm 7]) d with | some ρ2 => evB (Sa (n + 5)) thIn ρ2 G2 | none => .bad) (os.map dPt) [X0, X1, X2, some (pt (xi : Rat)), X4, some (cv (trim [y])), z6, z7, z8] G = .next [X0, X1, X2, some (pt (xi : Rat)), X4, some (cv f), z6', z7', z8'] G ∧ f.length ≤ os.length + 1 ∧ LB (6 * 2520 ^ os.length) (QB os.length) 8 f ∧ ∀ x, ev f x = y * prodL xi (os.map (·.1)) x := by
  obtain ⟨ρ', G', e, rfl, f, z6', z7', z8', rfl, h1, h2, h3⟩ := forL_inv (fun d ρ1 G2 => match PV.assign ρ1 (.tp [.nm 6, .nm 7]) d with | some ρ2 => evB (Sa (n + 5)) thIn ρ2 G2 | none => .bad) dPt
    (fun s ρ G' => G = G' ∧ ∃ f z6 z7 z8, ρ = [X0, X1, X2, some (pt (xi : Rat)), X4, some (cv f), z6, z7, z8] ∧ f.length ≤ s.length + 1 ∧ LB (6 * 2520 ^ s.length) (QB s.length) 8 f ∧ ∀ x, ev f x = y * prodL xi (s.map (·.1)) x) os [] [X0, X1, X2, some (pt (xi : Rat)), X4, some (cv (trim [y])), z6, z7, z8] G
    ⟨rfl, trim [y], z6, z7, z8, rfl, trim_len [y], ⟨by decide, Nat.le_trans (trim_len [y]) (by simp), fun r hr => by
      rw [List.mem_singleton.mp (trim_mem hr)]
      exact hy⟩, fun x => by rw [ev_trim]; show y + x * 0 = y * 1; grind⟩
    fun s o t ρ G' hs ⟨hG', f, z6, z7, z8, hρ, h1, h2, h3⟩ => by
      subst hG' hρ
      have hs : os = s ++ o :: t := hs
      obtain ⟨ho1, ho2⟩ := ho o (by rw [hs]; simp)
      have hk : s.length < 4 := by
        have := congrArg List.length hs
        rw [List.length_append, List.length_cons] at this
        omega
      obtain ⟨o, yo⟩ := o
      have ho1 : o.natAbs ≤ 5 := ho1
      have ho2 : o ≠ xi := ho2
      have ha0 : xi - o ≠ 0 := by omega
      have hinv := inv2520 (a := xi - o) ha0 (by omega)
      have hc : ((xi - o : Int) : Rat) = (xi : Rat) - (o : Rat) := Rat.intCast_sub ..
      have hneg : (0 : Rat) - (o : Rat) = ((0 - o : Int) : Rat) := by rw [Rat.intCast_sub]; rfl
      have har : ((xi : Rat) - (o : Rat)) ≠ 0 := fun e => ha0 (Rat.intCast_eq_zero_iff.mp (by rw [hc]; exact e))
      have bq : Bd 2520 12600 (((0 - o : Int) : Rat) / ((xi - o : Int) : Rat)) := by
        have h := (Bd.int (k := 0 - o) (B := 5) (by omega)).mul hinv
        have e1 : (((0 - o : Int) : Rat)) * (1 / ((xi - o : Int) : Rat)) = ((0 - o : Int) : Rat) / ((xi - o : Int) : Rat) := by
          rw [hc]; grind
        rw [e1, Nat.one_mul] at h
        exact h
      have bq2 : Bd 2520 12600 (1 / ((xi - o : Int) : Rat)) := hinv.mono (by decide)
      have lq : LB 2520 12600 8 [((0 - o : Int) : Rat) / ((xi - o : Int) : Rat), 1 / ((xi - o : Int) : Rat)] := ⟨by decide, by simp, fun r hr => by
        rcases List.mem_cons.mp hr with rfl | hr
        · exact bq
        · rw [List.mem_singleton.mp hr]; exact bq2⟩
      have fo : Fi (o : Rat) := fi_small (by omega)
      have fx : Fi (xi : Rat) := fi_small (by omega)
      have fa : Fi ((xi - o : Int) : Rat) := fi_small (by omega)
      have fn : Fi ((0 - o : Int) : Rat) := fi_small (by omega)
      have hlim : Lim (6 * 2520 ^ s.length * 2520 * (mulB (QB s.length) 12600 8 + QB s.length + 12600 + 1)) := by
        generalize s.length = k at hk
        match k, hk with
        | 0, _ => exact .of (by decide +kernel)
        | 1, _ => exact .of (by decide +kernel)
        | 2, _ => exact .of (by decide +kernel)
        | 3, _ => exact .of (by decide +kernel)
      have e1 := cal_minus (n + 2) G fx fo
      rw [← hc] at e1
      have e2 := cal_minus (n + 2) G fi0 fo
      rw [hneg] at e2
      have e3 := cal_over (n + 2) G fn fa (fun e => ha0 (Rat.intCast_eq_zero_iff.mp e)) (.inr (by
        rw [Rat.den_intCast, Rat.num_intCast]
        have : ((1 : Nat) : Int) * (xi - o) = xi - o := Int.one_mul _
        rw [this]; omega))
      have e4 := cal_over (n + 2) G fi1 fa (fun e => ha0 (Rat.intCast_eq_zero_iff.mp e)) (.inr (by
        rw [Rat.num_intCast]
        have : (((1 : Rat).den : Nat) : Int) * (xi - o) = xi - o := Int.one_mul _
        rw [this]; omega))
      have e5 := cal_curve (n + 1) G (x := lv [((0 - o : Int) : Rat) / ((xi - o : Int) : Rat), 1 / ((xi - o : Int) : Rat)]) (l := [((0 - o : Int) : Rat) / ((xi - o : Int) : Rat), 1 / ((xi - o : Int) : Rat)]) rfl (lq.fi (.of (by decide +kernel))) (by simp)
      obtain ⟨e6, F, hF, hFB⟩ := cal_mul n hG h2 lq.trim (by decide) hlim
      have hlen := mul_len f (trim [((0 - o : Int) : Rat) / ((xi - o : Int) : Rat), 1 / ((xi - o : Int) : Rat)])
      have hql := trim_len [((0 - o : Int) : Rat) / ((xi - o : Int) : Rat), 1 / ((xi - o : Int) : Rat)]
      have hql' : (trim [((0 - o : Int) : Rat) / ((xi - o : Int) : Rat), 1 / ((xi - o : Int) : Rat)]).length ≤ 2 := hql
      have hfl : (trim (mulP f (trim [((0 - o : Int) : Rat) / ((xi - o : Int) : Rat), 1 / ((xi - o : Int) : Rat)]))).length ≤ s.length + 1 + 1 := by
        rcases hlen with hlen | hlen
        · have := trim_len (mulP f (trim [((0 - o : Int) : Rat) / ((xi - o : Int) : Rat), 1 / ((xi - o : Int) : Rat)]))
          omega
        · rw [hlen]
          have : ∀ x, ev (mulP f []) x = ev [] x := fun x => by rw [ev_mul]; show _ * (0 : Rat) = 0; grind
          rw [trim_ext this]
          exact Nat.zero_le _
      have lm := mul_lb (M := 8) (Nat.mul_pos h2.1 (by decide)) hF hFB (by omega)
      have e6' : 6 * 2520 ^ s.length * 2520 = 6 * 2520 ^ (s.length + 1) := by rw [Nat.pow_succ, Nat.mul_assoc]
      rw [e6'] at lm
      refine ⟨_, _, b_next (s_set (x_call (x_es x_v (x_es x_v x_es0)) e1)) (b_next (s_set (x_call (x_es x_v (x_es (x_call (x_es (x_lst (x_es (x_call (x_es (x_call (x_es (x_tup (x_es x_c (x_es x_c x_es0))) (x_es x_v x_es0)) e2) (x_es x_v x_es0)) e3) (x_es (x_call (x_es (x_tup (x_es x_c (x_es x_c x_es0))) (x_es x_v x_es0)) e4) x_es0))) x_es0) e5) x_es0)) e6)) rfl), rfl, _, some (pt (o : Rat)), some (pt yo), some (pt ((xi - o : Int) : Rat)), rfl, ?_, ?_, fun x => ?_⟩
      · rw [List.length_append, List.length_singleton]; exact hfl
      · rw [List.length_append, List.length_singleton]; exact lm
      · rw [ev_trim, ev_mul, ev_trim, h3 x, List.map_append]
        show _ = y * prodL xi (s.map (·.1) ++ [o]) x
        rw [prodL_snoc]
        show y * prodL xi (s.map (·.1)) x * (((0 - o : Int) : Rat) / ((xi - o : Int) : Rat) + x * (1 / ((xi - o : Int) : Rat) + x * 0)) = _
        rw [hc, Rat.intCast_sub]
        have : ((0 : Int) : Rat) = 0 := rfl
        rw [this]
        grind
  exact ⟨f, z6', z7', z8', e, h1, h2, h3⟩
end LK
end
/-! ## R8b -/
section
set_option Elab.async false
set_option linter.all false
set_option maxRecDepth 200000
set_option maxHeartbeats 8000000
set_option exponentiation.threshold 300
namespace LK
open PySem PV RP
def lPt (pts : List (Int × Rat)) : D := .lst (pts.map dPt)
theorem enum_dp (l : List (Int × Rat)) : enumD (l.map dPt) = l.zipIdx.map fun x => D.tup [.int (x.2 : Nat), dPt x.1] := by
  unfold enumD
  rw [List.zipIdx_map, List.map_map]
  rfl
def thBody : List St := [.set (.nm 5) (.call 9 [.lst [.var 4]]),
    .for_ (.tp [.nm 6, .nm 7]) (.seq (.bin .add (.sl (.var 0) none (some (.var 2))) (.sl (.var 0) (some (.bin .add (.var 2) (.con (.int 1)))) none))) thIn,
    .set (.nm 1) (.call 12 [.var 1, .var 5])]
theorem lim_m {m : Nat} (h : m ≤ 4) : Lim (6 * 2520 ^ m + 8 * QB m) := by
  match m, h with
  | 0, _ => exact .of (by decide +kernel)
  | 1, _ => exact .of (by decide +kernel)
  | 2, _ => exact .of (by decide +kernel)
  | 3, _ => exact .of (by decide +kernel)
  | 4, _ => exact .of (by decide +kernel)
theorem cal_through (n : Nat) {G : Gs} (hG : Cl G) (pts : List (Int × Rat)) (hx : ∀ z ∈ pts, z.1.natAbs ≤ 5) (hn : (pts.map (·.1)).Nodup) (hy : ∀ z ∈ pts, Bd 6 3000 z.2) (hl : pts.length ≤ 5) : ∃ f, (Sa (n + 6)).cal 21 [lPt pts] G = .ok (cv f) G ∧ Tr f ∧ LB (6 * 2520 ^ (pts.length - 1)) (5 * QB (pts.length - 1)) 8 f ∧ f.length ≤ pts.length ∧ ∀ z ∈ pts, ev f (z.1 : Rat) = z.2 := by
  obtain ⟨ρ', G', e, rfl, f, z2, z3, z4, z5, z6, z7, z8, rfl, h1, h2, h3, h4⟩ := forL_inv (fun d ρ1 G2 => match PV.assign ρ1 (.tp [.nm 2, .tp [.nm 3, .nm 4]]) d with | some ρ2 => evB (Sa (n + 5)) thBody ρ2 G2 | none => .bad) (fun x : (Int × Rat) × Nat => D.tup [.int (x.2 : Nat), dPt x.1])
    (fun s ρ G' => G = G' ∧ ∃ f z2 z3 z4 z5 z6 z7 z8, ρ = [some (lPt pts), some (cv f), z2, z3, z4, z5, z6, z7, z8] ∧ f.length ≤ pts.length ∧ LB (6 * 2520 ^ (pts.length - 1)) (s.length * QB (pts.length - 1)) 8 f ∧ Tr f ∧ ∀ k z, pts[k]? = some z → ev f (z.1 : Rat) = if k < s.length then z.2 else 0)
    pts.zipIdx [] [some (lPt pts), some (cv []), none, none, none, none, none, none, none] G
    ⟨rfl, [], none, none, none, none, none, none, none, rfl, Nat.zero_le _, ⟨Nat.mul_pos (by decide) (Nat.pow_pos (by decide)), Nat.zero_le _, fun r hr => nomatch hr⟩, rfl, fun k z _ => rfl⟩
    fun s zi t ρ G' hs ⟨hG', f, z2, z3, z4, z5, z6, z7, z8, hρ, h1, h2, h3, h4⟩ => by
      subst hG' hρ
      obtain ⟨ei, hz, hsl⟩ := zip_at hs
      obtain ⟨⟨xi, y⟩, i⟩ := zi
      have ei : i = s.length := ei
      subst ei
      have hz : pts[s.length]? = some (xi, y) := hz
      have hmem : (xi, y) ∈ pts := List.mem_of_getElem? hz
      have hsplit : pts = pts.take s.length ++ (xi, y) :: pts.drop (s.length + 1) := by
        have h := (List.take_append_drop s.length pts).symm
        rw [List.drop_eq_getElem_cons hsl] at h
        have : pts[s.length] = (xi, y) := by
          rw [List.getElem?_eq_getElem hsl] at hz
          exact Option.some.inj hz
        rw [this] at h
        exact h
      have hnd := hn
      rw [hsplit, List.map_append, List.map_cons] at hnd
      have hno : xi ∉ (pts.take s.length ++ pts.drop (s.length + 1)).map (·.1) := by
        rw [List.map_append]
        intro hm
        obtain ⟨_, n2, n3⟩ := List.nodup_append.mp hnd
        rcases List.mem_append.mp hm with h | h
        · exact n3 xi h xi (List.mem_cons_self ..) rfl
        · exact (List.nodup_cons.mp n2).1 h
      have hol : (pts.take s.length ++ pts.drop (s.length + 1)).length = pts.length - 1 := by
        rw [List.length_append, List.length_take, List.length_drop]
        omega
      have hsub : ∀ o ∈ pts.take s.length ++ pts.drop (s.length + 1), o ∈ pts := fun o ho => by
        rcases List.mem_append.mp ho with h | h
        · exact List.mem_of_mem_take h
        · exact List.mem_of_mem_drop h
      have fy : Fi y := (hy _ hmem).fi' (M := 3000) (by decide) (Nat.le_refl _) (.of (by decide +kernel))
      have lim := lim_m (m := pts.length - 1) (by omega)
      have e1 := cal_curve (n + 1) G (x := lv [y]) (l := [y]) rfl (fun r hr => by rw [List.mem_singleton.mp hr]; exact fy) (by simp)
      obtain ⟨g, z6', z7', z8', e2, g1, g2, g3⟩ := th_in n hG (hx _ hmem) (hy _ hmem) (pts.take s.length ++ pts.drop (s.length + 1)) (fun o ho => ⟨hx o (hsub o ho), fun e => hno (List.mem_map.mpr ⟨o, ho, e⟩)⟩) (by omega) (some (lPt pts)) (some (cv f)) (some (.int (s.length : Nat))) (some (pt y)) z6 z7 z8
      rw [hol] at g1 g2
      have hsz : s.length * QB (pts.length - 1) ≤ 5 * QB (pts.length - 1) := Nat.mul_le_mul_right _ (by omega)
      obtain ⟨e3, l3⟩ := cal_add n G h2 g2 (by decide) (lim.le (by omega))
      have hadd : binD .add (.lst ((pts.map dPt).take s.length)) (.lst ((pts.map dPt).drop (s.length + 1))) = some (.lst ((pts.take s.length ++ pts.drop (s.length + 1)).map dPt)) := by
        have e0 : (pts.take s.length ++ pts.drop (s.length + 1)).map dPt = (pts.map dPt).take s.length ++ (pts.map dPt).drop (s.length + 1) := by rw [List.map_append, List.map_take, List.map_drop]
        rw [e0]
        refine if_pos ?_
        rw [szl, List.length_take, List.length_drop, List.length_map]
        omega
      have hidx : ((s.length : Nat) : Int) + 1 = ((s.length + 1 : Nat) : Int) := by omega
      refine ⟨_, _, b_next (s_set (x_call (x_es (x_lst (x_es x_v x_es0)) x_es0) e1)) (b_next (s_for (i_seq (x_bin (x_sl1 x_v x_v (sl_lst _ _)) (x_sl2 x_v (x_bin x_v x_c (ba _ _)) (by rw [hidx]; exact sl_drop _ _)) hadd)) e2) (b_next (s_set (x_call (x_es x_v (x_es x_v x_es0)) e3)) rfl)), rfl, _, some (.int (s.length : Nat)), some (pt (xi : Rat)), some (pt y), some (cv g), z6', z7', z8', rfl, ?_, ?_, trim_trim _, fun k z hkz => ?_⟩
      · have := trim_len (addP f g)
        rw [add_len] at this
        omega
      · rw [List.length_append, List.length_singleton]
        have e5 : (s.length + 1) * QB (pts.length - 1) = s.length * QB (pts.length - 1) + QB (pts.length - 1) := Nat.succ_mul _ _
        rw [e5]; exact l3
      · rw [ev_trim, ev_add, h4 k z hkz, g3, List.length_append, List.length_singleton]
        by_cases hks : k = s.length
        · subst hks
          have : z = (xi, y) := Option.some.inj (hkz.symm.trans hz)
          subst this
          rw [if_neg (by omega), if_pos (by omega), prodL_one hno]
          show (0 : Rat) + y * 1 = y
          grind
        · have hin : z.1 ∈ (pts.take s.length ++ pts.drop (s.length + 1)).map (·.1) := by
            refine List.mem_map.mpr ⟨z, ?_, rfl⟩
            rcases Nat.lt_or_gt_of_ne hks with h | h
            · refine List.mem_append_left _ (List.mem_of_getElem? (i := k) ?_)
              rw [List.getElem?_take_of_lt h]; exact hkz
            · refine List.mem_append_right _ (List.mem_of_getElem? (i := k - (s.length + 1)) ?_)
              rw [List.getElem?_drop, show s.length + 1 + (k - (s.length + 1)) = k by omega]; exact hkz
          rw [prodL_zero hin]
          by_cases hk2 : k < s.length
          · rw [if_pos hk2, if_pos (by omega)]; grind
          · rw [if_neg hk2, if_neg (by omega)]; grind
  rw [List.nil_append, zip_len] at h2 h4
  refine ⟨f, ?_, h3, ⟨h2.1, h2.2.1, fun r hr => (h2.2.2 r hr).mono (Nat.mul_le_mul_right _ hl)⟩, h1, fun z hz => ?_⟩
  · have b : evB (Sa (n + 5)) m_through.body [some (lPt pts), none, none, none, none, none, none, none, none] G = .ret (cv f) G := b_next (s_set (x_tup x_es0)) (b_next (s_for (i_enumL x_v) (by rw [enum_dp]; exact e)) (b_ret (s_ret x_v)))
    exact ((cal_at (n + 5) 21 (by decide) rfl _ G).trans (run_d m_through (args := [lPt pts]) (S := Sa (n + 5)) (ρ := [some (lPt pts), none, none, none, none, none, none, none, none]) (G := G) rfl rfl b)).trans gc_self
  · obtain ⟨k, hk, e⟩ := List.getElem_of_mem hz
    have hkz : pts[k]? = some z := by rw [List.getElem?_eq_getElem hk, e]
    rw [h4 k z hkz, if_pos hk]
end LK
end
/-! ## R9 -/
section
set_option Elab.async false
set_option linter.all false
set_option maxRecDepth 200000
set_option maxHeartbeats 8000000
set_option exponentiation.threshold 300
namespace LK
open PySem PV RP
/-! a share as the code goes, checked -/
def fiB (r : Rat) : Bool := decide (r.num.natAbs < 1152921504606846976) && decide (r.den < 1152921504606846976)
theorem fiB_fi {r : Rat} (h : fiB r = true) : Fi r := by
  unfold fiB at h
  simp only [Bool.and_eq_true, decide_eq_true_eq] at h
  have e : (1152921504606846976 : Nat) ≤ 2 ^ 4000 := by
    have : (1152921504606846976 : Nat) = 2 ^ 60 := by decide
    rw [this]
    exact Nat.pow_le_pow_right (by decide) (by decide)
  exact ⟨Nat.lt_of_lt_of_le h.1 e, Nat.lt_of_lt_of_le h.2 e⟩
def chkL (r : Rat) : Bool := fiB r && decide (r ≠ 0) && (decide (0 < r.num) || decide (r.num.natAbs < 1000000))
def inM (b : Rat) (a : Nat) : List Rat → Nat → List Rat → Option (List Rat)
  | [], _, R => some R
  | c :: q, j, R => if fiB (R.getD (a + j) 0) && fiB (b * c) && decide (a + j < R.length) && fiB c then inM b a q (j + 1) (R.set (a + j) (R.getD (a + j) 0 - b * c)) else none
def diM (q : List Rat) (back : Rat) : Nat → List Rat → Option (List Rat)
  | 0, _ => none
  | f + 1, R => if R.length < q.length then (if R.all fiB && decide (R.length < 100) then some R else none) else
      if fiB (R.getD (R.length - 1) 0) && fiB (R.getD (R.length - 1) 0 * back) && decide (0 < R.length) && decide (R.length < 100) then match inM (R.getD (R.length - 1) 0 * back) (R.length - q.length) q 0 R with
        | some R' => diM q back f R'.dropLast
        | none => none
      else none
def remM (p q : List Rat) : Option (List Rat) := if chkL (q.getD (q.length - 1) 0) && decide (0 < q.length) && fiB (1 / q.getD (q.length - 1) 0) && decide (q.length < 100) then (diM q (1 / q.getD (q.length - 1) 0) 100 p).map trim else none
def endM (a : List Rat) : Option (List Rat) := if a = [] then some [] else if chkL (a.getD (a.length - 1) 0) && fiB (1 / a.getD (a.length - 1) 0) && a.all fiB && (scP (1 / a.getD (a.length - 1) 0) a).all fiB && decide (a.length < 100) then some (trim (scP (1 / a.getD (a.length - 1) 0) a)) else none
def shM : Nat → List Rat → List Rat → Option (List Rat)
  | 0, _, _ => none
  | f + 1, a, b => if b = [] then endM a else match remM a b with
    | some r => shM f b r
    | none => none
theorem in_M (n : Nat) {G : Gs} {w : List D} {by_ : Rat} {a : Nat} (fb : Fi by_) (X0 X1 X2 X4 : Option D) : ∀ (q : List Rat) (j : Nat) (R R' : List Rat) (z7 z8 : Option D), inM by_ a q j R = some R' →
    ∃ z7' z8', forL (fun d ρ1 G2 => match PV.assign ρ1 (.tp [.nm 7, .nm 8]) d with | some ρ2 => evB (Sa (n + 5)) divIn ρ2 G2 | none => .bad) ((q.zipIdx j).map fun x => D.tup [.int (x.2 : Nat), pt x.1]) [X0, X1, X2, some (.cell G.length), X4, some (pt by_), some (.int (a : Nat)), z7, z8] (G ++ [some (C.lst (R.map pt)), some (C.lst w)]) = .next [X0, X1, X2, some (.cell G.length), X4, some (pt by_), some (.int (a : Nat)), z7', z8'] (G ++ [some (C.lst (R'.map pt)), some (C.lst w)]) ∧ R'.length = R.length
  | [], j, R, R', z7, z8, h => by
    cases h
    exact ⟨z7, z8, rfl, rfl⟩
  | c :: q, j, R, R', z7, z8, h => by
    unfold inM at h
    split at h
    · rename_i hc
      simp only [Bool.and_eq_true, decide_eq_true_eq] at hc
      obtain ⟨⟨⟨c1, c2⟩, c3⟩, c4⟩ := hc
      obtain ⟨z7', z8', e, hl⟩ := in_M n fb X0 X1 X2 X4 q (j + 1) _ R' (some (.int (j : Nat))) (some (pt c)) h
      have hidx : ((a : Nat) : Int) + ((j : Nat) : Int) = ((a + j : Nat) : Int) := by omega
      have hix : ixD (G ++ some (C.lst (R.map pt)) :: [some (C.lst w)]) (.cell G.length) (.int (((a : Nat) : Int) + ((j : Nat) : Int))) = some (pt (R.getD (a + j) 0)) := by rw [hidx]; exact ix_cell (getD_of c3)
      have hst : setD (G ++ some (C.lst (R.map pt)) :: [some (C.lst w)]) (.cell G.length) (.int (((a : Nat) : Int) + ((j : Nat) : Int))) (pt (R.getD (a + j) 0 - by_ * c)) = some (G ++ some (C.lst ((R.set (a + j) (R.getD (a + j) 0 - by_ * c)).map pt)) :: [some (C.lst w)]) := by rw [hidx]; exact set_cell c3
      refine ⟨z7', z8', ?_, by rw [hl, List.length_set]⟩
      rw [List.zipIdx_cons, List.map_cons]
      refine forL_next (ρ1 := [X0, X1, X2, some (.cell G.length), X4, some (pt by_), some (.int (a : Nat)), some (.int (j : Nat)), some (pt c)]) (G1 := G ++ [some (C.lst ((R.set (a + j) (R.getD (a + j) 0 - by_ * c)).map pt)), some (C.lst w)]) ?_ e
      exact b_next (s_setix (x_call (x_es (x_ix x_v (x_bin x_v x_v (ba _ _)) hix) (x_es (x_call (x_es x_v (x_es x_v x_es0)) (cal_times (n + 2) _ fb (fiB_fi c4))) x_es0)) (cal_minus (n + 2) _ (fiB_fi c1) (fiB_fi c2))) x_v (x_bin x_v x_v (ba _ _)) hst) rfl
    · cases h
theorem di_M (n : Nat) {G : Gs} {q : List Rat} {back : Rat} (fb : Fi back) (X0 : Option D) : ∀ (f m : Nat) (R R' w : List Rat) (z5 z6 z7 z8 : Option D), diM q back f R = some R' → R.length < m → FiL w → w.length + R.length < 500 →
    ∃ (w' : List Rat) (y5 y6 y7 y8 : Option D), whL (fun ρ1 G1 => evE (Sa (n + 5)) ρ1 divTest G1) (fun ρ1 G1 => evB (Sa (n + 5)) divBody ρ1 G1) m [X0, some (cv q), some (pt back), some (.cell G.length), some (.cell (G.length + 1)), z5, z6, z7, z8] (G ++ [some (C.lst (R.map pt)), some (C.lst (w.map pt))]) = .next [X0, some (cv q), some (pt back), some (.cell G.length), some (.cell (G.length + 1)), y5, y6, y7, y8] (G ++ [some (C.lst (R'.map pt)), some (C.lst (w'.map pt))]) ∧ FiL w' ∧ FiL R' ∧ w'.length < 500 ∧ R'.length < 100
  | 0, _, _, _, _, _, _, _, _, h, _, _, _ => by cases h
  | f + 1, 0, _, _, _, _, _, _, _, _, hm, _, _ => by omega
  | f + 1, m + 1, R, R', w, z5, z6, z7, z8, h, hm, hw, hl => by
    unfold diM at h
    split at h
    · rename_i hlt
      split at h <;> cases h
      rename_i hall
      simp only [Bool.and_eq_true, decide_eq_true_eq] at hall
      refine ⟨w, z5, z6, z7, z8, wh_stop (S := Sa (n + 5)) (x_cmp (x_prim (x_es x_v x_es0) (len_cell R)) (x_prim (x_es x_v x_es0) (len_cv q)) ?_), hw, fun r hr => fiB_fi (List.all_eq_true.mp hall.1 r hr), by omega, hall.2⟩
      rw [cge, decide_eq_false (by omega)]
    · rename_i hge
      split at h
      · rename_i hc
        simp only [Bool.and_eq_true, decide_eq_true_eq] at hc
        obtain ⟨⟨⟨c1, c2⟩, c3⟩, c4⟩ := hc
        split at h
        · rename_i R1 hin
          have hsplit := getLast_getD R c3
          generalize hc0 : R.getD (R.length - 1) 0 = c0 at hsplit c1 c2 hin
          obtain ⟨z7', z8', e, hR1⟩ := in_M n (G := G) (w := w.map pt) (fiB_fi c2) X0 (some (cv q)) (some (pt back)) (some (.cell (G.length + 1))) q 0 R R1 z7 z8 hin
          obtain ⟨w', y5, y6, y7, y8, g1, g2⟩ := di_M n fb X0 f m R1.dropLast R' (w ++ [c0 * back]) (some (pt (c0 * back))) (some (.int ((R.length - q.length : Nat) : Int))) z7' z8' h (by rw [List.length_dropLast]; omega) (fun r hr => by
            rcases List.mem_append.mp hr with hr | hr
            · exact hw r hr
            · rw [List.mem_singleton.mp hr]; exact fiB_fi c2) (by rw [List.length_append, List.length_singleton, List.length_dropLast]; omega)
          have hlast : (G ++ some (C.lst (R.map pt)) :: [some (C.lst (w.map pt))]) = G ++ some (C.lst ((R.dropLast ++ [c0]).map pt)) :: [some (C.lst (w.map pt))] := by rw [← hsplit]
          have hix : ixD (G ++ some (C.lst (R.map pt)) :: [some (C.lst (w.map pt))]) (.cell G.length) (.int (-1)) = some (pt c0) := by rw [hlast]; exact ixl_cell
          have ha : cmpD .ge (.int (R.length : Nat)) (.int (q.length : Nat)) = some true := by rw [cge, decide_eq_true (by omega)]
          have hsub : binD .sub (.int (R.length : Nat)) (.int (q.length : Nat)) = some (.int ((R.length - q.length : Nat) : Int)) := by
            rw [bs]
            have : ((R.length : Nat) : Int) - ((q.length : Nat) : Int) = ((R.length - q.length : Nat) : Int) := by omega
            rw [this]
          have hpop : (R1.map pt)[(R1.map pt).length - 1]? = some (pt (R1.getD (R1.length - 1) 0)) := by
            rw [List.length_map, List.getElem?_map, getD_of (by omega)]; rfl
          have hdl : (R1.map pt).dropLast = R1.dropLast.map pt := by rw [List.map_dropLast]
          have hwlen : (w.map pt).length < sizeLine := by rw [List.length_map, szl]; omega
          have step : evB (Sa (n + 5)) divBody [X0, some (cv q), some (pt back), some (.cell G.length), some (.cell (G.length + 1)), z5, z6, z7, z8] (G ++ [some (C.lst (R.map pt)), some (C.lst (w.map pt))]) = .next [X0, some (cv q), some (pt back), some (.cell G.length), some (.cell (G.length + 1)), some (pt (c0 * back)), some (.int ((R.length - q.length : Nat) : Int)), z7', z8'] (G ++ [some (C.lst (R1.dropLast.map pt)), some (C.lst ((w ++ [c0 * back]).map pt))]) := by
            refine b_next (s_set (x_call (x_es (x_ix x_v (x_neg x_c) hix) (x_es x_v x_es0)) (cal_times (n + 2) _ (fiB_fi c1) fb))) (b_next (s_set (x_bin (x_prim (x_es x_v x_es0) (len_cell R)) (x_prim (x_es x_v x_es0) (len_cv q)) hsub)) (b_next (s_for (i_enum x_v) (by rw [enum_pt]; exact e)) (b_next (s_ex (x_pop x_v at_end hpop)) ?_)))
            rw [set_end, hdl]
            refine b_next (s_ex (x_app x_v at_end2 x_v at_end2 hwlen)) ?_
            rw [set_end2, List.map_append]
            rfl
          exact ⟨w', y5, y6, y7, y8, wh_go (S := Sa (n + 5)) (x_cmp (x_prim (x_es x_v x_es0) (len_cell R)) (x_prim (x_es x_v x_es0) (len_cv q)) ha) step g1, g2⟩
        · cases h
      · cases h
theorem chk_over (n : Nat) (G : Gs) {c : Rat} (h : chkL c = true) : (Sa (n + 3)).cal 5 [pt 1, pt c] G = .ok (pt (1 / c)) G := by
  unfold chkL at h
  simp only [Bool.and_eq_true, decide_eq_true_eq, Bool.or_eq_true] at h
  obtain ⟨⟨h1, h2⟩, h3⟩ := h
  refine cal_over n G fi1 (fiB_fi h1) h2 ?_
  rcases h3 with h3 | h3
  · exact .inl h3
  · refine .inr ?_
    rw [show (((1 : Rat).den : Nat) : Int) = 1 from rfl, Int.one_mul]
    omega
theorem rem_M (n : Nat) {G : Gs} (hG : Cl G) {p q r : List Rat} (h : remM p q = some r) (hp : p.length < 400) : ∃ W, (Sa (n + 6)).cal 16 [cv p, cv q] G = .ok (.tup [cv W, cv r]) G := by
  unfold remM at h
  split at h
  · rename_i hc
    simp only [Bool.and_eq_true, decide_eq_true_eq] at hc
    obtain ⟨⟨⟨c1, c2⟩, c3⟩, c4⟩ := hc
    rw [Option.map_eq_some_iff] at h
    obtain ⟨R, hR, rfl⟩ := h
    generalize hc0 : q.getD (q.length - 1) 0 = c at *
    obtain ⟨w, y5, y6, y7, y8, g1, g2, g3, g4, g5⟩ := di_M n (G := G) (fiB_fi c3) (some (cv p)) 100 100000 p R [] none none none none hR (by omega) (fun r hr => nomatch hr) (by simp; omega)
    have ep : (Sa (n + 5)).cal 11 [cv q, .int ((q.length : Nat) - 1)] G = .ok (pt c) G := by
      have h := cal_part_at (n + 4) G q (q.length - 1)
      rw [hc0] at h
      rw [show (((q.length : Nat) : Int) - 1) = ((q.length - 1 : Nat) : Int) by omega]
      exact h
    have eR := cal_curve (n + 1) (G ++ [none, none]) (x := lv R) (l := R) rfl g3 (by omega)
    have eW := cal_curve (n + 1) (G ++ [some (C.lst (R.map pt)), none]) (x := lv w.reverse) (l := w.reverse) rfl (fun r hr => g2 r (List.mem_reverse.mp hr)) (by rw [List.length_reverse]; omega)
    have hrev : (w.map pt).reverse = w.reverse.map pt := by rw [List.map_reverse]
    have b : evB (Sa (n + 5)) m_divided.body [some (cv p), some (cv q), none, none, none, none, none, none, none] G = .ret (.tup [cv (trim w.reverse), cv (trim R)]) (G ++ [none, none]) := by
      refine b_next (s_set (x_call (x_es (x_tup (x_es x_c (x_es x_c x_es0))) (x_es (x_call (x_es x_v (x_es (x_call (x_es x_v x_es0) (cal_power (n + 4) G _)) x_es0)) ep) x_es0)) (chk_over (n + 2) G c1))) (b_next (s_set (x_listC x_v rfl)) (b_next (s_set (x_lstC x_es0)) ?_))
      have e0 : (G ++ [some (C.lst (p.map pt))]) ++ [some (C.lst [])] = G ++ [some (C.lst (p.map pt)), some (C.lst ((([] : List Rat)).map pt))] := by simp
      have e1 : (G ++ [some (C.lst (p.map pt))]).length = G.length + 1 := by simp
      rw [e0, e1]
      refine b_next g1 (b_ret (s_ret (x_tup (x_es (x_call (x_es (x_rev (x_take x_v at_end2)) x_es0) (r := .ok (cv (trim w.reverse)) (G ++ [some (C.lst (R.map pt)), none])) ?_) (x_es (x_call (x_es (x_take x_v at_end) x_es0) (r := .ok (cv (trim R)) (G ++ [none, none])) ?_) x_es0)))))
      · rw [set_end2, hrev]; exact eW
      · rw [set_end]; exact eR
    refine ⟨trim w.reverse, ((cal_at (n + 5) 16 (by decide) rfl _ G).trans (run_d m_divided (args := [cv p, cv q]) (S := Sa (n + 5)) (ρ := [some (cv p), some (cv q), none, none, none, none, none, none, none]) (G := G) rfl rfl b)).trans (gc_drop hG ?_)⟩
    show (free (cv (trim w.reverse)) && (free (cv (trim R)) && true)) = true
    rw [free_cv, free_cv]; rfl
  · cases h
end LK
end
/-! ## R9b -/
section
set_option Elab.async false
set_option linter.all false
set_option maxRecDepth 200000
set_option maxHeartbeats 8000000
set_option exponentiation.threshold 300
namespace LK
open PySem PV RP
theorem rem_len {p q r : List Rat} (h : remM p q = some r) : q.length < 100 := by
  unfold remM at h
  split at h
  · rename_i hc
    simp only [Bool.and_eq_true, decide_eq_true_eq] at hc
    exact hc.2
  · cases h
def shTest : PV.E := .cmp .gt (.prim .len [.var 1]) (.con (.int 0))
def shBody : List St := [.set (.tp [.nm 0, .nm 1]) (.tup [.var 1, .ix (.call 16 [.var 0, .var 1]) (.con (.int 1))])]
theorem sh_loop (n : Nat) {G : Gs} (hG : Cl G) : ∀ (f m : Nat) (a b r : List Rat), shM f a b = some r → f < m → a.length < 400 →
    ∃ a', whL (fun ρ1 G1 => evE (Sa (n + 6)) ρ1 shTest G1) (fun ρ1 G1 => evB (Sa (n + 6)) shBody ρ1 G1) m [some (cv a), some (cv b)] G = .next [some (cv a'), some (cv [])] G ∧ endM a' = some r
  | 0, _, _, _, _, h, _, _ => by cases h
  | f + 1, 0, _, _, _, _, hm, _ => by omega
  | f + 1, m + 1, a, b, r, h, hm, ha => by
    unfold shM at h
    split at h
    · rename_i hb
      subst hb
      exact ⟨a, wh_stop (S := Sa (n + 6)) (x_cmp (x_prim (x_es x_v x_es0) (len_cv [])) x_c rfl), h⟩
    · rename_i hb
      have hb0 : 0 < b.length := by
        cases b with
        | nil => exact absurd rfl hb
        | cons _ _ => simp
      split at h
      · rename_i r1 hr1
        obtain ⟨W, e⟩ := rem_M n hG hr1 ha
        obtain ⟨a', e2, h2⟩ := sh_loop n hG f m b r1 r h (by omega) (by have := rem_len hr1; omega)
        refine ⟨a', wh_go (S := Sa (n + 6)) (x_cmp (x_prim (x_es x_v x_es0) (len_cv b)) x_c (by rw [cgt, decide_eq_true (by omega)])) ?_ e2, h2⟩
        exact b_next (s_set (x_tup (x_es x_v (x_es (x_ix (x_call (x_es x_v (x_es x_v x_es0)) e) x_c rfl) x_es0)))) rfl
      · cases h
theorem cal_shared_curve (n : Nat) {G : Gs} (hG : Cl G) {a b r : List Rat} (h : shM 90 a b = some r) (ha : a.length < 400) : (Sa (n + 7)).cal 23 [cv a, cv b] G = .ok (cv r) G := by
  obtain ⟨a', e, h2⟩ := sh_loop n hG 90 100000 a b r h (by omega) ha
  unfold endM at h2
  split at h2
  · rename_i h0
    subst h0
    cases h2
    have b : evB (Sa (n + 6)) m_shared_curve.body [some (cv a), some (cv b)] G = .ret (cv []) G := b_next e (b_ret (s_itet (x_cmp (x_prim (x_es x_v x_es0) (len_cv [])) x_c rfl) (b_ret (s_ret (x_tup x_es0)))))
    exact ((cal_at (n + 6) 23 (by decide) rfl _ G).trans (run_d m_shared_curve (args := [cv a, cv _]) (S := Sa (n + 6)) (ρ := [some (cv a), some (cv _)]) (G := G) rfl rfl b)).trans gc_self
  · rename_i h0
    split at h2 <;> cases h2
    rename_i hc
    simp only [Bool.and_eq_true, decide_eq_true_eq] at hc
    obtain ⟨⟨⟨⟨c1, c2⟩, c3⟩, c4⟩, c5⟩ := hc
    have hl : 0 < a'.length := by
      cases a' with
      | nil => exact absurd rfl h0
      | cons _ _ => simp
    have hsplit := getLast_getD a' hl
    generalize hc0 : a'.getD (a'.length - 1) 0 = c at *
    have hix : ixD G (cv a') (.int (-1)) = some (pt c) := by
      have : ixD G (cv (a'.dropLast ++ [c])) (.int (-1)) = some (pt c) := ix_last
      rw [← hsplit] at this
      exact this
    have ec := cal_scaled (n + 1) G (p := a') (c := 1 / c) (fun r hr => fiB_fi (List.all_eq_true.mp c3 r hr)) (fiB_fi c2) (fun r hr => fiB_fi (List.all_eq_true.mp c4 r hr)) (by omega)
    have b : evB (Sa (n + 6)) m_shared_curve.body [some (cv a), some (cv b)] G = .ret (cv (trim (scP (1 / c) a'))) G := b_next e (b_next (s_if0 (x_cmp (x_prim (x_es x_v x_es0) (len_cv a')) x_c (by rw [ceq, eqD_int, decide_eq_false (by omega)]))) (b_ret (s_ret (x_call (x_es x_v (x_es (x_call (x_es (x_tup (x_es x_c (x_es x_c x_es0))) (x_es (x_ix x_v (x_neg x_c) hix) x_es0)) (chk_over (n + 3) G c1)) x_es0)) ec))))
    exact ((cal_at (n + 6) 23 (by decide) rfl _ G).trans (run_d m_shared_curve (args := [cv a, cv _]) (S := Sa (n + 6)) (ρ := [some (cv a), some (cv _)]) (G := G) rfl rfl b)).trans gc_self
/-! roots put in -/
def mulLin (r : Int) : Int → List Int → List Int
  | c, [] => [c]
  | c, a :: l => (c - r * a) :: mulLin r a l
def polyZ (c : Int) (rs : List Int) : List Int := rs.foldl (fun l r => mulLin r 0 l) [c]
def rz (l : List Int) : List Rat := l.map fun (a : Int) => (a : Rat)
def dz (r : Int) : D := .tup [.int r, .int 1]
def vals5 : List Int := [-2, -1, 0, 1, 2]
def listsZ : Nat → List (List Int)
  | 0 => [[]]
  | k + 1 => [] :: vals5.flatMap fun l => (listsZ k).map (l :: ·)
def sortedL (l : List Int) : Bool := match l with
  | a :: b :: c :: _ => decide (a ≤ b) && decide (b ≤ c)
  | [a, b] => decide (a ≤ b)
  | _ => true
def T56 : List (List Int) := (listsZ 3).filter sortedL
def insZ (x : Int) : List Int → List Int
  | [] => [x]
  | y :: r => if x ≤ y then x :: y :: r else y :: insZ x r
def srt (l : List Int) : List Int := l.foldr insZ []
def keysZ (l : List Int) : List Int := vals5.filter fun v => l.contains v
def inter (rs ms : List Int) : List Int := (keysZ rs).flatMap fun k => List.replicate (min (rs.count k) (ms.count k)) k
end LK
end
/-! ## R9t -/
section
set_option Elab.async false
set_option linter.all false
set_option maxRecDepth 200000
set_option maxHeartbeats 0
namespace LK
open PySem PV RP
abbrev T156 : List (List Int) := listsZ 3
def pairOk (s1 s2 : List Int) : Bool := shM 90 (rz (polyZ 3 s1)) (rz (polyZ 2 s2)) == some (rz (polyZ 1 (inter s1 s2)))
def rows (j : Nat) : List (List Int) := (T56.drop (4 * j)).take 4
theorem t_sh0 : ((rows 0).all fun s1 => T56.all fun s2 => pairOk s1 s2) = true := by decide +kernel
theorem t_sh1 : ((rows 1).all fun s1 => T56.all fun s2 => pairOk s1 s2) = true := by decide +kernel
theorem t_sh2 : ((rows 2).all fun s1 => T56.all fun s2 => pairOk s1 s2) = true := by decide +kernel
theorem t_sh3 : ((rows 3).all fun s1 => T56.all fun s2 => pairOk s1 s2) = true := by decide +kernel
theorem t_sh4 : ((rows 4).all fun s1 => T56.all fun s2 => pairOk s1 s2) = true := by decide +kernel
theorem t_sh5 : ((rows 5).all fun s1 => T56.all fun s2 => pairOk s1 s2) = true := by decide +kernel
theorem t_sh6 : ((rows 6).all fun s1 => T56.all fun s2 => pairOk s1 s2) = true := by decide +kernel
theorem t_sh7 : ((rows 7).all fun s1 => T56.all fun s2 => pairOk s1 s2) = true := by decide +kernel
theorem t_sh8 : ((rows 8).all fun s1 => T56.all fun s2 => pairOk s1 s2) = true := by decide +kernel
theorem t_sh9 : ((rows 9).all fun s1 => T56.all fun s2 => pairOk s1 s2) = true := by decide +kernel
theorem t_sh10 : ((rows 10).all fun s1 => T56.all fun s2 => pairOk s1 s2) = true := by decide +kernel
theorem t_sh11 : ((rows 11).all fun s1 => T56.all fun s2 => pairOk s1 s2) = true := by decide +kernel
theorem t_sh12 : ((rows 12).all fun s1 => T56.all fun s2 => pairOk s1 s2) = true := by decide +kernel
theorem t_sh13 : ((rows 13).all fun s1 => T56.all fun s2 => pairOk s1 s2) = true := by decide +kernel
theorem t_split : T56 = rows 0 ++ rows 1 ++ rows 2 ++ rows 3 ++ rows 4 ++ rows 5 ++ rows 6 ++ rows 7 ++ rows 8 ++ rows 9 ++ rows 10 ++ rows 11 ++ rows 12 ++ rows 13 := by decide +kernel
theorem t_sh : (T56.all fun s1 => T56.all fun s2 => pairOk s1 s2) = true := by
  have e := congrArg (fun l : List (List Int) => l.all fun s1 => T56.all fun s2 => pairOk s1 s2) t_split
  refine e.trans ?_
  show (rows 0 ++ rows 1 ++ rows 2 ++ rows 3 ++ rows 4 ++ rows 5 ++ rows 6 ++ rows 7 ++ rows 8 ++ rows 9 ++ rows 10 ++ rows 11 ++ rows 12 ++ rows 13).all _ = true
  simp only [List.all_append, t_sh0, t_sh1, t_sh2, t_sh3, t_sh4, t_sh5, t_sh6, t_sh7, t_sh8, t_sh9, t_sh10, t_sh11, t_sh12, t_sh13, Bool.and_self]
theorem t_end1 : (T156.all fun s => shM 90 (rz (polyZ 3 s)) [] == some (trim (scP (1 / 3) (rz (polyZ 3 s)))) && (rz (polyZ 3 s)).all fiB && (scP (1 / 3) (rz (polyZ 3 s))).all fiB && decide ((polyZ 3 s).length < 100)) = true := by decide +kernel
theorem t_srt : (T156.all fun s => T56.contains (srt s) && (polyZ 3 s == polyZ 3 (srt s)) && (polyZ 2 s == polyZ 2 (srt s)) && (keysZ s == keysZ (srt s)) && (vals5.all fun k => s.count k == (srt s).count k) && decide (s.length ≤ 3)) = true := by decide +kernel
end LK
end
/-! ## R10 -/
section
set_option Elab.async false
set_option linter.all false
set_option maxRecDepth 200000
set_option maxHeartbeats 8000000
set_option exponentiation.threshold 300
namespace LK
open PySem PV RP
theorem Dice.cl {k : Nat} {G : Gs} (h : Dice k G) : Cl G := by
  obtain ⟨x, y, z, rfl, _⟩ := h
  rfl
theorem cal_roll (n k : Nat) {G : Gs} {m : Int} (hm : CC m) (h : Dice (k + 1) G) : ∃ r G', (Sa (n + 1)).cal 26 [.cell 0, .int m] G = .ok (.int r) G' ∧ 0 ≤ r ∧ r < m ∧ Dice k G' := by
  obtain ⟨r, G', e, h1, h2, h3⟩ := roll_ok (Sa n) k hm h
  exact ⟨r, G', (cal_at n 26 (by decide) rfl _ G).trans e, h1, h2, h3⟩
theorem cal_rounds (n : Nat) (ns : List Int) (h : ∀ z ∈ ns, z.natAbs < 2 ^ BB) : ∃ G', (Sa (n + 2)).cal 27 [.frz (ns.map .int), .int 1] [] = .ok (.lst [.cell 0]) G' ∧ Dice 8000 G' := by
  obtain ⟨G', e, h1⟩ := rounds_ok (S := Sa (n + 1)) (di := 25) (fun c hc => by
    obtain ⟨G', e, h⟩ := dice_ok (Sa n) c hc
    exact ⟨G', (cal_at n 25 (by decide) rfl _ []).trans e, h⟩) ns h
  exact ⟨G', (cal_at (n + 1) 27 (by decide) rfl _ []).trans e, h1⟩
theorem gc_dice {k j : Nat} {G G' : Gs} {d : D} (h : Dice k G) (h' : Dice j G') (hd : free d = true) : gcR G.length (.ok d G') = .ok d G' := by
  obtain ⟨x, y, z, rfl, _⟩ := h
  obtain ⟨x, y, z, rfl, _⟩ := h'
  show (if (free d && true) = true then (R.ok d _ : R D) else _) = _
  rw [hd]; rfl
theorem bd_small {t l : Int} (h1 : -3 ≤ t ∧ t ≤ 3) (h2 : 1 ≤ l ∧ l ≤ 3) : Bd 6 18 ((t : Rat) / (l : Rat)) := by
  have : l = 1 ∨ l = 2 ∨ l = 3 := by omega
  rcases this with rfl | rfl | rfl
  · refine ⟨t * 6, ?_, by omega, by decide⟩
    rw [Rat.intCast_mul]
    have e1 : ((1 : Int) : Rat) = 1 := rfl
    have e2 : ((6 : Int) : Rat) = 6 := rfl
    have e3 : ((6 : Nat) : Rat) = 6 := rfl
    rw [e1, e2, e3]; grind
  · refine ⟨t * 3, ?_, by omega, by decide⟩
    rw [Rat.intCast_mul]
    have e1 : ((2 : Int) : Rat) = 2 := rfl
    have e2 : ((3 : Int) : Rat) = 3 := rfl
    have e3 : ((6 : Nat) : Rat) = 6 := rfl
    rw [e1, e2, e3]; grind
  · refine ⟨t * 2, ?_, by omega, by decide⟩
    rw [Rat.intCast_mul]
    have e1 : ((3 : Int) : Rat) = 3 := rfl
    have e2 : ((2 : Int) : Rat) = 2 := rfl
    have e3 : ((6 : Nat) : Rat) = 6 := rfl
    rw [e1, e2, e3]; grind
theorem free_pt (r : Rat) : free (pt r) = true := rfl
theorem cal_law_part (n k : Nat) {G : Gs} (h : Dice (k + 2) G) : ∃ r G', (Sa (n + 3)).cal 29 [.cell 0] G = .ok (pt r) G' ∧ Bd 6 18 r ∧ Dice k G' := by
  obtain ⟨t, G1, e1, t1, t2, g1⟩ := cal_roll (n + 1) (k + 1) (m := 7) (by unfold CC; omega) h
  obtain ⟨l, G2, e2, l1, l2, g2⟩ := cal_roll (n + 1) k (m := 3) (by unfold CC; omega) g1
  have hp := cal_part n (t - 3) (1 + l) G2 (by omega) (ok_div (m := 2) (by omega) (by omega) (by decide))
  refine ⟨_, G2, ?_, bd_small (t := t - 3) (l := 1 + l) (by omega) (by omega), g2⟩
  have b := run_e (Sa (n + 2)) m_law_part rfl (args := [.cell 0]) (ρ := [some (.cell 0)]) (G := G) rfl rfl (x_call (x_es (x_bin (x_call (x_es x_v (x_es x_c x_es0)) e1) x_c (bs _ _)) (x_es (x_bin x_c (x_call (x_es x_v (x_es x_c x_es0)) e2) (ba _ _)) x_es0)) hp)
  exact ((cal_at (n + 2) 29 (by decide) rfl _ G).trans b).trans (gc_dice h g2 (free_pt _))
theorem list_pt {Q : Rat → Prop} : ∀ {ys : List D}, (∀ y ∈ ys, ∃ r, y = pt r ∧ Q r) → ∃ l : List Rat, ys = l.map pt ∧ ∀ r ∈ l, Q r
  | [], _ => ⟨[], rfl, fun p hp => nomatch hp⟩
  | y :: ys, h => by
    obtain ⟨p, rfl, hp⟩ := h y (List.mem_cons_self ..)
    obtain ⟨ps, rfl, hs⟩ := list_pt fun z hz => h z (List.mem_cons_of_mem _ hz)
    exact ⟨p :: ps, rfl, fun q hq => (List.mem_cons.mp hq).elim (fun e => e ▸ hp) (hs q)⟩
theorem list_gen {α : Type} {f : α → D} {Q : α → Prop} : ∀ {ys : List D}, (∀ y ∈ ys, ∃ r, y = f r ∧ Q r) → ∃ l : List α, ys = l.map f ∧ ∀ r ∈ l, Q r
  | [], _ => ⟨[], rfl, fun p hp => nomatch hp⟩
  | y :: ys, h => by
    obtain ⟨p, rfl, hp⟩ := h y (List.mem_cons_self ..)
    obtain ⟨ps, rfl, hs⟩ := list_gen fun z hz => h z (List.mem_cons_of_mem _ hz)
    exact ⟨p :: ps, rfl, fun q hq => (List.mem_cons.mp hq).elim (fun e => e ▸ hp) (hs q)⟩
/-! alike -/
theorem eqD_pt (p q : Rat) : eqD (pt p) (pt q) = some (decide (p = q)) := by
  have e : eqD (pt p) (pt q) = some (decide (p.num = q.num) && (decide ((p.den : Int) = (q.den : Int)) && true)) := rfl
  rw [e]
  congr 1
  by_cases h : p = q
  · subst h; simp
  · rw [decide_eq_false h]
    by_cases h1 : p.num = q.num
    · have h2 : p.den ≠ q.den := fun h2 => h (Rat.ext h1 h2)
      have h3 : (p.den : Int) ≠ (q.den : Int) := fun e => h2 (by omega)
      simp [h1, h3]
    · simp [h1]
theorem ne_pt {p q : Rat} (h : p = q) : cmpD .ne (pt p) (pt q) = some false := by
  rw [cne, eqD_pt, decide_eq_true h]; rfl
abbrev pyt (r : Rat) : PyData := .tuple [.int r.num, .int (r.den : Int)]
theorem toPys_pt : ∀ l : List Rat, toPys (l.map pt) = some (l.map pyt)
  | [] => rfl
  | p :: l => by
    show (match toPy (pt p), toPys (l.map pt) with | some p, some ps => some (p :: ps) | _, _ => none) = _
    rw [toPys_pt l]
    rfl
theorem lay_pt : ∀ l : List Rat, PyData.canLayAll0 (l.map pyt) = true
  | [] => rfl
  | p :: l => by
    have e : PyData.canLayAll0 ((p :: l).map pyt) = (PyData.canLayAll0 [.int p.num, .int (p.den : Int)] && PyData.canLayAll0 (l.map pyt)) := rfl
    rw [e, lay_pt l]
    rfl
theorem dep_pt : ∀ l : List Rat, PyData.depthAll (l.map pyt) ≤ 1
  | [] => by decide
  | p :: l => by
    have e : PyData.depthAll ((p :: l).map pyt) = max 1 (PyData.depthAll (l.map pyt)) := rfl
    rw [e]
    have := dep_pt l
    omega
theorem eqv_pt : ∀ l : List Rat, PyData.eqvAll (l.map pyt) (l.map pyt) = true
  | [] => rfl
  | p :: l => by
    have e : PyData.eqvAll ((p :: l).map pyt) ((p :: l).map pyt) = ((decide (p.num = p.num) && (decide ((p.den : Int) = (p.den : Int)) && true)) && PyData.eqvAll (l.map pyt) (l.map pyt)) := rfl
    rw [e, eqv_pt l]
    simp
theorem toPy_cv (l : List Rat) : toPy (cv l) = some (.tuple (l.map pyt)) := by
  show (toPys (l.map pt)).map PyData.tuple = _
  rw [toPys_pt]; rfl
theorem shaped_cv (l : List Rat) : SeqAt.shaped (.tuple (l.map pyt)) = true := by
  have d := dep_pt l
  show (PyData.canLayAll0 (l.map pyt) && decide (PyData.depthAll (l.map pyt) + 1 ≤ 64)) = true
  rw [lay_pt, decide_eq_true (by omega)]
  rfl
theorem eqD_cv (l : List Rat) : eqD (cv l) (cv l) = some true := by
  unfold eqD
  rw [toPy_cv]
  show (if (SeqAt.shaped _ && SeqAt.shaped _) = true then some (PyData.eqv _ _) else none) = _
  rw [shaped_cv]
  exact congrArg some (eqv_pt l)
theorem ne_cv {l m : List Rat} (h : l = m) : cmpD .ne (cv l) (cv m) = some false := by
  subst h
  rw [cne, eqD_cv]; rfl
theorem ne_cv_nil (l : List Rat) : cmpD .ne (cv l) (.tup []) = some (decide (l ≠ [])) := by
  rw [cne]
  have e : eqD (cv l) (.tup []) = some (decide (l = [])) := by
    unfold eqD
    rw [toPy_cv]
    show (if (SeqAt.shaped _ && SeqAt.shaped (.tuple [])) = true then some (PyData.eqv _ _) else none) = _
    rw [shaped_cv]
    cases l <;> rfl
  rw [e]
  by_cases h : l = [] <;> simp [h]
theorem ne_nil : cmpD .ne (.lst []) (.lst []) = some false := rfl
theorem comp_none {α : Type} {S : PV.Sem} {ρ : PV.Env} {own : List Nat} {el c : PV.E} {tg : Tg} {it : It} {G : Gs} (xs : List α) (a : α → D) (ρx : α → PV.Env) (h1 : evI S ρ it G = .ok (xs.map a) G) (h2 : ∀ x ∈ xs, PV.assign (wipeE ρ own) tg (a x) = some (ρx x)) (h3 : ∀ x ∈ xs, evE S (ρx x) c G = .ok (.bl false) G) : evE S ρ (.comp own el tg it [c]) G = .ok (.lst []) G := by
  have e : ∀ (f : D → Gs → R (Option D)) (ys : List α), (∀ x ∈ ys, f (a x) G = .ok none G) → compL f (ys.map a) G = .ok [] G := fun f ys => by
    induction ys with
    | nil => intro _; rfl
    | cons x ys ih =>
      intro h
      show (f (a x) G).bind _ = _
      rw [h x (List.mem_cons_self ..), rb]
      show (compL f (ys.map a) G).bind _ = _
      rw [ih fun y hy => h y (List.mem_cons_of_mem _ hy), rb]
  simp only [evE, h1, rb]
  rw [e _ xs fun x hx => by
    rw [h2 x hx]
    simp only [evT, h3 x hx, rb]
    rfl]
  simp only [R.calm, rb]
  rfl
def lawBody : List St := match m_law.body with
  | .for_ _ _ b :: _ => b
  | _ => []
abbrev st (i : Nat) : St := lawBody.getD i .pass
abbrev plc : List Int := [-4, -3, -2, -1, 0, 1, 2, 3, 4, 5]
theorem dz_pt (k : Int) : D.tup [.int k, .int 1] = pt (k : Rat) := rfl
theorem law_is : lawBody = [st 0, st 1, st 2, st 3, st 4, st 5, st 6, st 7, st 8, st 9, st 10, st 11, st 12, st 13, st 14, st 15, st 16, st 17, st 18, st 19, st 20, st 21] := rfl
end LK
end
/-! ## R11 -/
section
set_option Elab.async false
set_option linter.all false
set_option maxRecDepth 200000
set_option maxHeartbeats 8000000
set_option exponentiation.threshold 300
namespace LK
open PySem PV RP

theorem some_curve (n k : Nat) {G : Gs} (h : Dice (k + 9) G) (X0 v : Option D) : ∃ p G', evE (Sa (n + 4)) [X0, some (.cell 0), none, none, none, none, none, none, none, none, none, none, none, none, none, none, none, none, none, none, none, none, none, none, none, v, none, none, none, none] (.call 9 [.comp [27] (.call 29 [.var 1]) (.nm 27) (.rng1 (.call 26 [.var 1, .con (.int 5)])) []]) G = .ok (cv p) G' ∧ Tr p ∧ LB 6 18 4 p ∧ Dice k G' := by
  obtain ⟨m, G1, e1, m1, m2, g1⟩ := cal_roll (n + 3) (k + 8) (m := 5) (by unfold CC; omega) h
  have i1 : evI (Sa (n + 4)) [X0, some (.cell 0), none, none, none, none, none, none, none, none, none, none, none, none, none, none, none, none, none, none, none, none, none, none, none, v, none, none, none, none] (.rng1 (.call 26 [.var 1, .con (.int 5)])) G = .ok (rangeD 0 m) G1 := i_rng (x_call (x_es x_v (x_es x_c x_es0)) e1) (by omega)
  obtain ⟨ys, G2, e2, y1, y2, g2⟩ := comp_ex (S := Sa (n + 4)) (own := [27]) (tg := .nm 27) (el := .call 29 [.var 1]) (fun y => ∃ r, y = pt r ∧ Bd 6 18 r) 2 k i1 (g1.mono (by rw [len_rng]; omega)) (by rw [len_rng]; omega) (fun d _ => ⟨[X0, some (.cell 0), none, none, none, none, none, none, none, none, none, none, none, none, none, none, none, none, none, none, none, none, none, none, none, v, none, some d, none, none], rfl, fun i G hi => by
    obtain ⟨r, G', f1, f2, f3⟩ := cal_law_part (n + 1) i hi
    exact ⟨_, G', x_call (x_es x_v x_es0) f1, ⟨r, rfl, f2⟩, f3⟩⟩)
  obtain ⟨l, rfl, hl⟩ := list_pt y2
  rw [List.length_map, len_rng] at y1
  have lb : LB 6 18 4 l := ⟨by decide, by omega, hl⟩
  exact ⟨trim l, G2, x_call (x_es e2 x_es0) (cal_curve n G2 rfl (lb.fi (.of (by decide +kernel))) (by omega)), trim_trim l, lb.trim, g2⟩
theorem s0 {G : Gs} (h : Dice 1000 G) (X0 : Option D) : ∃ p q G', evS (Sa 10) (st 0) [X0, some (.cell 0), none, none, none, none, none, none, none, none, none, none, none, none, none, none, none, none, none, none, none, none, none, none, none, none, none, none, none, none] G = .next [X0, some (.cell 0), some (cv p), some (cv q), none, none, none, none, none, none, none, none, none, none, none, none, none, none, none, none, none, none, none, none, none, none, none, none, none, none] G' ∧ Tr p ∧ Tr q ∧ LB 6 18 4 p ∧ LB 6 18 4 q ∧ Dice 900 G' := by
  have i1 : evI (Sa 10) [X0, some (.cell 0), none, none, none, none, none, none, none, none, none, none, none, none, none, none, none, none, none, none, none, none, none, none, none, none, none, none, none, none] (.rng1 (.con (.int 2))) G = .ok (rangeD 0 2) G := i_rng x_c (by omega)
  obtain ⟨ys, G2, e2, y1, y2, g2⟩ := comp_ex (S := Sa 10) (own := [25]) (tg := .nm 25) (el := .call 9 [.comp [27] (.call 29 [.var 1]) (.nm 27) (.rng1 (.call 26 [.var 1, .con (.int 5)])) []]) (fun y => ∃ r, y = cv r ∧ (Tr r ∧ LB 6 18 4 r)) 9 900 i1 (h.mono (by rw [len_rng]; decide)) (by rw [len_rng]; decide) (fun d _ => ⟨[X0, some (.cell 0), none, none, none, none, none, none, none, none, none, none, none, none, none, none, none, none, none, none, none, none, none, none, none, some d, none, none, none, none], rfl, fun i G hi => by
    obtain ⟨r, G', f1, f2, f3, f4⟩ := some_curve 6 i hi X0 (some d)
    exact ⟨_, G', f1, ⟨r, rfl, f2, f3⟩, f4⟩⟩)
  obtain ⟨l, rfl, hl⟩ := list_gen y2
  rw [List.length_map, len_rng] at y1
  have y1 : l.length = 2 := y1
  match l, y1 with
  | [p, q], _ =>
    obtain ⟨a1, a2⟩ := hl p (by simp)
    obtain ⟨b1, b2⟩ := hl q (by simp)
    exact ⟨p, q, G2, s_set e2, a1, b1, a2, b2, g2⟩
theorem comp_plc (X0 X1 X2 X3 X4 X5 X6 X7 X8 X9 X10 X11 X12 X13 X14 X15 X16 X17 X18 X19 X20 X21 X22 X23 X24 X25 X26 X27 X28 X29 : Option D) (G : Gs) : evE (Sa 10) [X0, X1, X2, X3, X4, X5, X6, X7, X8, X9, X10, X11, X12, X13, X14, X15, X16, X17, X18, X19, X20, X21, X22, X23, X24, X25, X26, X27, X28, X29] (.comp [27] (.tup [.bin .sub (.var 27) (.con (.int 4)), .con (.int 1)]) (.nm 27) (.rng1 (.con (.int 10))) []) G = .ok (.lst (plc.map dz)) G := by kernel_rfl
theorem s1 {p q : List Rat} {G : Gs} (h : Dice 900 G) (X0 : Option D) : ∃ b G', evS (Sa 10) (st 1) [X0, some (.cell 0), some (cv p), some (cv q), none, none, none, none, none, none, none, none, none, none, none, none, none, none, none, none, none, none, none, none, none, none, none, none, none, none] G = .next [X0, some (.cell 0), some (cv p), some (cv q), some (pt b), some (.lst (plc.map dz)), none, none, none, none, none, none, none, none, none, none, none, none, none, none, none, none, none, none, none, none, none, none, none, none] G' ∧ Bd 6 18 b ∧ Dice 898 G' := by
  obtain ⟨b, G', e, hb, g⟩ := cal_law_part 7 898 h
  exact ⟨b, G', s_set (x_tup (x_es (x_call (x_es x_v x_es0) e) (x_es (comp_plc (X0) (some (.cell 0)) (some (cv p)) (some (cv q)) (none) (none) (none) (none) (none) (none) (none) (none) (none) (none) (none) (none) (none) (none) (none) (none) (none) (none) (none) (none) (none) (none) (none) (none) (none) (none) G') x_es0))), hb, g⟩
theorem plc_at {k : Int} (h : k ∈ plc) : k.natAbs ≤ 5 := by
  have : ∀ k ∈ plc, k.natAbs ≤ 5 := by decide
  exact this k h
theorem bd_plc {k : Int} (h : k ∈ plc) : Bd 1 5 (k : Rat) := Bd.int (plc_at h)
theorem lim_one : Lim (MM 6 18 1 5 4) := .of (by decide +kernel)
theorem s2 {p q : List Rat} {b : Rat} (tp : Tr p) (hp : LB 6 18 4 p) (G : Gs) (X0 : Option D) : evS (Sa 10) (st 2) [X0, some (.cell 0), some (cv p), some (cv q), some (pt b), some (.lst (plc.map dz)), none, none, none, none, none, none, none, none, none, none, none, none, none, none, none, none, none, none, none, none, none, none, none, none] G = .next [X0, some (.cell 0), some (cv p), some (cv q), some (pt b), some (.lst (plc.map dz)), none, none, none, none, none, none, none, none, none, none, none, none, none, none, none, none, none, none, none, none, none, none, none, none] G := by
  have c1 : evE (Sa 10) [X0, some (.cell 0), some (cv p), some (cv q), some (pt b), some (.lst (plc.map dz)), none, none, none, none, none, none, none, none, none, none, none, none, none, none, none, none, none, none, none, none, none, none, none, none] (.and (.cmp .ne (.var 2) (.tup [])) (.cmp .eq (.ix (.ix (.var 2) (.neg (.con (.int 1)))) (.con (.int 0))) (.con (.int 0)))) G = .ok (.bl false) G := by
    by_cases h : p = []
    · exact x_andf (x_cmp x_v (x_tup x_es0) (by rw [ne_cv_nil, h]; rfl))
    · have hl : 0 < p.length := by
        cases p with
        | nil => exact absurd rfl h
        | cons _ _ => simp
      have hs := getLast_getD p hl
      generalize hc : p.getD (p.length - 1) 0 = c at hs
      have hix : ixD G (cv p) (.int (-1)) = some (pt c) := by
        have : ixD G (cv (p.dropLast ++ [c])) (.int (-1)) = some (pt c) := ix_last
        rw [← hs] at this
        exact this
      have h0 : c ≠ 0 := Tr.last tp (a := c) (by rw [hs]; simp)
      exact x_andt (x_cmp x_v (x_tup x_es0) (by rw [ne_cv_nil, decide_eq_true h])) (x_cmp (x_ix (x_ix x_v (x_neg x_c) hix) x_c (ix0 _ c)) x_c (by rw [ceq, eqD_int, decide_eq_false (fun e => h0 (num_zero.mp e))]))
  have c2 : evE (Sa 10) [X0, some (.cell 0), some (cv p), some (cv q), some (pt b), some (.lst (plc.map dz)), none, none, none, none, none, none, none, none, none, none, none, none, none, none, none, none, none, none, none, none, none, none, none, none] (.cmp .ne (.call 10 [.var 2]) (.bin .sub (.prim .len [.var 2]) (.con (.int 1)))) G = .ok (.bl false) G := x_cmp (x_call (x_es x_v x_es0) (cal_power 9 G p)) (x_bin (x_prim (x_es x_v x_es0) (len_cv p)) x_c (bs _ _)) (ne_int _)
  have c3 : evE (Sa 10) [X0, some (.cell 0), some (cv p), some (cv q), some (pt b), some (.lst (plc.map dz)), none, none, none, none, none, none, none, none, none, none, none, none, none, none, none, none, none, none, none, none, none, none, none, none] (.comp [6] (.var 6) (.nm 6) (.seq (.var 5)) [.cmp .ne (.call 17 [.var 2, .var 6]) (.call 30 [.var 2, .var 6])]) G = .ok (.lst []) G := comp_none plc dz (fun k => [X0, some (.cell 0), some (cv p), some (cv q), some (pt b), some (.lst (plc.map dz)), some (pt (k : Rat)), none, none, none, none, none, none, none, none, none, none, none, none, none, none, none, none, none, none, none, none, none, none, none]) (i_seq x_v) (fun k _ => rfl) (fun k hk => x_cmp (x_call (x_es x_v (x_es x_v x_es0)) (cal_worth hp (bd_plc hk) lim_one (by decide) 6 G)) (x_call (x_es x_v (x_es x_v x_es0)) (cal_law_worth hp (bd_plc hk) lim_one (by decide) 5 G)) (ne_pt rfl))
  exact s_if0 (x_orf c1 (x_orf c2 (x_cmp c3 (x_lst x_es0) ne_nil)))
def atBody : List St := match st 3 with
  | .for_ _ _ b => b
  | _ => []
theorem fi_of {D B : Nat} {r : Rat} (h : Bd D B r) (hM : Lim (D + B)) : Fi r := h.fi' (by omega) (by omega) hM
theorem lim_pt (t : Nat) (h : t ≤ 4) : Lim (MM (6 * 6 ^ t) (PB t) 1 5 16) := by
  match t, h with
  | 0, _ => exact .of (by decide +kernel)
  | 1, _ => exact .of (by decide +kernel)
  | 2, _ => exact .of (by decide +kernel)
  | 3, _ => exact .of (by decide +kernel)
  | 4, _ => exact .of (by decide +kernel)
theorem at_one {p q : List Rat} {b : Rat} (hp : LB 6 18 4 p) (hq : LB 6 18 4 q) (hb : Bd 6 18 b) {G : Gs} (hG : Cl G) (X0 : Option D) {k : Int} (hk : k ∈ plc) (z7 z8 : Option D) : evB (Sa 10) atBody [X0, some (.cell 0), some (cv p), some (cv q), some (pt b), some (.lst (plc.map dz)), some (pt (k : Rat)), z7, z8, none, none, none, none, none, none, none, none, none, none, none, none, none, none, none, none, none, none, none, none, none] G = .next [X0, some (.cell 0), some (cv p), some (cv q), some (pt b), some (.lst (plc.map dz)), some (pt (k : Rat)), some (pt (ev p (k : Rat))), some (pt (ev q (k : Rat))), none, none, none, none, none, none, none, none, none, none, none, none, none, none, none, none, none, none, none, none, none] G := by
  have hx := bd_plc hk
  obtain ⟨v1, v1x⟩ := hy_ev hp hx lim_one (v := p) (fun r h => h) hp.2.1
  obtain ⟨v2, v2x⟩ := hy_ev hq hx lim_one (v := q) (fun r h => h) hq.2.1
  have fb : Fi b := fi_of hb (.of (by decide +kernel))
  have w1 := cal_law_worth hp hx lim_one (by decide) 5 G
  have w2 := cal_law_worth hq hx lim_one (by decide) 5 G
  obtain ⟨a1, l1⟩ := cal_add 5 G hp hq (by decide) (.of (by decide +kernel))
  have a2 := cal_worth l1 hx (.of (by decide +kernel)) (by decide) 6 G
  rw [ev_trim, ev_add] at a2
  obtain ⟨f, b1, l2, b2⟩ := cal_taken 4 G hp hq (by decide) (.of (by decide +kernel))
  have b3 := cal_worth l2 hx (.of (by decide +kernel)) (by decide) 6 G
  rw [b2] at b3
  obtain ⟨m1, F, hF, hFB⟩ := cal_mul 5 hG hp hq (by decide) (.of (by decide +kernel))
  have l3 := mul_lb (M := 8) (by decide) hF hFB (mulP_len hp.2.1 hq.2.1)
  have m2 := cal_worth l3 hx (.of (by decide +kernel)) (by decide) 6 G
  rw [ev_trim, ev_mul] at m2
  obtain ⟨c1, l4⟩ := cal_scale 5 G hp hb (by decide) (.of (by decide +kernel))
  have c2 := cal_worth l4 hx (.of (by decide +kernel)) (by decide) 6 G
  rw [ev_trim, ev_sc] at c2
  obtain ⟨g, t, ht, p1, l5, p2⟩ := cal_putin 4 hG hp hq
  have p3 := cal_worth l5 hx (lim_pt t ht) (by decide) 6 G
  rw [p2] at p3
  have bq := ev_Bd (D := 6) (B := 18) (by decide) hx 4 q hq.2.1 hq.2.2
  have p4 := cal_law_worth hp bq (.of (by decide +kernel)) (by decide) 5 G
  have d1 := cal_plus 7 G v1 v2
  have d2 := cal_minus 7 G v1 v2
  have d3 := cal_times 7 G v1 v2
  have d4 := cal_times 7 G v1 fb
  refine b_next (s_set (x_tup (x_es (x_call (x_es x_v (x_es x_v x_es0)) w1) (x_es (x_call (x_es x_v (x_es x_v x_es0)) w2) x_es0)))) (b_next (s_if0 (x_orf (x_cmp (x_call (x_es (x_call (x_es x_v (x_es x_v x_es0)) a1) (x_es x_v x_es0)) a2) (x_call (x_es x_v (x_es x_v x_es0)) d1) (ne_pt rfl)) (x_orf (x_cmp (x_call (x_es (x_call (x_es x_v (x_es x_v x_es0)) b1) (x_es x_v x_es0)) b3) (x_call (x_es x_v (x_es x_v x_es0)) d2) (ne_pt rfl)) (x_orf (x_cmp (x_call (x_es (x_call (x_es x_v (x_es x_v x_es0)) m1) (x_es x_v x_es0)) m2) (x_call (x_es x_v (x_es x_v x_es0)) d3) (ne_pt rfl)) (x_cmp (x_call (x_es (x_call (x_es x_v (x_es x_v x_es0)) c1) (x_es x_v x_es0)) c2) (x_call (x_es x_v (x_es x_v x_es0)) d4) (ne_pt (by rw [Rat.mul_comm])))))))
    (b_next (s_if0 (x_cmp (x_call (x_es (x_call (x_es x_v (x_es x_v x_es0)) p1) (x_es x_v x_es0)) p3) (x_call (x_es x_v (x_es x_v x_es0)) p4) (ne_pt rfl))) rfl))
theorem s3 {p q : List Rat} {b : Rat} (hp : LB 6 18 4 p) (hq : LB 6 18 4 q) (hb : Bd 6 18 b) {G : Gs} (hG : Cl G) (X0 : Option D) : ∃ z6 z7 z8, evS (Sa 10) (st 3) [X0, some (.cell 0), some (cv p), some (cv q), some (pt b), some (.lst (plc.map dz)), none, none, none, none, none, none, none, none, none, none, none, none, none, none, none, none, none, none, none, none, none, none, none, none] G = .next [X0, some (.cell 0), some (cv p), some (cv q), some (pt b), some (.lst (plc.map dz)), z6, z7, z8, none, none, none, none, none, none, none, none, none, none, none, none, none, none, none, none, none, none, none, none, none] G := by
  obtain ⟨ρ', G', e, rfl, z6, z7, z8, rfl⟩ := forL_inv (fun d ρ1 G2 => match PV.assign ρ1 (.nm 6) d with | some ρ2 => evB (Sa 10) atBody ρ2 G2 | none => .bad) dz (fun s ρ G' => G = G' ∧ ∃ z6 z7 z8, ρ = [X0, some (.cell 0), some (cv p), some (cv q), some (pt b), some (.lst (plc.map dz)), z6, z7, z8, none, none, none, none, none, none, none, none, none, none, none, none, none, none, none, none, none, none, none, none, none]) plc [] [X0, some (.cell 0), some (cv p), some (cv q), some (pt b), some (.lst (plc.map dz)), none, none, none, none, none, none, none, none, none, none, none, none, none, none, none, none, none, none, none, none, none, none, none, none] G ⟨rfl, none, none, none, rfl⟩ fun s c t ρ G' hs ⟨hG', z6, z7, z8, hρ⟩ => by
    subst hG' hρ
    have hc : c ∈ plc := by
      have hs : plc = s ++ c :: t := hs
      rw [hs]; simp
    exact ⟨_, _, at_one hp hq hb hG X0 hc z7 z8, rfl, _, _, _, rfl⟩
  exact ⟨z6, z7, z8, s_for (i_seq x_v) e⟩
end LK
end
/-! ## R12 -/
section
set_option Elab.async false
set_option linter.all false
set_option maxRecDepth 200000
set_option maxHeartbeats 8000000
set_option exponentiation.threshold 300
namespace LK
open PySem PV RP

theorem lim_d (t : Nat) (h : t ≤ 4) : Lim (DT t * 6 * (mulB (BT t) 18 4 + BT t + 18 + 1)) ∧ Lim (DT t * 6 + mulB (BT t) 18 4 + BT t * 6) := by
  match t, h with
  | 0, _ => exact ⟨.of (by decide +kernel), .of (by decide +kernel)⟩
  | 1, _ => exact ⟨.of (by decide +kernel), .of (by decide +kernel)⟩
  | 2, _ => exact ⟨.of (by decide +kernel), .of (by decide +kernel)⟩
  | 3, _ => exact ⟨.of (by decide +kernel), .of (by decide +kernel)⟩
  | 4, _ => exact ⟨.of (by decide +kernel), .of (by decide +kernel)⟩
theorem run_x {S : PV.Sem} {ρ : PV.Env} {G G1 : Gs} (f : Fn) {args : List D} {c : Nat} (h : args.length = f.np) (hρ : args.map some ++ List.replicate (f.ns - f.np) none = ρ) (hb : evB S f.body ρ G = .exc c G1) : runFn S f args G = gcR G.length (.exc c G1) := by
  subst hρ
  unfold runFn
  rw [if_pos h, hb]
theorem div0 (n : Nat) (G : Gs) (p : List Rat) : (Sa (n + 6)).cal 16 [cv p, cv []] G = .exc 0 G := by
  have b : evE (Sa (n + 5)) [some (cv p), some (cv []), none, none, none, none, none, none, none] (.call 5 [.tup [.con (.int 1), .con (.int 1)], .call 11 [.var 1, .call 10 [.var 1]]]) G = .exc 0 G := x_call (x_es (x_tup (x_es x_c (x_es x_c x_es0))) (x_es (x_call (x_es x_v (x_es (x_call (x_es x_v x_es0) (cal_power (n + 4) G [])) x_es0)) (cal_part_neg (n + 4) G [])) x_es0)) (cal_over0 (n + 2) G fi1)
  have c : evB (Sa (n + 5)) m_divided.body [some (cv p), some (cv []), none, none, none, none, none, none, none] G = .exc 0 G := by
    show (evS (Sa (n + 5)) (.set (.nm 2) _) _ G).then _ = _
    have : evS (Sa (n + 5)) (.set (.nm 2) (.call 5 [.tup [.con (.int 1), .con (.int 1)], .call 11 [.var 1, .call 10 [.var 1]]])) [some (cv p), some (cv []), none, none, none, none, none, none, none] G = .exc 0 G := by
      simp only [evS, b]; rfl
    rw [this]; rfl
  have d := run_x m_divided (args := [cv p, cv []]) (S := Sa (n + 5)) (ρ := [some (cv p), some (cv []), none, none, none, none, none, none, none]) (G := G) rfl rfl c
  exact ((cal_at (n + 5) 16 (by decide) rfl _ G).trans d).trans gc_exc
theorem ne_part : cmpD .ne (.str "part") (.str "part") = some false := by kernel_rfl
theorem s4 {p q : List Rat} {b : Rat} (tp : Tr p) (tq : Tr q) (hp : LB 6 18 4 p) (hq : LB 6 18 4 q) {G : Gs} (hG : Cl G) (X0 z6 z7 z8 : Option D) : ∃ z9 z10, evS (Sa 10) (st 4) [X0, some (.cell 0), some (cv p), some (cv q), some (pt b), some (.lst (plc.map dz)), z6, z7, z8, none, none, none, none, none, none, none, none, none, none, none, none, none, none, none, none, none, none, none, none, none] G = .next [X0, some (.cell 0), some (cv p), some (cv q), some (pt b), some (.lst (plc.map dz)), z6, z7, z8, z9, z10, none, none, none, none, none, none, none, none, none, none, none, none, none, none, none, none, none, none, none] G := by
  by_cases h : q = []
  · subst h
    refine ⟨none, none, s_itef (x_cmp x_v (x_tup x_es0) (by rw [ne_cv_nil]; rfl)) (b_next (s_if0 (x_cmp (x_toldx (x_call (x_es x_v (x_es x_v x_es0)) (div0 4 G p)) rfl) x_c ne_part)) rfl)⟩
  · have hl : 0 < q.length := by
      cases q with
      | nil => exact absurd rfl h
      | cons _ _ => simp
    have hs := getLast_getD q hl
    generalize hc : q.getD (q.length - 1) 0 = c at hs
    generalize q.dropLast = q0 at hs
    subst hs
    have h0 : c ≠ 0 := Tr.last tq (a := c) (by simp)
    obtain ⟨W, R, t, ht, e, r1, r2, w1, bR, bW, hE⟩ := cal_divided 4 hq h0 hG hp
    obtain ⟨lim1, lim2⟩ := lim_d t ht
    have hDT : 0 < DT t := Nat.mul_pos (by decide) (Nat.pow_pos (by decide))
    have lW : LB (DT t) (BT t) 4 (trim W) := LB.trim ⟨hDT, w1, bW⟩
    have lR : LB (DT t) (BT t) 4 (trim R) := LB.trim ⟨hDT, r2, bR⟩
    obtain ⟨m1, F, hF, hFB⟩ := cal_mul 5 hG lW hq (by decide) lim1
    have l3 := mul_lb (M := 8) (Nat.mul_pos hDT (by decide)) hF hFB (mulP_len lW.2.1 hq.2.1)
    obtain ⟨a1, l1⟩ := cal_add 5 G l3 ((lR.up (E := 6) (by decide)).mono (Nat.le_refl _) (show 4 ≤ 8 by decide)) (by decide) lim2
    have hsame : trim (addP (trim (mulP (trim W) (q0 ++ [c]))) (trim R)) = p := tr_ext (trim_trim _) tp fun x => by
      rw [ev_trim, ev_add, ev_trim, ev_mul, ev_trim, ev_trim, hE x]; grind
    have hlenR : (trim R).length < (q0 ++ [c]).length := by
      have := trim_len R
      rw [List.length_append, List.length_singleton]
      omega
    refine ⟨some (cv (trim W)), some (cv (trim R)), s_itet (x_cmp x_v (x_tup x_es0) (by rw [ne_cv_nil, decide_eq_true h])) (b_next (s_set (x_call (x_es x_v (x_es x_v x_es0)) e)) (b_next (s_if0 (x_orf (x_cmp (x_call (x_es (x_call (x_es x_v (x_es x_v x_es0)) m1) (x_es x_v x_es0)) a1) x_v (ne_cv hsame)) (x_cmp (x_prim (x_es x_v x_es0) (len_cv (trim R))) (x_prim (x_es x_v x_es0) (len_cv (q0 ++ [c]))) (by rw [cge, decide_eq_false (by omega)])))) rfl))⟩
theorem inv60 (i : Nat) (h : i < 5) : Bd 60 60 (1 / ((((i : Nat) : Int) + 1 : Int) : Rat)) := by
  have : i = 0 ∨ i = 1 ∨ i = 2 ∨ i = 3 ∨ i = 4 := by omega
  rcases this with rfl | rfl | rfl | rfl | rfl
  · exact ⟨60, by decide +kernel, by decide, by decide⟩
  · exact ⟨30, by decide +kernel, by decide, by decide⟩
  · exact ⟨20, by decide +kernel, by decide, by decide⟩
  · exact ⟨15, by decide +kernel, by decide, by decide⟩
  · exact ⟨12, by decide +kernel, by decide, by decide⟩
theorem ar_lb {p : List Rat} (hp : LB 6 18 4 p) : LB 360 1080 5 (arP p) := by
  refine ⟨by decide, by unfold arP; rw [List.length_cons, List.length_map, zip_len]; have := hp.2.1; omega, fun r hr => ?_⟩
  rcases List.mem_cons.mp hr with rfl | hr
  · exact (Bd.zero (by decide)).mono (Nat.zero_le _)
  · obtain ⟨x, hx, rfl⟩ := List.mem_map.mp hr
    obtain ⟨a, i⟩ := x
    have hx := List.mem_zipIdx hx
    have hi : i < p.length := by have := hx.2.1; omega
    have ha : a ∈ p := by
      have := hx.2.2
      rw [this]; exact List.getElem_mem _
    have h := (hp.2.2 a ha).mul (inv60 i (by have := hp.2.1; omega))
    have e : a * (1 / ((((i : Nat) : Int) + 1 : Int) : Rat)) = a / ((((i : Nat) : Int) + 1 : Int) : Rat) := by
      rw [Rat.div_def, Rat.div_def, Rat.one_mul]
    rw [e] at h
    exact h
theorem sl_lb {D B N : Nat} {p : List Rat} (hp : LB D B (N + 1) p) (hN : N ≤ 4) : LB D (B * 5) N (slP p) := by
  refine ⟨hp.1, by unfold slP; rw [List.length_map, List.length_range]; have := hp.2.1; omega, fun r hr => ?_⟩
  obtain ⟨k, hk, rfl⟩ := List.mem_map.mp hr
  have hk := List.mem_range.mp hk
  have hg := getD_of (l := p) (k := 1 + k) (by omega)
  have h := (hp.2.2 _ (List.mem_of_getElem? hg)).mul (Bd.int (k := 1 + (k : Int)) (B := 5) (by have := hp.2.1; omega))
  rw [Nat.mul_one] at h
  exact h
theorem ar_tr {p : List Rat} (tp : Tr p) (h : p ≠ []) : Tr (arP p) := by
  have hl : 0 < p.length := by
    cases p with
    | nil => exact absurd rfl h
    | cons _ _ => simp
  have hs := getLast_getD p hl
  generalize hc : p.getD (p.length - 1) 0 = c at hs
  generalize p.dropLast = q0 at hs
  subst hs
  have h0 : c ≠ 0 := Tr.last tp (a := c) (by simp)
  refine tr_of_last fun a ha => ?_
  have e : arP (q0 ++ [c]) = (0 :: q0.zipIdx.map fun x => x.1 / ((((x.2 : Nat) : Int) + 1 : Int) : Rat)) ++ [c / ((((q0.length : Nat) : Int) + 1 : Int) : Rat)] := by
    unfold arP
    rw [List.zipIdx_append, List.map_append]
    simp
  rw [e] at ha
  have ha : a = c / ((((q0.length : Nat) : Int) + 1 : Int) : Rat) := by
    rw [List.getLast?_concat] at ha
    exact (Option.some.inj ha).symm
  subst ha
  have hn : ((((q0.length : Nat) : Int) + 1 : Int) : Rat) ≠ 0 := fun e => by
    have := Rat.intCast_eq_zero_iff.mp e
    omega
  grind
theorem sl_ar (p : List Rat) : slP (arP p) = p := by
  apply List.ext_getElem?
  intro k
  unfold slP
  rw [List.getElem?_map]
  have hl : (arP p).length - 1 = p.length := by unfold arP; rw [List.length_cons, List.length_map, zip_len]; omega
  rw [hl]
  by_cases h : k < p.length
  · rw [List.getElem?_range h]
    have hg : (arP p).getD (1 + k) 0 = p[k] / ((((k : Nat) : Int) + 1 : Int) : Rat) := by
      unfold arP
      rw [show 1 + k = k + 1 by omega, List.getD_cons_succ, List.getD_eq_getElem?_getD, List.getElem?_map, List.getElem?_zipIdx, List.getElem?_eq_getElem h]
      simp
    rw [List.getElem?_eq_getElem h]
    show some ((arP p).getD (1 + k) 0 * (((1 + (k : Int) : Int)) : Rat)) = _
    rw [hg]
    have e1 : (1 + (k : Int)) = ((k : Int) + 1) := by omega
    rw [e1]
    have hn : ((((k : Nat) : Int) + 1 : Int) : Rat) ≠ 0 := fun e => by
      have := Rat.intCast_eq_zero_iff.mp e
      omega
    congr 1
    grind
  · rw [List.getElem?_eq_none (by rw [List.length_range]; omega), List.getElem?_eq_none (by omega)]; rfl
theorem trim_arP (p : List Rat) (tp : Tr p) : trim (slP (trim (arP p))) = p := by
  by_cases h : p = []
  · subst h
    decide +kernel
  · rw [ar_tr tp h, sl_ar]
    exact tp
theorem ev_ar0 (p : List Rat) : ev (trim (arP p)) 0 = 0 := by
  rw [ev_trim]
  show (0 : Rat) + 0 * _ = 0
  grind
theorem s5 {p q : List Rat} {b : Rat} (tp : Tr p) (hp : LB 6 18 4 p) (G : Gs) (X0 z6 z7 z8 z9 z10 : Option D) : evS (Sa 10) (st 5) [X0, some (.cell 0), some (cv p), some (cv q), some (pt b), some (.lst (plc.map dz)), z6, z7, z8, z9, z10, none, none, none, none, none, none, none, none, none, none, none, none, none, none, none, none, none, none, none] G = .next [X0, some (.cell 0), some (cv p), some (cv q), some (pt b), some (.lst (plc.map dz)), z6, z7, z8, z9, z10, none, none, none, none, none, none, none, none, none, none, none, none, none, none, none, none, none, none, none] G := by
  have fp : FiL p := hp.fi (.of (by decide +kernel))
  have la := ar_lb hp
  have lsl := sl_lb (N := 4) (hp.mono (Nat.le_refl _) (show 4 ≤ 5 by decide)) (by decide)
  have e1 := cal_slope 5 G fp (lsl.fi (.of (by decide +kernel))) (by have := hp.2.1; omega)
  have c := comp_slope (S := Sa 10) (ρ := [X0, some (.cell 0), some (cv p), some (cv q), some (pt b), some (.lst (plc.map dz)), z6, z7, z8, z9, z10, none, none, none, none, none, none, none, none, none, none, none, none, none, none, none, none, none, none, none]) (G := G) (n := 7) (iv := 2) (jv := 27) rfl (fun v => rfl) rfl (by simp) (by decide) fp (by have := hp.2.1; omega)
  have e2 := cal_curve 6 G (x := lv (slP p)) (l := slP p) rfl (lsl.fi (.of (by decide +kernel))) (by have := lsl.2.1; omega)
  have e3 := cal_area 5 G fp (la.fi (.of (by decide +kernel))) (by have := hp.2.1; omega)
  have lat := la.trim
  have ls2 := sl_lb (N := 4) lat (by decide)
  have e4 := cal_slope 5 G (lat.fi (.of (by decide +kernel))) (ls2.fi (.of (by decide +kernel))) (by have := lat.2.1; omega)
  rw [trim_arP p tp] at e4
  have e5 := cal_worth lat (Bd.zero (D := 1) (by decide)) (.of (by decide +kernel)) (by decide) 6 G
  rw [ev_ar0] at e5
  exact s_if0 (x_orf (x_cmp (x_call (x_es x_v x_es0) e1) (x_call (x_es c x_es0) e2) (ne_cv rfl)) (x_orf (x_cmp (x_call (x_es (x_call (x_es x_v x_es0) e3) x_es0) e4) x_v (ne_cv rfl)) (x_cmp (x_call (x_es (x_call (x_es x_v x_es0) e3) (x_es (x_tup (x_es x_c (x_es x_c x_es0))) x_es0)) e5) (x_tup (x_es x_c (x_es x_c x_es0))) (ne_pt rfl))))
theorem s6 {p q : List Rat} {b : Rat} {G : Gs} (h : Dice 898 G) (X0 z6 z7 z8 z9 z10 : Option D) : ∃ c d G', evS (Sa 10) (st 6) [X0, some (.cell 0), some (cv p), some (cv q), some (pt b), some (.lst (plc.map dz)), z6, z7, z8, z9, z10, none, none, none, none, none, none, none, none, none, none, none, none, none, none, none, none, none, none, none] G = .next [X0, some (.cell 0), some (cv p), some (cv q), some (pt b), some (.lst (plc.map dz)), z6, z7, z8, z9, z10, some (pt c), some (pt d), none, none, none, none, none, none, none, none, none, none, none, none, none, none, none, none, none] G' ∧ Bd 6 18 c ∧ Bd 6 18 d ∧ Dice 894 G' := by
  obtain ⟨c, G1, e1, hc, g1⟩ := cal_law_part 7 896 h
  obtain ⟨d, G2, e2, hd, g2⟩ := cal_law_part 7 894 g1
  exact ⟨c, d, G2, s_set (x_tup (x_es (x_call (x_es x_v x_es0) e1) (x_es (x_call (x_es x_v x_es0) e2) x_es0))), hc, hd, g2⟩
theorem lim_a : Lim (MM 360 1080 6 18 5) := .of (by decide +kernel)
theorem cal_between (n : Nat) (G : Gs) {p : List Rat} {c d : Rat} (hp : LB 6 18 4 p) (hc : Bd 6 18 c) (hd : Bd 6 18 d) : (Sa (n + 6)).cal 20 [cv p, pt c, pt d] G = .ok (pt (ev (trim (arP p)) d - ev (trim (arP p)) c)) G := by
  have fp : FiL p := hp.fi (.of (by decide +kernel))
  have la := ar_lb hp
  have lat := la.trim
  have e3 := cal_area n G fp (la.fi (.of (by decide +kernel))) (by have := hp.2.1; omega)
  have w1 := cal_worth lat hc lim_a (by decide) (n + 1) G
  have w2 := cal_worth lat hd lim_a (by decide) (n + 1) G
  have f1 := (hy_ev lat hc lim_a (v := trim (arP p)) (fun r h => h) lat.2.1).1
  have f2 := (hy_ev lat hd lim_a (v := trim (arP p)) (fun r h => h) lat.2.1).1
  have m := cal_minus (n + 2) G f2 f1
  have b : evB (Sa (n + 5)) m_between.body [some (cv p), some (pt c), some (pt d), none] G = .ret (pt (ev (trim (arP p)) d - ev (trim (arP p)) c)) G := b_next (s_set (x_call (x_es x_v x_es0) e3)) (b_ret (s_ret (x_call (x_es (x_call (x_es x_v (x_es x_v x_es0)) w2) (x_es (x_call (x_es x_v (x_es x_v x_es0)) w1) x_es0)) m)))
  exact ((cal_at (n + 5) 20 (by decide) rfl _ G).trans (run_d m_between (args := [cv p, pt c, pt d]) (S := Sa (n + 5)) (ρ := [some (cv p), some (pt c), some (pt d), none]) (G := G) rfl rfl b)).trans gc_self
theorem s7 {p q : List Rat} {b c d : Rat} (hp : LB 6 18 4 p) (hc : Bd 6 18 c) (hd : Bd 6 18 d) (G : Gs) (X0 z6 z7 z8 z9 z10 : Option D) : evS (Sa 10) (st 7) [X0, some (.cell 0), some (cv p), some (cv q), some (pt b), some (.lst (plc.map dz)), z6, z7, z8, z9, z10, some (pt c), some (pt d), none, none, none, none, none, none, none, none, none, none, none, none, none, none, none, none, none] G = .next [X0, some (.cell 0), some (cv p), some (cv q), some (pt b), some (.lst (plc.map dz)), z6, z7, z8, z9, z10, some (pt c), some (pt d), none, none, none, none, none, none, none, none, none, none, none, none, none, none, none, none, none] G := by
  have fp : FiL p := hp.fi (.of (by decide +kernel))
  have la := ar_lb hp
  have lat := la.trim
  have e3 := cal_area 5 G fp (la.fi (.of (by decide +kernel))) (by have := hp.2.1; omega)
  have w1 := cal_worth lat hc lim_a (by decide) 6 G
  have w2 := cal_worth lat hd lim_a (by decide) 6 G
  have f1 := (hy_ev lat hc lim_a (v := trim (arP p)) (fun r h => h) lat.2.1).1
  have f2 := (hy_ev lat hd lim_a (v := trim (arP p)) (fun r h => h) lat.2.1).1
  have m := cal_minus 7 G f2 f1
  exact s_if0 (x_cmp (x_call (x_es x_v (x_es x_v (x_es x_v x_es0))) (cal_between 4 G hp hc hd)) (x_call (x_es (x_call (x_es (x_call (x_es x_v x_es0) e3) (x_es x_v x_es0)) w2) (x_es (x_call (x_es (x_call (x_es x_v x_es0) e3) (x_es x_v x_es0)) w1) x_es0)) m) (ne_pt rfl))
end LK
end
/-! ## R13 -/
section
set_option Elab.async false
set_option linter.all false
set_option maxRecDepth 200000
set_option maxHeartbeats 8000000
set_option exponentiation.threshold 300
namespace LK
open PySem PV RP

theorem s8 {p q : List Rat} {b : Rat} {G : Gs} (h : Dice 894 G) (X0 z6 z7 z8 z9 z10 z11 z12 : Option D) : ∃ (m : Nat) (G' : Gs), evS (Sa 10) (st 8) [X0, some (.cell 0), some (cv p), some (cv q), some (pt b), some (.lst (plc.map dz)), z6, z7, z8, z9, z10, z11, z12, none, none, none, none, none, none, none, none, none, none, none, none, none, none, none, none, none] G = .next [X0, some (.cell 0), some (cv p), some (cv q), some (pt b), some (.lst (plc.map dz)), z6, z7, z8, z9, z10, z11, z12, some (.lst ((plc.take m).map dz)), none, none, none, none, none, none, none, none, none, none, none, none, none, none, none, none] G' ∧ 1 ≤ m ∧ m ≤ 5 ∧ Dice 893 G' := by
  obtain ⟨r, G1, e1, r0, r1, g1⟩ := cal_roll 9 893 (m := 5) (by unfold CC; omega) h
  have hj : 1 + r = ((r.toNat + 1 : Nat) : Int) := by omega
  have hs : slD (.lst (plc.map dz)) none (some (1 + r)) = some (.lst ((plc.take (r.toNat + 1)).map dz)) := by
    rw [hj, sl_lst, List.map_take]
  exact ⟨r.toNat + 1, G1, s_set (x_sl1 x_v (x_bin x_c (x_call (x_es x_v (x_es x_c x_es0)) e1) (ba _ _)) hs), by omega, by omega, g1⟩
theorem compL_pts (f : D → Gs → R (Option D)) (k : Nat) : ∀ (xs : List Int) (G : Gs), Dice (k + 2 * xs.length) G → (∀ x ∈ xs, ∀ (i : Nat) (G : Gs), Dice (i + 2) G → ∃ y G', f (dz x) G = .ok (some (dPt (x, y))) G' ∧ Bd 6 18 y ∧ Dice i G') → ∃ (ps : List (Int × Rat)) (G' : Gs), compL f (xs.map dz) G = .ok (ps.map dPt) G' ∧ ps.map (·.1) = xs ∧ (∀ z ∈ ps, Bd 6 18 z.2) ∧ Dice k G'
  | [], G, hG, _ => ⟨[], G, rfl, rfl, (fun y hy => nomatch hy), hG⟩
  | x :: xs, G, hG, h => by
    obtain ⟨y, G1, e1, p1, g1⟩ := h x (List.mem_cons_self ..) (k + 2 * xs.length) G (by rw [List.length_cons, Nat.mul_succ, ← Nat.add_assoc] at hG; exact hG)
    obtain ⟨ys, G2, e2, l2, p2, g2⟩ := compL_pts f k xs G1 g1 fun d hd => h d (List.mem_cons_of_mem _ hd)
    refine ⟨(x, y) :: ys, G2, ?_, by rw [List.map_cons, l2], fun z hz => ?_, g2⟩
    · show (f (dz x) G).bind _ = _
      rw [e1, rb]
      show (compL f (xs.map dz) G1).bind _ = _
      rw [e2, rb]
      rfl
    · rcases List.mem_cons.mp hz with rfl | hz
      · exact p1
      · exact p2 z hz
theorem s9 {p q : List Rat} {b : Rat} {xs : List Int} (hx : xs.length ≤ 5) {G : Gs} (h : Dice 893 G) (X0 z6 z7 z8 z9 z10 z11 z12 : Option D) : ∃ ps G', evS (Sa 10) (st 9) [X0, some (.cell 0), some (cv p), some (cv q), some (pt b), some (.lst (plc.map dz)), z6, z7, z8, z9, z10, z11, z12, some (.lst (xs.map dz)), none, none, none, none, none, none, none, none, none, none, none, none, none, none, none, none] G = .next [X0, some (.cell 0), some (cv p), some (cv q), some (pt b), some (.lst (plc.map dz)), z6, z7, z8, z9, z10, z11, z12, some (.lst (xs.map dz)), some (lPt ps), none, none, none, none, none, none, none, none, none, none, none, none, none, none, none] G' ∧ ps.map (·.1) = xs ∧ (∀ z ∈ ps, Bd 6 18 z.2) ∧ Dice 880 G' := by
  obtain ⟨ps, G', e, h1, h2, h3⟩ := compL_pts (fun d G2 => match PV.assign (wipeE [X0, some (.cell 0), some (cv p), some (cv q), some (pt b), some (.lst (plc.map dz)), z6, z7, z8, z9, z10, z11, z12, some (.lst (xs.map dz)), none, none, none, none, none, none, none, none, none, none, none, none, none, none, none, none] [26]) (.nm 26) d with
        | some ρ' => (evT (Sa 10) ρ' [] G2).bind fun b G3 => if b then (evE (Sa 10) ρ' (.tup [.var 26, .call 29 [.var 1]]) G3).bind fun y G4 => .ok (some y) G4 else .ok none G3
        | none => .bad) 880 xs G (h.mono (by omega)) fun x hx i G hG => by
    obtain ⟨y, G', e, hb, g⟩ := cal_law_part 7 i hG
    refine ⟨y, G', ?_, hb, g⟩
    have e2 : evE (Sa 10) [X0, some (.cell 0), some (cv p), some (cv q), some (pt b), some (.lst (plc.map dz)), z6, z7, z8, z9, z10, z11, z12, some (.lst (xs.map dz)), none, none, none, none, none, none, none, none, none, none, none, none, some (dz x), none, none, none] (.tup [.var 26, .call 29 [.var 1]]) G = .ok (dPt (x, y)) G' := x_tup (x_es x_v (x_es (x_call (x_es x_v x_es0) e) x_es0))
    show (R.bind (R.ok true G) _ : R (Option D)) = _
    rw [rb]
    show (R.bind (evE (Sa 10) [X0, some (.cell 0), some (cv p), some (cv q), some (pt b), some (.lst (plc.map dz)), z6, z7, z8, z9, z10, z11, z12, some (.lst (xs.map dz)), none, none, none, none, none, none, none, none, none, none, none, none, some (dz x), none, none, none] (.tup [.var 26, .call 29 [.var 1]]) G) _ : R (Option D)) = _
    rw [e2, rb]
  have hl : ps.length = xs.length := by rw [← h1, List.length_map]
  have c : evE (Sa 10) [X0, some (.cell 0), some (cv p), some (cv q), some (pt b), some (.lst (plc.map dz)), z6, z7, z8, z9, z10, z11, z12, some (.lst (xs.map dz)), none, none, none, none, none, none, none, none, none, none, none, none, none, none, none, none] (.comp [26] (.tup [.var 26, .call 29 [.var 1]]) (.nm 26) (.seq (.var 13)) []) G = .ok (lPt ps) G' := by
    have hi : evI (Sa 10) [X0, some (.cell 0), some (cv p), some (cv q), some (pt b), some (.lst (plc.map dz)), z6, z7, z8, z9, z10, z11, z12, some (.lst (xs.map dz)), none, none, none, none, none, none, none, none, none, none, none, none, none, none, none, none] (.seq (.var 13)) G = .ok (xs.map dz) G := i_seq x_v
    simp only [evE, hi, rb]
    exact compL_end _ e (by rw [szl, List.length_map]; omega)
  exact ⟨ps, G', s_set c, h1, h2, h3⟩
theorem lim_f (m : Nat) (h : m ≤ 4) : Lim (MM (6 * 2520 ^ m) (5 * QB m) 1 5 8) := by
  match m, h with
  | 0, _ => exact .of (by decide +kernel)
  | 1, _ => exact .of (by decide +kernel)
  | 2, _ => exact .of (by decide +kernel)
  | 3, _ => exact .of (by decide +kernel)
  | 4, _ => exact .of (by decide +kernel)
abbrev plc5 : List Int := [-4, -3, -2, -1, 0]
theorem s11 {p q : List Rat} {b : Rat} (tp : Tr p) (hp : LB 6 18 4 p) {xs : List Int} {ps : List (Int × Rat)} {f : List Rat} (hps : ∀ z ∈ ps, z.1.natAbs ≤ 5) (hl : ps.length ≤ 5) (hlf : f.length ≤ ps.length) (hf : LB (6 * 2520 ^ (ps.length - 1)) (5 * QB (ps.length - 1)) 8 f) (he : ∀ z ∈ ps, ev f (z.1 : Rat) = z.2) {G : Gs} (hG : Cl G) (X0 z6 z7 z8 z9 z10 z11 z12 : Option D) : evS (Sa 10) (st 11) [X0, some (.cell 0), some (cv p), some (cv q), some (pt b), some (.lst (plc.map dz)), z6, z7, z8, z9, z10, z11, z12, some (.lst (xs.map dz)), some (lPt ps), some (cv f), none, none, none, none, none, none, none, none, none, none, none, none, none, none] G = .next [X0, some (.cell 0), some (cv p), some (cv q), some (pt b), some (.lst (plc.map dz)), z6, z7, z8, z9, z10, z11, z12, some (.lst (xs.map dz)), some (lPt ps), some (cv f), none, none, none, none, none, none, none, none, none, none, none, none, none, none] G := by
  have c1 : evE (Sa 10) [X0, some (.cell 0), some (cv p), some (cv q), some (pt b), some (.lst (plc.map dz)), z6, z7, z8, z9, z10, z11, z12, some (.lst (xs.map dz)), some (lPt ps), some (cv f), none, none, none, none, none, none, none, none, none, none, none, none, none, none] (.cmp .gt (.prim .len [.var 15]) (.prim .len [.var 14])) G = .ok (.bl false) G := x_cmp (x_prim (x_es x_v x_es0) (len_cv f)) (x_prim (x_es x_v x_es0) (d := .int ((ps.map dPt).length : Nat)) rfl) (by rw [cgt, List.length_map, decide_eq_false (by omega)])
  have c2 : evE (Sa 10) [X0, some (.cell 0), some (cv p), some (cv q), some (pt b), some (.lst (plc.map dz)), z6, z7, z8, z9, z10, z11, z12, some (.lst (xs.map dz)), some (lPt ps), some (cv f), none, none, none, none, none, none, none, none, none, none, none, none, none, none] (.comp [26, 29] (.var 26) (.tp [.nm 26, .nm 29]) (.seq (.var 14)) [.cmp .ne (.call 17 [.var 15, .var 26]) (.var 29)]) G = .ok (.lst []) G := comp_none ps dPt (fun z => [X0, some (.cell 0), some (cv p), some (cv q), some (pt b), some (.lst (plc.map dz)), z6, z7, z8, z9, z10, z11, z12, some (.lst (xs.map dz)), some (lPt ps), some (cv f), none, none, none, none, none, none, none, none, none, none, some (pt (z.1 : Rat)), none, none, some (pt z.2)]) (i_seq x_v) (fun z _ => rfl) (fun z hz => x_cmp (x_call (x_es x_v (x_es x_v x_es0)) (cal_worth hf (Bd.int (k := z.1) (hps z hz)) (lim_f _ (by omega)) (by decide) 6 G)) x_v (ne_pt (he z hz)))
  have h5 : ∀ k ∈ plc5, k.natAbs ≤ 5 := by decide
  have hs5 : slD (.lst (plc.map dz)) none (some (5 : Int)) = some (.lst (plc5.map dz)) := by
    have := sl_lst (plc.map dz) 5
    exact this
  have c3 : evE (Sa 10) [X0, some (.cell 0), some (cv p), some (cv q), some (pt b), some (.lst (plc.map dz)), z6, z7, z8, z9, z10, z11, z12, some (.lst (xs.map dz)), some (lPt ps), some (cv f), none, none, none, none, none, none, none, none, none, none, none, none, none, none] (.comp [26] (.tup [.var 26, .call 17 [.var 2, .var 26]]) (.nm 26) (.seq (.sl (.var 5) none (some (.con (.int 5))))) []) G = .ok (.lst (plc5.map fun x => dPt (x, ev p (x : Rat)))) G := comp_map plc5 dz _ (fun x => [X0, some (.cell 0), some (cv p), some (cv q), some (pt b), some (.lst (plc.map dz)), z6, z7, z8, z9, z10, z11, z12, some (.lst (xs.map dz)), some (lPt ps), some (cv f), none, none, none, none, none, none, none, none, none, none, some (dz x), none, none, none]) (i_seq (x_sl1 x_v x_c hs5)) (fun x _ => rfl) (fun x hx => x_tup (x_es x_v (x_es (x_call (x_es x_v (x_es x_v x_es0)) (cal_worth hp (Bd.int (h5 x hx)) lim_one (by decide) 6 G)) x_es0))) (by rw [szl]; decide)
  have hlst : D.lst (plc5.map fun x => dPt (x, ev p (x : Rat))) = lPt (plc5.map fun x => (x, ev p (x : Rat))) := by
    unfold lPt
    rw [List.map_map]; rfl
  rw [hlst] at c3
  obtain ⟨g, g1, g2, g3, g4, g5⟩ := cal_through 4 hG (plc5.map fun x => (x, ev p (x : Rat))) (fun z hz => by
    obtain ⟨x, hx, rfl⟩ := List.mem_map.mp hz
    exact h5 x hx) (by rw [List.map_map]; exact (by decide : (plc5.map fun x => x).Nodup)) (fun z hz => by
    obtain ⟨x, hx, rfl⟩ := List.mem_map.mp hz
    have := ev_Bd (D := 6) (B := 18) (by decide) (Bd.int (k := x) (h5 x hx)) 4 p hp.2.1 hp.2.2
    exact Bd.mono this (by decide)) (by simp)
  have hgp : g = p := by
    refine tr_ext g2 tp (ev_ext (rs := plc5.map fun (x : Int) => (x : Rat)) (by decide +kernel) (by simpa using g4) (by have := hp.2.1; simp; omega) fun r hr => ?_)
    obtain ⟨x, hx, rfl⟩ := List.mem_map.mp hr
    exact g5 (x, ev p (x : Rat)) (List.mem_map.mpr ⟨x, hx, rfl⟩)
  exact s_if0 (x_orf c1 (x_orf (x_cmp c2 (x_lst x_es0) ne_nil) (x_cmp (x_call (x_es c3 x_es0) g1) x_v (ne_cv hgp))))
end LK
end
/-! ## R14 -/
section
set_option Elab.async false
set_option linter.all false
set_option maxRecDepth 200000
set_option maxHeartbeats 8000000
set_option exponentiation.threshold 300
namespace LK
open PySem PV RP

theorem some_roots (k : Nat) {G : Gs} (h : Dice (k + 10) G) {ρ : PV.Env} (hρ : ρ[1]? = some (some (.cell 0))) (hw : ∀ v, ((wipeE ρ [27]).set 27 v)[1]? = some (some (.cell 0))) : ∃ rs G', evE (Sa 10) ρ (.comp [27] (.tup [.bin .sub (.call 26 [.var 1, .con (.int 5)]) (.con (.int 2)), .con (.int 1)]) (.nm 27) (.rng1 (.call 26 [.var 1, .con (.int 4)])) []) G = .ok (.lst (rs.map dz)) G' ∧ rs ∈ T156 ∧ Dice k G' := by
  obtain ⟨m, G1, e1, m1, m2, g1⟩ := cal_roll 9 (k + 9) (m := 4) (by unfold CC; omega) h
  have i1 : evI (Sa 10) ρ (.rng1 (.call 26 [.var 1, .con (.int 4)])) G = .ok (rangeD 0 m) G1 := i_rng (x_call (x_es (x_v hρ) (x_es x_c x_es0)) e1) (by omega)
  obtain ⟨ys, G2, e2, y1, y2, g2⟩ := comp_ex (S := Sa 10) (own := [27]) (tg := .nm 27) (el := .tup [.bin .sub (.call 26 [.var 1, .con (.int 5)]) (.con (.int 2)), .con (.int 1)]) (fun y => ∃ r, y = dz r ∧ r ∈ vals5) 1 k i1 (g1.mono (by rw [len_rng]; omega)) (by rw [len_rng]; omega) (fun d _ => ⟨(wipeE ρ [27]).set 27 (some d), rfl, fun i G hi => by
    obtain ⟨r, G', f1, f2, f3, f4⟩ := cal_roll 9 i (m := 5) (by unfold CC; omega) hi
    refine ⟨_, G', x_tup (x_es (x_bin (x_call (x_es (x_v (hw _)) (x_es x_c x_es0)) f1) x_c (bs _ _)) (x_es x_c x_es0)), ⟨r - 2, rfl, ?_⟩, f4⟩
    have : r = 0 ∨ r = 1 ∨ r = 2 ∨ r = 3 ∨ r = 4 := by omega
    rcases this with rfl | rfl | rfl | rfl | rfl <;> decide⟩)
  obtain ⟨rs, rfl, hr⟩ := list_gen y2
  rw [List.length_map, len_rng] at y1
  have mem : ∀ (k : Nat) (rs : List Int), rs.length ≤ k → (∀ r ∈ rs, r ∈ vals5) → rs ∈ listsZ k := by
    intro k
    induction k with
    | zero =>
      intro rs h _
      have : rs = [] := List.eq_nil_of_length_eq_zero (by omega)
      subst this
      exact List.mem_cons_self ..
    | succ k ih =>
      intro rs h hv
      cases rs with
      | nil => exact List.mem_cons_self ..
      | cons a rs => exact List.mem_cons_of_mem _ (List.mem_flatMap.mpr ⟨a, hv a (List.mem_cons_self ..), List.mem_map.mpr ⟨rs, ih rs (by simpa using h) fun r hr => hv r (List.mem_cons_of_mem _ hr), rfl⟩⟩)
  exact ⟨rs, G2, e2, mem 3 rs (by omega) hr, g2⟩
theorem s12 {p q : List Rat} {b : Rat} {G : Gs} (h : Dice 880 G) (X0 z6 z7 z8 z9 z10 z11 z12 z13 z14 z15 : Option D) : ∃ rs G', evS (Sa 10) (st 12) [X0, some (.cell 0), some (cv p), some (cv q), some (pt b), some (.lst (plc.map dz)), z6, z7, z8, z9, z10, z11, z12, z13, z14, z15, none, none, none, none, none, none, none, none, none, none, none, none, none, none] G = .next [X0, some (.cell 0), some (cv p), some (cv q), some (pt b), some (.lst (plc.map dz)), z6, z7, z8, z9, z10, z11, z12, z13, z14, z15, some (.lst (rs.map dz)), none, none, none, none, none, none, none, none, none, none, none, none, none] G' ∧ rs ∈ T156 ∧ Dice 870 G' := by
  obtain ⟨rs, G', e, h1, h2⟩ := some_roots 870 h (ρ := [X0, some (.cell 0), some (cv p), some (cv q), some (pt b), some (.lst (plc.map dz)), z6, z7, z8, z9, z10, z11, z12, z13, z14, z15, none, none, none, none, none, none, none, none, none, none, none, none, none, none]) rfl (fun v => rfl)
  exact ⟨rs, G', s_set e, h1, h2⟩
theorem s13 {p q : List Rat} {b : Rat} {rs : List Int} {G : Gs} (h : Dice 870 G) (X0 z6 z7 z8 z9 z10 z11 z12 z13 z14 z15 : Option D) : ∃ ms G', evS (Sa 10) (st 13) [X0, some (.cell 0), some (cv p), some (cv q), some (pt b), some (.lst (plc.map dz)), z6, z7, z8, z9, z10, z11, z12, z13, z14, z15, some (.lst (rs.map dz)), none, none, none, none, none, none, none, none, none, none, none, none, none] G = .next [X0, some (.cell 0), some (cv p), some (cv q), some (pt b), some (.lst (plc.map dz)), z6, z7, z8, z9, z10, z11, z12, z13, z14, z15, some (.lst (rs.map dz)), some (.lst (ms.map dz)), none, none, none, none, none, none, none, none, none, none, none, none] G' ∧ ms ∈ T156 ∧ Dice 860 G' := by
  obtain ⟨rs', G', e, h1, h2⟩ := some_roots 860 h (ρ := [X0, some (.cell 0), some (cv p), some (cv q), some (pt b), some (.lst (plc.map dz)), z6, z7, z8, z9, z10, z11, z12, z13, z14, z15, some (.lst (rs.map dz)), none, none, none, none, none, none, none, none, none, none, none, none, none]) rfl (fun v => rfl)
  exact ⟨rs', G', s_set e, h1, h2⟩
theorem rz_snoc (l : List Int) (a : Int) : rz (l ++ [a]) = rz l ++ [(a : Rat)] := by unfold rz; rw [List.map_append]; rfl
theorem ev_mulLin (r : Int) (x : Rat) : ∀ (c : Int) (l : List Int), ev (rz (mulLin r c l)) x = (c : Rat) + (x - (r : Rat)) * ev (rz l) x
  | c, [] => by
    show (c : Rat) + x * 0 = (c : Rat) + (x - (r : Rat)) * 0
    grind
  | c, a :: l => by
    have ih := ev_mulLin r x a l
    show ((c - r * a : Int) : Rat) + x * ev (rz (mulLin r a l)) x = (c : Rat) + (x - (r : Rat)) * ((a : Rat) + x * ev (rz l) x)
    rw [ih, Rat.intCast_sub, Rat.intCast_mul]
    grind
theorem poly_snoc (c : Int) (rs : List Int) (r : Int) : polyZ c (rs ++ [r]) = mulLin r 0 (polyZ c rs) := by unfold polyZ; rw [List.foldl_append]; rfl
theorem ev_poly_snoc (c : Int) (rs : List Int) (r : Int) (x : Rat) : ev (rz (polyZ c (rs ++ [r]))) x = ev (rz (polyZ c rs)) x * (x - (r : Rat)) := by
  rw [poly_snoc, ev_mulLin]
  have : ((0 : Int) : Rat) = 0 := rfl
  rw [this]; grind
theorem mulLin_last (r : Int) : ∀ (c : Int) (l : List Int) (a : Int), ∃ m, mulLin r c (l ++ [a]) = m ++ [a]
  | c, [], a => ⟨[c - r * a], rfl⟩
  | c, b :: l, a => by
    obtain ⟨m, e⟩ := mulLin_last r b l a
    exact ⟨(c - r * b) :: m, by show (c - r * b) :: mulLin r b (l ++ [a]) = _; rw [e]; rfl⟩
theorem poly_last (c : Int) : ∀ (n : Nat) (rs : List Int), rs.length = n → ∃ m, polyZ c rs = m ++ [c]
  | 0, rs, h => by
    have : rs = [] := List.eq_nil_of_length_eq_zero h
    subst this
    exact ⟨[], rfl⟩
  | n + 1, rs, h => by
    obtain ⟨s, r, rfl⟩ : ∃ s r, rs = s ++ [r] := ⟨rs.dropLast, rs.getLast (by intro e; subst e; cases h), (List.dropLast_concat_getLast _).symm⟩
    obtain ⟨m, e⟩ := poly_last c n s (by simpa using h)
    rw [poly_snoc, e]
    exact mulLin_last r 0 m c
theorem poly_tr {c : Int} (hc : c ≠ 0) (rs : List Int) : Tr (rz (polyZ c rs)) := by
  obtain ⟨m, e⟩ := poly_last c _ rs rfl
  rw [e, rz_snoc]
  exact trim_snoc (fun e => hc (Rat.intCast_eq_zero_iff.mp e)) _
def VB : Nat → Nat
  | 0 => 3
  | t + 1 => mulB (VB t) 2 20
theorem VB_le {a : Nat} : ∀ {b : Nat}, a ≤ b → VB a ≤ VB b
  | 0, h => by
    have : a = 0 := by omega
    rw [this]; exact Nat.le_refl _
  | b + 1, h => by
    by_cases e : a = b + 1
    · rw [e]; exact Nat.le_refl _
    · have h1 := VB_le (show a ≤ b by omega)
      have h2 : VB b ≤ VB (b + 1) := by
        show VB b ≤ (20 * 20 + 1) * (VB b * 2)
        omega
      omega
theorem lim_V {t : Nat} (h : t ≤ 15) : Lim (1 * 1 * (mulB (VB t) 2 20 + VB t + 2 + 1)) := by
  have h1 := VB_le h
  have h2 : mulB (VB t) 2 20 ≤ mulB (VB 15) 2 20 := Nat.mul_le_mul_left _ (Nat.mul_le_mul_right _ h1)
  exact Lim.le (m := mulB (VB 15) 2 20 + VB 15 + 2 + 1) (.of (by decide +kernel)) (by omega)
abbrev linE (iv : Nat) : PV.E := .call 15 [.var iv, .call 9 [.lst [.call 3 [.tup [.con (.int 0), .con (.int 1)], .var 20], .tup [.con (.int 1), .con (.int 1)]]]]
theorem lin_step {ρ : PV.Env} {G : Gs} (hG : Cl G) {iv t : Nat} {f : List Rat} {r : Int} (h1 : ρ[iv]? = some (some (cv f))) (h2 : ρ[20]? = some (some (dz r))) (hr : r.natAbs ≤ 2) (hf : LB 1 (VB t) 20 f) (hl : f.length ≤ t + 1) (ht : t ≤ 15) : ∃ g, evE (Sa 10) ρ (linE iv) G = .ok (cv g) G ∧ Tr g ∧ LB 1 (VB (t + 1)) 20 g ∧ g.length ≤ t + 2 ∧ ∀ x, ev g x = ev f x * (x - (r : Rat)) := by
  have fr : Fi (r : Rat) := fi_small (by omega)
  have e2 := cal_minus 7 G fi0 fr
  have hneg : (0 : Rat) - (r : Rat) = ((0 - r : Int) : Rat) := by rw [Rat.intCast_sub]; rfl
  rw [hneg] at e2
  have lq : LB 1 2 20 [((0 - r : Int) : Rat), 1] := ⟨by decide, by simp, fun y hy => by
    rcases List.mem_cons.mp hy with rfl | hy
    · exact Bd.int (by omega)
    · rw [List.mem_singleton.mp hy]
      exact Bd.int (k := 1) (by decide)⟩
  have e5 := cal_curve 6 G (x := lv [((0 - r : Int) : Rat), 1]) (l := [((0 - r : Int) : Rat), 1]) rfl (lq.fi (.of (by decide +kernel))) (by simp)
  have ht2 : trim [((0 - r : Int) : Rat), 1] = [((0 - r : Int) : Rat), 1] := trim_snoc (a := 1) (by decide) [((0 - r : Int) : Rat)]
  rw [ht2] at e5
  obtain ⟨e6, F, hF, hFB⟩ := cal_mul 5 hG hf lq (by decide) (lim_V ht)
  have hlen : (trim (mulP f [((0 - r : Int) : Rat), 1])).length ≤ t + 2 := by
    rcases mul_len f [((0 - r : Int) : Rat), 1] with h | h
    · have := trim_len (mulP f [((0 - r : Int) : Rat), 1])
      have h : (mulP f [((0 - r : Int) : Rat), 1]).length ≤ f.length + 2 - 1 := h
      omega
    · cases h
  have lm := mul_lb (M := 20) (by decide) hF hFB (by omega)
  refine ⟨_, x_call (x_es (x_v h1) (x_es (x_call (x_es (x_lst (x_es (x_call (x_es (x_tup (x_es x_c (x_es x_c x_es0))) (x_es (x_v h2) x_es0)) e2) (x_es (x_tup (x_es x_c (x_es x_c x_es0))) x_es0))) x_es0) e5) x_es0)) e6, trim_trim _, lm, hlen, fun x => ?_⟩
  rw [ev_trim, ev_mul]
  show _ * (((0 - r : Int) : Rat) + x * (1 + x * 0)) = _
  rw [← hneg]; grind
theorem vals_abs {r : Int} (h : r ∈ vals5) : r.natAbs ≤ 2 := by
  have : ∀ r ∈ vals5, r.natAbs ≤ 2 := by decide
  exact this r h
theorem mem_vals {rs : List Int} (h : rs ∈ T156) : (∀ r ∈ rs, r ∈ vals5) ∧ rs.length ≤ 3 := by
  have t : (T156.all fun s => (s.all fun r => vals5.contains r) && decide (s.length ≤ 3)) = true := by decide +kernel
  have h1 := List.all_eq_true.mp t rs h
  simp only [Bool.and_eq_true, decide_eq_true_eq] at h1
  exact ⟨fun r hr => by
    have := List.all_eq_true.mp h1.1 r hr
    simpa using this, h1.2⟩
theorem s14 {p q : List Rat} {b : Rat} {rs ms : List Int} (G : Gs) (X0 z6 z7 z8 z9 z10 z11 z12 z13 z14 z15 : Option D) : evS (Sa 10) (st 14) [X0, some (.cell 0), some (cv p), some (cv q), some (pt b), some (.lst (plc.map dz)), z6, z7, z8, z9, z10, z11, z12, z13, z14, z15, some (.lst (rs.map dz)), some (.lst (ms.map dz)), none, none, none, none, none, none, none, none, none, none, none, none] G = .next [X0, some (.cell 0), some (cv p), some (cv q), some (pt b), some (.lst (plc.map dz)), z6, z7, z8, z9, z10, z11, z12, z13, z14, z15, some (.lst (rs.map dz)), some (.lst (ms.map dz)), some (cv (rz [3])), some (cv (rz [2])), none, none, none, none, none, none, none, none, none, none] G := s_set (x_tup (x_es (x_tup (x_es (x_tup (x_es x_c (x_es x_c x_es0))) x_es0)) (x_es (x_tup (x_es (x_tup (x_es x_c (x_es x_c x_es0))) x_es0)) x_es0)))
theorem s15 {p q : List Rat} {b : Rat} {rs ms : List Int} (hr : rs ∈ T156) {G : Gs} (hG : Cl G) (X0 z6 z7 z8 z9 z10 z11 z12 z13 z14 z15 z20 : Option D) : ∃ z20', evS (Sa 10) (st 15) [X0, some (.cell 0), some (cv p), some (cv q), some (pt b), some (.lst (plc.map dz)), z6, z7, z8, z9, z10, z11, z12, z13, z14, z15, some (.lst (rs.map dz)), some (.lst (ms.map dz)), some (cv (rz [3])), some (cv (rz [2])), z20, none, none, none, none, none, none, none, none, none] G = .next [X0, some (.cell 0), some (cv p), some (cv q), some (pt b), some (.lst (plc.map dz)), z6, z7, z8, z9, z10, z11, z12, z13, z14, z15, some (.lst (rs.map dz)), some (.lst (ms.map dz)), some (cv (rz (polyZ 3 rs))), some (cv (rz [2])), z20', none, none, none, none, none, none, none, none, none] G := by
  obtain ⟨hv, hl⟩ := mem_vals hr
  obtain ⟨ρ', G', e, rfl, f, z20', rfl, tf, lf, hlf, hE⟩ := forL_inv (fun d ρ1 G2 => match PV.assign ρ1 (.nm 20) d with | some ρ2 => evB (Sa 10) [.set (.nm 18) (linE 18)] ρ2 G2 | none => .bad) dz
    (fun s ρ G' => G = G' ∧ ∃ f z20, ρ = [X0, some (.cell 0), some (cv p), some (cv q), some (pt b), some (.lst (plc.map dz)), z6, z7, z8, z9, z10, z11, z12, z13, z14, z15, some (.lst (rs.map dz)), some (.lst (ms.map dz)), some (cv f), some (cv (rz [2])), z20, none, none, none, none, none, none, none, none, none] ∧ Tr f ∧ LB 1 (VB s.length) 20 f ∧ f.length ≤ s.length + 1 ∧ ∀ x, ev f x = ev (rz (polyZ 3 s)) x) rs [] [X0, some (.cell 0), some (cv p), some (cv q), some (pt b), some (.lst (plc.map dz)), z6, z7, z8, z9, z10, z11, z12, z13, z14, z15, some (.lst (rs.map dz)), some (.lst (ms.map dz)), some (cv (rz [3])), some (cv (rz [2])), z20, none, none, none, none, none, none, none, none, none] G
    ⟨rfl, rz [3], z20, rfl, poly_tr (c := 3) (by decide) [], ⟨by decide, by decide, fun r hr => by rw [List.mem_singleton.mp hr]; exact Bd.int (k := 3) (by decide)⟩, by decide, fun x => rfl⟩
    fun s c t ρ G' hs ⟨hG', f, z20, hρ, tf, lf, hlf, hE⟩ => by
      subst hG' hρ
      have hs : rs = s ++ c :: t := hs
      have hk : s.length ≤ 15 := by
        have := congrArg List.length hs
        rw [List.length_append, List.length_cons] at this
        omega
      obtain ⟨g, g1, g2, g3, g4, g5⟩ := lin_step (ρ := [X0, some (.cell 0), some (cv p), some (cv q), some (pt b), some (.lst (plc.map dz)), z6, z7, z8, z9, z10, z11, z12, z13, z14, z15, some (.lst (rs.map dz)), some (.lst (ms.map dz)), some (cv f), some (cv (rz [2])), some (dz c), none, none, none, none, none, none, none, none, none]) hG (iv := 18) (t := s.length) (r := c) rfl rfl (vals_abs (hv c (by rw [hs]; simp))) lf hlf hk
      exact ⟨_, _, b_next (s_set g1) rfl, rfl, g, some (dz c), rfl, g2, by rw [List.length_append, List.length_singleton]; exact g3, by rw [List.length_append, List.length_singleton]; exact g4, fun x => by rw [g5, hE, ev_poly_snoc]⟩
  have hf : f = rz (polyZ 3 rs) := tr_ext tf (poly_tr (by decide) _) hE
  subst hf
  exact ⟨z20', s_for (i_seq x_v) e⟩
theorem s16 {p q : List Rat} {b : Rat} {rs ms : List Int} (hr : ms ∈ T156) {G : Gs} (hG : Cl G) (X0 z6 z7 z8 z9 z10 z11 z12 z13 z14 z15 z20 : Option D) : ∃ z20', evS (Sa 10) (st 16) [X0, some (.cell 0), some (cv p), some (cv q), some (pt b), some (.lst (plc.map dz)), z6, z7, z8, z9, z10, z11, z12, z13, z14, z15, some (.lst (rs.map dz)), some (.lst (ms.map dz)), some (cv (rz (polyZ 3 rs))), some (cv (rz [2])), z20, none, none, none, none, none, none, none, none, none] G = .next [X0, some (.cell 0), some (cv p), some (cv q), some (pt b), some (.lst (plc.map dz)), z6, z7, z8, z9, z10, z11, z12, z13, z14, z15, some (.lst (rs.map dz)), some (.lst (ms.map dz)), some (cv (rz (polyZ 3 rs))), some (cv (rz (polyZ 2 ms))), z20', none, none, none, none, none, none, none, none, none] G := by
  obtain ⟨hv, hl⟩ := mem_vals hr
  obtain ⟨ρ', G', e, rfl, f, z20', rfl, tf, lf, hlf, hE⟩ := forL_inv (fun d ρ1 G2 => match PV.assign ρ1 (.nm 20) d with | some ρ2 => evB (Sa 10) [.set (.nm 19) (linE 19)] ρ2 G2 | none => .bad) dz
    (fun s ρ G' => G = G' ∧ ∃ f z20, ρ = [X0, some (.cell 0), some (cv p), some (cv q), some (pt b), some (.lst (plc.map dz)), z6, z7, z8, z9, z10, z11, z12, z13, z14, z15, some (.lst (rs.map dz)), some (.lst (ms.map dz)), some (cv (rz (polyZ 3 rs))), some (cv f), z20, none, none, none, none, none, none, none, none, none] ∧ Tr f ∧ LB 1 (VB s.length) 20 f ∧ f.length ≤ s.length + 1 ∧ ∀ x, ev f x = ev (rz (polyZ 2 s)) x) ms [] [X0, some (.cell 0), some (cv p), some (cv q), some (pt b), some (.lst (plc.map dz)), z6, z7, z8, z9, z10, z11, z12, z13, z14, z15, some (.lst (rs.map dz)), some (.lst (ms.map dz)), some (cv (rz (polyZ 3 rs))), some (cv (rz [2])), z20, none, none, none, none, none, none, none, none, none] G
    ⟨rfl, rz [2], z20, rfl, poly_tr (c := 2) (by decide) [], ⟨by decide, by decide, fun r hr => by rw [List.mem_singleton.mp hr]; exact Bd.int (k := 2) (by decide)⟩, by decide, fun x => rfl⟩
    fun s c t ρ G' hs ⟨hG', f, z20, hρ, tf, lf, hlf, hE⟩ => by
      subst hG' hρ
      have hs : ms = s ++ c :: t := hs
      have hk : s.length ≤ 15 := by
        have := congrArg List.length hs
        rw [List.length_append, List.length_cons] at this
        omega
      obtain ⟨g, g1, g2, g3, g4, g5⟩ := lin_step (ρ := [X0, some (.cell 0), some (cv p), some (cv q), some (pt b), some (.lst (plc.map dz)), z6, z7, z8, z9, z10, z11, z12, z13, z14, z15, some (.lst (rs.map dz)), some (.lst (ms.map dz)), some (cv (rz (polyZ 3 rs))), some (cv f), some (dz c), none, none, none, none, none, none, none, none, none]) hG (iv := 19) (t := s.length) (r := c) rfl rfl (vals_abs (hv c (by rw [hs]; simp))) lf hlf hk
      exact ⟨_, _, b_next (s_set g1) rfl, rfl, g, some (dz c), rfl, g2, by rw [List.length_append, List.length_singleton]; exact g3, by rw [List.length_append, List.length_singleton]; exact g4, fun x => by rw [g5, hE, ev_poly_snoc]⟩
  have hf : f = rz (polyZ 2 ms) := tr_ext tf (poly_tr (by decide) _) hE
  subst hf
  exact ⟨z20', s_for (i_seq x_v) e⟩
end LK
end
/-! ## R15 -/
section
set_option Elab.async false
set_option linter.all false
set_option maxRecDepth 200000
set_option maxHeartbeats 8000000
set_option exponentiation.threshold 300
namespace LK
open PySem PV RP

theorem s17 {p q : List Rat} {b : Rat} {rs ms : List Int} (G : Gs) (X0 z6 z7 z8 z9 z10 z11 z12 z13 z14 z15 z20 : Option D) : evS (Sa 10) (st 17) [X0, some (.cell 0), some (cv p), some (cv q), some (pt b), some (.lst (plc.map dz)), z6, z7, z8, z9, z10, z11, z12, z13, z14, z15, some (.lst (rs.map dz)), some (.lst (ms.map dz)), some (cv (rz (polyZ 3 rs))), some (cv (rz (polyZ 2 ms))), z20, none, none, none, none, none, none, none, none, none] G = .next [X0, some (.cell 0), some (cv p), some (cv q), some (pt b), some (.lst (plc.map dz)), z6, z7, z8, z9, z10, z11, z12, z13, z14, z15, some (.lst (rs.map dz)), some (.lst (ms.map dz)), some (cv (rz (polyZ 3 rs))), some (cv (rz (polyZ 2 ms))), z20, some (cv (rz [1])), none, none, none, none, none, none, none, none] G := s_set (x_tup (x_es (x_tup (x_es x_c (x_es x_c x_es0))) x_es0))
abbrev keysE : PV.E := .prim .sorted [.dctP (.comp [20] (.tup [.var 20, .con (.int 1)]) (.nm 20) (.seq (.var 16)) [])]
theorem dz_map (rs : List Int) : rs.map dz = (rz rs).map pt := by unfold rz; rw [List.map_map]; rfl
theorem count_dz (rs : List Int) (k : Int) : countD (.lst (rs.map dz)) (dz k) = some (.int (rs.count k : Nat)) := by
  rw [dz_map]
  have h1 : toPys ((rz rs).map pt) = some ((rz rs).map pyt) := toPys_pt _
  have h2 : SeqAt.shaped (.list ((rz rs).map pyt)) = true := by
    have d := dep_pt (rz rs)
    show (PyData.canLayAll0 ((rz rs).map pyt) && decide (PyData.depthAll ((rz rs).map pyt) + 1 ≤ 64)) = true
    rw [lay_pt, decide_eq_true (by omega)]
    rfl
  have hc : ((rz rs).map pyt).countP (fun y => PyData.eqv y (pyt (k : Rat))) = rs.count k := by
    unfold rz
    rw [List.map_map, List.countP_map, List.count_eq_countP]
    refine List.countP_congr fun a _ => ?_
    show (decide (((a : Int) : Rat).num = ((k : Int) : Rat).num) && (decide ((((a : Int) : Rat).den : Int) = (((k : Int) : Rat).den : Int)) && true)) = true ↔ (a == k) = true
    rw [Rat.num_intCast, Rat.num_intCast, Rat.den_intCast, Rat.den_intCast]
    simp
  show (match toPys ((rz rs).map pt) with
    | some ps => if SeqAt.shaped (.list ps) && SeqAt.shaped (pyt (k : Rat)) && decide (PyData.depth (pyt (k : Rat)) ≤ 32) then some (D.int (ps.countP fun y => PyData.eqv y (pyt (k : Rat)) : Nat)) else none
    | none => none) = _
  rw [h1]
  show (if (SeqAt.shaped (.list ((rz rs).map pyt)) && true && true) = true then some (D.int (((rz rs).map pyt).countP fun y => PyData.eqv y (pyt (k : Rat)) : Nat)) else none) = _
  rw [h2, hc]; rfl
theorem x_lcount {S : PV.Sem} {ρ : PV.Env} {G G1 G2 : Gs} {a c : PV.E} {l : List D} {y d : D} (h1 : evE S ρ a G = .ok (.lst l) G1) (h2 : evE S ρ c G1 = .ok y G2) (h3 : countD (.lst l) y = some d) : evE S ρ (.lcount a c) G = .ok d G2 := by simp only [evE, h1, rb, lstOf, h2, h3, rof]
theorem min_int (a b : Nat) {G : Gs} : prim G .min2 [.int (a : Nat), .int (b : Nat)] = some (.int ((min a b : Nat) : Int)) := by
  show some (D.int (if ((b : Nat) : Int) < (a : Nat) then _ else _)) = _
  by_cases h : ((b : Nat) : Int) < (a : Nat)
  · rw [if_pos h, Nat.min_eq_right (by omega)]
  · rw [if_neg h, Nat.min_eq_left (by omega)]
def repZ (rs ms ks : List Int) : List Int := ks.flatMap fun k => List.replicate (min (rs.count k) (ms.count k)) k
theorem rep_snoc (rs ms ks : List Int) (k : Int) : repZ rs ms (ks ++ [k]) = repZ rs ms ks ++ List.replicate (min (rs.count k) (ms.count k)) k := by unfold repZ; rw [List.flatMap_append]; simp
theorem rep_len (rs ms : List Int) (h : rs.length ≤ 3) : ∀ ks : List Int, (repZ rs ms ks).length ≤ 3 * ks.length
  | [] => Nat.le_refl _
  | k :: ks => by
    have ih := rep_len rs ms h ks
    have e : repZ rs ms (k :: ks) = List.replicate (min (rs.count k) (ms.count k)) k ++ repZ rs ms ks := rfl
    have := List.count_le_length (a := k) (l := rs)
    rw [e, List.length_append, List.length_replicate, List.length_cons]
    omega
theorem keys_mem {rs : List Int} {k : Int} (h : k ∈ keysZ rs) : k ∈ vals5 := (List.mem_filter.mp h).1
theorem keys_len (rs : List Int) : (keysZ rs).length ≤ 5 := by
  have : (keysZ rs).length ≤ vals5.length := List.length_filter_le _ _
  exact this
section
variable (X0 X1 X2 X3 X4 X5 X6 X7 X8 X9 X10 X11 X12 X13 X14 X15 X17 X18 X19 X20 X21 X22 X23 X24 X25 X26 X27 X28 X29 : Option D) (G : Gs)
theorem t_keys : T156.map (fun rs => evE (Sa 10) [X0, X1, X2, X3, X4, X5, X6, X7, X8, X9, X10, X11, X12, X13, X14, X15, some (.lst (rs.map dz)), X17, X18, X19, X20, X21, X22, X23, X24, X25, X26, X27, X28, X29] keysE G) = T156.map (fun rs => .ok (.lst ((keysZ rs).map dz)) G) := by kernel_rfl
end
abbrev dueIn : List St := [.set (.nm 21) (linE 21)]
abbrev dueBody : List St := [.for_ (.nm 22) (.rng1 (.prim .min2 [.lcount (.var 16) (.var 20), .lcount (.var 17) (.var 20)])) dueIn]
theorem due_one {p q : List Rat} {b : Rat} {rs ms : List Int} (hl : rs.length ≤ 3) {G : Gs} (hG : Cl G) {k : Int} (hk : k ∈ vals5) {f : List Rat} {t : Nat} (ht : t ≤ 12) {base : List Int} (tf : Tr f) (lf : LB 1 (VB t) 20 f) (hlf : f.length ≤ t + 1) (hE : ∀ x, ev f x = ev (rz (polyZ 1 base)) x) (X0 z6 z7 z8 z9 z10 z11 z12 z13 z14 z15 z22 : Option D) : ∃ g z22', evB (Sa 10) dueBody [X0, some (.cell 0), some (cv p), some (cv q), some (pt b), some (.lst (plc.map dz)), z6, z7, z8, z9, z10, z11, z12, z13, z14, z15, some (.lst (rs.map dz)), some (.lst (ms.map dz)), some (cv (rz (polyZ 3 rs))), some (cv (rz (polyZ 2 ms))), some (dz k), some (cv f), z22, none, none, none, none, none, none, none] G = .next [X0, some (.cell 0), some (cv p), some (cv q), some (pt b), some (.lst (plc.map dz)), z6, z7, z8, z9, z10, z11, z12, z13, z14, z15, some (.lst (rs.map dz)), some (.lst (ms.map dz)), some (cv (rz (polyZ 3 rs))), some (cv (rz (polyZ 2 ms))), some (dz k), some (cv g), z22', none, none, none, none, none, none, none] G ∧ Tr g ∧ LB 1 (VB (t + min (rs.count k) (ms.count k))) 20 g ∧ g.length ≤ t + min (rs.count k) (ms.count k) + 1 ∧ ∀ x, ev g x = ev (rz (polyZ 1 (base ++ List.replicate (min (rs.count k) (ms.count k)) k))) x := by
  have hc := List.count_le_length (a := k) (l := rs)
  have hm : min (rs.count k) (ms.count k) ≤ 3 := by omega
  generalize hmm : min (rs.count k) (ms.count k) = m at hm
  obtain ⟨ρ', G', e, rfl, g, z22', rfl, tg, lg, hlg, hEg⟩ := forL_inv (fun d ρ1 G2 => match PV.assign ρ1 (.nm 22) d with | some ρ2 => evB (Sa 10) dueIn ρ2 G2 | none => .bad) (fun (j : Nat) => D.int (0 + (j : Int)))
    (fun u ρ G' => G = G' ∧ ∃ g z22, ρ = [X0, some (.cell 0), some (cv p), some (cv q), some (pt b), some (.lst (plc.map dz)), z6, z7, z8, z9, z10, z11, z12, z13, z14, z15, some (.lst (rs.map dz)), some (.lst (ms.map dz)), some (cv (rz (polyZ 3 rs))), some (cv (rz (polyZ 2 ms))), some (dz k), some (cv g), z22, none, none, none, none, none, none, none] ∧ Tr g ∧ LB 1 (VB (t + u.length)) 20 g ∧ g.length ≤ t + u.length + 1 ∧ ∀ x, ev g x = ev (rz (polyZ 1 (base ++ List.replicate u.length k))) x) (List.range m) [] [X0, some (.cell 0), some (cv p), some (cv q), some (pt b), some (.lst (plc.map dz)), z6, z7, z8, z9, z10, z11, z12, z13, z14, z15, some (.lst (rs.map dz)), some (.lst (ms.map dz)), some (cv (rz (polyZ 3 rs))), some (cv (rz (polyZ 2 ms))), some (dz k), some (cv f), z22, none, none, none, none, none, none, none] G
    ⟨rfl, f, z22, rfl, tf, lf, hlf, fun x => by rw [hE]; simp⟩
    fun u c v ρ G' hu ⟨hG', g, z22, hρ, tg, lg, hlg, hEg⟩ => by
      subst hG' hρ
      have hul : u.length < m := by
        have hu : List.range m = u ++ c :: v := hu
        have := congrArg List.length hu
        rw [List.length_range, List.length_append, List.length_cons] at this
        omega
      obtain ⟨g', g1, g2, g3, g4, g5⟩ := lin_step (ρ := [X0, some (.cell 0), some (cv p), some (cv q), some (pt b), some (.lst (plc.map dz)), z6, z7, z8, z9, z10, z11, z12, z13, z14, z15, some (.lst (rs.map dz)), some (.lst (ms.map dz)), some (cv (rz (polyZ 3 rs))), some (cv (rz (polyZ 2 ms))), some (dz k), some (cv g), some (.int (0 + (c : Int))), none, none, none, none, none, none, none]) hG (iv := 21) (t := t + u.length) (r := k) rfl rfl (vals_abs hk) lg hlg (by omega)
      exact ⟨_, _, b_next (s_set g1) rfl, rfl, g', some (.int (0 + (c : Int))), rfl, g2, by rw [List.length_append, List.length_singleton]; exact g3, by rw [List.length_append, List.length_singleton]; exact g4, fun x => by rw [g5, hEg, List.length_append, List.length_singleton, List.replicate_succ', ← List.append_assoc, ev_poly_snoc]⟩
  rw [List.nil_append, List.length_range] at lg hlg hEg
  have hi : evI (Sa 10) [X0, some (.cell 0), some (cv p), some (cv q), some (pt b), some (.lst (plc.map dz)), z6, z7, z8, z9, z10, z11, z12, z13, z14, z15, some (.lst (rs.map dz)), some (.lst (ms.map dz)), some (cv (rz (polyZ 3 rs))), some (cv (rz (polyZ 2 ms))), some (dz k), some (cv f), z22, none, none, none, none, none, none, none] (.rng1 (.prim .min2 [.lcount (.var 16) (.var 20), .lcount (.var 17) (.var 20)])) G = .ok ((List.range m).map fun (j : Nat) => D.int (0 + (j : Int))) G := by
    have h := i_rng (S := Sa 10) (ρ := [X0, some (.cell 0), some (cv p), some (cv q), some (pt b), some (.lst (plc.map dz)), z6, z7, z8, z9, z10, z11, z12, z13, z14, z15, some (.lst (rs.map dz)), some (.lst (ms.map dz)), some (cv (rz (polyZ 3 rs))), some (cv (rz (polyZ 2 ms))), some (dz k), some (cv f), z22, none, none, none, none, none, none, none]) (a := .prim .min2 [.lcount (.var 16) (.var 20), .lcount (.var 17) (.var 20)]) (G := G) (x_prim (x_es (x_lcount x_v x_v (count_dz rs k)) (x_es (x_lcount x_v x_v (count_dz ms k)) x_es0)) (min_int _ _)) (by omega)
    rw [hmm, rangeD_nat] at h
    exact h
  exact ⟨g, z22', b_next (s_for hi e) rfl, tg, lg, hlg, hEg⟩
theorem s18 {p q : List Rat} {b : Rat} {rs ms : List Int} (hr : rs ∈ T156) {G : Gs} (hG : Cl G) (X0 z6 z7 z8 z9 z10 z11 z12 z13 z14 z15 z20 : Option D) : ∃ z20' z22, evS (Sa 10) (st 18) [X0, some (.cell 0), some (cv p), some (cv q), some (pt b), some (.lst (plc.map dz)), z6, z7, z8, z9, z10, z11, z12, z13, z14, z15, some (.lst (rs.map dz)), some (.lst (ms.map dz)), some (cv (rz (polyZ 3 rs))), some (cv (rz (polyZ 2 ms))), z20, some (cv (rz [1])), none, none, none, none, none, none, none, none] G = .next [X0, some (.cell 0), some (cv p), some (cv q), some (pt b), some (.lst (plc.map dz)), z6, z7, z8, z9, z10, z11, z12, z13, z14, z15, some (.lst (rs.map dz)), some (.lst (ms.map dz)), some (cv (rz (polyZ 3 rs))), some (cv (rz (polyZ 2 ms))), z20', some (cv (rz (polyZ 1 (inter rs ms)))), z22, none, none, none, none, none, none, none] G := by
  obtain ⟨_, hl⟩ := mem_vals hr
  obtain ⟨ρ', G', e, rfl, f, z20', z22, rfl, tf, lf, hlf, hE⟩ := forL_inv (fun d ρ1 G2 => match PV.assign ρ1 (.nm 20) d with | some ρ2 => evB (Sa 10) dueBody ρ2 G2 | none => .bad) dz
    (fun s ρ G' => G = G' ∧ ∃ f z20 z22, ρ = [X0, some (.cell 0), some (cv p), some (cv q), some (pt b), some (.lst (plc.map dz)), z6, z7, z8, z9, z10, z11, z12, z13, z14, z15, some (.lst (rs.map dz)), some (.lst (ms.map dz)), some (cv (rz (polyZ 3 rs))), some (cv (rz (polyZ 2 ms))), z20, some (cv f), z22, none, none, none, none, none, none, none] ∧ Tr f ∧ LB 1 (VB (repZ rs ms s).length) 20 f ∧ f.length ≤ (repZ rs ms s).length + 1 ∧ ∀ x, ev f x = ev (rz (polyZ 1 (repZ rs ms s))) x) (keysZ rs) [] [X0, some (.cell 0), some (cv p), some (cv q), some (pt b), some (.lst (plc.map dz)), z6, z7, z8, z9, z10, z11, z12, z13, z14, z15, some (.lst (rs.map dz)), some (.lst (ms.map dz)), some (cv (rz (polyZ 3 rs))), some (cv (rz (polyZ 2 ms))), z20, some (cv (rz [1])), none, none, none, none, none, none, none, none] G
    ⟨rfl, rz [1], z20, none, rfl, poly_tr (c := 1) (by decide) [], ⟨by decide, by decide, fun r hr => by rw [List.mem_singleton.mp hr]; exact Bd.int (k := 1) (show Int.natAbs 1 ≤ 3 by decide)⟩, Nat.le_refl 1, fun x => rfl⟩
    fun s c t ρ G' hs ⟨hG', f, z20, z22, hρ, tf, lf, hlf, hE⟩ => by
      subst hG' hρ
      have hs : keysZ rs = s ++ c :: t := hs
      have hk : s.length ≤ 4 := by
        have := congrArg List.length hs
        rw [List.length_append, List.length_cons] at this
        have := keys_len rs
        omega
      have hrl := rep_len rs ms hl s
      obtain ⟨g, z22', g1, g2, g3, g4, g5⟩ := due_one hl hG (k := c) (keys_mem (rs := rs) (by rw [hs]; simp)) (t := (repZ rs ms s).length) (by omega) (base := repZ rs ms s) tf lf hlf hE X0 z6 z7 z8 z9 z10 z11 z12 z13 z14 z15 z22
      have e1 : (repZ rs ms (s ++ [c])).length = (repZ rs ms s).length + min (rs.count c) (ms.count c) := by rw [rep_snoc, List.length_append, List.length_replicate]
      exact ⟨_, _, g1, rfl, g, some (dz c), z22', rfl, g2, by rw [e1]; exact g3, by rw [e1]; exact g4, fun x => by rw [g5, rep_snoc]⟩
  have hf : f = rz (polyZ 1 (inter rs ms)) := tr_ext tf (poly_tr (by decide) _) hE
  subst hf
  have hi := tab (t_keys (X0) (some (.cell 0)) (some (cv p)) (some (cv q)) (some (pt b)) (some (.lst (plc.map dz))) (z6) (z7) (z8) (z9) (z10) (z11) (z12) (z13) (z14) (z15) (some (.lst (ms.map dz))) (some (cv (rz (polyZ 3 rs)))) (some (cv (rz (polyZ 2 ms)))) (z20) (some (cv (rz [1]))) (none) (none) (none) (none) (none) (none) (none) (none) G) rs hr
  exact ⟨z20', z22, s_for (i_seq hi) e⟩
theorem pair_at {rs ms : List Int} (hr : rs ∈ T156) (hm : ms ∈ T156) : shM 90 (rz (polyZ 3 rs)) (rz (polyZ 2 ms)) = some (rz (polyZ 1 (inter rs ms))) := by
  have a := List.all_eq_true.mp t_srt rs hr
  have b := List.all_eq_true.mp t_srt ms hm
  simp only [Bool.and_eq_true, decide_eq_true_eq, beq_iff_eq, List.contains_iff_mem] at a b
  obtain ⟨⟨⟨⟨⟨a1, a2⟩, _⟩, a4⟩, a5⟩, _⟩ := a
  obtain ⟨⟨⟨⟨⟨b1, _⟩, b3⟩, _⟩, b5⟩, _⟩ := b
  have c := List.all_eq_true.mp (List.all_eq_true.mp t_sh _ a1) _ b1
  unfold pairOk at c
  have c := eq_of_beq c
  have hi : inter rs ms = inter (srt rs) (srt ms) := by
    have h : ∀ ks : List Int, (∀ k ∈ ks, k ∈ vals5) → (ks.flatMap fun k => List.replicate (min (rs.count k) (ms.count k)) k) = ks.flatMap fun k => List.replicate (min ((srt rs).count k) ((srt ms).count k)) k := by
      intro ks
      induction ks with
      | nil => intro _; rfl
      | cons k ks ih =>
        intro h
        have e1 := eq_of_beq (List.all_eq_true.mp a5 k (h k (List.mem_cons_self ..)))
        have e2 := eq_of_beq (List.all_eq_true.mp b5 k (h k (List.mem_cons_self ..)))
        rw [List.flatMap_cons, List.flatMap_cons, ih fun j hj => h j (List.mem_cons_of_mem _ hj), e1, e2]
    unfold inter
    rw [← a4]
    exact h _ fun k hk => keys_mem hk
  rw [a2, b3, hi]
  exact c
theorem pt_13 : D.tup [.int 1, .int 3] = pt (1 / 3) := by
  unfold pt
  rw [show (1 / 3 : Rat).num = 1 by decide +kernel, show (1 / 3 : Rat).den = 3 by decide +kernel]; rfl
theorem s19 {p q : List Rat} {b : Rat} {rs ms : List Int} (hr : rs ∈ T156) (hm : ms ∈ T156) {G : Gs} (hG : Cl G) (X0 z6 z7 z8 z9 z10 z11 z12 z13 z14 z15 z20 z22 : Option D) : evS (Sa 10) (st 19) [X0, some (.cell 0), some (cv p), some (cv q), some (pt b), some (.lst (plc.map dz)), z6, z7, z8, z9, z10, z11, z12, z13, z14, z15, some (.lst (rs.map dz)), some (.lst (ms.map dz)), some (cv (rz (polyZ 3 rs))), some (cv (rz (polyZ 2 ms))), z20, some (cv (rz (polyZ 1 (inter rs ms)))), z22, none, none, none, none, none, none, none] G = .next [X0, some (.cell 0), some (cv p), some (cv q), some (pt b), some (.lst (plc.map dz)), z6, z7, z8, z9, z10, z11, z12, z13, z14, z15, some (.lst (rs.map dz)), some (.lst (ms.map dz)), some (cv (rz (polyZ 3 rs))), some (cv (rz (polyZ 2 ms))), z20, some (cv (rz (polyZ 1 (inter rs ms)))), z22, none, none, none, none, none, none, none] G := by
  have a := List.all_eq_true.mp t_end1 rs hr
  simp only [Bool.and_eq_true, decide_eq_true_eq] at a
  obtain ⟨⟨⟨a1, a2⟩, a3⟩, a4⟩ := a
  have a1 := eq_of_beq a1
  have l3 : (rz (polyZ 3 rs)).length < 100 := by unfold rz; rw [List.length_map]; exact a4
  have e1 := cal_shared_curve 3 hG (pair_at hr hm) (by omega)
  have e2 := cal_shared_curve 3 hG a1 (by omega)
  have f3 : Fi (1 / 3 : Rat) := fiB_fi (by decide +kernel)
  have e3 := cal_scaled 5 G (p := rz (polyZ 3 rs)) (c := 1 / 3) (fun r h => fiB_fi (List.all_eq_true.mp a2 r h)) f3 (fun r h => fiB_fi (List.all_eq_true.mp a3 r h)) (by omega)
  have e4 := cal_shared_curve 3 hG (a := []) (b := []) (r := []) (by decide +kernel) (by simp)
  have t13 : evE (Sa 10) [X0, some (.cell 0), some (cv p), some (cv q), some (pt b), some (.lst (plc.map dz)), z6, z7, z8, z9, z10, z11, z12, z13, z14, z15, some (.lst (rs.map dz)), some (.lst (ms.map dz)), some (cv (rz (polyZ 3 rs))), some (cv (rz (polyZ 2 ms))), z20, some (cv (rz (polyZ 1 (inter rs ms)))), z22, none, none, none, none, none, none, none] (.tup [.con (.int 1), .con (.int 3)]) G = .ok (pt (1 / 3)) G := (x_tup (x_es x_c (x_es x_c x_es0))).trans (by rw [pt_13])
  exact s_if0 (x_orf (x_cmp (x_call (x_es x_v (x_es x_v x_es0)) e1) x_v (ne_cv rfl)) (x_orf (x_cmp (x_call (x_es x_v (x_es (x_tup x_es0) x_es0)) e2) (x_call (x_es x_v (x_es t13 x_es0)) e3) (ne_cv rfl)) (x_cmp (x_call (x_es (x_tup x_es0) (x_es (x_tup x_es0) x_es0)) e4) (x_tup x_es0) (ne_cv (l := []) (m := []) rfl))))
end LK
end
/-! ## R16 -/
section
set_option Elab.async false
set_option linter.all false
set_option maxRecDepth 200000
set_option maxHeartbeats 8000000
set_option exponentiation.threshold 300
namespace LK
open PySem PV RP

theorem s20 {p q : List Rat} {b : Rat} {G : Gs} (h : Dice 860 G) (X0 z6 z7 z8 z9 z10 z11 z12 z13 z14 z15 z16 z17 z18 z19 z20 z21 z22 : Option D) : ∃ (m : Nat) (G' : Gs), evS (Sa 10) (st 20) [X0, some (.cell 0), some (cv p), some (cv q), some (pt b), some (.lst (plc.map dz)), z6, z7, z8, z9, z10, z11, z12, z13, z14, z15, z16, z17, z18, z19, z20, z21, z22, none, none, none, none, none, none, none] G = .next [X0, some (.cell 0), some (cv p), some (cv q), some (pt b), some (.lst (plc.map dz)), z6, z7, z8, z9, z10, z11, z12, z13, z14, z15, z16, z17, z18, z19, z20, z21, z22, some (.int (m : Nat)), none, none, none, none, none, none] G' ∧ m < 5 ∧ Dice 859 G' := by
  obtain ⟨r, G1, e1, r0, r1, g1⟩ := cal_roll 9 859 (m := 5) (by unfold CC; omega) h
  have hr : r = ((r.toNat : Nat) : Int) := by omega
  refine ⟨r.toNat, G1, ?_, by omega, g1⟩
  rw [← hr]
  exact s_set (x_call (x_es x_v (x_es x_c x_es0)) e1)
theorem pow_lb (m : Nat) (h : m < 5) : LB 1 1 5 (List.replicate m 0 ++ [(1 : Rat)]) := ⟨by decide, by rw [List.length_append, List.length_replicate, List.length_singleton]; omega, fun r hr => by
  rcases List.mem_append.mp hr with hr | hr
  · rw [(List.mem_replicate.mp hr).2]; exact (Bd.zero (by decide)).mono (by decide)
  · rw [List.mem_singleton.mp hr]; exact Bd.int (k := 1) (by decide)⟩
theorem ev_pow (m : Nat) (x : Rat) : ev (List.replicate m 0 ++ [(1 : Rat)]) x = x ^ m := by
  rw [ev_app, ev_rep, List.length_replicate]
  show (0 : Rat) + x ^ m * (1 + x * 0) = x ^ m
  grind
theorem s21 {p q : List Rat} {b : Rat} {m : Nat} (h : m < 5) {G : Gs} (X0 z6 z7 z8 z9 z10 z11 z12 z13 z14 z15 z16 z17 z18 z19 z20 z21 z22 : Option D) : evS (Sa 10) (st 21) [X0, some (.cell 0), some (cv p), some (cv q), some (pt b), some (.lst (plc.map dz)), z6, z7, z8, z9, z10, z11, z12, z13, z14, z15, z16, z17, z18, z19, z20, z21, z22, some (.int (m : Nat)), none, none, none, none, none, none] G = .next [X0, some (.cell 0), some (cv p), some (cv q), some (pt b), some (.lst (plc.map dz)), z6, z7, z8, z9, z10, z11, z12, z13, z14, z15, z16, z17, z18, z19, z20, z21, z22, some (.int (m : Nat)), none, none, none, none, none, none] G := by
  have hb := pow_lb m h
  have c3 : evE (Sa 10) [X0, some (.cell 0), some (cv p), some (cv q), some (pt b), some (.lst (plc.map dz)), z6, z7, z8, z9, z10, z11, z12, z13, z14, z15, z16, z17, z18, z19, z20, z21, z22, some (.int (m : Nat)), none, none, none, none, none, none] (.comp [6] (.var 6) (.nm 6) (.seq (.var 5)) [.cmp .ne (.call 17 [.call 24 [.var 23], .var 6]) (.call 7 [.bin .mul (.lst [.var 6]) (.var 23)])]) G = .ok (.lst []) G := comp_none plc dz (fun k => [X0, some (.cell 0), some (cv p), some (cv q), some (pt b), some (.lst (plc.map dz)), some (pt (k : Rat)), z7, z8, z9, z10, z11, z12, z13, z14, z15, z16, z17, z18, z19, z20, z21, z22, some (.int (m : Nat)), none, none, none, none, none, none]) (i_seq x_v) (fun k _ => rfl) (fun k hk => by
    have hx := bd_plc hk
    have lim : Lim (MM 1 1 1 5 5) := .of (by decide +kernel)
    have w1 := cal_worth hb hx lim (by decide) 6 G
    rw [ev_pow] at w1
    have w2 := cal_product 6 G (x := (k : Rat)) m (fun j hj => hy_pow hb hx lim (by omega)) (hy_x hb hx lim)
    exact x_cmp (x_call (x_es (x_call (x_es x_v x_es0) (cal_powers 9 G m (by omega))) (x_es x_v x_es0)) w1) (x_call (x_es (x_bin (x_lst (x_es x_v x_es0)) x_v (mul_rep (by omega))) x_es0) w2) (ne_pt rfl))
  exact s_if0 (x_cmp c3 (x_lst x_es0) ne_nil)
theorem t_end (X0 X1 X2 X3 X4 X5 X6 X7 X8 X9 X10 X11 X12 X13 X14 X15 X16 X17 X18 X19 X20 X21 X22 X23 X24 X25 X26 X27 X28 X29 : Option D) (x y z : Int) : ∃ G', evB (Sa 10) (m_law.body.drop 1) [X0, X1, X2, X3, X4, X5, X6, X7, X8, X9, X10, X11, X12, X13, X14, X15, X16, X17, X18, X19, X20, X21, X22, X23, X24, X25, X26, X27, X28, X29] [some (.lst [.int x, .int y, .int z])] = .ret (.bl true) G' := ⟨[some (.lst [.int x, .int y, .int z])], by kernel_rfl⟩
theorem body (X0 : Option D) {G : Gs} (hG : Dice 1000 G) : ∃ (z2 z3 z4 z5 z6 z7 z8 z9 z10 z11 z12 z13 z14 z15 z16 z17 z18 z19 z20 z21 z22 z23 : Option D) (x y z : Int), evB (Sa 10) lawBody [X0, some (.cell 0), none, none, none, none, none, none, none, none, none, none, none, none, none, none, none, none, none, none, none, none, none, none, none, none, none, none, none, none] G = .next [X0, some (.cell 0), z2, z3, z4, z5, z6, z7, z8, z9, z10, z11, z12, z13, z14, z15, z16, z17, z18, z19, z20, z21, z22, z23, none, none, none, none, none, none] [some (.lst [.int x, .int y, .int z])] := by
  rw [law_is]
  obtain ⟨p, q, G0, e0, tp, tq, hp, hq, g0⟩ := s0 hG X0
  obtain ⟨b, G1, e1, hb, g1⟩ := s1 (p := p) (q := q) g0 X0
  have e2 := s2 (q := q) (b := b) tp hp G1 X0
  obtain ⟨z6, z7, z8, e3⟩ := s3 hp hq hb (Dice.cl g1) X0
  obtain ⟨z9, z10, e4⟩ := s4 (b := b) tp tq hp hq (Dice.cl g1) X0 z6 z7 z8
  have e5 := s5 (q := q) (b := b) tp hp G1 X0 z6 z7 z8 z9 z10
  obtain ⟨c, d, G2, e6, hc, hd, g2⟩ := s6 (p := p) (q := q) (b := b) g1 X0 z6 z7 z8 z9 z10
  have e7 := s7 (q := q) (b := b) hp hc hd G2 X0 z6 z7 z8 z9 z10
  obtain ⟨m, G3, e8, m1, m2, g3⟩ := s8 (p := p) (q := q) (b := b) g2 X0 z6 z7 z8 z9 z10 (some (pt c)) (some (pt d))
  have hxl : (plc.take m).length ≤ 5 := by rw [List.length_take]; omega
  obtain ⟨ps, G4, e9, h1, h2, g4⟩ := s9 (p := p) (q := q) (b := b) hxl g3 X0 z6 z7 z8 z9 z10 (some (pt c)) (some (pt d))
  have hpl : ps.length ≤ 5 := by
    have := congrArg List.length h1
    rw [List.length_map] at this
    omega
  have hpx : ∀ z ∈ ps, z.1.natAbs ≤ 5 := fun z hz => by
    have : z.1 ∈ plc.take m := by rw [← h1]; exact List.mem_map.mpr ⟨z, hz, rfl⟩
    exact plc_at (List.mem_of_mem_take this)
  have hnd : (ps.map (·.1)).Nodup := by
    rw [h1]
    exact List.Sublist.nodup (List.take_sublist m plc) (by decide)
  obtain ⟨f, f1, f2, f3, f4, f5⟩ := cal_through 4 (Dice.cl g4) ps hpx hnd (fun z hz => (h2 z hz).mono (by decide)) hpl
  have e10 : evS (Sa 10) (st 10) [X0, some (.cell 0), some (cv p), some (cv q), some (pt b), some (.lst (plc.map dz)), z6, z7, z8, z9, z10, some (pt c), some (pt d), some (.lst ((plc.take m).map dz)), some (lPt ps), none, none, none, none, none, none, none, none, none, none, none, none, none, none, none] G4 = .next [X0, some (.cell 0), some (cv p), some (cv q), some (pt b), some (.lst (plc.map dz)), z6, z7, z8, z9, z10, some (pt c), some (pt d), some (.lst ((plc.take m).map dz)), some (lPt ps), some (cv f), none, none, none, none, none, none, none, none, none, none, none, none, none, none] G4 := s_set (x_call (x_es x_v x_es0) f1)
  have e11 := s11 (q := q) (b := b) tp hp (xs := plc.take m) hpx hpl f4 f3 f5 (Dice.cl g4) X0 z6 z7 z8 z9 z10 (some (pt c)) (some (pt d))
  obtain ⟨rs, G5, e12, hr, g5⟩ := s12 (p := p) (q := q) (b := b) g4 X0 z6 z7 z8 z9 z10 (some (pt c)) (some (pt d)) (some (.lst ((plc.take m).map dz))) (some (lPt ps)) (some (cv f))
  obtain ⟨ms, G6, e13, hm, g6⟩ := s13 (p := p) (q := q) (b := b) (rs := rs) g5 X0 z6 z7 z8 z9 z10 (some (pt c)) (some (pt d)) (some (.lst ((plc.take m).map dz))) (some (lPt ps)) (some (cv f))
  have e14 := s14 (p := p) (q := q) (b := b) (rs := rs) (ms := ms) G6 X0 z6 z7 z8 z9 z10 (some (pt c)) (some (pt d)) (some (.lst ((plc.take m).map dz))) (some (lPt ps)) (some (cv f))
  obtain ⟨z20, e15⟩ := s15 (p := p) (q := q) (b := b) (rs := rs) (ms := ms) hr (Dice.cl g6) X0 z6 z7 z8 z9 z10 (some (pt c)) (some (pt d)) (some (.lst ((plc.take m).map dz))) (some (lPt ps)) (some (cv f)) none
  obtain ⟨z20', e16⟩ := s16 (p := p) (q := q) (b := b) (rs := rs) (ms := ms) hm (Dice.cl g6) X0 z6 z7 z8 z9 z10 (some (pt c)) (some (pt d)) (some (.lst ((plc.take m).map dz))) (some (lPt ps)) (some (cv f)) z20
  have e17 := s17 (p := p) (q := q) (b := b) (rs := rs) (ms := ms) G6 X0 z6 z7 z8 z9 z10 (some (pt c)) (some (pt d)) (some (.lst ((plc.take m).map dz))) (some (lPt ps)) (some (cv f)) z20'
  obtain ⟨z20'', z22, e18⟩ := s18 (p := p) (q := q) (b := b) (rs := rs) (ms := ms) hr (Dice.cl g6) X0 z6 z7 z8 z9 z10 (some (pt c)) (some (pt d)) (some (.lst ((plc.take m).map dz))) (some (lPt ps)) (some (cv f)) z20'
  have e19 := s19 (p := p) (q := q) (b := b) hr hm (Dice.cl g6) X0 z6 z7 z8 z9 z10 (some (pt c)) (some (pt d)) (some (.lst ((plc.take m).map dz))) (some (lPt ps)) (some (cv f)) z20'' z22
  obtain ⟨k, G7, e20, hk, g7⟩ := s20 (p := p) (q := q) (b := b) g6 X0 z6 z7 z8 z9 z10 (some (pt c)) (some (pt d)) (some (.lst ((plc.take m).map dz))) (some (lPt ps)) (some (cv f)) (some (.lst (rs.map dz))) (some (.lst (ms.map dz))) (some (cv (rz (polyZ 3 rs)))) (some (cv (rz (polyZ 2 ms)))) z20'' (some (cv (rz (polyZ 1 (inter rs ms))))) z22
  have e21 := s21 (p := p) (q := q) (b := b) hk (G := G7) X0 z6 z7 z8 z9 z10 (some (pt c)) (some (pt d)) (some (.lst ((plc.take m).map dz))) (some (lPt ps)) (some (cv f)) (some (.lst (rs.map dz))) (some (.lst (ms.map dz))) (some (cv (rz (polyZ 3 rs)))) (some (cv (rz (polyZ 2 ms)))) z20'' (some (cv (rz (polyZ 1 (inter rs ms))))) z22
  obtain ⟨x, y, z, hG7, _⟩ := g7
  subst hG7
  exact ⟨_, _, _, _, _, _, _, _, _, _, _, _, _, _, _, _, _, _, _, _, _, _, x, y, z, b_next e0 (b_next e1 (b_next e2 (b_next e3 (b_next e4 (b_next e5 (b_next e6 (b_next e7 (b_next e8 (b_next e9 (b_next e10 (b_next e11 (b_next e12 (b_next e13 (b_next e14 (b_next e15 (b_next e16 (b_next e17 (b_next e18 (b_next e19 (b_next e20 (b_next e21 rfl)))))))))))))))))))))⟩
theorem law_true (ns : List Int) (h1 : ns.length ≤ 63) (h2 : ∀ z ∈ ns, Builtin.Int.intBits z ≤ 1048576) : ∃ Gz, (semAt prog (10 + 1)).cal 31 [.frz (ns.map .int)] [] = .ok (.bl true) Gz := by
  obtain ⟨G, e, hG⟩ := cal_rounds 8 ns (bits_lt h2)
  obtain ⟨z2, z3, z4, z5, z6, z7, z8, z9, z10, z11, z12, z13, z14, z15, z16, z17, z18, z19, z20, z21, z22, z23, x, y, z, b⟩ := body (some (.frz (ns.map .int))) (hG.mono (by decide))
  obtain ⟨G', t⟩ := t_end (some (.frz (ns.map .int))) (some (.cell 0)) (z2) (z3) (z4) (z5) (z6) (z7) (z8) (z9) (z10) (z11) (z12) (z13) (z14) (z15) (z16) (z17) (z18) (z19) (z20) (z21) (z22) (z23) (none) (none) (none) (none) (none) (none) x y z
  have a : evB (Sa 10) m_law.body [some (.frz (ns.map .int)), none, none, none, none, none, none, none, none, none, none, none, none, none, none, none, none, none, none, none, none, none, none, none, none, none, none, none, none, none] [] = .ret (.bl true) G' := b_next (s_for (i_seq (x_call (x_es x_v (x_es x_c x_es0)) e)) (forL_next b rfl)) t
  have r := run_d m_law (args := [.frz (ns.map .int)]) (S := Sa 10) (ρ := [some (.frz (ns.map .int)), none, none, none, none, none, none, none, none, none, none, none, none, none, none, none, none, none, none, none, none, none, none, none, none, none, none, none, none, none]) (G := []) rfl rfl a
  refine ⟨[], ((cal_at 10 31 (by decide) rfl _ []).trans r).trans ?_⟩
  rfl
end LK
end
/-! ## K05b -/
section
set_option Elab.async false
set_option linter.all false
set_option maxRecDepth 200000
set_option maxHeartbeats 8000000
namespace LK
open PySem L2 LamX PyProof.Rows RZ PV
/-! what the head tells -/
def dd_shared : He.DefD := ⟨("shared", none), "shared", "shared", defArgs s_shared, defBody s_shared, defScope s_shared, [], []⟩
def dd_part : He.DefD := ⟨("part", none), "part", "part", defArgs s_part, defBody s_part, defScope s_part, [.int 1], []⟩
def dd_plus : He.DefD := ⟨("plus", none), "plus", "plus", defArgs s_plus, defBody s_plus, defScope s_plus, [], []⟩
def dd_minus : He.DefD := ⟨("minus", none), "minus", "minus", defArgs s_minus, defBody s_minus, defScope s_minus, [], []⟩
def dd_times : He.DefD := ⟨("times", none), "times", "times", defArgs s_times, defBody s_times, defScope s_times, [], []⟩
def dd_over : He.DefD := ⟨("over", none), "over", "over", defArgs s_over, defBody s_over, defScope s_over, [], []⟩
def dd_total : He.DefD := ⟨("total", none), "total", "total", defArgs s_total, defBody s_total, defScope s_total, [], []⟩
def dd_product : He.DefD := ⟨("product", none), "product", "product", defArgs s_product, defBody s_product, defScope s_product, [], []⟩
def dd_small_row : He.DefD := ⟨("small_row", none), "small_row", "small_row", defArgs s_small_row, defBody s_small_row, defScope s_small_row, [], []⟩
def dd_curve : He.DefD := ⟨("curve", none), "curve", "curve", defArgs s_curve, defBody s_curve, defScope s_curve, [], []⟩
def dd_power_of : He.DefD := ⟨("power_of", none), "power_of", "power_of", defArgs s_power_of, defBody s_power_of, defScope s_power_of, [], []⟩
def dd_part_at : He.DefD := ⟨("part_at", none), "part_at", "part_at", defArgs s_part_at, defBody s_part_at, defScope s_part_at, [], []⟩
def dd_added : He.DefD := ⟨("added", none), "added", "added", defArgs s_added, defBody s_added, defScope s_added, [], []⟩
def dd_scaled_curve : He.DefD := ⟨("scaled_curve", none), "scaled_curve", "scaled_curve", defArgs s_scaled_curve, defBody s_scaled_curve, defScope s_scaled_curve, [], []⟩
def dd_taken : He.DefD := ⟨("taken", none), "taken", "taken", defArgs s_taken, defBody s_taken, defScope s_taken, [], []⟩
def dd_multiplied : He.DefD := ⟨("multiplied", none), "multiplied", "multiplied", defArgs s_multiplied, defBody s_multiplied, defScope s_multiplied, [], []⟩
def dd_divided : He.DefD := ⟨("divided", none), "divided", "divided", defArgs s_divided, defBody s_divided, defScope s_divided, [], []⟩
def dd_worth : He.DefD := ⟨("worth", none), "worth", "worth", defArgs s_worth, defBody s_worth, defScope s_worth, [], []⟩
def dd_slope : He.DefD := ⟨("slope", none), "slope", "slope", defArgs s_slope, defBody s_slope, defScope s_slope, [], []⟩
def dd_area_under : He.DefD := ⟨("area_under", none), "area_under", "area_under", defArgs s_area_under, defBody s_area_under, defScope s_area_under, [], []⟩
def dd_between : He.DefD := ⟨("between", none), "between", "between", defArgs s_between, defBody s_between, defScope s_between, [], []⟩
def dd_through : He.DefD := ⟨("through", none), "through", "through", defArgs s_through, defBody s_through, defScope s_through, [], []⟩
def dd_put_in : He.DefD := ⟨("put_in", none), "put_in", "put_in", defArgs s_put_in, defBody s_put_in, defScope s_put_in, [], []⟩
def dd_shared_curve : He.DefD := ⟨("shared_curve", none), "shared_curve", "shared_curve", defArgs s_shared_curve, defBody s_shared_curve, defScope s_shared_curve, [], []⟩
def dd_powers : He.DefD := ⟨("powers", none), "powers", "powers", defArgs s_powers, defBody s_powers, defScope s_powers, [], []⟩
def dd_law_dice : He.DefD := ⟨("_law_dice", none), "_law_dice", "_law_dice", defArgs s_law_dice, defBody s_law_dice, defScope s_law_dice, [], []⟩
def dd_law_roll : He.DefD := ⟨("_law_roll", none), "_law_roll", "_law_roll", defArgs s_law_roll, defBody s_law_roll, defScope s_law_roll, [], []⟩
def dd_law_rounds : He.DefD := ⟨("_law_rounds", none), "_law_rounds", "_law_rounds", defArgs s_law_rounds, defBody s_law_rounds, defScope s_law_rounds, [], []⟩
def dd_law_told : He.DefD := ⟨("_law_told", none), "_law_told", "_law_told", defArgs s_law_told, defBody s_law_told, defScope s_law_told, [], []⟩
def dd_law_part : He.DefD := ⟨("_law_part", none), "_law_part", "_law_part", defArgs s_law_part, defBody s_law_part, defScope s_law_part, [], []⟩
def dd_law_worth : He.DefD := ⟨("_law_worth", none), "_law_worth", "_law_worth", defArgs s_law_worth, defBody s_law_worth, defScope s_law_worth, [], []⟩
def dd_law : He.DefD := ⟨("law", none), "law", "law", defArgs s_law, defBody s_law, defScope s_law, [], []⟩
def fnl : List He.DefD := [dd_shared, dd_part, dd_plus, dd_minus, dd_times, dd_over, dd_total, dd_product, dd_small_row, dd_curve, dd_power_of, dd_part_at, dd_added, dd_scaled_curve, dd_taken, dd_multiplied, dd_divided, dd_worth, dd_slope, dd_area_under, dd_between, dd_through, dd_put_in, dd_shared_curve, dd_powers, dd_law_dice, dd_law_roll, dd_law_rounds, dd_law_told, dd_law_part, dd_law_worth, dd_law]
def fal : List He.Fa := [.glo "shared", .glo "part", .glo "plus", .glo "minus", .glo "times", .glo "over", .glo "total", .glo "product", .glo "small_row", .glo "curve", .glo "power_of", .glo "part_at", .glo "added", .glo "scaled_curve", .glo "taken", .glo "multiplied", .glo "divided", .glo "worth", .glo "slope", .glo "area_under", .glo "between", .glo "through", .glo "put_in", .glo "shared_curve", .glo "powers", .glo "_law_dice", .glo "_law_roll", .glo "_law_rounds", .glo "_law_told", .glo "_law_part", .glo "_law_worth", .glo "law", .free "abs", .free "dict", .free "enumerate", .free "int", .free "len", .free "list", .free "max", .free "min", .free "range", .free "reversed", .free "sorted", .free "tuple", .glo "BadPart", .glo "BadTree", .glo "BadTable", .glo "BadField", .glo "BadPaper", .glo "BadSize", .glo "BadText", .glo "BadStore", .glo "NoSuch", .exc "BadPart", .exc "BadSize", .exm "BadPart" "BadPart" true, .exm "BadSize" "BadPart" false, .exm "BadSize" "BadTree" false, .exm "BadSize" "BadTable" false, .exm "BadSize" "BadField" false, .exm "BadSize" "BadPaper" false, .exm "BadSize" "BadSize" true]
def exl (K : PySem.W.Frag) : Bool := [decide (PySem.W.nsIn K mainGlobals "gcd" = some (some (.builtin "math.gcd")))].all id
def tfl : List He.Defn := [("law", none)]
def qq (P : Program) (w : World) (K : PySem.W.Frag) : Par := ⟨lamDs, [((He.cT K ("law", none)).2, "law.<locals>.<lambda>")], (fun c => match c with
  | 0 => .ref (He.ga K "BadPart")
  | 1 => .ref (He.ga K "BadTree")
  | 2 => .ref (He.ga K "BadTable")
  | 3 => .ref (He.ga K "BadField")
  | 4 => .ref (He.ga K "BadPaper")
  | 5 => .ref (He.ga K "BadSize")
  | 6 => .ref (He.ga K "BadText")
  | 7 => .ref (He.ga K "BadStore")
  | 8 => .ref (He.ga K "NoSuch")
  | _ => .none), P, w⟩
def hlK (K : PySem.W.Frag) : List (Value × Str) := [(.ref (He.ga K "BadPart"), "part"), (.ref (He.ga K "BadTree"), "tree"), (.ref (He.ga K "BadTable"), "table"), (.ref (He.ga K "BadField"), "field"), (.ref (He.ga K "BadPaper"), "paper"), (.ref (He.ga K "BadSize"), "size"), (.ref (He.ga K "BadText"), "text"), (.ref (He.ga K "BadStore"), "store"), (.ref (He.ga K "NoSuch"), "no such")]
section
variable {P : Program} {w : World} {K : PySem.W.Frag} {mg : Str → Option Value} {base h : Heap}
abbrev Says (w : World) (h : Heap) (K : PySem.W.Frag) : Prop := He.SaysX fal fnl [] tfl exl w h K
theorem glo (X : K.In h) (G : h.Ns mainGlobals mg) (c : Says w h K) (i : Nat) (x : Str) (e : fal[i]? = some (.glo x) := by rfl) : mg x = some (.ref (He.ga K x)) := He.glo_ok X G (c.t.d.fact i (f := .glo x) e)
theorem fre (X : K.In h) (G : h.Ns mainGlobals mg) (c : Says w h K) (i : Nat) (x : Str) (e : fal[i]? = some (.free x) := by rfl) : mg x = none := He.free_ok X G (c.t.d.fact i (f := .free x) e)
theorem exmf (c : Says w h K) (i : Nat) (x y : Str) (b : Bool) (e : fal[i]? = some (.exm x y b) := by rfl) : PySem.W.exmOne K (.ref (He.ga K x)) (.ref (He.ga K y)) = some b := He.exm_ok (c.t.d.fact i (f := .exm x y b) e)
theorem excf (X : K.In h) (G : h.Ns mainGlobals mg) (c : Says w h K) (i j : Nat) (x : Str) (n : Nat) (hq : (qq P w K).cls n = .ref (He.ga K x)) (e : fal[i]? = some (.exc x) := by rfl) (e2 : fal[j]? = some (.glo x) := by rfl) : ExcAt K mg (qq P w K) x n (He.ga K x) := by
  obtain ⟨h1, h2, h3, h4⟩ := He.exc_ok (c.t.d.fact i (f := .exc x) e)
  exact ⟨h1, glo X G c j x e2, h2, h3, h4, hq⟩
theorem hds_told (X : K.In h) (G : h.Ns mainGlobals mg) (c : Says w h K) (Y : Cx) (hmg : Y.mg = mg) (hK : Y.K = K) (hsc : Y.env.scope = defScope s_law_told) : ∃ p1 p2 p3 p8 h0 hds, defBody s_law_told = [.Try [.Return (some (.Call (.Name "what" p1) [] [] p2)) p3] (h0 :: hds) [] [] p8] ∧ HdsOk Y (h0 :: hds) ((hlK K).map fun p => (p.1, sayT p.2)) := by
  subst hmg
  have nm : ∀ (x : Str) (hx : (defScope s_law_told).names.lookup x = some .globalImplicit) (hd : (x == ("__debug__" : Str)) = false) (i : Nat) (e : fal[i]? = some (.glo x)), Names Y x (.ref (He.ga K x)) := fun x hx hd i e => ⟨by show Y.env.scope.names.lookup x = _; rw [hsc]; exact hx, hd, .inl (glo X G c i x e)⟩
  refine ⟨_, _, _, _, _, _, rfl, ?_⟩
  exact (HdsOk.cons (nm "BadPart" rfl (by decide) 44 rfl) (fun a oe cls d pn _ _ => pss_one (ps_ret pe_str)) (HdsOk.cons (nm "BadTree" rfl (by decide) 45 rfl) (fun a oe cls d pn _ _ => pss_one (ps_ret pe_str)) (HdsOk.cons (nm "BadTable" rfl (by decide) 46 rfl) (fun a oe cls d pn _ _ => pss_one (ps_ret pe_str)) (HdsOk.cons (nm "BadField" rfl (by decide) 47 rfl) (fun a oe cls d pn _ _ => pss_one (ps_ret pe_str)) (HdsOk.cons (nm "BadPaper" rfl (by decide) 48 rfl) (fun a oe cls d pn _ _ => pss_one (ps_ret pe_str)) (HdsOk.cons (nm "BadSize" rfl (by decide) 49 rfl) (fun a oe cls d pn _ _ => pss_one (ps_ret pe_str)) (HdsOk.cons (nm "BadText" rfl (by decide) 50 rfl) (fun a oe cls d pn _ _ => pss_one (ps_ret pe_str)) (HdsOk.cons (nm "BadStore" rfl (by decide) 51 rfl) (fun a oe cls d pn _ _ => pss_one (ps_ret pe_str)) (HdsOk.cons (nm "NoSuch" rfl (by decide) 52 rfl) (fun a oe cls d pn _ _ => pss_one (ps_ret pe_str)) HdsOk.nil)))))))))
theorem wt_told (c : Says w h K) : ∀ n r, tolds n = some r → ∀ (Q : VK) (H : Hp), Q (.str r) H → Wt K Q ((qq P w K).cls n) H (hlK K)
  | 0, r, hr, Q, H, hq => by cases hr; exact ⟨true, exmf c 55 "BadPart" "BadPart" true, (fun _ => hq), (fun hf => nomatch hf)⟩
  | 5, r, hr, Q, H, hq => by cases hr; exact ⟨false, exmf c 56 "BadSize" "BadPart" false, (fun hf => nomatch hf), (fun _ => ⟨false, exmf c 57 "BadSize" "BadTree" false, (fun hf => nomatch hf), (fun _ => ⟨false, exmf c 58 "BadSize" "BadTable" false, (fun hf => nomatch hf), (fun _ => ⟨false, exmf c 59 "BadSize" "BadField" false, (fun hf => nomatch hf), (fun _ => ⟨false, exmf c 60 "BadSize" "BadPaper" false, (fun hf => nomatch hf), (fun _ => ⟨true, exmf c 61 "BadSize" "BadSize" true, (fun _ => hq), (fun hf => nomatch hf)⟩)⟩)⟩)⟩)⟩)⟩
  | 1, r, hr, Q, H, hq => nomatch hr
  | 2, r, hr, Q, H, hq => nomatch hr
  | 3, r, hr, Q, H, hq => nomatch hr
  | 4, r, hr, Q, H, hq => nomatch hr
  | n + 6, r, hr, Q, H, hq => nomatch hr
theorem txt (X : K.In h) (G : h.Ns mainGlobals mg) (c : Says w h K) : Txt K mg (qq P w K) where
  b_abs := fre X G c 32 "abs"
  b_dict := fre X G c 33 "dict"
  b_enumerate := fre X G c 34 "enumerate"
  b_int := fre X G c 35 "int"
  b_len := fre X G c 36 "len"
  b_list := fre X G c 37 "list"
  b_max := fre X G c 38 "max"
  b_min := fre X G c 39 "min"
  b_range := fre X G c 40 "range"
  b_reversed := fre X G c 41 "reversed"
  b_sorted := fre X G c 42 "sorted"
  b_tuple := fre X G c 43 "tuple"
  g_gcd := PySem.W.mg_of X G (of_decide_eq_true (show (decide (PySem.W.nsIn K mainGlobals "gcd" = some (some (.builtin "math.gcd")))) = true from List.all_eq_true.mp (show ([decide (PySem.W.nsIn K mainGlobals "gcd" = some (some (.builtin "math.gcd")))] : List Bool).all id = true from c.more) _ (List.mem_cons_self ..)))
  x_BadPart := ⟨_, excf X G c 53 44 "BadPart" 0 rfl⟩
  x_BadSize := ⟨_, excf X G c 54 49 "BadSize" 5 rfl⟩
  told := by
    refine ⟨hlK K, ⟨?_⟩, wt_told c⟩
    obtain ⟨fd, F⟩ := c.t.d.def_ 28 (d := dd_law_told)
    have b := F.bindsN (ps := ["what"]) fun _ _ _ _ _ _ us hl => match us, hl with | [_], _ => rfl
    have hex := F.ex
    obtain ⟨oc, od, dV, kV, doc, pm, an, cdv, ct, osl, e, lk, hcd, _, _⟩ := hex
    subst e
    exact ⟨_, _, _, _, _, _, _, _, _, _, _, _, _, _, _, _, _, _, _, _, glo X G c 28 "_law_told", F.kp, lk, hcd, b, sc_law_told, rfl, rfl, Or.inl rfl, fun f => rfl, fun P w base A stack s H => (by
      obtain ⟨_, _, _, _, _, _, e, hh⟩ := hds_told X G c (cxOf C8.CX0 P w K mg base ["what"] "_law_told" (defScope s_law_told) (He.fAd K ("_law_told", none)) cdv A stack s H C8.E0).nox rfl rfl rfl
      cases e
      exact hh)⟩
theorem code_law (c : Says w h K) {cdv : Value} (hc : CodeAt K (He.fAd K ("law", none)) "law" cdv) : cdv = .ref (He.cT K ("law", none)).1 := by
  obtain ⟨oc, od, osl, fd, lk, e, hcd⟩ := hc
  obtain ⟨a, ea⟩ := He.codeIn_ref hcd
  rw [ea] at e
  have := He.codeOf_eq (p := ("law", none)) lk e
  rw [ea]
  show Value.ref a = Value.ref (He.codeOf K ("law", none))
  rw [this]
theorem uni_law (c : Says w h K) : ∀ p ∈ (qq P w K).T, p.1 = (He.cT K ("law", none)).2 → p.2 = ("law.<locals>.<lambda>" : Str) := by
  intro p hp e
  rcases List.mem_cons.mp hp with rfl | hp
  · rfl
  cases hp
/-- the lambdas that are kept -/
theorem clo_0 : CloS (lamDs 0) := ⟨rfl, rfl, rfl, by decide +kernel, fun _ _ _ _ _ => rfl⟩
theorem clo_1 : CloS (lamDs 1) := ⟨rfl, rfl, rfl, by decide +kernel, fun _ _ _ _ _ => rfl⟩
theorem clo_2 : CloS (lamDs 2) := ⟨rfl, rfl, rfl, by decide +kernel, fun _ _ _ _ _ => rfl⟩
theorem clo_3 : CloS (lamDs 3) := ⟨rfl, rfl, rfl, by decide +kernel, fun _ _ _ _ _ => rfl⟩
theorem told_at : ∀ n, (semAt prog n).told = tolds
  | 0 => rfl
  | _ + 1 => rfl
theorem lams_ok (T : Txt K mg (qq P w K)) {S : PV.Sem} {k : Nat} (Fs : Fns P w K mg base (qq P w K) S k) : ∀ n : Nat, (∃ m : PV.E, (∀ G, lamAt S prog n G = evE S [] m G) ∧ CloS ((qq P w K).lamD n) ∧ ∀ (A : Around) (outer : List PySem.Env) (s : Shared) (H : Hp) (E : XK) (f c : Addr), Room k (A.deeper (cloEnv ((qq P w K).lamD n) s.heap.objs.size f c)) → Sd (cloCx P w K mg base A outer s H E ((qq P w K).lamD n) f c) (qq P w K) S ((qq P w K).lamD n).body m) ∨ ∀ G, lamAt S prog n G = .bad
  | 0 => .inl ⟨l_0, fun _ => rfl, clo_0, fun A outer s H E f c hr => (sd_call Fs.f_divided (hr) rfl (sda_cons (sd_tup (sda_cons (sd_tup (sda_cons sd_int (sda_cons sd_int sda_nil))) sda_nil)) (sda_cons (sd_tup sda_nil) sda_nil)))⟩
  | 1 => .inl ⟨l_1, fun _ => rfl, clo_1, fun A outer s H E f c hr => (sd_call Fs.f_divided (hr) rfl (sda_cons (sd_tup sda_nil) (sda_cons (sd_tup sda_nil) sda_nil)))⟩
  | 2 => .inl ⟨l_2, fun _ => rfl, clo_2, fun A outer s H E f c hr => (sd_call Fs.f_through (hr) rfl (sda_cons (sd_lst (sda_cons (sd_tup (sda_cons (sd_tup (sda_cons sd_int (sda_cons sd_int sda_nil))) (sda_cons (sd_tup (sda_cons sd_int (sda_cons sd_int sda_nil))) sda_nil))) (sda_cons (sd_tup (sda_cons (sd_tup (sda_cons sd_int (sda_cons sd_int sda_nil))) (sda_cons (sd_tup (sda_cons sd_int (sda_cons sd_int sda_nil))) sda_nil))) sda_nil))) sda_nil))⟩
  | 3 => .inl ⟨l_3, fun _ => rfl, clo_3, fun A outer s H E f c hr => (sd_call Fs.f_powers (hr) rfl (sda_cons (sd_bin od_sub sd_int sd_int) sda_nil))⟩
  | n + 4 => .inr fun _ => rfl
theorem at_f_shared (X : K.In h) (G : h.Ns mainGlobals mg) (c : Says w h K) (S' : PV.Sem) (k : Nat) (hok : ∀ fd, FunD K "shared" "shared" (defArgs s_shared) (defBody s_shared) (defScope s_shared) (He.DefD.dvs K dd_shared) (He.DefD.kws K dd_shared) (He.fAd K ("shared", none)) fd → FnOk P w K mg base (L2.CX P w) k (He.fAd K ("shared", none)) fd ["one", "other"] (spC K (qq P w K) S' 0 2)) (ar : ∀ ds G, ds.length ≠ 2 → S'.cal 0 ds G = .bad) : FnAt P w K mg base (qq P w K) S' k 0 "shared" [] := by
  obtain ⟨fd, F⟩ := c.t.d.def_ 0 (d := dd_shared)
  exact ⟨_, fd, ["one", "other"], [], [], hok fd F, glo X G c 0 "shared", F.kp, F.bindsN (fun _ _ _ _ _ _ us hl => match us, hl with | [_, _], _ => rfl), .nil, fun z => HasL.nil, ar⟩
theorem at_f_part (X : K.In h) (G : h.Ns mainGlobals mg) (c : Says w h K) (S' : PV.Sem) (k : Nat) (hok : ∀ fd, FunD K "part" "part" (defArgs s_part) (defBody s_part) (defScope s_part) (He.DefD.dvs K dd_part) (He.DefD.kws K dd_part) (He.fAd K ("part", none)) fd → FnOk P w K mg base (L2.CX P w) k (He.fAd K ("part", none)) fd ["top", "low"] (spC K (qq P w K) S' 1 2)) (ar : ∀ ds G, ds.length ≠ 2 → S'.cal 1 ds G = .bad) : FnAt P w K mg base (qq P w K) S' k 1 "part" [] := by
  obtain ⟨fd, F⟩ := c.t.d.def_ 1 (d := dd_part)
  obtain ⟨ds, hv, hb⟩ := F.binds1 (ps := ["top", "low"]) 2 1 (by simp [He.DefD.dvs, dd_part]) rfl (fun T kV doc pm an cdv ct us its h1 h2 => match us, its, h1, h2 with | [_, _], [_], _, _ => ⟨_, rfl, rfl⟩)
  have e : ds = [] := by cases hv; rfl
  subst e
  exact ⟨_, fd, ["top", "low"], [], [], hok fd F, glo X G c 1 "part", F.kp, hb, .nil, fun z => HasL.nil, ar⟩
theorem at_d_part (X : K.In h) (G : h.Ns mainGlobals mg) (c : Says w h K) (S' : PV.Sem) (k : Nat) (hok : ∀ fd, FunD K "part" "part" (defArgs s_part) (defBody s_part) (defScope s_part) (He.DefD.dvs K dd_part) (He.DefD.kws K dd_part) (He.fAd K ("part", none)) fd → FnOk P w K mg base (L2.CX P w) k (He.fAd K ("part", none)) fd ["top", "low"] (spC K (qq P w K) S' 1 2)) (ar : ∀ ds G, ds.length ≠ 2 → S'.cal 1 ds G = .bad) : FnAt P w K mg base (qq P w K) S' k 1 "part" [.int 1] := by
  obtain ⟨fd, F⟩ := c.t.d.def_ 1 (d := dd_part)
  obtain ⟨ds, hv, hb⟩ := F.binds1 (ps := ["top", "low"]) 1 0 (by simp [He.DefD.dvs, dd_part]) rfl (fun T kV doc pm an cdv ct us its h1 h2 => match us, its, h1, h2 with | [_], [_], _, _ => ⟨_, rfl, rfl⟩)
  exact ⟨_, fd, ["top", "low"], ds, _, hok fd F, glo X G c 1 "part", F.kp, hb, hv, fun z => HasL.cons Has.int (HasL.nil), ar⟩
theorem at_f_plus (X : K.In h) (G : h.Ns mainGlobals mg) (c : Says w h K) (S' : PV.Sem) (k : Nat) (hok : ∀ fd, FunD K "plus" "plus" (defArgs s_plus) (defBody s_plus) (defScope s_plus) (He.DefD.dvs K dd_plus) (He.DefD.kws K dd_plus) (He.fAd K ("plus", none)) fd → FnOk P w K mg base (L2.CX P w) k (He.fAd K ("plus", none)) fd ["one", "other"] (spC K (qq P w K) S' 2 2)) (ar : ∀ ds G, ds.length ≠ 2 → S'.cal 2 ds G = .bad) : FnAt P w K mg base (qq P w K) S' k 2 "plus" [] := by
  obtain ⟨fd, F⟩ := c.t.d.def_ 2 (d := dd_plus)
  exact ⟨_, fd, ["one", "other"], [], [], hok fd F, glo X G c 2 "plus", F.kp, F.bindsN (fun _ _ _ _ _ _ us hl => match us, hl with | [_, _], _ => rfl), .nil, fun z => HasL.nil, ar⟩
theorem at_f_minus (X : K.In h) (G : h.Ns mainGlobals mg) (c : Says w h K) (S' : PV.Sem) (k : Nat) (hok : ∀ fd, FunD K "minus" "minus" (defArgs s_minus) (defBody s_minus) (defScope s_minus) (He.DefD.dvs K dd_minus) (He.DefD.kws K dd_minus) (He.fAd K ("minus", none)) fd → FnOk P w K mg base (L2.CX P w) k (He.fAd K ("minus", none)) fd ["one", "other"] (spC K (qq P w K) S' 3 2)) (ar : ∀ ds G, ds.length ≠ 2 → S'.cal 3 ds G = .bad) : FnAt P w K mg base (qq P w K) S' k 3 "minus" [] := by
  obtain ⟨fd, F⟩ := c.t.d.def_ 3 (d := dd_minus)
  exact ⟨_, fd, ["one", "other"], [], [], hok fd F, glo X G c 3 "minus", F.kp, F.bindsN (fun _ _ _ _ _ _ us hl => match us, hl with | [_, _], _ => rfl), .nil, fun z => HasL.nil, ar⟩
theorem at_f_times (X : K.In h) (G : h.Ns mainGlobals mg) (c : Says w h K) (S' : PV.Sem) (k : Nat) (hok : ∀ fd, FunD K "times" "times" (defArgs s_times) (defBody s_times) (defScope s_times) (He.DefD.dvs K dd_times) (He.DefD.kws K dd_times) (He.fAd K ("times", none)) fd → FnOk P w K mg base (L2.CX P w) k (He.fAd K ("times", none)) fd ["one", "other"] (spC K (qq P w K) S' 4 2)) (ar : ∀ ds G, ds.length ≠ 2 → S'.cal 4 ds G = .bad) : FnAt P w K mg base (qq P w K) S' k 4 "times" [] := by
  obtain ⟨fd, F⟩ := c.t.d.def_ 4 (d := dd_times)
  exact ⟨_, fd, ["one", "other"], [], [], hok fd F, glo X G c 4 "times", F.kp, F.bindsN (fun _ _ _ _ _ _ us hl => match us, hl with | [_, _], _ => rfl), .nil, fun z => HasL.nil, ar⟩
theorem at_f_over (X : K.In h) (G : h.Ns mainGlobals mg) (c : Says w h K) (S' : PV.Sem) (k : Nat) (hok : ∀ fd, FunD K "over" "over" (defArgs s_over) (defBody s_over) (defScope s_over) (He.DefD.dvs K dd_over) (He.DefD.kws K dd_over) (He.fAd K ("over", none)) fd → FnOk P w K mg base (L2.CX P w) k (He.fAd K ("over", none)) fd ["one", "other"] (spC K (qq P w K) S' 5 2)) (ar : ∀ ds G, ds.length ≠ 2 → S'.cal 5 ds G = .bad) : FnAt P w K mg base (qq P w K) S' k 5 "over" [] := by
  obtain ⟨fd, F⟩ := c.t.d.def_ 5 (d := dd_over)
  exact ⟨_, fd, ["one", "other"], [], [], hok fd F, glo X G c 5 "over", F.kp, F.bindsN (fun _ _ _ _ _ _ us hl => match us, hl with | [_, _], _ => rfl), .nil, fun z => HasL.nil, ar⟩
theorem at_f_total (X : K.In h) (G : h.Ns mainGlobals mg) (c : Says w h K) (S' : PV.Sem) (k : Nat) (hok : ∀ fd, FunD K "total" "total" (defArgs s_total) (defBody s_total) (defScope s_total) (He.DefD.dvs K dd_total) (He.DefD.kws K dd_total) (He.fAd K ("total", none)) fd → FnOk P w K mg base (L2.CX P w) k (He.fAd K ("total", none)) fd ["parts"] (spC K (qq P w K) S' 6 1)) (ar : ∀ ds G, ds.length ≠ 1 → S'.cal 6 ds G = .bad) : FnAt P w K mg base (qq P w K) S' k 6 "total" [] := by
  obtain ⟨fd, F⟩ := c.t.d.def_ 6 (d := dd_total)
  exact ⟨_, fd, ["parts"], [], [], hok fd F, glo X G c 6 "total", F.kp, F.bindsN (fun _ _ _ _ _ _ us hl => match us, hl with | [_], _ => rfl), .nil, fun z => HasL.nil, ar⟩
theorem at_f_product (X : K.In h) (G : h.Ns mainGlobals mg) (c : Says w h K) (S' : PV.Sem) (k : Nat) (hok : ∀ fd, FunD K "product" "product" (defArgs s_product) (defBody s_product) (defScope s_product) (He.DefD.dvs K dd_product) (He.DefD.kws K dd_product) (He.fAd K ("product", none)) fd → FnOk P w K mg base (L2.CX P w) k (He.fAd K ("product", none)) fd ["parts"] (spC K (qq P w K) S' 7 1)) (ar : ∀ ds G, ds.length ≠ 1 → S'.cal 7 ds G = .bad) : FnAt P w K mg base (qq P w K) S' k 7 "product" [] := by
  obtain ⟨fd, F⟩ := c.t.d.def_ 7 (d := dd_product)
  exact ⟨_, fd, ["parts"], [], [], hok fd F, glo X G c 7 "product", F.kp, F.bindsN (fun _ _ _ _ _ _ us hl => match us, hl with | [_], _ => rfl), .nil, fun z => HasL.nil, ar⟩
theorem at_f_small_row (X : K.In h) (G : h.Ns mainGlobals mg) (c : Says w h K) (S' : PV.Sem) (k : Nat) (hok : ∀ fd, FunD K "small_row" "small_row" (defArgs s_small_row) (defBody s_small_row) (defScope s_small_row) (He.DefD.dvs K dd_small_row) (He.DefD.kws K dd_small_row) (He.fAd K ("small_row", none)) fd → FnOk P w K mg base (L2.CX P w) k (He.fAd K ("small_row", none)) fd ["row"] (spC K (qq P w K) S' 8 1)) (ar : ∀ ds G, ds.length ≠ 1 → S'.cal 8 ds G = .bad) : FnAt P w K mg base (qq P w K) S' k 8 "small_row" [] := by
  obtain ⟨fd, F⟩ := c.t.d.def_ 8 (d := dd_small_row)
  exact ⟨_, fd, ["row"], [], [], hok fd F, glo X G c 8 "small_row", F.kp, F.bindsN (fun _ _ _ _ _ _ us hl => match us, hl with | [_], _ => rfl), .nil, fun z => HasL.nil, ar⟩
theorem at_f_curve (X : K.In h) (G : h.Ns mainGlobals mg) (c : Says w h K) (S' : PV.Sem) (k : Nat) (hok : ∀ fd, FunD K "curve" "curve" (defArgs s_curve) (defBody s_curve) (defScope s_curve) (He.DefD.dvs K dd_curve) (He.DefD.kws K dd_curve) (He.fAd K ("curve", none)) fd → FnOk P w K mg base (L2.CX P w) k (He.fAd K ("curve", none)) fd ["parts"] (spC K (qq P w K) S' 9 1)) (ar : ∀ ds G, ds.length ≠ 1 → S'.cal 9 ds G = .bad) : FnAt P w K mg base (qq P w K) S' k 9 "curve" [] := by
  obtain ⟨fd, F⟩ := c.t.d.def_ 9 (d := dd_curve)
  exact ⟨_, fd, ["parts"], [], [], hok fd F, glo X G c 9 "curve", F.kp, F.bindsN (fun _ _ _ _ _ _ us hl => match us, hl with | [_], _ => rfl), .nil, fun z => HasL.nil, ar⟩
theorem at_f_power_of (X : K.In h) (G : h.Ns mainGlobals mg) (c : Says w h K) (S' : PV.Sem) (k : Nat) (hok : ∀ fd, FunD K "power_of" "power_of" (defArgs s_power_of) (defBody s_power_of) (defScope s_power_of) (He.DefD.dvs K dd_power_of) (He.DefD.kws K dd_power_of) (He.fAd K ("power_of", none)) fd → FnOk P w K mg base (L2.CX P w) k (He.fAd K ("power_of", none)) fd ["one"] (spC K (qq P w K) S' 10 1)) (ar : ∀ ds G, ds.length ≠ 1 → S'.cal 10 ds G = .bad) : FnAt P w K mg base (qq P w K) S' k 10 "power_of" [] := by
  obtain ⟨fd, F⟩ := c.t.d.def_ 10 (d := dd_power_of)
  exact ⟨_, fd, ["one"], [], [], hok fd F, glo X G c 10 "power_of", F.kp, F.bindsN (fun _ _ _ _ _ _ us hl => match us, hl with | [_], _ => rfl), .nil, fun z => HasL.nil, ar⟩
theorem at_f_part_at (X : K.In h) (G : h.Ns mainGlobals mg) (c : Says w h K) (S' : PV.Sem) (k : Nat) (hok : ∀ fd, FunD K "part_at" "part_at" (defArgs s_part_at) (defBody s_part_at) (defScope s_part_at) (He.DefD.dvs K dd_part_at) (He.DefD.kws K dd_part_at) (He.fAd K ("part_at", none)) fd → FnOk P w K mg base (L2.CX P w) k (He.fAd K ("part_at", none)) fd ["one", "power"] (spC K (qq P w K) S' 11 2)) (ar : ∀ ds G, ds.length ≠ 2 → S'.cal 11 ds G = .bad) : FnAt P w K mg base (qq P w K) S' k 11 "part_at" [] := by
  obtain ⟨fd, F⟩ := c.t.d.def_ 11 (d := dd_part_at)
  exact ⟨_, fd, ["one", "power"], [], [], hok fd F, glo X G c 11 "part_at", F.kp, F.bindsN (fun _ _ _ _ _ _ us hl => match us, hl with | [_, _], _ => rfl), .nil, fun z => HasL.nil, ar⟩
theorem at_f_added (X : K.In h) (G : h.Ns mainGlobals mg) (c : Says w h K) (S' : PV.Sem) (k : Nat) (hok : ∀ fd, FunD K "added" "added" (defArgs s_added) (defBody s_added) (defScope s_added) (He.DefD.dvs K dd_added) (He.DefD.kws K dd_added) (He.fAd K ("added", none)) fd → FnOk P w K mg base (L2.CX P w) k (He.fAd K ("added", none)) fd ["one", "other"] (spC K (qq P w K) S' 12 2)) (ar : ∀ ds G, ds.length ≠ 2 → S'.cal 12 ds G = .bad) : FnAt P w K mg base (qq P w K) S' k 12 "added" [] := by
  obtain ⟨fd, F⟩ := c.t.d.def_ 12 (d := dd_added)
  exact ⟨_, fd, ["one", "other"], [], [], hok fd F, glo X G c 12 "added", F.kp, F.bindsN (fun _ _ _ _ _ _ us hl => match us, hl with | [_, _], _ => rfl), .nil, fun z => HasL.nil, ar⟩
theorem at_f_scaled_curve (X : K.In h) (G : h.Ns mainGlobals mg) (c : Says w h K) (S' : PV.Sem) (k : Nat) (hok : ∀ fd, FunD K "scaled_curve" "scaled_curve" (defArgs s_scaled_curve) (defBody s_scaled_curve) (defScope s_scaled_curve) (He.DefD.dvs K dd_scaled_curve) (He.DefD.kws K dd_scaled_curve) (He.fAd K ("scaled_curve", none)) fd → FnOk P w K mg base (L2.CX P w) k (He.fAd K ("scaled_curve", none)) fd ["one", "by"] (spC K (qq P w K) S' 13 2)) (ar : ∀ ds G, ds.length ≠ 2 → S'.cal 13 ds G = .bad) : FnAt P w K mg base (qq P w K) S' k 13 "scaled_curve" [] := by
  obtain ⟨fd, F⟩ := c.t.d.def_ 13 (d := dd_scaled_curve)
  exact ⟨_, fd, ["one", "by"], [], [], hok fd F, glo X G c 13 "scaled_curve", F.kp, F.bindsN (fun _ _ _ _ _ _ us hl => match us, hl with | [_, _], _ => rfl), .nil, fun z => HasL.nil, ar⟩
theorem at_f_taken (X : K.In h) (G : h.Ns mainGlobals mg) (c : Says w h K) (S' : PV.Sem) (k : Nat) (hok : ∀ fd, FunD K "taken" "taken" (defArgs s_taken) (defBody s_taken) (defScope s_taken) (He.DefD.dvs K dd_taken) (He.DefD.kws K dd_taken) (He.fAd K ("taken", none)) fd → FnOk P w K mg base (L2.CX P w) k (He.fAd K ("taken", none)) fd ["one", "other"] (spC K (qq P w K) S' 14 2)) (ar : ∀ ds G, ds.length ≠ 2 → S'.cal 14 ds G = .bad) : FnAt P w K mg base (qq P w K) S' k 14 "taken" [] := by
  obtain ⟨fd, F⟩ := c.t.d.def_ 14 (d := dd_taken)
  exact ⟨_, fd, ["one", "other"], [], [], hok fd F, glo X G c 14 "taken", F.kp, F.bindsN (fun _ _ _ _ _ _ us hl => match us, hl with | [_, _], _ => rfl), .nil, fun z => HasL.nil, ar⟩
theorem at_f_multiplied (X : K.In h) (G : h.Ns mainGlobals mg) (c : Says w h K) (S' : PV.Sem) (k : Nat) (hok : ∀ fd, FunD K "multiplied" "multiplied" (defArgs s_multiplied) (defBody s_multiplied) (defScope s_multiplied) (He.DefD.dvs K dd_multiplied) (He.DefD.kws K dd_multiplied) (He.fAd K ("multiplied", none)) fd → FnOk P w K mg base (L2.CX P w) k (He.fAd K ("multiplied", none)) fd ["one", "other"] (spC K (qq P w K) S' 15 2)) (ar : ∀ ds G, ds.length ≠ 2 → S'.cal 15 ds G = .bad) : FnAt P w K mg base (qq P w K) S' k 15 "multiplied" [] := by
  obtain ⟨fd, F⟩ := c.t.d.def_ 15 (d := dd_multiplied)
  exact ⟨_, fd, ["one", "other"], [], [], hok fd F, glo X G c 15 "multiplied", F.kp, F.bindsN (fun _ _ _ _ _ _ us hl => match us, hl with | [_, _], _ => rfl), .nil, fun z => HasL.nil, ar⟩
theorem at_f_divided (X : K.In h) (G : h.Ns mainGlobals mg) (c : Says w h K) (S' : PV.Sem) (k : Nat) (hok : ∀ fd, FunD K "divided" "divided" (defArgs s_divided) (defBody s_divided) (defScope s_divided) (He.DefD.dvs K dd_divided) (He.DefD.kws K dd_divided) (He.fAd K ("divided", none)) fd → FnOk P w K mg base (L2.CX P w) k (He.fAd K ("divided", none)) fd ["one", "other"] (spC K (qq P w K) S' 16 2)) (ar : ∀ ds G, ds.length ≠ 2 → S'.cal 16 ds G = .bad) : FnAt P w K mg base (qq P w K) S' k 16 "divided" [] := by
  obtain ⟨fd, F⟩ := c.t.d.def_ 16 (d := dd_divided)
  exact ⟨_, fd, ["one", "other"], [], [], hok fd F, glo X G c 16 "divided", F.kp, F.bindsN (fun _ _ _ _ _ _ us hl => match us, hl with | [_, _], _ => rfl), .nil, fun z => HasL.nil, ar⟩
theorem at_f_worth (X : K.In h) (G : h.Ns mainGlobals mg) (c : Says w h K) (S' : PV.Sem) (k : Nat) (hok : ∀ fd, FunD K "worth" "worth" (defArgs s_worth) (defBody s_worth) (defScope s_worth) (He.DefD.dvs K dd_worth) (He.DefD.kws K dd_worth) (He.fAd K ("worth", none)) fd → FnOk P w K mg base (L2.CX P w) k (He.fAd K ("worth", none)) fd ["one", "at"] (spC K (qq P w K) S' 17 2)) (ar : ∀ ds G, ds.length ≠ 2 → S'.cal 17 ds G = .bad) : FnAt P w K mg base (qq P w K) S' k 17 "worth" [] := by
  obtain ⟨fd, F⟩ := c.t.d.def_ 17 (d := dd_worth)
  exact ⟨_, fd, ["one", "at"], [], [], hok fd F, glo X G c 17 "worth", F.kp, F.bindsN (fun _ _ _ _ _ _ us hl => match us, hl with | [_, _], _ => rfl), .nil, fun z => HasL.nil, ar⟩
theorem at_f_slope (X : K.In h) (G : h.Ns mainGlobals mg) (c : Says w h K) (S' : PV.Sem) (k : Nat) (hok : ∀ fd, FunD K "slope" "slope" (defArgs s_slope) (defBody s_slope) (defScope s_slope) (He.DefD.dvs K dd_slope) (He.DefD.kws K dd_slope) (He.fAd K ("slope", none)) fd → FnOk P w K mg base (L2.CX P w) k (He.fAd K ("slope", none)) fd ["one"] (spC K (qq P w K) S' 18 1)) (ar : ∀ ds G, ds.length ≠ 1 → S'.cal 18 ds G = .bad) : FnAt P w K mg base (qq P w K) S' k 18 "slope" [] := by
  obtain ⟨fd, F⟩ := c.t.d.def_ 18 (d := dd_slope)
  exact ⟨_, fd, ["one"], [], [], hok fd F, glo X G c 18 "slope", F.kp, F.bindsN (fun _ _ _ _ _ _ us hl => match us, hl with | [_], _ => rfl), .nil, fun z => HasL.nil, ar⟩
theorem at_f_area_under (X : K.In h) (G : h.Ns mainGlobals mg) (c : Says w h K) (S' : PV.Sem) (k : Nat) (hok : ∀ fd, FunD K "area_under" "area_under" (defArgs s_area_under) (defBody s_area_under) (defScope s_area_under) (He.DefD.dvs K dd_area_under) (He.DefD.kws K dd_area_under) (He.fAd K ("area_under", none)) fd → FnOk P w K mg base (L2.CX P w) k (He.fAd K ("area_under", none)) fd ["one"] (spC K (qq P w K) S' 19 1)) (ar : ∀ ds G, ds.length ≠ 1 → S'.cal 19 ds G = .bad) : FnAt P w K mg base (qq P w K) S' k 19 "area_under" [] := by
  obtain ⟨fd, F⟩ := c.t.d.def_ 19 (d := dd_area_under)
  exact ⟨_, fd, ["one"], [], [], hok fd F, glo X G c 19 "area_under", F.kp, F.bindsN (fun _ _ _ _ _ _ us hl => match us, hl with | [_], _ => rfl), .nil, fun z => HasL.nil, ar⟩
theorem at_f_between (X : K.In h) (G : h.Ns mainGlobals mg) (c : Says w h K) (S' : PV.Sem) (k : Nat) (hok : ∀ fd, FunD K "between" "between" (defArgs s_between) (defBody s_between) (defScope s_between) (He.DefD.dvs K dd_between) (He.DefD.kws K dd_between) (He.fAd K ("between", none)) fd → FnOk P w K mg base (L2.CX P w) k (He.fAd K ("between", none)) fd ["one", "low", "high"] (spC K (qq P w K) S' 20 3)) (ar : ∀ ds G, ds.length ≠ 3 → S'.cal 20 ds G = .bad) : FnAt P w K mg base (qq P w K) S' k 20 "between" [] := by
  obtain ⟨fd, F⟩ := c.t.d.def_ 20 (d := dd_between)
  exact ⟨_, fd, ["one", "low", "high"], [], [], hok fd F, glo X G c 20 "between", F.kp, F.bindsN (fun _ _ _ _ _ _ us hl => match us, hl with | [_, _, _], _ => rfl), .nil, fun z => HasL.nil, ar⟩
theorem at_f_through (X : K.In h) (G : h.Ns mainGlobals mg) (c : Says w h K) (S' : PV.Sem) (k : Nat) (hok : ∀ fd, FunD K "through" "through" (defArgs s_through) (defBody s_through) (defScope s_through) (He.DefD.dvs K dd_through) (He.DefD.kws K dd_through) (He.fAd K ("through", none)) fd → FnOk P w K mg base (L2.CX P w) k (He.fAd K ("through", none)) fd ["points"] (spC K (qq P w K) S' 21 1)) (ar : ∀ ds G, ds.length ≠ 1 → S'.cal 21 ds G = .bad) : FnAt P w K mg base (qq P w K) S' k 21 "through" [] := by
  obtain ⟨fd, F⟩ := c.t.d.def_ 21 (d := dd_through)
  exact ⟨_, fd, ["points"], [], [], hok fd F, glo X G c 21 "through", F.kp, F.bindsN (fun _ _ _ _ _ _ us hl => match us, hl with | [_], _ => rfl), .nil, fun z => HasL.nil, ar⟩
theorem at_f_put_in (X : K.In h) (G : h.Ns mainGlobals mg) (c : Says w h K) (S' : PV.Sem) (k : Nat) (hok : ∀ fd, FunD K "put_in" "put_in" (defArgs s_put_in) (defBody s_put_in) (defScope s_put_in) (He.DefD.dvs K dd_put_in) (He.DefD.kws K dd_put_in) (He.fAd K ("put_in", none)) fd → FnOk P w K mg base (L2.CX P w) k (He.fAd K ("put_in", none)) fd ["one", "other"] (spC K (qq P w K) S' 22 2)) (ar : ∀ ds G, ds.length ≠ 2 → S'.cal 22 ds G = .bad) : FnAt P w K mg base (qq P w K) S' k 22 "put_in" [] := by
  obtain ⟨fd, F⟩ := c.t.d.def_ 22 (d := dd_put_in)
  exact ⟨_, fd, ["one", "other"], [], [], hok fd F, glo X G c 22 "put_in", F.kp, F.bindsN (fun _ _ _ _ _ _ us hl => match us, hl with | [_, _], _ => rfl), .nil, fun z => HasL.nil, ar⟩
theorem at_f_shared_curve (X : K.In h) (G : h.Ns mainGlobals mg) (c : Says w h K) (S' : PV.Sem) (k : Nat) (hok : ∀ fd, FunD K "shared_curve" "shared_curve" (defArgs s_shared_curve) (defBody s_shared_curve) (defScope s_shared_curve) (He.DefD.dvs K dd_shared_curve) (He.DefD.kws K dd_shared_curve) (He.fAd K ("shared_curve", none)) fd → FnOk P w K mg base (L2.CX P w) k (He.fAd K ("shared_curve", none)) fd ["one", "other"] (spC K (qq P w K) S' 23 2)) (ar : ∀ ds G, ds.length ≠ 2 → S'.cal 23 ds G = .bad) : FnAt P w K mg base (qq P w K) S' k 23 "shared_curve" [] := by
  obtain ⟨fd, F⟩ := c.t.d.def_ 23 (d := dd_shared_curve)
  exact ⟨_, fd, ["one", "other"], [], [], hok fd F, glo X G c 23 "shared_curve", F.kp, F.bindsN (fun _ _ _ _ _ _ us hl => match us, hl with | [_, _], _ => rfl), .nil, fun z => HasL.nil, ar⟩
theorem at_f_powers (X : K.In h) (G : h.Ns mainGlobals mg) (c : Says w h K) (S' : PV.Sem) (k : Nat) (hok : ∀ fd, FunD K "powers" "powers" (defArgs s_powers) (defBody s_powers) (defScope s_powers) (He.DefD.dvs K dd_powers) (He.DefD.kws K dd_powers) (He.fAd K ("powers", none)) fd → FnOk P w K mg base (L2.CX P w) k (He.fAd K ("powers", none)) fd ["count"] (spC K (qq P w K) S' 24 1)) (ar : ∀ ds G, ds.length ≠ 1 → S'.cal 24 ds G = .bad) : FnAt P w K mg base (qq P w K) S' k 24 "powers" [] := by
  obtain ⟨fd, F⟩ := c.t.d.def_ 24 (d := dd_powers)
  exact ⟨_, fd, ["count"], [], [], hok fd F, glo X G c 24 "powers", F.kp, F.bindsN (fun _ _ _ _ _ _ us hl => match us, hl with | [_], _ => rfl), .nil, fun z => HasL.nil, ar⟩
theorem at_f_law_dice (X : K.In h) (G : h.Ns mainGlobals mg) (c : Says w h K) (S' : PV.Sem) (k : Nat) (hok : ∀ fd, FunD K "_law_dice" "_law_dice" (defArgs s_law_dice) (defBody s_law_dice) (defScope s_law_dice) (He.DefD.dvs K dd_law_dice) (He.DefD.kws K dd_law_dice) (He.fAd K ("_law_dice", none)) fd → FnOk P w K mg base (L2.CX P w) k (He.fAd K ("_law_dice", none)) fd ["cell"] (spC K (qq P w K) S' 25 1)) (ar : ∀ ds G, ds.length ≠ 1 → S'.cal 25 ds G = .bad) : FnAt P w K mg base (qq P w K) S' k 25 "_law_dice" [] := by
  obtain ⟨fd, F⟩ := c.t.d.def_ 25 (d := dd_law_dice)
  exact ⟨_, fd, ["cell"], [], [], hok fd F, glo X G c 25 "_law_dice", F.kp, F.bindsN (fun _ _ _ _ _ _ us hl => match us, hl with | [_], _ => rfl), .nil, fun z => HasL.nil, ar⟩
theorem at_f_law_roll (X : K.In h) (G : h.Ns mainGlobals mg) (c : Says w h K) (S' : PV.Sem) (k : Nat) (hok : ∀ fd, FunD K "_law_roll" "_law_roll" (defArgs s_law_roll) (defBody s_law_roll) (defScope s_law_roll) (He.DefD.dvs K dd_law_roll) (He.DefD.kws K dd_law_roll) (He.fAd K ("_law_roll", none)) fd → FnOk P w K mg base (L2.CX P w) k (He.fAd K ("_law_roll", none)) fd ["dice", "many"] (spC K (qq P w K) S' 26 2)) (ar : ∀ ds G, ds.length ≠ 2 → S'.cal 26 ds G = .bad) : FnAt P w K mg base (qq P w K) S' k 26 "_law_roll" [] := by
  obtain ⟨fd, F⟩ := c.t.d.def_ 26 (d := dd_law_roll)
  exact ⟨_, fd, ["dice", "many"], [], [], hok fd F, glo X G c 26 "_law_roll", F.kp, F.bindsN (fun _ _ _ _ _ _ us hl => match us, hl with | [_, _], _ => rfl), .nil, fun z => HasL.nil, ar⟩
theorem at_f_law_rounds (X : K.In h) (G : h.Ns mainGlobals mg) (c : Says w h K) (S' : PV.Sem) (k : Nat) (hok : ∀ fd, FunD K "_law_rounds" "_law_rounds" (defArgs s_law_rounds) (defBody s_law_rounds) (defScope s_law_rounds) (He.DefD.dvs K dd_law_rounds) (He.DefD.kws K dd_law_rounds) (He.fAd K ("_law_rounds", none)) fd → FnOk P w K mg base (L2.CX P w) k (He.fAd K ("_law_rounds", none)) fd ["script", "most"] (spC K (qq P w K) S' 27 2)) (ar : ∀ ds G, ds.length ≠ 2 → S'.cal 27 ds G = .bad) : FnAt P w K mg base (qq P w K) S' k 27 "_law_rounds" [] := by
  obtain ⟨fd, F⟩ := c.t.d.def_ 27 (d := dd_law_rounds)
  exact ⟨_, fd, ["script", "most"], [], [], hok fd F, glo X G c 27 "_law_rounds", F.kp, F.bindsN (fun _ _ _ _ _ _ us hl => match us, hl with | [_, _], _ => rfl), .nil, fun z => HasL.nil, ar⟩
theorem at_f_law_told (X : K.In h) (G : h.Ns mainGlobals mg) (c : Says w h K) (S' : PV.Sem) (k : Nat) (hok : ∀ fd, FunD K "_law_told" "_law_told" (defArgs s_law_told) (defBody s_law_told) (defScope s_law_told) (He.DefD.dvs K dd_law_told) (He.DefD.kws K dd_law_told) (He.fAd K ("_law_told", none)) fd → FnOk P w K mg base (L2.CX P w) k (He.fAd K ("_law_told", none)) fd ["what"] (spC K (qq P w K) S' 28 1)) (ar : ∀ ds G, ds.length ≠ 1 → S'.cal 28 ds G = .bad) : FnAt P w K mg base (qq P w K) S' k 28 "_law_told" [] := by
  obtain ⟨fd, F⟩ := c.t.d.def_ 28 (d := dd_law_told)
  exact ⟨_, fd, ["what"], [], [], hok fd F, glo X G c 28 "_law_told", F.kp, F.bindsN (fun _ _ _ _ _ _ us hl => match us, hl with | [_], _ => rfl), .nil, fun z => HasL.nil, ar⟩
theorem at_f_law_part (X : K.In h) (G : h.Ns mainGlobals mg) (c : Says w h K) (S' : PV.Sem) (k : Nat) (hok : ∀ fd, FunD K "_law_part" "_law_part" (defArgs s_law_part) (defBody s_law_part) (defScope s_law_part) (He.DefD.dvs K dd_law_part) (He.DefD.kws K dd_law_part) (He.fAd K ("_law_part", none)) fd → FnOk P w K mg base (L2.CX P w) k (He.fAd K ("_law_part", none)) fd ["dice"] (spC K (qq P w K) S' 29 1)) (ar : ∀ ds G, ds.length ≠ 1 → S'.cal 29 ds G = .bad) : FnAt P w K mg base (qq P w K) S' k 29 "_law_part" [] := by
  obtain ⟨fd, F⟩ := c.t.d.def_ 29 (d := dd_law_part)
  exact ⟨_, fd, ["dice"], [], [], hok fd F, glo X G c 29 "_law_part", F.kp, F.bindsN (fun _ _ _ _ _ _ us hl => match us, hl with | [_], _ => rfl), .nil, fun z => HasL.nil, ar⟩
theorem at_f_law_worth (X : K.In h) (G : h.Ns mainGlobals mg) (c : Says w h K) (S' : PV.Sem) (k : Nat) (hok : ∀ fd, FunD K "_law_worth" "_law_worth" (defArgs s_law_worth) (defBody s_law_worth) (defScope s_law_worth) (He.DefD.dvs K dd_law_worth) (He.DefD.kws K dd_law_worth) (He.fAd K ("_law_worth", none)) fd → FnOk P w K mg base (L2.CX P w) k (He.fAd K ("_law_worth", none)) fd ["one", "at"] (spC K (qq P w K) S' 30 2)) (ar : ∀ ds G, ds.length ≠ 2 → S'.cal 30 ds G = .bad) : FnAt P w K mg base (qq P w K) S' k 30 "_law_worth" [] := by
  obtain ⟨fd, F⟩ := c.t.d.def_ 30 (d := dd_law_worth)
  exact ⟨_, fd, ["one", "at"], [], [], hok fd F, glo X G c 30 "_law_worth", F.kp, F.bindsN (fun _ _ _ _ _ _ us hl => match us, hl with | [_, _], _ => rfl), .nil, fun z => HasL.nil, ar⟩
theorem at_f_law (X : K.In h) (G : h.Ns mainGlobals mg) (c : Says w h K) (S' : PV.Sem) (k : Nat) (hok : ∀ fd, FunD K "law" "law" (defArgs s_law) (defBody s_law) (defScope s_law) (He.DefD.dvs K dd_law) (He.DefD.kws K dd_law) (He.fAd K ("law", none)) fd → FnOk P w K mg base (L2.CX P w) k (He.fAd K ("law", none)) fd ["script"] (spC K (qq P w K) S' 31 1)) (ar : ∀ ds G, ds.length ≠ 1 → S'.cal 31 ds G = .bad) : FnAt P w K mg base (qq P w K) S' k 31 "law" [] := by
  obtain ⟨fd, F⟩ := c.t.d.def_ 31 (d := dd_law)
  exact ⟨_, fd, ["script"], [], [], hok fd F, glo X G c 31 "law", F.kp, F.bindsN (fun _ _ _ _ _ _ us hl => match us, hl with | [_], _ => rfl), .nil, fun z => HasL.nil, ar⟩
theorem fns (X : K.In h) (G : h.Ns mainGlobals mg) (c : Says w h K) (TB_law : TabB base mg (He.cT K ("law", none)).1 (He.cT K ("law", none)).2) : ∀ n : Nat, Fns P w K mg base (qq P w K) (semAt prog n) (3 * n + 1)
  | 0 => {
    f_shared := at_f_shared X G c _ _ (fun fd F => fn_zero (k := 0) F sc_shared (fun _ _ => rfl)) (fun _ _ _ => rfl)
    f_part := at_f_part X G c _ _ (fun fd F => fn_zero (k := 0) F sc_part (fun _ _ => rfl)) (fun _ _ _ => rfl)
    d_part := at_d_part X G c _ _ (fun fd F => fn_zero (k := 0) F sc_part (fun _ _ => rfl)) (fun _ _ _ => rfl)
    f_plus := at_f_plus X G c _ _ (fun fd F => fn_zero (k := 0) F sc_plus (fun _ _ => rfl)) (fun _ _ _ => rfl)
    f_minus := at_f_minus X G c _ _ (fun fd F => fn_zero (k := 0) F sc_minus (fun _ _ => rfl)) (fun _ _ _ => rfl)
    f_times := at_f_times X G c _ _ (fun fd F => fn_zero (k := 0) F sc_times (fun _ _ => rfl)) (fun _ _ _ => rfl)
    f_over := at_f_over X G c _ _ (fun fd F => fn_zero (k := 0) F sc_over (fun _ _ => rfl)) (fun _ _ _ => rfl)
    f_total := at_f_total X G c _ _ (fun fd F => fn_zero (k := 0) F sc_total (fun _ _ => rfl)) (fun _ _ _ => rfl)
    f_product := at_f_product X G c _ _ (fun fd F => fn_zero (k := 0) F sc_product (fun _ _ => rfl)) (fun _ _ _ => rfl)
    f_small_row := at_f_small_row X G c _ _ (fun fd F => fn_zero (k := 0) F sc_small_row (fun _ _ => rfl)) (fun _ _ _ => rfl)
    f_curve := at_f_curve X G c _ _ (fun fd F => fn_zero (k := 0) F sc_curve (fun _ _ => rfl)) (fun _ _ _ => rfl)
    f_power_of := at_f_power_of X G c _ _ (fun fd F => fn_zero (k := 0) F sc_power_of (fun _ _ => rfl)) (fun _ _ _ => rfl)
    f_part_at := at_f_part_at X G c _ _ (fun fd F => fn_zero (k := 0) F sc_part_at (fun _ _ => rfl)) (fun _ _ _ => rfl)
    f_added := at_f_added X G c _ _ (fun fd F => fn_zero (k := 0) F sc_added (fun _ _ => rfl)) (fun _ _ _ => rfl)
    f_scaled_curve := at_f_scaled_curve X G c _ _ (fun fd F => fn_zero (k := 0) F sc_scaled_curve (fun _ _ => rfl)) (fun _ _ _ => rfl)
    f_taken := at_f_taken X G c _ _ (fun fd F => fn_zero (k := 0) F sc_taken (fun _ _ => rfl)) (fun _ _ _ => rfl)
    f_multiplied := at_f_multiplied X G c _ _ (fun fd F => fn_zero (k := 0) F sc_multiplied (fun _ _ => rfl)) (fun _ _ _ => rfl)
    f_divided := at_f_divided X G c _ _ (fun fd F => fn_zero (k := 0) F sc_divided (fun _ _ => rfl)) (fun _ _ _ => rfl)
    f_worth := at_f_worth X G c _ _ (fun fd F => fn_zero (k := 0) F sc_worth (fun _ _ => rfl)) (fun _ _ _ => rfl)
    f_slope := at_f_slope X G c _ _ (fun fd F => fn_zero (k := 0) F sc_slope (fun _ _ => rfl)) (fun _ _ _ => rfl)
    f_area_under := at_f_area_under X G c _ _ (fun fd F => fn_zero (k := 0) F sc_area_under (fun _ _ => rfl)) (fun _ _ _ => rfl)
    f_between := at_f_between X G c _ _ (fun fd F => fn_zero (k := 0) F sc_between (fun _ _ => rfl)) (fun _ _ _ => rfl)
    f_through := at_f_through X G c _ _ (fun fd F => fn_zero (k := 0) F sc_through (fun _ _ => rfl)) (fun _ _ _ => rfl)
    f_put_in := at_f_put_in X G c _ _ (fun fd F => fn_zero (k := 0) F sc_put_in (fun _ _ => rfl)) (fun _ _ _ => rfl)
    f_shared_curve := at_f_shared_curve X G c _ _ (fun fd F => fn_zero (k := 0) F sc_shared_curve (fun _ _ => rfl)) (fun _ _ _ => rfl)
    f_powers := at_f_powers X G c _ _ (fun fd F => fn_zero (k := 0) F sc_powers (fun _ _ => rfl)) (fun _ _ _ => rfl)
    f_law_dice := at_f_law_dice X G c _ _ (fun fd F => fn_zero (k := 0) F sc_law_dice (fun _ _ => rfl)) (fun _ _ _ => rfl)
    f_law_roll := at_f_law_roll X G c _ _ (fun fd F => fn_zero (k := 0) F sc_law_roll (fun _ _ => rfl)) (fun _ _ _ => rfl)
    f_law_rounds := at_f_law_rounds X G c _ _ (fun fd F => fn_zero (k := 0) F sc_law_rounds (fun _ _ => rfl)) (fun _ _ _ => rfl)
    f_law_told := at_f_law_told X G c _ _ (fun fd F => fn_zero (k := 0) F sc_law_told (fun _ _ => rfl)) (fun _ _ _ => rfl)
    f_law_part := at_f_law_part X G c _ _ (fun fd F => fn_zero (k := 0) F sc_law_part (fun _ _ => rfl)) (fun _ _ _ => rfl)
    f_law_worth := at_f_law_worth X G c _ _ (fun fd F => fn_zero (k := 0) F sc_law_worth (fun _ _ => rfl)) (fun _ _ _ => rfl)
    f_law := at_f_law X G c _ _ (fun fd F => fn_zero (k := 0) F sc_law (fun _ _ => rfl)) (fun _ _ _ => rfl) }
  | n + 1 =>
    have T := txt X G c
    have Fs := fns X G c TB_law n
    {
    f_shared := at_f_shared X G c _ _ (fun fd F => fn_stepC (fn := m_shared) F sc_shared (fun _ _ => rfl) rfl rfl (by decide) (fun cdv A outer s H E hc hr => b_shared T rfl rfl Fs hr)) (run_ar rfl)
    f_part := at_f_part X G c _ _ (fun fd F => fn_stepC (fn := m_part) F sc_part (fun _ _ => rfl) rfl rfl (by decide) (fun cdv A outer s H E hc hr => b_part T rfl rfl Fs hr)) (run_ar rfl)
    d_part := at_d_part X G c _ _ (fun fd F => fn_stepC (fn := m_part) F sc_part (fun _ _ => rfl) rfl rfl (by decide) (fun cdv A outer s H E hc hr => b_part T rfl rfl Fs hr)) (run_ar rfl)
    f_plus := at_f_plus X G c _ _ (fun fd F => fn_stepC (fn := m_plus) F sc_plus (fun _ _ => rfl) rfl rfl (by decide) (fun cdv A outer s H E hc hr => b_plus T rfl rfl Fs hr)) (run_ar rfl)
    f_minus := at_f_minus X G c _ _ (fun fd F => fn_stepC (fn := m_minus) F sc_minus (fun _ _ => rfl) rfl rfl (by decide) (fun cdv A outer s H E hc hr => b_minus T rfl rfl Fs hr)) (run_ar rfl)
    f_times := at_f_times X G c _ _ (fun fd F => fn_stepC (fn := m_times) F sc_times (fun _ _ => rfl) rfl rfl (by decide) (fun cdv A outer s H E hc hr => b_times T rfl rfl Fs hr)) (run_ar rfl)
    f_over := at_f_over X G c _ _ (fun fd F => fn_stepC (fn := m_over) F sc_over (fun _ _ => rfl) rfl rfl (by decide) (fun cdv A outer s H E hc hr => b_over T rfl rfl Fs hr)) (run_ar rfl)
    f_total := at_f_total X G c _ _ (fun fd F => fn_stepC (fn := m_total) F sc_total (fun _ _ => rfl) rfl rfl (by decide) (fun cdv A outer s H E hc hr => b_total T rfl rfl Fs hr)) (run_ar rfl)
    f_product := at_f_product X G c _ _ (fun fd F => fn_stepC (fn := m_product) F sc_product (fun _ _ => rfl) rfl rfl (by decide) (fun cdv A outer s H E hc hr => b_product T rfl rfl Fs hr)) (run_ar rfl)
    f_small_row := at_f_small_row X G c _ _ (fun fd F => fn_stepC (fn := m_small_row) F sc_small_row (fun _ _ => rfl) rfl rfl (by decide) (fun cdv A outer s H E hc hr => b_small_row T rfl rfl Fs hr)) (run_ar rfl)
    f_curve := at_f_curve X G c _ _ (fun fd F => fn_stepC (fn := m_curve) F sc_curve (fun _ _ => rfl) rfl rfl (by decide) (fun cdv A outer s H E hc hr => b_curve T rfl rfl Fs hr)) (run_ar rfl)
    f_power_of := at_f_power_of X G c _ _ (fun fd F => fn_stepC (fn := m_power_of) F sc_power_of (fun _ _ => rfl) rfl rfl (by decide) (fun cdv A outer s H E hc hr => b_power_of T rfl rfl Fs hr)) (run_ar rfl)
    f_part_at := at_f_part_at X G c _ _ (fun fd F => fn_stepC (fn := m_part_at) F sc_part_at (fun _ _ => rfl) rfl rfl (by decide) (fun cdv A outer s H E hc hr => b_part_at T rfl rfl Fs hr)) (run_ar rfl)
    f_added := at_f_added X G c _ _ (fun fd F => fn_stepC (fn := m_added) F sc_added (fun _ _ => rfl) rfl rfl (by decide) (fun cdv A outer s H E hc hr => b_added T rfl rfl Fs hr)) (run_ar rfl)
    f_scaled_curve := at_f_scaled_curve X G c _ _ (fun fd F => fn_stepC (fn := m_scaled_curve) F sc_scaled_curve (fun _ _ => rfl) rfl rfl (by decide) (fun cdv A outer s H E hc hr => b_scaled_curve T rfl rfl Fs hr)) (run_ar rfl)
    f_taken := at_f_taken X G c _ _ (fun fd F => fn_stepC (fn := m_taken) F sc_taken (fun _ _ => rfl) rfl rfl (by decide) (fun cdv A outer s H E hc hr => b_taken T rfl rfl Fs hr)) (run_ar rfl)
    f_multiplied := at_f_multiplied X G c _ _ (fun fd F => fn_stepC (fn := m_multiplied) F sc_multiplied (fun _ _ => rfl) rfl rfl (by decide) (fun cdv A outer s H E hc hr => b_multiplied T rfl rfl Fs hr)) (run_ar rfl)
    f_divided := at_f_divided X G c _ _ (fun fd F => fn_stepC (fn := m_divided) F sc_divided (fun _ _ => rfl) rfl rfl (by decide) (fun cdv A outer s H E hc hr => b_divided T rfl rfl Fs hr)) (run_ar rfl)
    f_worth := at_f_worth X G c _ _ (fun fd F => fn_stepC (fn := m_worth) F sc_worth (fun _ _ => rfl) rfl rfl (by decide) (fun cdv A outer s H E hc hr => b_worth T rfl rfl Fs hr)) (run_ar rfl)
    f_slope := at_f_slope X G c _ _ (fun fd F => fn_stepC (fn := m_slope) F sc_slope (fun _ _ => rfl) rfl rfl (by decide) (fun cdv A outer s H E hc hr => b_slope T rfl rfl Fs hr)) (run_ar rfl)
    f_area_under := at_f_area_under X G c _ _ (fun fd F => fn_stepC (fn := m_area_under) F sc_area_under (fun _ _ => rfl) rfl rfl (by decide) (fun cdv A outer s H E hc hr => b_area_under T rfl rfl Fs hr)) (run_ar rfl)
    f_between := at_f_between X G c _ _ (fun fd F => fn_stepC (fn := m_between) F sc_between (fun _ _ => rfl) rfl rfl (by decide) (fun cdv A outer s H E hc hr => b_between T rfl rfl Fs hr)) (run_ar rfl)
    f_through := at_f_through X G c _ _ (fun fd F => fn_stepC (fn := m_through) F sc_through (fun _ _ => rfl) rfl rfl (by decide) (fun cdv A outer s H E hc hr => b_through T rfl rfl Fs hr)) (run_ar rfl)
    f_put_in := at_f_put_in X G c _ _ (fun fd F => fn_stepC (fn := m_put_in) F sc_put_in (fun _ _ => rfl) rfl rfl (by decide) (fun cdv A outer s H E hc hr => b_put_in T rfl rfl Fs hr)) (run_ar rfl)
    f_shared_curve := at_f_shared_curve X G c _ _ (fun fd F => fn_stepC (fn := m_shared_curve) F sc_shared_curve (fun _ _ => rfl) rfl rfl (by decide) (fun cdv A outer s H E hc hr => b_shared_curve T rfl rfl Fs hr)) (run_ar rfl)
    f_powers := at_f_powers X G c _ _ (fun fd F => fn_stepC (fn := m_powers) F sc_powers (fun _ _ => rfl) rfl rfl (by decide) (fun cdv A outer s H E hc hr => b_powers T rfl rfl Fs hr)) (run_ar rfl)
    f_law_dice := at_f_law_dice X G c _ _ (fun fd F => fn_stepC (fn := m_law_dice) F sc_law_dice (fun _ _ => rfl) rfl rfl (by decide) (fun cdv A outer s H E hc hr => b_law_dice T rfl rfl Fs hr)) (run_ar rfl)
    f_law_roll := at_f_law_roll X G c _ _ (fun fd F => fn_stepC (fn := m_law_roll) F sc_law_roll (fun _ _ => rfl) rfl rfl (by decide) (fun cdv A outer s H E hc hr => b_law_roll T rfl rfl Fs hr)) (run_ar rfl)
    f_law_rounds := at_f_law_rounds X G c _ _ (fun fd F => fn_stepC (fn := m_law_rounds) F sc_law_rounds (fun _ _ => rfl) rfl rfl (by decide) (fun cdv A outer s H E hc hr => b_law_rounds T rfl rfl Fs hr)) (run_ar rfl)
    f_law_told := at_f_law_told X G c _ _ (fun fd F => by
      have hh := fun (cdv : Value) (A : Around) (outer : List PySem.Env) (s : Shared) (H : Hp) (E : XK) => hds_told X G c (cxOf (L2.CX P w) P w K mg base ["what"] "_law_told" (defScope s_law_told) (He.fAd K ("_law_told", none)) cdv A outer s H E) rfl rfl rfl
      refine (fn_told (q := qq P w K) (S := semAt prog n) (S0 := semAt prog n) (L := lamAt (semAt prog n) prog) (k0 := 3 * n + 1) (hl := hlK K) F sc_law_told (fun _ _ => rfl) (by rw [told_at]; exact wt_told c) (lams_ok T Fs) (fun cdv A outer s H E => ?_) rfl (Or.inl rfl) (fun _ => rfl)).mono (by omega)
      obtain ⟨_, _, _, _, _, _, e, hk⟩ := hh cdv A outer s H E
      cases e
      exact hk) told_ar
    f_law_part := at_f_law_part X G c _ _ (fun fd F => fn_stepC (fn := m_law_part) F sc_law_part (fun _ _ => rfl) rfl rfl (by decide) (fun cdv A outer s H E hc hr => b_law_part T rfl rfl Fs hr)) (run_ar rfl)
    f_law_worth := at_f_law_worth X G c _ _ (fun fd F => fn_stepC (fn := m_law_worth) F sc_law_worth (fun _ _ => rfl) rfl rfl (by decide) (fun cdv A outer s H E hc hr => b_law_worth T rfl rfl Fs hr)) (run_ar rfl)
    f_law := at_f_law X G c _ _ (fun fd F => fn_stepC (fn := m_law) F sc_law (fun _ _ => rfl) rfl rfl (by decide) (fun cdv A outer s H E hc hr => b_law T rfl rfl Fs hr TB_law (code_law c hc) (List.mem_cons_self ..) (uni_law c) (told_at n) rfl)) (run_ar rfl) }
end
end LK
end
/-! ## K05c -/
section
set_option Elab.async false
set_option linter.all false
set_option maxRecDepth 200000
set_option maxHeartbeats 0
namespace LK
open PySem L2 LamX PyProof.Rows RZ PV
/-! the end -/
abbrev Rw : PySem.W.OpenRow := PySem.W.OpenLaw.row PySem.Challenge.rw_stepwright_k05_curves
abbrev hk : PySem.W.Hook := He.hookX 4 fal fnl [] tfl exl
def ob (s : PySem.W.SharedT) : He.AlX := He.obsX 4 fal fnl [] tfl exl (HandSHeadRun.getT s)
theorem ob_eq (s : PySem.W.SharedT) : ob s = hk.obs s.abs := He.obsX_eq (HandSHeadRun.getT_eq s)
def loose0 : List PySem.Str := ["__name__", "StepFault", "BadPart", "BadTree", "BadTable", "BadField", "BadPaper", "BadSize", "BadText", "BadStore", "NoSuch", "shared", "part", "plus", "minus"]
def loose1 : List PySem.Str := ["times", "over", "total", "product", "small_row", "curve", "power_of", "part_at", "added", "scaled_curve", "taken", "multiplied", "divided", "worth", "slope"]
def loose2 : List PySem.Str := ["area_under", "between", "through", "put_in", "shared_curve", "powers", "_law_dice", "_law_roll", "_law_rounds", "_law_told", "_law_part", "_law_worth"]
abbrev loose : List PySem.Str := loose0 ++ loose1 ++ loose2
abbrev qv : Program := PySem.W.view Rw.prog [0, 46]
theorem run (w : World) : HandSHeadRun.RunEqI Rw qv hk ob 8000 loose w := by
  unfold HandSHeadRun.RunEqI
  kernel_rfl
section
variable {P : Program} {w : World} {K : PySem.W.Frag} {mg : Str → Option Value} {base h : Heap}
theorem law_ok (X : K.In h) (G : h.Ns mainGlobals mg) (c : Says w h K) (TB_law : TabB base mg (He.cT K ("law", none)).1 (He.cT K ("law", none)).2) (n : Nat) {fd : FuncData} (F : FunD K "law" "law" (defArgs s_law) (defBody s_law) (defScope s_law) [] [] (He.fAd K ("law", none)) fd) : FnOk P w K mg base (L2.CX P w) (3 * n + 1 + 3) (He.fAd K ("law", none)) fd ["script"] (spC K (qq P w K) (semAt prog (n + 1)) 31 1) := by
  have T := txt (P := P) X G c
  have Fs := fns (P := P) X G c TB_law n
  exact fn_stepC (fn := m_law) F sc_law (fun _ _ => rfl) rfl rfl (by decide) (fun cdv A outer s H E hc hr => b_law T rfl rfl Fs hr TB_law (code_law c hc) (List.mem_cons_self ..) (uni_law c) (told_at n) rfl)
theorem tabs_of {K : PySem.W.Frag} {H : Hp} (h : ∀ p ∈ ([He.cT K ("law", none)] : List (Addr × Addr)), H p.2 = some (.tbl #[])) : Tabs (qq P w K).T H := by
  have one : ∀ (a : Addr) (x : Str), H a = some (.tbl #[]) → TabS H a x := fun a x e => ⟨#[], e, by first | exact TriplesOk.nil | exact trivial | (intro _ h; cases h) | simp [TriplesOk], fun pos cv e => by cases e⟩
  intro p hp
  rcases List.mem_cons.mp hp with rfl | hp
  · exact one _ _ (h _ (List.mem_cons_self ..))
  cases hp
theorem facts {fa : Addr} (X : K.In h) (G : h.Ns mainGlobals mg) (hfa : mg ("law" : Str) = some (.ref fa)) (c : Says w h K)
    (lw : ∀ ns : List Int, ns.length ≤ 63 → (∀ z ∈ ns, Builtin.Int.intBits z ≤ 1048576) → ∃ Gz, (semAt prog (10 + 1)).cal 31 [.frz (ns.map .int)] [] = .ok (.bl true) Gz) :
    LamX.LawAtS PySem.Challenge.rw_stepwright_k05_curves w K (L2.CX (PySem.Challenge.rw_stepwright_k05_curves).prog w) (3 * 10 + 1 + 3) 63 "script" mg fa h := by
  obtain ⟨fd, F⟩ := c.t.d.def_ 31 (d := dd_law)
  have e := hfa.symm.trans (glo X G c 31 "law")
  cases e
  have b := FunD.bindsA (ps := ["script"]) F fun _ _ _ _ _ _ us hl => match us, hl with | [_], _ => rfl
  refine ⟨fd, [He.cT K ("law", none)], spC K (qq (PySem.Challenge.rw_stepwright_k05_curves).prog w K) (semAt prog (10 + 1)) 31 1, fun p hp => ?_, fun p hp => ?_, fun p hp => ?_, fun s v => b s [v] rfl, fun H a ns hl hb ht hS => ?_, fun base KB GB hTB => ?_⟩
  · exact (by
      rcases List.mem_cons.mp hp with rfl | hp
      · exact c.empty ("law", none) (List.mem_cons_self ..)
      cases hp)
  · exact (by
      rcases List.mem_cons.mp hp with rfl | hp
      · exact c.out ("law", none) (List.mem_cons_self ..)
      cases hp)
  · exact (by
      rcases List.mem_cons.mp hp with rfl | hp
      · exact PySem.W.codeHd_of_K X (c.hd ("law", none) (List.mem_cons_self ..))
      cases hp)
  · obtain ⟨Gz, h⟩ := lw ns hl hb
    exact law_start (tabs_of ht) hS h
  · exact law_ok X G c (hTB _ (List.mem_cons_self ..)) 10 F
end
end LK
open PySem PySem.W PySem.Calls PyProof.Rows
theorem end_of (lw : ∀ ns : List Int, ns.length ≤ 63 → (∀ z ∈ ns, Builtin.Int.intBits z ≤ 1048576) → ∃ Gz, (PV.semAt LK.prog (10 + 1)).cal 31 [.frz (ns.map .int)] [] = .ok (.bl true) Gz) : PySem.Challenge.rw_stepwright_k05_curves.Holds := by
  w_on; o_law
  refine HandSHeadRun.head_imp (r := OpenLaw.row PySem.Challenge.rw_stepwright_k05_curves) (q := LK.qv) (H := LK.hk) (ob := LK.ob) (M := 8000) (loose := LK.loose) (d := HandSHeadRun.topDef (OpenLaw.row PySem.Challenge.rw_stepwright_k05_curves).prog 46) (kwd := []) LK.ob_eq
    LK.run (by kernel_rfl) (by kernel_rfl) (by kernel_rfl) (by rfl) (by first | assumption | decide +kernel) (by decide +kernel) ⟨rfl, rfl, rfl, rfl, rfl, by decide +kernel⟩ ?hw ?hc
  case hw => w_witness2
  case hc =>
    refine LamX.walk_ofTsE (l := PySem.Challenge.rw_stepwright_k05_curves) (n := 63) (k := 3 * 10 + 1 + 3) (x := "script") (CX := fun w => L2.CX (PySem.Challenge.rw_stepwright_k05_curves).prog w) rfl (by decide) (by kernel_rfl) ⟨rfl, by decide, by decide⟩ ?F ?C
    case C =>
      intro w H s e s' h
      obtain ⟨_, _, _, _, _, _, _, _, _, _, _, _, z⟩ := h
      exact z.elim
    case F =>
      intro w mg fa h Y G hmg0
      obtain ⟨K, KX, c⟩ := Y
      have hmg : mg ("law" : PySem.Str) = some (.ref fa) := by
        have e : (HandSHeadRun.topDef (OpenLaw.row PySem.Challenge.rw_stepwright_k05_curves).prog 46).name = ("law" : PySem.Str) := by kernel_rfl
        rw [← e]
        exact hmg0
      exact ⟨K, KX, LK.facts KX G hmg c lw⟩
end
theorem PySem.Challenge.cw_stepwright_k05_curves_holds : PySem.Challenge.rw_stepwright_k05_curves.Holds := by
  exact end_of LK.law_true
