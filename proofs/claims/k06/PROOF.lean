import PyProof.Rows.All
import Wide.All
import OpenK.AllK
import Wide.FinOn
import HandS.ForMost
import HandS.TupMul
import HandS.TupAny
import HandS.Style
import KE.SortData
import KE.KDictKeyed
import KE.KDictSum
import KE.GoesEnum
import KE.KDictPairs
import HandS.Rev
import HandS.Deep
import PyProof.EqAt
import PyProof.EqKinds
import PyProof.TupleCall
import HandS.WordsExc
import HandS.TryMany
import HandS.Lambda
import HandS.Wide
import HandS.Gcd
import HandS.FStr
import HandS.RaiseMore
import HandS.CallSlots
import HandS.StrMore
import HandS.TupLe
import HandS.NoneIn
import HandS.SortInts
import KE.KeyNested
import KE.SortKeyHeap
import KE.KLam
import KE.SortKeyed
import HandS.SortKw
import HandS.JoinGen
import HandS.Zip
import HandS.TryOnly
import HandS.Conv
import HandS.IsInst
import HandS.Defaults
import HandS.HeadHook4
import HandS.HeadWalk
import HandS.Head2
import HandS.Head3
import PySem.Challenge.RW_stepwright_k06_roots_counted
/-! ## PV0a -/
section
set_option Elab.async false
set_option linter.all false
set_option maxRecDepth 100000
set_option maxHeartbeats 4000000
/-! More of the model: tuple * int for all ints, tuple[::-1]. -/
namespace L2
open PySem PySem.Spec PyProof.Rows
/-- nothing to repeat, or once: the same tuple -/
theorem tuple_mulS (l : Addr) (items : Array Value) (n : Nat) (sl : Array (Option Value)) (dd : Option Addr) (x : Int) (u : Tok) (c0 : (decide (x < -(2 ^ 63)) || decide (x ≥ 2 ^ 63)) = false) (c1 : (items.isEmpty || x == 1) = true) :
    Meets (Builtin.«tuple.__mul__» ⟨[.ref l, .int x u], []⟩) (fun _ R s => s.heap.get? l = some { cls := .type "tuple", dict := dd, data := .seq items n, slots := sl } ∧ R (.ok (.ret (Value.ref l))) s) :=
  .of_wp fun prog w A R s h => by
    obtain ⟨hp, g, d, tk, os⟩ := s
    obtain ⟨hl, h⟩ := h
    have f1 := AutoSeq1.idx_int
    wp_walk using wpAny_loadPart' hl
    repeat (first
      | (refine wpAny_ite_false (decide_eq_false (by rw [c0]; exact Bool.false_ne_true)) ?_; wp_walk using wpAny_loadPart' hl)
      | (refine wpAny_ite_true (decide_eq_true c1) ?_; wp_walk using wpAny_loadPart' hl))
    exact ⟨_, rfl, h⟩
/-- no times: a new empty one -/
theorem tuple_mul0 (l : Addr) (items : Array Value) (n : Nat) (sl : Array (Option Value)) (dd : Option Addr) (x : Int) (u : Tok) (c0 : (decide (x < -(2 ^ 63)) || decide (x ≥ 2 ^ 63)) = false) (c1 : (items.isEmpty || x == 1) = false) (c2 : (decide (x ≤ 0) || items.isEmpty) = true) :
    Meets (Builtin.«tuple.__mul__» ⟨[.ref l, .int x u], []⟩) (fun _ R s => s.heap.get? l = some { cls := .type "tuple", dict := dd, data := .seq items n, slots := sl } ∧
      R (.ok (.ret (Value.ref s.heap.objs.size))) { s with heap := s.heap.push { cls := Value.type "tuple", data := Data.seq #[] }, toks := s.toks }) :=
  .of_wp fun prog w A R s h => by
    obtain ⟨hp, g, d, tk, os⟩ := s
    obtain ⟨hl, h⟩ := h
    have f1 := AutoSeq1.idx_int
    wp_walk using wpAny_loadPart' hl
    repeat (first
      | (refine wpAny_ite_false (decide_eq_false (by rw [c0]; exact Bool.false_ne_true)) ?_; wp_walk using wpAny_loadPart' hl)
      | (refine wpAny_ite_false (decide_eq_false (by rw [c1]; exact Bool.false_ne_true)) ?_; wp_walk using wpAny_loadPart' hl)
      | (refine wpAny_ite_true (decide_eq_true c2) ?_; wp_walk using wpAny_loadPart' hl))
    exact ⟨_, rfl, h⟩
def rRepA (K : PySem.W.Frag) : R2 := fun x y H Q => ∃ l k xs, x = .ref l ∧ y = .int k ∧ SqT K H l xs ∧ -1000000 ≤ k ∧ k ≤ 1000 ∧ xs.length ≤ 1000 ∧ (xs = [] ∨ k = 1 → Q (.ref l) H) ∧
  (xs ≠ [] → k ≤ 0 → ∀ p, H p = none → Q (.ref p) (upd H p (.tup []))) ∧ (xs ≠ [] → 2 ≤ k → ∀ p, H p = none → Q (.ref p) (upd H p (.tup (List.replicate k.toNat xs).flatten)))
section
variable {X : Cx}
theorem op_repA : OpR X (binaryOp .Mult) (rRepA X.K) := by
  intro pins s σ H x y v u Q I rx ry h
  obtain ⟨l, k, xs, rfl, rfl, hT, h1, h2, hz, q1, q2, q3⟩ := h
  by_cases hb : xs ≠ [] ∧ 2 ≤ k
  · exact op_repT pins s σ H _ _ v u Q I rx ry ⟨l, k, xs, rfl, rfl, hT, hb.1, hb.2, h2, hz, q3 hb.1 hb.2⟩
  cases rx
  obtain ⟨t, rfl⟩ := ry
  obtain ⟨its, r, ⟨⟨cls, dd, data, sl⟩, ho, hc, n, hd⟩, hs⟩ := I.tuple hT
  simp only at hc hd
  subst hc hd
  have hle : its.length = xs.length := r.length.symm
  have c0 : (decide (k < -(2 ^ 63)) || decide (k ≥ 2 ^ 63)) = false := by
    rw [decide_eq_false (by omega), decide_eq_false (by omega)] <;> rfl
  have emp : its.toArray.isEmpty = decide (xs = []) := by
    cases its with
    | nil => have : xs = [] := List.eq_nil_of_length_eq_zero hle.symm; simp [this]
    | cons a b => have : xs ≠ [] := fun e => by subst e; simp at hle
                  simp [this]
  refine wpAny_binaryOp_repeat_ref (T := "tuple") (U := "int") (by decide) ⟨_, ho, rfl⟩ (fun s' => typeIs_int s' k t) noFill_tuple_mul F.fills_int_mul F.slot_int_rmul repeat_tuple F.slot_int_index.lookup
    (call_meets F.slot_int_rmul (typeIs_int s k t) F.entry_int_rmul (F.args_int_rmul_2 _ _) (int_rmul_tuple k t l its.toArray n dd sl) ⟨ho, rfl, ⟨_, ho, rfl⟩, ?_⟩)
  by_cases hs1 : xs = [] ∨ k = 1
  · have c1 : (its.toArray.isEmpty || k == 1) = true := by
      rw [emp]
      rcases hs1 with e | e <;> simp [e]
    exact call_meets F.slot_tuple_mul ⟨_, ho, rfl⟩ F.entry_tuple_mul (F.args_tuple_mul_2 _ _) (tuple_mulS l its.toArray n sl dd k t c0 c1) ⟨ho, ⟨.ref l, H, I, rfl, q1 hs1⟩⟩
  · have hx : xs ≠ [] := fun e => hs1 (.inl e)
    have hk : k ≤ 0 := by
      have : ¬ k = 1 := fun e => hs1 (.inr e)
      have : ¬ 2 ≤ k := fun e => hb ⟨hx, e⟩
      omega
    have c1 : (its.toArray.isEmpty || k == 1) = false := by
      rw [emp, decide_eq_false hx, Bool.false_or]
      exact beq_eq_false_iff_ne.mpr (by omega)
    have c2 : (decide (k ≤ 0) || its.toArray.isEmpty) = true := by rw [decide_eq_true hk]; rfl
    refine call_meets F.slot_tuple_mul ⟨_, ho, rfl⟩ F.entry_tuple_mul (F.args_tuple_mul_2 _ _) (tuple_mul0 l its.toArray n sl dd k t c0 c1 c2) ⟨ho, ?_⟩
    refine ⟨.ref s.heap.objs.size, _, I.laid (t' := s.toks) (o := .tup []) (fun b ob q => Heap.get?_push_of_some _ q) (Nat.le_refl _) ?_, rfl, q2 hx hk _ (I.hok.fresh (Nat.le_refl _))⟩
    exact ⟨Nat.zero_le _, [], .nil, IsTup.new _ _⟩

/-! ### t[::-1], t a tuple -/
theorem sliceApplied_back {prog : Program} {w : World} {A : Around} {E : Value → Shared → Prop} {s : Shared} {sl : Addr} {vl vu vs : Value} {n : Nat} {Q : Int × Int × Nat → Shared → Prop} (hs : s.heap.IsSliceOf sl vl vu vs) (pl : IsPart vl none) (pu : IsPart vu none) (ps : IsPart vs (some (-1)))
    (h : Q ((n : Int) - 1, -1, n) s) : wpAny (model prog w) A (Builtin.Slice.sliceApplied (.ref sl) (pure (n : Int))) Q E s := by
  obtain ⟨os, hos, hcs, hds⟩ := id hs
  unfold Builtin.Slice.sliceApplied Builtin.Slice.sliceFields
  refine wpAny_bind (wpAny_bind (wpAny_field hos hds (x := vl) rfl (wpAny_bind (wpAny_field hos hds (x := vu) rfl (wpAny_bind (wpAny_field hos hds (x := vs) rfl (wpAny_pure ?_)))))))
  refine wpAny_bind (HT.slicePart_ ps ?_)
  show wpAny _ _ (if ((-1 : Int) == 0) = true then _ else _) _ _ s
  rw [if_neg (by decide)]
  refine wpAny_bind (HT.slicePart_ pl (wpAny_bind (HT.slicePart_ pu (wpAny_bind (wpAny_pure ?_)))))
  have e1 : Builtin.Slice.sliceAdjust none none (-1) (n : Int) = ((n : Int) - 1, -1) := by
    unfold Builtin.Slice.sliceAdjust
    simp
  have e2 : Builtin.Slice.slicePlaces ((n : Int) - 1) (-1) (-1) = n := by
    unfold Builtin.Slice.slicePlaces
    simp
    try omega
  show wpAny _ _ (match Builtin.Slice.sliceAdjust none none (-1) (n : Int) with | (lo, hi) => pure (lo, (-1 : Int), Builtin.Slice.slicePlaces lo hi (-1))) _ _ s
  rw [e1]
  show wpAny _ _ (pure ((n : Int) - 1, (-1 : Int), Builtin.Slice.slicePlaces ((n : Int) - 1) (-1) (-1))) _ _ s
  rw [e2]
  exact wpAny_pure h
theorem fmap_congr {α β : Type} {f g : α → Option β} : ∀ {l : List α}, (∀ x ∈ l, f x = g x) → l.filterMap f = l.filterMap g
  | [], _ => rfl
  | x :: l, h => by
    rw [List.filterMap_cons, List.filterMap_cons, h x (List.mem_cons_self ..), fmap_congr fun y hy => h y (List.mem_cons_of_mem _ hy)]
theorem pick_back (xs : Array Value) : ((List.range xs.size).filterMap fun (k : Nat) => xs[(((xs.size : Int) - 1) + (k : Int) * (-1)).toNat]?).toArray = xs.toList.reverse.toArray := by
  congr 1
  have e : ((List.range xs.size).filterMap fun (k : Nat) => xs[(((xs.size : Int) - 1) + (k : Int) * (-1)).toNat]?) = (List.range xs.size).filterMap fun k => xs[xs.size - 1 - k]? := by
    refine fmap_congr fun k hk => ?_
    have hk := List.mem_range.mp hk
    have : (((xs.size : Int) - 1) + (k : Int) * (-1)).toNat = xs.size - 1 - k := by omega
    rw [this]
  rw [e, show (fun k => xs[xs.size - 1 - k]?) = (fun k => xs[k]?) ∘ (fun k => xs.size - 1 - k) from rfl, ← List.filterMap_map, PySem.W.krv_range, List.filterMap_reverse, PySem.W.krv_all]
theorem getItem_tuple_back {prog : Program} {w : World} {A : Around} {E : Value → Shared → Prop} {s : Shared} {t sl : Addr} {items : Array Value} {vl vu vs : Value} {Q : Value → Shared → Prop} (ht : IsTup s.heap t items) (hs : s.heap.IsSliceOf sl vl vu vs) (pl : IsPart vl none) (pu : IsPart vu none) (ps : IsPart vs (some (-1)))
    (h : Q (.ref s.heap.objs.size) { s with heap := s.heap.push { cls := .type "tuple", data := .seq items.toList.reverse.toArray } }) (hsz : items.size ≤ sizeLine) : wpAny (model prog w) A (getItem (.ref t) (.ref sl)) Q E s := by
  obtain ⟨os, hos, hcs, hds⟩ := id hs
  have hTs : s.TypeIs (.ref sl) "slice" := ⟨os, hos, hcs⟩
  unfold getItem
  try with_reducible refine wpAny_holding ?_
  first | refine wpAny_bind (wpAny_pure ?_) | skip
  refine wpAny_bind (wpAny_sequenceKey ht.typeIs (by decide) ?_)
  refine wpAny_bind (wpAny_callSpecial?_slot (name := Str.ofString "__getitem__") ht.typeIs PyProof.Rows.slot_tuple_getitem
    (wpAny_call_entry PyProof.Rows.slot_tuple_getitem ht.typeIs entry_tuple_getitem ?_ (args_tuple_getitem _ _)))
  show wpAny _ _ (Builtin.Tuple.tupleItemsOf (.ref t) >>= _) _ _ s
  refine wpAny_bind (tupleItemsOf_ ht ?_)
  refine wpAny_bind (wpAny_typeOf hTs ?_)
  rw [if_pos (by decide)]
  refine wpAny_bind (sliceApplied_back hs pl pu ps ?_)
  have hno : ¬ (((items.size : Int) - 1 == 0 && (-1 : Int) == 1 && items.size == items.size) = true) := by simp
  show wpAny _ _ (if ((items.size : Int) - 1 == 0 && (-1 : Int) == 1 && items.size == items.size) = true then _ else _) _ _ s
  rw [if_neg hno]
  rw [pick_back]
  unfold Builtin.Tuple.tupleExact
  refine wpAny_bind (wpAny_newObj_type ?_ (by show items.toList.reverse.toArray.size ≤ sizeLine; rw [List.size_toArray, List.length_reverse, Array.length_toList]; exact hsz))
  exact wpAny_pure ⟨_, rfl, wpAny_pure h⟩
def tRevT (K : PySem.W.Frag) (te : TE) : TE := fun σ H Q => te σ H fun x H1 => ∃ a xs, x = .ref a ∧ ((SqL K H1 a xs ∧ ∀ p, H1 p = none → Q (.ref p) (upd H1 p (.lst xs.reverse))) ∨ (SqT K H1 a xs ∧ ∀ p, H1 p = none → Q (.ref p) (upd H1 p (.tup xs.reverse))))
theorem pe_revA {e : Expr} {te : TE} {k : Nat} {p1 p2 p3 pos : Pos} (he : PE X e te) : PE X (.Subscript e (.Slice none none (some (.UnaryOp .USub (.Constant (.int 1) k p1) p2)) p3) pos) (tRevT X.K te) := by
  refine ⟨fun pins s σ H Q I h => ?_⟩
  refine Subscript_ (thn (he.run pins s σ H _ I h) fun v s1 ⟨x, H1, I1, r1, q1⟩ => ?_)
  obtain ⟨a, xs, ex, q⟩ := q1
  subst ex
  cases r1
  have hst : PO X (some (.UnaryOp .USub (.Constant (.int 1) k p1) p2)) (tPart (tUn (rU fun i => .int (-i)) (tC (.int 1)))) := po_some (pe_un un_neg pe_int)
  refine wpAny_Slice (thn (po_none.run pins s1 σ H1 (fun o H2 => o = none ∧ H2 = H1) I1 ⟨rfl, rfl⟩) fun vl s2 ⟨l, H2, I2, pl, el, e2⟩ => ?_)
  subst el e2
  refine thn (po_none.run pins s2 σ H2 (fun o H3 => o = none ∧ H3 = H2) I2 ⟨rfl, rfl⟩) fun vu s3 ⟨u, H3, I3, pu, eu, e3⟩ => ?_
  subst eu e3
  refine thn (hst.run pins s3 σ H3 (fun o H4 => o = some (-1) ∧ H4 = H3) I3 ⟨1, rfl, -1, rfl, rfl, rfl⟩) fun vs s4 ⟨o, H4, I4, ps, eo, e4⟩ => ?_
  subst eo e4
  have I5 : Inv X pins σ H4 { s4 with heap := s4.heap.push { cls := .type "slice", data := .fields #[vl, vu, vs] } } := I4.kept (t' := s4.toks) fun b ob q => Heap.get?_push_of_some _ q
  rcases q with ⟨hx, q⟩ | ⟨hx, q⟩
  · obtain ⟨its, r, ht, hz⟩ := I5.list hx
    have hlen := r.length
    show wpAny (model X.prog X.w) X.A (subscriptTail e (.Slice none none (some (.UnaryOp .USub (.Constant (.int 1) k p1) p2)) p3) (.ref a) (.ref s4.heap.objs.size)) (EP X pins σ Q) X.xe { s4 with heap := s4.heap.push { cls := .type "slice", data := .fields #[vl, vu, vs] } }
    refine tail_any (ops := [.ref a, .ref s4.heap.objs.size]) ht.isList.typeIs (PySem.slot_list_getitem.lookup) ?_ (by with_unfolding_all rfl)
    refine wpAny_getItem_list_slice ht.isList (Heap.IsSliceOf.new _ vl vu vs) pl pu ps (by decide) ?_ (by rw [List.size_toArray]; omega)
    rw [PySem.W.krv_pick]
    refine ⟨.ref _, _, I5.laid (t' := s4.toks) (o := .lst xs.reverse) (fun b ob q => Heap.get?_push_of_some _ q) (Nat.le_refl _) ?_, rfl, q _ (I5.hok.fresh (Nat.le_refl _))⟩
    exact ⟨by rw [List.length_reverse]; exact hz, _, 0, r.reverse, Heap.get?_push_size _ rfl⟩
  · obtain ⟨its, r, ht, hz⟩ := I5.tuple hx
    have hlen := r.length
    show wpAny (model X.prog X.w) X.A (subscriptTail e (.Slice none none (some (.UnaryOp .USub (.Constant (.int 1) k p1) p2)) p3) (.ref a) (.ref s4.heap.objs.size)) (EP X pins σ Q) X.xe { s4 with heap := s4.heap.push { cls := .type "slice", data := .fields #[vl, vu, vs] } }
    refine tail_any (ops := [.ref a, .ref s4.heap.objs.size]) ht.typeIs (PyProof.Rows.slot_tuple_getitem.lookup) ?_ (by with_unfolding_all rfl)
    refine getItem_tuple_back ht (Heap.IsSliceOf.new _ vl vu vs) pl pu ps ?_ (by rw [List.size_toArray]; omega)
    refine ⟨.ref _, _, I5.laid (t' := s4.toks) (o := .tup xs.reverse) (fun b ob q => Heap.get?_push_of_some _ q) (Nat.le_refl _) ?_, rfl, q _ (I5.hok.fresh (Nat.le_refl _))⟩
    exact ⟨by rw [List.length_reverse]; exact hz, _, r.reverse, IsTup.new _ _⟩
end
end L2
end
/-! ## PV0b -/
section
set_option Elab.async false
set_option linter.all false
set_option maxRecDepth 100000
set_option maxHeartbeats 4000000
/-! sorted of alike data, empty tuples among them too. -/
namespace PySem.SeqAt
theorem call_tuple_lt {prog : Program} {w : World} {A : Around} {s : Shared} {E : Value → Shared → Prop} {Q : Value → Shared → Prop} {l b : Addr} {items items2 : Array Value} {e r : Nat → Bool} (hl : s.heap.IsTuple l items) (hb : s.heap.IsTuple b items2)
    (he : ∀ j (h1 : j < items.size) (h2 : j < items2.size), EqAt A.in1 s items[j] items2[j] (e j)) (hr : ∀ j (h1 : j < items.size) (h2 : j < items2.size), e j = false → RcLt A.in1 s items[j] items2[j] (r j))
    (h : Q (.bool (firstLt e r (decide (items.size < items2.size)) (List.range (min items.size items2.size)))) s) : wpAny (model prog w) A (call (.builtin "tuple.__lt__") [.ref l, .ref b]) Q E s := by
  obtain ⟨⟨cls, dd, data, sl⟩, ho, hc, n, hd⟩ := hl
  obtain ⟨⟨cls2, dd2, data2, sl2⟩, ho2, hc2, n2, hd2⟩ := hb
  simp only at hc hd hc2 hd2
  subst hc hd hc2 hd2
  exact call_meets F.slot_tuple_lt ⟨_, ho, rfl⟩ F.entry_tuple_lt (F.args_tuple_lt_2 _ _) (tuple_ltAt l b items items2 n n2 dd dd2 sl sl2 e r) ⟨ho, ho2, he, hr, h⟩
end PySem.SeqAt
namespace PySem.W
open PySem PySem.Calls PyProof.Rows SeqAt
section
variable {prog : Program} {w : World} {A : Around} {E : Value → Shared → Prop} {s : Shared}
theorem oneLt_alikeT {f : Bool} {da db : PyData} {a b : Value} {as bs : List Addr} {Q : Bool → Shared → Prop} (ra : Reads s.heap a da as) (rb : Reads s.heap b db bs) (h : alike da db = true) (hn : da ≠ .none)
    (hu : A.units + min da.depth db.depth < cLine) (hq : Q (dataLt da db) s) : wpAny (model prog w) A (oneLt' f a b) Q E s := by
  by_cases ht : f = true ∧ ∃ xs, da = .tuple xs
  · obtain ⟨rfl, xs, rfl⟩ := ht
    cases db with
    | tuple ys =>
      have hal : alikeAll xs ys = true := by simpa [alike] using h
      cases ra with
      | @tuple l o vs n _ as₁ h1 h2 h3 h4 =>
        cases rb with
        | @tuple l' o' vs' n' _ bs₁ k1 k2 k3 k4 =>
          have n1 : vs.size = xs.length := by simpa using ReadsAll.length _ _ _ h4
          have n2 : vs'.size = ys.length := by simpa using ReadsAll.length _ _ _ k4
          rw [dataLt_tuple, ← firstLt_toks xs ys hal, ← n1, ← n2] at hq
          rw [oneLt'_eq]
          simp only [if_true]
          refine wpAny_bind (wpAny_cRoomFor (room_here hu) ?_)
          refine wpAny_bind (wpAny_callSpecialIfBound?_slot (T := "tuple") ⟨_, h1, h2⟩ F.slot_tuple_lt (call_tuple_lt (e := pairEq xs ys) (r := fun j => dataLt (xs.getD j .none) (ys.getD j .none)) ⟨_, h1, h2, _, h3⟩ ⟨_, k1, k2, _, k3⟩ (fun j j1 j2 => ?_) (fun j j1 j2 hj => ?_) ?_))
          · have := eqAt_alikeAll xs ys A.in1 s vs.toList vs'.toList _ _ h4 k4 hal (room_in hu) j (by simpa using j1) (by simpa using j2)
            simpa using this
          · have := rcLt_alikeAll xs ys A.in1 s vs.toList vs'.toList _ _ h4 k4 hal (room_in hu) j (by simpa using j1) (by simpa using j2) hj
            simpa using this
          · exact wpAny_truthy_bool hq
    | _ => exact absurd h (by simp [alike])
  · exact oneLt_alike (fun hf xs e => ht ⟨hf, xs, e⟩) ra rb h hn hu hq
theorem keyLt'_general (x y : Value) : keyLt' general' x y = oneLt' false x y := rfl

/-- the first items of tuples, of empty ones none -/
theorem firsts_tup {M : Model} : ∀ {vs : List Value} {ds : List PyData}, EachIs (fun v d => ∃ as, Reads s.heap v d as) vs ds → (∀ d ∈ ds, ∃ xs, d = .tuple xs) → ∃ os : List (Option Value), (.tuple [] ∈ ds → os.all (·.isSome) = false) ∧ os.length = vs.length ∧
    ∀ (E : Value → Shared → Prop) (Q : List (Option Value) → Shared → Prop), Q os s → wpAny M A (vs.mapM firstOfTuple') Q E s
  | _, _, .nil, _ => ⟨[], fun h => (nomatch h), rfl, fun E Q hq => by rw [List.mapM_nil]; exact wpAny_pure hq⟩
  | _, _, .cons (a := v) (b := d) ⟨as, r⟩ t, ht => by
    obtain ⟨os, h1, h2, h3⟩ := firsts_tup (M := M) t fun d hd => ht d (List.mem_cons_of_mem _ hd)
    obtain ⟨xs, rfl⟩ := ht d (List.mem_cons_self ..)
    cases r with
    | @tuple a o ys n _ _ ho hc hd hr =>
      refine ⟨ys[0]? :: os, fun hm => ?_, by rw [List.length_cons, List.length_cons, h2], fun E Q hq => ?_⟩
      · rcases List.mem_cons.mp hm with e | hm
        · cases e
          have hz : ys.toList = [] := by
            have := SeqAt.ReadsAll.length _ _ _ hr
            exact List.eq_nil_of_length_eq_zero (by simpa using this)
          have : ys[0]? = none := by rw [← Array.getElem?_toList, hz]; rfl
          rw [List.all_cons, this]; rfl
        · rw [List.all_cons, h1 hm, Bool.and_false]
      · rw [List.mapM_cons]
        refine wpAny_bind ?_
        rw [kas_first_eq]
        refine wpAny_bind ((looks_reads (M := M) (Reads.tuple ho hc hd hr)).here ?_)
        rw [show dataType (PyData.tuple xs) = Value.type "tuple" from rfl, if_neg (by first | decide | simp)]
        refine wpAny_bind (listItems_at ho hd (wpAny_pure ?_))
        exact wpAny_bind (h3 E _ (wpAny_pure hq))
/-- alike values that are no None can be sorted -/
theorem SortsAt.alike {vs : List Value} {ds : List PyData} (e : EachIs (fun v d => ∃ as, Reads s.heap v d as) vs ds) (hal : AllAlike ds) (hn : ∀ d ∈ ds, d ≠ .none) (hu : ∀ d, d ∈ ds → A.units + d.depth < cLine) : SortsAt prog w A s (dataKind s.heap ds) vs := by
  by_cases hS : Sortable ds
  · exact SortsAt.data e hal hS hu
  have room : ∀ {d d' : PyData}, d ∈ ds → A.units + min d.depth d'.depth < cLine := fun {d d'} hd => Nat.lt_of_le_of_lt (Nat.add_le_add_left (Nat.min_le_left _ _) _) (hu d hd)
  -- one of them is a tuple, so all are; one is empty
  have hex : ∃ d xs, d ∈ ds ∧ d = PyData.tuple xs := Classical.byContradiction fun hno => hS (.inr fun d hd => ⟨hn d hd, fun xs e => hno ⟨d, xs, hd, e⟩⟩)
  have hall : ∀ d ∈ ds, ∃ xs, d = PyData.tuple xs := fun d hd => by
    obtain ⟨d0, xs0, h0, rfl⟩ := hex
    have := hal d hd _ h0
    cases d <;> simp [PySem.W.alike] at this
    exact ⟨_, rfl⟩
  have hemp : PyData.tuple [] ∈ ds := Classical.byContradiction fun hno => hS (.inl fun d hd => by
    obtain ⟨xs, rfl⟩ := hall d hd
    cases xs with
    | nil => exact absurd hd hno
    | cons x r => exact ⟨x, r, rfl⟩)
  obtain ⟨os, h1, h2, h3⟩ := firsts_tup (M := model prog w) (A := A) e hall
  have lts : ∀ f : Bool, ∀ (E : Value → Shared → Prop) (x y : Value) (a b : (dataKind s.heap ds).α) (Q : Bool → Shared → Prop), (dataKind s.heap ds).keyOf x = some a → (dataKind s.heap ds).keyOf y = some b → Q ((dataKind s.heap ds).blt a b) s → wpAny (model prog w) A (oneLt' f x y) Q E s := fun f E x y a b Q ha hb hq => by
    obtain ⟨d, as, hd, ra, rfl⟩ := dataKind_inv ha
    obtain ⟨d', as', hd', rb, rfl⟩ := dataKind_inv hb
    exact oneLt_alikeT ra rb (hal d hd d' hd') (hn d hd) (room hd) hq
  refine ⟨fun v hv => ?_, if (os.toArray[0]?.bind id).isSome = true then general' else oneType', ?_, fun hlen E Q hq => ?_⟩
  · obtain ⟨d, hd, as, r⟩ := e.left v hv
    exact ⟨_, dataKind_some hal hd r⟩
  · split
    · intro E x y a b Q ha hb hq
      rw [keyLt'_general]
      exact lts false E x y a b Q ha hb hq
    · intro E x y a b Q ha hb hq
      rw [keyLt'_oneType]
      exact lts true E x y a b Q ha hb hq
  · rw [kat_kind_eq, List.mapM_toArray, map_eq_pure_bind]
    refine wpAny_bind (wpAny_bind (h3 _ _ (wpAny_pure ?_)))
    have ha : (os.toArray.all fun x => x.isSome) = false := by rw [List.all_toArray]; exact h1 hemp
    rw [if_neg (by rw [ha]; exact Bool.false_ne_true)]
    by_cases h0 : (os.toArray[0]?.bind id).isSome = true
    · rw [if_pos h0] at hq ⊢
      exact wpAny_pure hq
    · rw [if_neg h0] at hq ⊢
      rw [oneTypeOnly'_eq, List.mapM_toArray, map_eq_pure_bind]
      refine wpAny_bind (wpAny_bind (wpAny_bind (kas_mapM (r := Value.type "tuple") _ (fun v hv Q' hq' => ?_) (wpAny_pure ?_))))
      · obtain ⟨d, hd, as, r⟩ := e.left v hv
        obtain ⟨xs, rfl⟩ := hall d hd
        exact (looks_reads r).here hq'
      · obtain ⟨v1, vr, rfl⟩ : ∃ v1 vr, vs = v1 :: vr := by
          cases vs with
          | nil => simp at hlen
          | cons v1 vr => exact ⟨v1, vr, rfl⟩
        have hall2 : ((List.map (fun _ => Value.type "tuple") (v1 :: vr)).toArray.all fun x => x == Value.type "tuple") = true := by
          simp only [List.all_toArray, List.all_map, List.all_eq_true]
          intro _ _
          exact beq_self_eq_true _
        have h00 : (List.map (fun _ => Value.type "tuple") (v1 :: vr)).toArray[0]? = some (Value.type "tuple") := by simp
        rw [h00]
        simp only [hall2, if_true]
        exact wpAny_pure (wpAny_pure hq)
end
end PySem.W

/-! ### in order by putting in -/
namespace PySem.W
open PySem PySem.Calls PyProof.Rows SeqAt
section
variable {β : Type}
def insB (le : β → β → Bool) (x : β) : List β → List β
  | [] => [x]
  | y :: r => if le x y then x :: y :: r else y :: insB le x r
def isortB (le : β → β → Bool) : List β → List β
  | [] => []
  | x :: r => insB le x (isortB le r)
theorem insB_at {le : β → β → Bool} {x : β} : ∀ {l₁ l₂ : List β}, (∀ b ∈ l₁, (!le x b) = true) → (∀ b ∈ l₂, le x b = true) → insB le x (l₁ ++ l₂) = l₁ ++ x :: l₂
  | [], [], _, _ => rfl
  | [], y :: r, _, h => by
    show (if le x y then x :: y :: r else _) = _
    rw [if_pos (h y (List.mem_cons_self ..))]
    rfl
  | y :: l₁, l₂, h, g => by
    have hy : le x y = false := by
      have := h y (List.mem_cons_self ..)
      simpa using this
    show (if le x y then _ else y :: insB le x (l₁ ++ l₂)) = _
    rw [if_neg (by rw [hy]; exact Bool.false_ne_true), insB_at (fun b hb => h b (List.mem_cons_of_mem _ hb)) g]
    rfl
theorem isort_eq {le : β → β → Bool} (tr : ∀ (a b c : β), le a b = true → le b c = true → le a c = true) (tot : ∀ (a b : β), (le a b || le b a) = true) : ∀ l : List β, isortB le l = l.mergeSort le
  | [] => by simp [isortB]
  | x :: r => by
    obtain ⟨l₁, l₂, e1, e2, h⟩ := List.mergeSort_cons tr tot x r
    show insB le x (isortB le r) = _
    rw [isort_eq tr tot r, e2, e1]
    refine insB_at h fun b hb => ?_
    have hp := List.pairwise_mergeSort tr tot (x :: r)
    rw [e1] at hp
    exact (List.pairwise_cons.mp (List.pairwise_append.mp hp).2.1).1 b hb
theorem isort_data (enc : β → PyData) (l : List β) : l.mergeSort (dataLe false enc) = isortB (dataLe false enc) l := by
  have t := sortLe_total (listOrd itemOrd) false fun b : β => keyToks (enc b)
  refine (isort_eq (fun a b c => t.trans a b c) (fun a b => ?_) l).symm
  rcases t.total a b with h | h
  · show (sortLe _ _ _ a b || sortLe _ _ _ b a) = true
    rw [h]; rfl
  · show (sortLe _ _ _ a b || sortLe _ _ _ b a) = true
    rw [h, Bool.or_true]
end
section
variable {prog : Program} {w : World} {A : Around} {E : Value → Shared → Prop} {s : Shared}
theorem collect_tup {l : Addr} {vs : List Value} {Q : List Value → Shared → Prop} (hl : s.heap.IsTuple l vs.toArray)
    (h : Q vs { s with heap := (s.heap.push (seqObj "list" #[] 0)).update s.heap.objs.size (Obj.mapSeq (· ++ vs.toArray)) }) (hsz : vs.length ≤ sizeLine) :
    wpAny (model prog w) A (collect (.ref l)) Q E s := by
  obtain ⟨o, ho, hc, n, hd⟩ := id hl
  unfold collect
  refine wpAny_bind (wpAny_runValue (codeAny_builtin entry_proto_collect' ?_))
  show wpAny _ _ (do again (.builtin "list.__iadd__" ⟨[← newList [], .ref l], []⟩)) _ _ s
  refine wpAny_bind (wpAny_newList (wpAny_pure ⟨Code.quiet_builtin _ (by decide +kernel), codeAny_builtin entry_list_iadd' ?_⟩))
  show wpAny _ _ (Builtin.List.listExtendWith (.ref s.heap.objs.size) (.ref l) (.ref s.heap.objs.size)) _ _ { s with heap := s.heap.push (seqObj "list" #[] 0) }
  unfold Builtin.List.listExtendWith
  have ho' : (s.heap.push (seqObj "list" #[] 0)).get? l = some o := Heap.get?_push_of_some _ ho
  refine wpAny_bind (wpAny_typeOf (T := "tuple") ⟨o, ho', hc⟩ ?_)
  have ht : (Value.type "tuple" == Value.type "tuple") = true := by rfl
  rw [if_pos (by rw [ht]; simp)]
  refine wpAny_bind (listItems_at ho' hd ?_)
  refine wpAny_bind (listItems_at (xs := #[]) (n := 0) (Heap.get?_push_size _ rfl) rfl ?_)
  rw [if_neg (by simp)]
  refine wpAny_bind (listUpdate_at (xs := #[]) (n := 0) (Heap.get?_push_size _ rfl) rfl ?_ (Nat.zero_le _) (by show (#[] ++ vs.toArray).size ≤ sizeLine + 1; simp only [Array.size_append, List.size_toArray, List.length_nil]; omega))
  refine wpAny_pure ?_
  show wpAny (model prog w) A (do
      let o ← load s.heap.objs.size
      match o.data with
      | .seq xs _ => pure xs.toList
      | _ => unsupported "internal:collect") Q E { s with heap := (s.heap.push (seqObj "list" #[] 0)).update s.heap.objs.size (Obj.mapSeq (· ++ vs.toArray)) }
  refine wpAny_bind (wpAny_load (get?_update_seq (Heap.get?_push_size _ rfl) _) ?_)
  show wpAny _ _ (pure ((#[] : Array Value) ++ vs.toArray).toList) Q E _
  rw [show ((#[] : Array Value) ++ vs.toArray).toList = vs by simp]
  exact wpAny_pure h

/-- what a walk of r gathers -/
def Gathers (prog : Program) (w : World) (A : Around) (s : Shared) (r : Addr) (vs : List Value) : Prop := ∀ (E' : Value → Shared → Prop) (R : List Value → Shared → Prop), (∀ (h' : Heap) (tk : Nat), (∀ b o, s.heap.get? b = some o → h'.get? b = some o) → R vs { s with heap := h', toks := tk }) → wpAny (model prog w) A (collect (.ref r)) R E' s
theorem push_upd_old {h : Heap} {o : Obj} {f : Obj → Obj} {b : Addr} {u : Obj} (e : h.get? b = some u) : ((h.push o).update h.objs.size f).get? b = some u := by
  rw [Heap.get?_update_ne _ _ _ _ (Nat.ne_of_lt (Heap.lt_size e)), Heap.get?_push_ne _ _ _ (Nat.ne_of_lt (Heap.lt_size e))]
  exact e
theorem gathers_list {l : Addr} {vs : List Value} (hl : s.heap.IsList l vs.toArray) (hz : vs.length ≤ sizeLine) : Gathers prog w A s l vs := fun E' R h => collect_list hl (h _ s.toks fun b o e => push_upd_old e) hz
theorem gathers_tup {l : Addr} {vs : List Value} (hl : s.heap.IsTuple l vs.toArray) (hz : vs.length ≤ sizeLine) : Gathers prog w A s l vs := fun E' R h => collect_tup hl (h _ s.toks fun b o e => push_upd_old e) hz
theorem gathers_dict {d : Addr} {es : Array DictEntry} {ep : Nat} (hh : A.handled = none) (lo : (d == sysModules) = false) (hm : s.heap.DictRaw d es ep) (hz : es.size ≤ sizeLine) : Gathers prog w A s d (es.toList.map (·.key)) := fun E' R h =>
  kdu_collect (KdlSrc.rawDict lo) hh hm hz fun h' tk acc hk hacc => by
    have e : acc.toList = es.toList.map (·.key) := by
      refine List.ext_getElem? fun i => ?_
      by_cases hi : i < es.size
      · have hlt : i < acc.toList.length := by rw [Array.length_toList, hacc.1]; exact hi
        obtain ⟨hi', e⟩ := hacc.2 i (acc.toList[i]) (by rw [← Array.getElem?_toList]; exact List.getElem?_eq_getElem hlt)
        rw [List.getElem?_eq_getElem hlt, e, List.getElem?_map, Array.getElem?_toList, Array.getElem?_eq_getElem hi]
        rfl
      · rw [List.getElem?_eq_none (by rw [Array.length_toList, hacc.1]; omega), List.getElem?_eq_none (by rw [List.length_map, Array.length_toList]; omega)]
    rw [e]
    exact h h' tk hk
theorem sorted_gathers {β : Type} {r : Addr} {vs : List Value} {bs : List β} {enc : β → PyData} {Q : Value → Shared → Prop} (G : Gathers prog w A.in1 s r vs) (er : EachIs (fun v b => ∃ as, Reads s.heap v (enc b) as) vs bs) (hal : AllAlike (bs.map enc)) (hn : ∀ b ∈ bs, enc b ≠ .none) (hL : vs.length ≤ sizeLine)
    (hu : ∀ b ∈ bs, A.units + 2 + (enc b).depth < cLine)
    (h : ∀ (h1 h' : Heap) (tk ep : Nat) (out : List Value), (∀ b o, s.heap.get? b = some o → h1.get? b = some o) → (∀ b o, h1.get? b = some o → h'.get? b = some o) → h'.get? h1.objs.size = some (seqObj "list" out.toArray ep) → (∀ R : Value → β → Prop, EachIs R vs bs → EachIs R out (isortB (dataLe false enc) bs)) → out.length = vs.length → Q (.ref h1.objs.size) { s with heap := h', toks := tk }) :
    wpAny (model prog w) A (call (.builtin "sorted") [.ref r]) Q E s := by
  refine call_function_entry kind_sorted plain_sorted entry_sorted (args_sorted1 _) ?_
  unfold Builtin.«sorted»
  refine wpAny_bind (m := checkCount "sorted" 1 1 _) (wpAny_pure ?_)
  refine wpAny_bind (G _ _ fun h1 tk hk => ?_)
  refine wpAny_bind (wpAny_newList ?_ hL)
  have ho : (h1.push (seqObj "list" vs.toArray 0)).get? h1.objs.size = some (seqObj "list" vs.toArray 0) := Heap.get?_push_size _ rfl
  have old : ∀ b o, h1.get? b = some o → (sortingHeap (h1.push (seqObj "list" vs.toArray 0)) h1.objs.size vs).get? b = some o := fun b o e => sortingHeap_old (Nat.ne_of_lt (Heap.lt_size e)) (Heap.get?_push_of_some _ e)
  have er' : EachIs (fun v b => ∃ as, Reads (sortingHeap (h1.push (seqObj "list" vs.toArray 0)) h1.objs.size vs) v (enc b) as) vs bs := er.mono fun _ _ ⟨as, r⟩ => ⟨as, PyProof.Rows.Reads.keeps (fun b o e => old b o (hk b o e)) r⟩
  have S : SortsAt prog w A.in1.in1 { s with heap := sortingHeap (h1.push (seqObj "list" vs.toArray 0)) h1.objs.size vs, toks := tk } (dataKind (sortingHeap (h1.push (seqObj "list" vs.toArray 0)) h1.objs.size vs) (bs.map enc)) vs :=
    SortsAt.alike (s := { s with heap := sortingHeap (h1.push (seqObj "list" vs.toArray 0)) h1.objs.size vs, toks := tk }) (each_map (R := fun v d => ∃ as, Reads (sortingHeap (h1.push (seqObj "list" vs.toArray 0)) h1.objs.size vs) v d as) enc er') hal (fun d hd => by
      obtain ⟨b, hb, rfl⟩ := List.mem_map.mp hd
      exact hn b hb) (fun d hd => by
      obtain ⟨b, hb, rfl⟩ := List.mem_map.mp hd
      exact hu b hb)
  have hT : Shared.TypeIs { s with heap := h1.push (seqObj "list" vs.toArray 0), toks := tk } (.ref h1.objs.size) "list" := ⟨_, ho, rfl⟩
  refine wpAny_bind (wpAny_holding (wpAny_call_entry slot_list_sort hT entry_list_sort ?body (args_list_sort _)))
  case body =>
    refine list_sort_vals (s := { s with heap := h1.push (seqObj "list" vs.toArray 0), toks := tk }) ho S hL ?_
    refine ⟨_, rfl, wpAny_pure ⟨_, rfl, ?_⟩⟩
    obtain ⟨ep, hat⟩ := sortedHeap_at (out := (sortVals (dataKind (sortingHeap (h1.push (seqObj "list" vs.toArray 0)) h1.objs.size vs) (bs.map enc)) false vs vs).toArray) ho
    refine h h1 _ tk ep _ hk (fun b o e => ?_) hat (fun R e => ?_) (sortVals_length false rfl)
    · rw [sortedHeap_old (Nat.ne_of_lt (Heap.lt_size e)) (by rw [size_push']; exact Nat.lt_succ_of_lt (Heap.lt_size e))]
      exact Heap.get?_push_of_some _ e
    · have := sortVals_data (R := R) false e er' hal
      rw [isort_data] at this
      exact this
end
end PySem.W
end
/-! ## PV0c -/
section
set_option Elab.async false
set_option linter.all false
set_option maxRecDepth 100000
set_option maxHeartbeats 4000000
/-! More of the model: enumerate(a tuple), list.count of data, dict(pairs). -/
namespace L2
open PySem PySem.Spec PyProof.Rows RT
/-- the tuple at a as it stands at each turn, each item in a new pair -/
def IteT (K : PySem.W.Frag) (a : Addr) : It :=
  ⟨fun i H => ∃ (xs : List V) (x : V), SqT K H a xs ∧ xs[i]? = some x, fun i H v H' => ∃ T x, v = .ref T ∧ H T = none ∧ H' = upd H T (.tup [.int (i : Nat), x]) ∧ ∀ xs, SqT K H a xs → xs[i]? = some x, fun i H => ∃ xs : List V, SqT K H a xs ∧ xs.length = i⟩
theorem turn_enumT {P : Program} {w : World} {K : PySem.W.Frag} {elts : List Expr} {kk : Nat} {tpos : Pos} (a e it : Addr) :
    Turn P w K (.Tuple elts kk tpos) (IteT K a) [e, it] e (fun i h => (∃ old, IsEnum h e it ((i : Nat) : Int) old) ∧ h.IsTupleIter it a i ∧ e ≠ it ∧ a ≠ it ∧ e ≠ a) where
  mem := by simp
  obj := fun i h st b hb => by
    obtain ⟨⟨old, he⟩, ⟨o, ho, hc, hd⟩, _⟩ := st
    have e' : b = e ∨ b = it := by simpa using hb
    rcases e' with z | z
    · rw [z]; exact ⟨_, he, fun v q => nomatch q⟩
    · rw [z]; exact ⟨o, ho, fun v q => by rw [hd] at q; cases q⟩
  keep := fun i h h' st k => let ⟨⟨old, he⟩, hi, hne⟩ := st; ⟨⟨old, k e (by simp) _ he⟩, hi.at fun o q => k it (by simp) o q, hne⟩
  item := by
    intro X hP hw hK hc i pins s σ H E I hf st hg
    subst hP hw hK
    obtain ⟨⟨old, he⟩, hit, hne, hai, hea⟩ := st
    obtain ⟨xs, x, hq, hx⟩ := hg
    obtain ⟨its, rv, p, hz⟩ := I.tuple hq
    obtain ⟨u, hu, ru⟩ := rv.get hx
    have hel : e < s.heap.objs.size := Heap.lt_size he
    have hil : it < s.heap.objs.size := by obtain ⟨_, q, _⟩ := hit; exact Heap.lt_size q
    have hul : i < its.toArray.size := by
      have := (List.getElem?_eq_some_iff.mp hu).1
      simpa using this
    refine wpAny_pyNext_enum_itemD (Draws.tuple (A := X.A.in1) (by exact I.ok.hd hc) it a hai its.toArray) he ⟨hit, p⟩ hul hne (by simp [hne, hea]) fun x' h' tk hx' ho hs' hT hsz hk => ?_
    have eu : x' = u := by
      have e1 : its.toArray[i]? = some u := by simpa using hu
      exact (Option.some.inj (hx'.symm.trans e1))
    subst eu
    refine ⟨_, rfl, wpAny_letOwnedTupleGo_enum (s := { s with heap := h', toks := tk + 1 }) ho fun h'' he' sb => ?_⟩
    have hT2 : h''.get? s.heap.objs.size = some { cls := .type "tuple", data := .seq #[.int i tk, x'] } := (sb.2 _ (Nat.ne_of_gt hel)).trans hT
    have new : ObjOk X.prog X.w (upd H s.heap.objs.size (.tup [.int (i : Nat), x])) h'' s.heap.objs.size (.tup [.int (i : Nat), x]) :=
      ⟨by show 2 ≤ sizeLine; decide, [.int i tk, x'], .cons ⟨_, rfl⟩ (.cons ru .nil), ⟨_, hT2, rfl, _, rfl⟩⟩
    have I1 : Inv X pins σ (upd H s.heap.objs.size (.tup [.int (i : Nat), x])) { s with heap := h'', toks := tk + 1 } :=
      I.turnedNew (ch := [e, it]) (fun b ob hb q => (sb.2 b (fun z => hb (by simp [z]))).trans (hk b ob (fun z => hb (by simp [z])) (fun z => hb (by simp [z])) q)) hf (Nat.le_refl _) new
    refine ⟨.ref s.heap.objs.size, _, I1, rfl, ⟨_, x, rfl, I.hok.fresh (Nat.le_refl _), rfl, fun ys hy => by rw [I.tuple_inj hy hq]; exact hx⟩, ⟨⟨x', ?_⟩, hs'.1.at fun o q => (sb.2 it (Ne.symm hne)).trans q, hne, hai, hea⟩, fun b hb => ?_⟩
    · have e1 : ((i + 1 : Nat) : Int) = (i : Int) + 1 := by omega
      rw [e1]; exact he'
    · have hb' : b < s.heap.objs.size := by
        have e' : b = e ∨ b = it := by simpa using hb
        rcases e' with z | z
        · rw [z]; exact hel
        · rw [z]; exact hil
      rw [upd_ne (Nat.ne_of_lt hb')]
      exact (hf b hb).1
  done := by
    intro X hP hw hK hc i pins s σ H E I hf st hg
    subst hP hw hK
    obtain ⟨⟨old, he⟩, hit, hne, hai, hea⟩ := st
    obtain ⟨xs, hq, hx⟩ := hg
    obtain ⟨its, rv, p, hz⟩ := I.tuple hq
    obtain ⟨f0, f1, f2, f3, f4, f5⟩ := hf it (by simp)
    have hl := rv.length
    have e1 : its.toArray.size = i := by rw [List.size_toArray]; omega
    refine wpAny_pyNext_enum_endD (Draws.tuple (A := X.A.in1) (by exact I.ok.hd hc) it a hai its.toArray) he (by rw [e1]; exact ⟨hit, p⟩) fun h' eb => ⟨rfl, I.turned (t' := s.toks) (fun b o hb q => eb b o hb q) f0 f1 f3 f4 f5⟩
  self := fun A i s Q E st h => let ⟨⟨_, he⟩, _⟩ := st; wpAny_pyIter_enum he h
set_option maxHeartbeats 1000000 in
theorem meets_enumerate_newB1 {v : Value} {o : Obj} {H : Heap → Prop} (B : Begins v o H) :
    Meets (Builtin.«enumerate.__new__» ⟨[.type "enumerate", v], []⟩) (fun _ R s => H s.heap ∧
      R (.ok (.ret (.ref (s.heap.push o).objs.size))) { s with heap := (s.heap.push o).push { cls := .type "enumerate", data := .fields #[.none, .bool false, .ref s.heap.objs.size, rawInt 0, .none, .none] } }) :=
  .of_wp fun prog w A R s h => by
    obtain ⟨hp, g, d, tk, os⟩ := s; obtain ⟨h1, h⟩ := h
    have hsub := sub_enumerate
    have q1 : ∀ {A' : Around} {E : Value → Shared → Prop} {Q : Value → Shared → Prop}, Q (.ref hp.objs.size) ⟨hp.push o, g, d, tk, os⟩ → wpAny (model prog w) A' (pyIter v) Q E ⟨hp, g, d, tk, os⟩ :=
      fun q => B.iter prog w _ _ ⟨hp, g, d, tk, os⟩ _ h1 q
    wp_walk using q1
    refine wpAny_stack_any fun st => wpAny_pure ?_
    split
    · rename_i c _ _ _ _ _
      cases (c == Value.type "enumerate")
      · wp_walk using q1
        exact ⟨_, rfl, h⟩
      · wp_walk using q1
        exact ⟨_, rfl, h⟩
    · wp_walk using q1
      exact ⟨_, rfl, h⟩
section
variable {prog : Program} {w : World} {A : Around} {E : Value → Shared → Prop} {s : Shared}
theorem enum_begins1 {v : Value} {o : Obj} {H : Heap → Prop} {Q : Value → Shared → Prop} (B : Begins v o H) (h1 : H s.heap)
    (h : ∀ h', IsEnum h' (s.heap.objs.size + 1) s.heap.objs.size 0 .none → h'.get? s.heap.objs.size = some o → h'.objs.size = s.heap.objs.size + 2 →
      (∀ b o, s.heap.get? b = some o → h'.get? b = some o) → Q (.ref (s.heap.objs.size + 1)) { s with heap := h' }) :
    wpAny (model prog w) A (call (.type "enumerate") [v]) Q E s := by
  refine callType_new F.called_enumerate (by decide) (F.typeCall_enumerate_1 _) (F.newCall_enumerate_1 _) (fun obj => F.args_object_init_2 obj _) F.entry_enumerate_new
    (meets_enumerate_newB1 B) ⟨h1, ?_⟩
  have hz : (s.heap.push o).objs.size = s.heap.objs.size + 1 := Heap.size_push ..
  show _ ∧ _
  rw [hz]
  have he : IsEnum ((s.heap.push o).push { cls := .type "enumerate", data := .fields #[.none, .bool false, .ref s.heap.objs.size, rawInt 0, .none, .none] }) (s.heap.objs.size + 1) s.heap.objs.size 0 .none := by
    have := Heap.get?_push_size (s.heap.push o) (o := { cls := .type "enumerate", data := .fields #[.none, .bool false, .ref s.heap.objs.size, rawInt 0, .none, .none] }) rfl
    rw [hz] at this; exact this
  refine ⟨⟨_, he, rfl⟩, h _ he (Heap.get?_push_of_some _ (Heap.get?_push_size _ B.free)) (by rw [Heap.size_push, hz]) fun b o x => Heap.get?_push_of_some _ (Heap.get?_push_of_some _ x)⟩
end
def iEnumT (K : PySem.W.Frag) (ta : TA) : TI := fun σ H R => ta σ H fun vs H1 => ∃ a xs, vs = [.ref a] ∧ SqT K H1 a xs ∧ R (IteT K a) H1
theorem pi_enumT {X : Cx} {e : Expr} {ta : TA} {p pos tpos : Pos} {elts : List Expr} {kk : Nat} (hg : Gl X "enumerate") (hm : X.mg "enumerate" = none) (ha : PA X [e] ta) (hs : starEach [e] X.env = [(false, eval e X.env)] := by rfl) :
    PI X (.Tuple elts kk tpos) (.Call (.Name "enumerate" p) [e] [] pos) (iEnumT X.K ta) := by
  refine ⟨fun pins s σ H R I h => ?_⟩
  refine Call_ (ld_blt I hg hm boot_enumerate (PyProof.Rows.callWith_type1 (thn (ha.run pos pins s σ H _ I h) fun us s1 ⟨vs, H1, I1, r1, q1⟩ => ?_) hs rfl))
  obtain ⟨a, xs, ex, hq, q⟩ := q1
  subst ex
  cases r1 with
  | cons r rr =>
    cases rr
    cases r
    obtain ⟨its, rv, p', hz⟩ := I1.tuple hq
    refine enum_begins1 (begins_tuple a its.toArray) p' fun h' he hit hsz hk => wpAny_pyIter_enum he ?_
    have I2 : Inv X pins σ H1 { s1 with heap := h' } := I1.kept (t' := s1.toks) hk
    have hal : a < s1.heap.objs.size := by obtain ⟨_, y, _⟩ := id p'; exact Heap.lt_size y
    refine ⟨s1.heap.objs.size + 1, [s1.heap.objs.size + 1, s1.heap.objs.size], _, _, H1, rfl, I2, turn_enumT a (s1.heap.objs.size + 1) s1.heap.objs.size, ⟨⟨.none, he⟩, ⟨_, hit, rfl, rfl⟩, Nat.succ_ne_self _, Nat.ne_of_lt hal, Nat.ne_of_gt (Nat.lt_succ_of_lt hal)⟩, fun b hb => ?_, q⟩
    have e' : b = s1.heap.objs.size + 1 ∨ b = s1.heap.objs.size := by simpa using hb
    have hle : s1.heap.objs.size ≤ b := by
      rcases e' with z | z
      · rw [z]; exact Nat.le_add_right _ _
      · rw [z]; exact Nat.le_refl _
    exact I1.fpOk hle (I1.hok.fresh hle)
/-- l.count(x) over data -/
def rCountD (K : PySem.W.Frag) : V → List V → Hp → VK → Prop := fun x xs H Q => ∃ (a : Addr) (y : V) (d : PyData) (ds : List PyData), x = V.ref a ∧ xs = [y] ∧ Dp K H (V.ref a) (.list ds) ∧ Dp K H y d ∧
  SeqAt.shaped (.list ds) = true ∧ SeqAt.shaped d = true ∧ d.depth ≤ 32 ∧ Q (.int (ds.countP fun z => PyData.eqv z d : Nat)) H
theorem mt_countD {X : Cx} (hu : X.A.units + 64 < cLine) : MtR X "list.count" (rCountD X.K) := by
  intro pins s σ H x xs v us Q I rx rxs h
  obtain ⟨a, y, d, ds, rfl, rfl, hl, hy, sl, sd, hd32, q⟩ := h
  cases rx
  cases rxs with
  | cons ry rt =>
    rename_i uy ut
    cases rt
    obtain ⟨bs, r1⟩ := Dp.reads I d y uy hy ry
    have hxs : PyData.canLayAll0 ds = true := SeqAt.canLay_of_shaped sl
    have hroom : X.A.units + 1 + min (PyData.depthAll ds) d.depth < cLine := by omega
    cases hl with
    | lst hs ha =>
      obtain ⟨its, rv, ⟨⟨cls, dd, data, sls⟩, n, ho, hc, hdn, hdt⟩, hlen⟩ := I.list hs
      simp only at hc hdt
      subst hc hdt
      obtain ⟨as, h4⟩ := Dp.readsAll I ds _ its ha rv
      have hmap : its.map (SeqAt.readOf s.heap) = ds := SeqAt.readsAll_map ds its as hxs h4
      refine call_meets PySem.F.slot_list_count ⟨_, ho, rfl⟩ PySem.F.entry_list_count (PySem.F.args_list_count_2 _ _)
        (SeqAt.list_countAt a its.toArray n dd sls uy (fun u => PyData.eqv (SeqAt.readOf s.heap u) d)) ⟨ho, SeqAt.items_eqAt (vs := its.toArray) (show ReadsAll s.heap its.toArray.toList ds as from h4) r1 hxs (SeqAt.canLay_of_shaped sd) hroom, ?_⟩
      have ec : its.toArray.toList.countP (fun u => PyData.eqv (SeqAt.readOf s.heap u) d) = ds.countP fun z => PyData.eqv z d := by
        rw [← hmap, List.countP_map]
        rfl
      refine ⟨.int (ds.countP fun z => PyData.eqv z d : Nat), H, I.tok _, ⟨s.toks, ?_⟩, q⟩
      show Value.int ((its.toArray.toList.countP _ : Nat) : Int) s.toks = Value.int ((ds.countP _ : Nat) : Int) s.toks
      rw [ec]
end L2
end
/-! ## PV1 -/
section
set_option Elab.async false
set_option linter.all false
set_option maxRecDepth 100000
set_option maxHeartbeats 4000000
/-! A plain evaluator of a part of Python by values: data, cells (lists that change), expressions, statements. -/
namespace PV
open PySem L2

inductive D where
  | non | bl (b : Bool) | int (i : Int) | str (s : Str)
  | tup (l : List D) | lst (l : List D) | frz (l : List D)
  | cell (n : Nat) | lam (n : Nat)
  | dct (ks vs : List D)
  | obj (c : Nat) (fn : List Str) (fs : List D)

/-- what a cell holds -/
inductive C where
  | lst (l : List D) | dct (ks vs : List D) | rcd (c : Nat) (fn : List Str) (fs : List D)
/-- the cells: a list or a dict that stands and may change, or none (given up) -/
abbrev Gs := List (Option C)

inductive R (α : Type) where
  | ok (a : α) (G : Gs)
  | exc (c : Nat) (G : Gs)
  | bad
def R.bind {α β : Type} (r : R α) (f : α → Gs → R β) : R β := match r with
  | .ok a G => f a G
  | .exc c G => .exc c G
  | .bad => .bad
def R.of {α : Type} (o : Option α) (G : Gs) : R α := match o with
  | some a => .ok a G
  | none => .bad
/-- no exception may pass -/
def R.calm {α : Type} : R α → R α
  | .ok a G => .ok a G
  | .exc _ _ => .bad
  | .bad => .bad

mutual
def toPy : D → Option PyData
  | .non => some .none
  | .bl b => some (.bool b)
  | .int i => some (.int i)
  | .str s => some (.str s)
  | .tup l => (toPys l).map .tuple
  | .lst l => (toPys l).map .list
  | .frz l => (toPys l).map .list
  | .cell _ => none
  | .lam _ => none
  | .dct _ _ => none
  | .obj _ _ _ => none
def toPys : List D → Option (List PyData)
  | [] => some []
  | d :: ds => match toPy d, toPys ds with
    | some p, some ps => some (p :: ps)
    | _, _ => none
end

/-! keys of dicts -/
mutual
def toKey : D → Option NestedKey
  | .non => some .none
  | .bl b => some (.num (if b = true then 1 else 0))
  | .int i => some (.num i)
  | .str s => some (.text s)
  | .tup l => match toKeys l with
    | some ks => some (.tup ks)
    | none => none
  | .lst _ => none
  | .frz _ => none
  | .cell _ => none
  | .lam _ => none
  | .dct _ _ => none
  | .obj _ _ _ => none
def toKeys : List D → Option (List NestedKey)
  | [] => some []
  | d :: ds => match toKey d, toKeys ds with
    | some p, some ps => some (p :: ps)
    | _, _ => none
end
/-- a tuple's key -/
def keyT (d : D) : Option NestedKey := match d with
  | .tup l => match toKeys l with
    | some ks => if (NestedKey.tup ks).depth ≤ 8 then some (.tup ks) else none
    | none => none
  | _ => none
def isKey (k : NestedKey) (d : D) : Bool := match keyT d with
  | some k' => NestedKey.beq k' k
  | none => false
def getK (k : NestedKey) : List D → List D → Option D
  | d :: ds, v :: vs => if isKey k d then some v else getK k ds vs
  | _, _ => none
/-- the value stored at a key that is there -/
def putK (k : NestedKey) (x : D) : List D → List D → List D
  | d :: ds, v :: vs => (if isKey k d then x else v) :: putK k x ds vs
  | _, vs => vs
def storeK (k : NestedKey) (d x : D) (ks vs : List D) : List D × List D := if (getK k ks vs).isSome then (ks, putK k x ks vs) else (ks ++ [d], vs ++ [x])

inductive Bop where | add | sub | mul | fdiv | mod | pow
  deriving DecidableEq
inductive Cop where | eq | ne | lt | le | gt | ge | isIn | notIn | isN | notN
  deriving DecidableEq
inductive Pr where | len | abs | max1 | min1 | max2 | min2 | sum | list | tuple | int | str | gcd | sorted | all1
  deriving DecidableEq
inductive Mt where | partition | removeprefix | strip1 | join | split1 | count
  deriving DecidableEq

abbrev okMul (i j : Int) : Bool := decide (i.natAbs.log2 + j.natAbs.log2 < 100000000)
abbrev okDiv (j : Int) : Bool := (decide (0 < j) && decide (j.natAbs.log2 < 9000)) || (decide (j ≠ 0) && decide (j.natAbs < 1073741824))

def binD : Bop → D → D → Option D
  | .add, .int i, .int j => some (.int (i + j))
  | .add, .str a, .str b => if a.length + b.length ≤ sizeLine then some (.str (a ++ b)) else none
  | .add, .tup a, .tup b => if a.length + b.length ≤ sizeLine then some (.tup (a ++ b)) else none
  | .add, .lst a, .lst b => if a.length + b.length ≤ sizeLine then some (.lst (a ++ b)) else none
  | .sub, .int i, .int j => some (.int (i - j))
  | .mul, .int i, .int j => if okMul i j then some (.int (i * j)) else none
  | .mul, .lst a, .int k => if 0 ≤ k ∧ k ≤ 1000 ∧ a.length ≤ 1000 then some (.lst (List.replicate k.toNat a).flatten) else none
  | .mul, .tup a, .int k => if -1000000 ≤ k ∧ k ≤ 1000 ∧ a.length ≤ 1000 then some (.tup (List.replicate k.toNat a).flatten) else none
  | .fdiv, .int i, .int j => if okDiv j then some (.int (i.fdiv j)) else none
  | .mod, .int i, .int j => if j ≠ 0 then some (.int (i.fmod j)) else none
  | .pow, .int i, .int j => if 0 ≤ j ∧ j ≤ 1000000 ∧ i.natAbs < 2 ^ 64 then some (.int (i ^ j.toNat)) else none
  | _, _, _ => none

def eqD (a b : D) : Option Bool := match toPy a, toPy b with
  | some p, some q => if SeqAt.shaped p && SeqAt.shaped q then some (PyData.eqv p q) else none
  | _, _ => none

def isFlat : D → Bool
  | .non | .bl _ | .int _ | .str _ => true
  | _ => false

def isNonD : D → Bool
  | .non => true
  | _ => false
def cmpD : Cop → D → D → Option Bool
  | .eq, a, b => eqD a b
  | .ne, a, b => (eqD a b).map (!·)
  | .lt, .int i, .int j => some (decide (i < j))
  | .le, .int i, .int j => some (decide (i ≤ j))
  | .gt, .int i, .int j => some (decide (j < i))
  | .ge, .int i, .int j => some (decide (j ≤ i))
  | .isIn, .str i, .str j => some (!(Builtin.Str.occurrences j i 0 j.length 1).isEmpty)
  | .notIn, .str i, .str j => some (!(!(Builtin.Str.occurrences j i 0 j.length 1).isEmpty))
  | .isN, a, .non => some (isNonD a)
  | .notN, a, .non => some (!isNonD a)
  | _, _, _ => none

def intsD : List D → Option (List Int)
  | [] => some []
  | .int i :: r => (intsD r).map (i :: ·)
  | _ :: _ => none
def blsD : List D → Option (List Bool)
  | [] => some []
  | .bl i :: r => (blsD r).map (i :: ·)
  | _ :: _ => none
def strsD : List D → Option (List Str)
  | [] => some []
  | .str i :: r => (strsD r).map (i :: ·)
  | _ :: _ => none

def maxI : List Int → Option Int
  | [] => none
  | x :: r => some (r.foldl (fun a b => if b > a then b else a) x)
def minI : List Int → Option Int
  | [] => none
  | x :: r => some (r.foldl (fun a b => if b < a then b else a) x)

def lstOf : D → Option (List D)
  | .lst l => some l
  | .frz l => some l
  | _ => none
def seqOf : D → Option (List D)
  | .tup l => some l
  | .lst l => some l
  | .frz l => some l
  | _ => none

/-- what may be sorted: a list, a tuple, a dict's keys, a cell -/
def srcOf (G : Gs) : D → Option (List D)
  | .tup l => some l
  | .lst l => some l
  | .frz l => some l
  | .dct ks _ => some ks
  | .cell n => match G[n]? with
    | some (some (.lst l)) => some l
    | some (some (.dct ks _)) => some ks
    | _ => none
  | _ => none
/-- what may be walked -/
def walkOf : D → Option (List D)
  | .tup l => some l
  | .lst l => some l
  | .frz l => some l
  | .str s => some (s.cps.toList.map fun c => .str ⟨#[c]⟩)
  | _ => none

def pLen (G : Gs) : List D → Option D
  | [.str s] => if s.length ≤ sizeLine then some (.int s.length) else none
  | [.cell n] => match G[n]? with
    | some (some (.lst l)) => some (.int l.length)
    | some (some (.dct ks _)) => some (.int ks.length)
    | _ => none
  | [.dct ks _] => some (.int ks.length)
  | [d] => (seqOf d).map fun l => .int l.length
  | _ => none
def pAbs : List D → Option D
  | [.int i] => some (.int (if i < 0 then -i else i))
  | _ => none
def pMax2 : List D → Option D
  | [.int i, .int j] => some (.int (if j > i then j else i))
  | _ => none
def pMin2 : List D → Option D
  | [.int i, .int j] => some (.int (if j < i then j else i))
  | _ => none
def pMax1 : List D → Option D
  | [d] => ((lstOf d).bind intsD).bind fun ns => (maxI ns).map .int
  | _ => none
def pMin1 : List D → Option D
  | [d] => ((lstOf d).bind intsD).bind fun ns => (minI ns).map .int
  | _ => none
def pSum : List D → Option D
  | [d] => ((lstOf d).bind intsD).map fun ns => .int ns.sum
  | _ => none
def pList : List D → Option D
  | [d] => (seqOf d).map .lst
  | _ => none
def pTuple : List D → Option D
  | [d] => (seqOf d).map .tup
  | _ => none
def pInt : List D → Option D
  | [.int i] => some (.int i)
  | [.bl b] => some (.int (if b then 1 else 0))
  | [.str s] => match PySem.intText? s with
    | some n => if s.length ≤ 640 then some (.int n) else none
    | none => none
  | _ => none
def pStr : List D → Option D
  | [.int i] => if i.natAbs.log2 < 1920 then some (.str (toString i)) else none
  | _ => none
def pGcd : List D → Option D
  | [.int a, .int b] => some (.int (Nat.gcd a.natAbs b.natAbs : Nat))
  | _ => none
/-- whole numbers in order -/
def insI (x : Int) : List Int → List Int
  | [] => [x]
  | y :: r => if x ≤ y then x :: y :: r else y :: insI x r
def sortI : List Int → List Int
  | [] => []
  | x :: r => insI x (sortI r)
/-- data in order -/
def insD (x : D × List (Int ⊕ List Nat)) : List (D × List (Int ⊕ List Nat)) → List (D × List (Int ⊕ List Nat))
  | [] => [x]
  | y :: r => if PyProof.Rows.lexLt PyProof.Rows.itemOrd y.2 x.2 then y :: insD x r else x :: y :: r
def sortD : List (D × List (Int ⊕ List Nat)) → List (D × List (Int ⊕ List Nat))
  | [] => []
  | x :: r => insD x (sortD r)
/-- data that can be put in order: alike, none is None, none too deep -/
def fitS (ps : List PyData) : Bool := (ps.all fun p => ps.all fun q => PySem.W.alike p q) && (ps.all fun p => decide (p.depth ≤ 32) && (match p with | .none => false | _ => true))
def sortL (l : List D) : Option (List D) := match toPys l with
  | some ps => if fitS ps = true ∧ l.length ≤ sizeLine then some ((sortD (l.zip (ps.map PySem.W.keyToks))).map (·.1)) else none
  | none => none
def pSorted (G : Gs) : List D → Option D
  | [d] => ((srcOf G d).bind sortL).map .lst
  | _ => none
def pAll : List D → Option D
  | [d] => ((lstOf d).bind blsD).map fun bs => .bl (bs.all id)
  | _ => none
/-- the keys r[0] * (c // r[1]) -/
def keysQ (c : Int) : List D → Option (List Int)
  | [] => some []
  | .tup [.int n, .int d] :: r => if d ≠ 0 ∧ d.natAbs < 1073741824 ∧ n.natAbs.log2 + (c.fdiv d).natAbs.log2 < 1000000 then (keysQ c r).map (n * c.fdiv d :: ·) else none
  | _ :: _ => none
def insQ (x : D × Int) : List (D × Int) → List (D × Int)
  | [] => [x]
  | y :: r => if x.2 ≤ y.2 then x :: y :: r else y :: insQ x r
def srtQ : List (D × Int) → List (D × Int)
  | [] => []
  | x :: r => insQ x (srtQ r)
def sortQD (G : Gs) (c : Int) (x : D) : Option D := (srcOf G x).bind fun l => (keysQ c l).bind fun ks => if l.length ≤ sizeLine then some (.lst ((srtQ (l.zip ks)).map (·.1))) else none
def prim (G : Gs) (p : Pr) (ds : List D) : Option D := match p with
  | .len => pLen G ds
  | .abs => pAbs ds
  | .max1 => pMax1 ds
  | .min1 => pMin1 ds
  | .max2 => pMax2 ds
  | .min2 => pMin2 ds
  | .sum => pSum ds
  | .list => pList ds
  | .tuple => pTuple ds
  | .int => pInt ds
  | .str => pStr ds
  | .gcd => pGcd ds
  | .sorted => pSorted G ds
  | .all1 => pAll ds

def joinSize (a : Str) (ys : List Str) : Bool := decide ((ys.map (·.length)).sum + ys.length * a.length ≤ 16777216)

def mPartition (a : Str) : List D → Option D
  | [.str b] => if (b.length == 0) = false ∧ a.length ≤ sizeLine then some (.tup [.str (Txt.partition a b).1, .str (Txt.partition a b).2.1, .str (Txt.partition a b).2.2]) else none
  | _ => none
def mRemove (a : Str) : List D → Option D
  | [.str b] => if a.length ≤ sizeLine then some (.str (Txt.removeprefix a b)) else none
  | _ => none
def mStrip (a : Str) : List D → Option D
  | [.str b] => if a.length ≤ sizeLine then some (.str (Txt.stripChars a b)) else none
  | _ => none
def mJoin (a : Str) : List D → Option D
  | [d] => ((seqOf d).bind strsD).bind fun ys => if joinSize a ys then some (.str (Txt.join a ys)) else none
  | _ => none
def mSplit (a : Str) : List D → Option D
  | [.str b] => if (b.length == 0) = false ∧ a.length + 2 ≤ sizeLine then some (.lst ((Txt.split a b).map .str)) else none
  | _ => none
def mCount (a : Str) : List D → Option D
  | [.str b] => some (.int (Txt.count a b))
  | _ => none
def meth (m : Mt) (a : Str) (ds : List D) : Option D := match m with
  | .partition => mPartition a ds
  | .removeprefix => mRemove a ds
  | .strip1 => mStrip a ds
  | .join => mJoin a ds
  | .split1 => mSplit a ds
  | .count => mCount a ds

abbrev Env := List (Option D)

inductive Tg where
  | nm (i : Nat)
  | tp (l : List Tg)

mutual
inductive E where
  | var (i : Nat) | con (d : D)
  | bin (o : Bop) (a b : E) | not (a : E) | neg (a : E)
  | and (a b : E) | or (a b : E) | ite (c a b : E)
  | cmp (o : Cop) (a b : E) | chain (o1 o2 : Cop) (a b c : E)
  | tup (es : List E) | lst (es : List E) | lstC (es : List E)
  | call (f : Nat) (es : List E)
  | prim (p : Pr) (es : List E) | meth (m : Mt) (a : E) (es : List E)
  | ix (a b : E) | sl (a : E) (lo hi : Option E)
  | comp (own : List Nat) (el : E) (tg : Tg) (it : It) (cs : List E)
  | told (b : E) | lam (k : Nat)
  | fv (a : E) | fmt (es : List E)
  | take (a : E) | app (a b : E) | rev (a : E)
  | comp2 (own own2 : List Nat) (el : E) (t1 : Tg) (i1 : It) (t2 : Tg) (i2 : It) (cs : List E)
  | dctC | dget (a b c : E) | isTup (a : E) | rngT (a : E) | rngL (a : E) | bad
  | listC (a : E) | mulC (a b : E) | pop (a : E) | dctP (a : E) | lcount (a b : E)
  | fld (a : E) (f : Str)
  | mth (c g : Nat) (m : Str) (o : E) (es : List E)
  | make (c g : Nat) (es : List E)
  | sortQ (a : E) (k : Nat) (c : Int)
inductive It where
  | seq (a : E) | rng1 (a : E) | rng2 (a b : E) | zip2 (a b : E) | enum (a : E) | revI (a : E)
end

mutual
def assign (ρ : Env) : Tg → D → Option Env
  | .nm i, d => some (ρ.set i (some d))
  | .tp l, .tup ds => assignL ρ l ds
  | .tp l, .lst ds => assignL ρ l ds
  | .tp _, _ => none
def assignL (ρ : Env) : List Tg → List D → Option Env
  | [], [] => some ρ
  | t :: ts, d :: ds => match assign ρ t d with
    | some ρ' => assignL ρ' ts ds
    | none => none
  | _, _ => none
end

def wipeE (ρ : Env) : List Nat → Env
  | [] => ρ
  | v :: vs => (wipeE ρ vs).set v none

structure Sem where
  cal : Nat → List D → Gs → R D
  lam : Nat → Gs → R D
  told : Nat → Option Str
  /-- the class has no name of its own like this field's -/
  flds : Nat → Str → Bool

def compL (f : D → Gs → R (Option D)) : List D → Gs → R (List D)
  | [], G => .ok [] G
  | d :: ds, G => (f d G).bind fun o G1 => (compL f ds G1).bind fun r G2 => match o with
    | some y => .ok (y :: r) G2
    | none => .ok r G2

def compL2 (f : D → Gs → R (List D)) : List D → Gs → R (List D)
  | [], G => .ok [] G
  | d :: ds, G => (f d G).bind fun o G1 => (compL2 f ds G1).bind fun r G2 => .ok (o ++ r) G2

def rangeD (lo hi : Int) : List D := (List.range (hi - lo).toNat).map fun (k : Nat) => .int (lo + (k : Int))

def atD {α : Type} (xs : List α) (i : Int) : Option α := atI xs i

def ixD (G : Gs) : D → D → Option D
  | .tup l, .int i => atI l i
  | .lst l, .int i => atI l i
  | .frz l, .int i => atI l i
  | .cell n, .int i => match G[n]? with
    | some (some (.lst l)) => atI l i
    | _ => none
  | .cell n, .tup t => match G[n]? with
    | some (some (.dct ks vs)) => (keyT (.tup t)).bind fun k => getK k ks vs
    | _ => none
  | .dct ks vs, .tup t => (keyT (.tup t)).bind fun k => getK k ks vs
  | .str z, .int i => if z.length ≤ sizeLine then (atI z.cps.toList i).map fun c => .str ⟨#[c]⟩ else none
  | _, _ => none

def cutD (xs : List D) (lo hi : Option Int) : List D := (xs.drop (HT.sIx xs.length 0 lo)).take (HT.sIx xs.length xs.length hi - HT.sIx xs.length 0 lo)
def slD : D → Option Int → Option Int → Option D
  | .tup l, lo, hi => some (.tup (cutD l lo hi))
  | .lst l, lo, hi => some (.lst (cutD l lo hi))
  | .frz l, lo, hi => some (.lst (cutD l lo hi))
  | .str z, lo, hi => if z.length ≤ sizeLine then some (.str (cutS z lo hi)) else none
  | _, _, _ => none

/-- a dict, by cell or by value -/
def dctAt (G : Gs) : D → Option (List D × List D)
  | .cell n => match G[n]? with
    | some (some (.dct ks vs)) => some (ks, vs)
    | _ => none
  | .dct ks vs => some (ks, vs)
  | _ => none
/-- d.get(k, x) -/
def getD2 (G : Gs) (d k x : D) : Option D := (dctAt G d).bind fun p => (keyT k).map fun k => (getK k p.1 p.2).getD x
/-- a record's field -/
def fldD : List Str → List D → Str → Option D
  | n :: fn, d :: ds, f => if f == n then some d else fldD fn ds f
  | _, _, _ => none
/-- what an object is: its class, the fields' names, their values -/
def objAt (G : Gs) : D → Option (Nat × List Str × List D)
  | .obj c fn fs => some (c, fn, fs)
  | .cell n => match G[n]? with
    | some (some (.rcd c fn fs)) => some (c, fn, fs)
    | _ => none
  | _ => none
/-- dict(pairs) -/
def dctP : List D → Option (List D × List D)
  | l => l.foldl (fun acc p => match acc, p with
    | some (ks, vs), .tup [k, v] => (keyT k).map fun x => storeK x k v ks vs
    | _, _ => none) (some ([], []))
/-- list.count(x) -/
def countD (a x : D) : Option D := match lstOf a, toPy x with
  | some l, some p => match toPys l with
    | some ps => if SeqAt.shaped (.list ps) && SeqAt.shaped p && decide (p.depth ≤ 32) then some (.int (ps.countP fun y => PyData.eqv y p : Nat)) else none
    | none => none
  | _, _ => none
def isTupD : D → Option Bool
  | .tup _ => some true
  | .lst _ => some false
  | .int _ => some false
  | .str _ => some false
  | .non => some false
  | _ => none
def fvD : D → Option D
  | .str y => if y.length ≤ sizeLine then some (.str y) else none
  | .int i => if i.natAbs.log2 < 1920 then some (.str (toString i)) else none
  | _ => none
def zipD : D → D → Option (List D)
  | .lst xs, .lst ys => some ((xs.zip ys).map fun p => .tup [p.1, p.2])
  | .tup xs, .tup ys => some ((xs.zip ys).map fun p => .tup [p.1, p.2])
  | _, _ => none

def enumD (l : List D) : List D := l.zipIdx.map fun p => .tup [.int (p.2 : Nat), p.1]

def toldR (S : Sem) : R D → R D
  | .ok d G => .ok d G
  | .exc c G => match S.told c with
    | some r => .ok (.str r) G
    | none => .bad
  | .bad => .bad

mutual
def evE (S : Sem) (ρ : Env) : E → Gs → R D
  | .var i, G => match ρ[i]? with
    | some (some d) => .ok d G
    | _ => .bad
  | .con d, G => .ok d G
  | .bin o a b, G => (evE S ρ a G).bind fun x G1 => (evE S ρ b G1).bind fun y G2 => .of (binD o x y) G2
  | .not a, G => (evE S ρ a G).bind fun x G1 => match x with
    | .bl b => .ok (.bl (!b)) G1
    | _ => .bad
  | .neg a, G => (evE S ρ a G).bind fun x G1 => match x with
    | .int i => .ok (.int (-i)) G1
    | _ => .bad
  | .and a b, G => (evE S ρ a G).bind fun x G1 => match x with
    | .bl true => evE S ρ b G1
    | .bl false => .ok (.bl false) G1
    | _ => .bad
  | .or a b, G => (evE S ρ a G).bind fun x G1 => match x with
    | .bl true => .ok (.bl true) G1
    | .bl false => evE S ρ b G1
    | _ => .bad
  | .ite c a b, G => (evE S ρ c G).bind fun x G1 => match x with
    | .bl true => evE S ρ a G1
    | .bl false => evE S ρ b G1
    | _ => .bad
  | .cmp o a b, G => (evE S ρ a G).bind fun x G1 => (evE S ρ b G1).bind fun y G2 => .of ((cmpD o x y).map .bl) G2
  | .chain o1 o2 a b c, G => (evE S ρ a G).bind fun x G1 => (evE S ρ b G1).bind fun y G2 => match cmpD o1 x y with
    | some true => (evE S ρ c G2).bind fun z G3 => .of ((cmpD o2 y z).map .bl) G3
    | some false => .ok (.bl false) G2
    | none => .bad
  | .tup es, G => (evEs S ρ es G).bind fun ds G1 => if ds.length ≤ sizeLine then .ok (.tup ds) G1 else .bad
  | .lst es, G => (evEs S ρ es G).bind fun ds G1 => if ds.length ≤ sizeLine then .ok (.lst ds) G1 else .bad
  | .lstC es, G => (evEs S ρ es G).bind fun ds G1 => if ds.length ≤ sizeLine then .ok (.cell G1.length) (G1 ++ [some (.lst ds)]) else .bad
  | .call f es, G => (evEs S ρ es G).bind fun ds G1 => S.cal f ds G1
  | .prim p es, G => (evEs S ρ es G).bind fun ds G1 => .of (prim G1 p ds) G1
  | .meth m a es, G => (evE S ρ a G).bind fun x G1 => match x with
    | .str s => (evEs S ρ es G1).bind fun ds G2 => .of (meth m s ds) G2
    | _ => .bad
  | .ix a b, G => (evE S ρ a G).bind fun x G1 => (evE S ρ b G1).bind fun y G2 => .of (ixD G2 x y) G2
  | .sl a lo hi, G => (evE S ρ a G).bind fun x G1 => (evO S ρ lo G1).bind fun l G2 => (evO S ρ hi G2).bind fun h G3 => .of (slD x l h) G3
  | .comp own el tg it cs, G => (evI S ρ it G).bind fun ds G1 =>
      ((compL (fun d G2 => match assign (wipeE ρ own) tg d with
        | some ρ' => (evT S ρ' cs G2).bind fun b G3 => if b then (evE S ρ' el G3).bind fun y G4 => .ok (some y) G4 else .ok none G3
        | none => .bad) ds G1).calm).bind fun ys G5 => if ys.length < sizeLine then .ok (.lst ys) G5 else .bad
  | .told b, G => toldR S (evE S ρ b G)
  | .fv a, G => (evE S ρ a G).bind fun x G1 => .of (fvD x) G1
  | .fmt es, G => evF S ρ es Str.empty G
  | .lam k, G => .ok (.lam k) G
  | .rev a, G => (evE S ρ a G).bind fun x G1 => match x with
    | .tup l => .ok (.tup l.reverse) G1
    | x => match lstOf x with
      | some l => .ok (.lst l.reverse) G1
      | none => .bad
  | .take a, G => (evE S ρ a G).bind fun x G1 => match x with
    | .cell n => (match G1[n]? with
      | some (some (.lst l)) => .ok (.lst l) (G1.set n none)
      | some (some (.dct ks vs)) => .ok (.dct ks vs) (G1.set n none)
      | _ => .bad)
    | _ => .bad
  | .app a b, G => (evE S ρ a G).bind fun x G1 => match x with
    | .cell n => (match G1[n]? with
      | some (some (.lst _)) => (evE S ρ b G1).bind fun y G2 => match G2[n]? with
        | some (some (.lst l)) => if l.length < sizeLine then .ok .non (G2.set n (some (.lst (l ++ [y])))) else .bad
        | _ => .bad
      | _ => .bad)
    | _ => .bad
  | .comp2 own own2 el t1 i1 t2 i2 cs, G => (evI S ρ i1 G).bind fun ds G1 =>
      ((compL2 (fun d G2 => match assign (wipeE ρ own) t1 d with
        | some ρ' => (evI S ρ' i2 G2).bind fun es G3 => compL (fun e G4 => match assign (wipeE ρ' own2) t2 e with
          | some ρ2 => (evT S ρ2 cs G4).bind fun b G5 => if b then (evE S ρ2 el G5).bind fun y G6 => .ok (some y) G6 else .ok none G5
          | none => .bad) es G3
        | none => .bad) ds G1).calm).bind fun ys G5 => if ys.length < sizeLine then .ok (.lst ys) G5 else .bad
  | .dctC, G => .ok (.cell G.length) (G ++ [some (.dct [] [])])
  | .dget a b c, G => (evE S ρ a G).bind fun x G1 => match dctAt G1 x with
    | some _ => (evE S ρ b G1).bind fun y G2 => (evE S ρ c G2).bind fun e G3 => .of (getD2 G3 x y e) G3
    | none => .bad
  | .isTup a, G => (evE S ρ a G).bind fun x G1 => .of ((isTupD x).map .bl) G1
  | .rngT a, G => (evE S ρ a G).bind fun x G1 => match x with
    | .int j => if -(2 ^ 62) ≤ j ∧ j ≤ 100000 then .ok (.tup (rangeD 0 j)) G1 else .bad
    | _ => .bad
  | .rngL a, G => (evE S ρ a G).bind fun x G1 => match x with
    | .int j => if -(2 ^ 62) ≤ j ∧ j ≤ 100000 then .ok (.lst (rangeD 0 j)) G1 else .bad
    | _ => .bad
  | .bad, G => .bad
  | .listC a, G => (evE S ρ a G).bind fun x G1 => match seqOf x with
    | some l => .ok (.cell G1.length) (G1 ++ [some (.lst l)])
    | none => .bad
  | .mulC a b, G => (evE S ρ a G).bind fun x G1 => (evE S ρ b G1).bind fun y G2 => match binD .mul x y with
    | some (.lst l) => .ok (.cell G2.length) (G2 ++ [some (.lst l)])
    | _ => .bad
  | .pop a, G => (evE S ρ a G).bind fun x G1 => match x with
    | .cell n => (match G1[n]? with
      | some (some (.lst l)) => (match l[l.length - 1]? with
        | some y => .ok y (G1.set n (some (.lst l.dropLast)))
        | none => .bad)
      | _ => .bad)
    | _ => .bad
  | .dctP a, G => (evE S ρ a G).bind fun x G1 => match x with
    | .lst l => (match dctP l with
      | some p => if l.length ≤ sizeLine then .ok (.dct p.1 p.2) G1 else .bad
      | none => .bad)
    | _ => .bad
  | .lcount a b, G => (evE S ρ a G).bind fun x G1 => match lstOf x with
    | some _ => (evE S ρ b G1).bind fun y G2 => .of (countD x y) G2
    | none => .bad
  | .fld a f, G => (evE S ρ a G).bind fun x G1 => match objAt G1 x with
    | some (c, fn, fs) => if S.flds c f = true then .of (fldD fn fs f) G1 else .bad
    | none => .bad
  | .mth c g m o es, G => (evE S ρ o G).bind fun x G1 => match objAt G1 x with
    | some (c', fn, _) => if c' = c ∧ fn.contains m = false then (evEs S ρ es G1).bind fun ds G2 => S.cal g (x :: ds) G2 else .bad
    | none => .bad
  | .make c g es, G => (evEs S ρ es G).bind fun ds G1 => (S.cal g (.cell G1.length :: ds) (G1 ++ [some (.rcd c [] [])])).bind fun r G2 => match r with
    | .non => (match G2[G1.length]? with
      | some (some (.rcd c' fn fs)) => .ok (.obj c' fn fs) (G2.set G1.length none)
      | _ => .bad)
    | _ => .bad
  | .sortQ a _ c, G => (evE S ρ a G).bind fun x G1 => .of (sortQD G1 c x) G1
def evEs (S : Sem) (ρ : Env) : List E → Gs → R (List D)
  | [], G => .ok [] G
  | e :: es, G => (evE S ρ e G).bind fun d G1 => (evEs S ρ es G1).bind fun ds G2 => .ok (d :: ds) G2
def evF (S : Sem) (ρ : Env) : List E → Str → Gs → R D
  | [], acc, G => .ok (.str acc) G
  | e :: es, acc, G => (evE S ρ e G).bind fun d G1 => match d with
    | .str y => if (acc ++ y).length ≤ sizeLine then evF S ρ es (acc ++ y) G1 else .bad
    | _ => .bad
def evO (S : Sem) (ρ : Env) : Option E → Gs → R (Option Int)
  | none, G => .ok none G
  | some e, G => (evE S ρ e G).bind fun d G1 => match d with
    | .int i => .ok (some i) G1
    | _ => .bad
/-- tests one after another -/
def evT (S : Sem) (ρ : Env) : List E → Gs → R Bool
  | [], G => .ok true G
  | e :: es, G => (evE S ρ e G).bind fun d G1 => match d with
    | .bl true => evT S ρ es G1
    | .bl false => .ok false G1
    | _ => .bad
def evI (S : Sem) (ρ : Env) : It → Gs → R (List D)
  | .seq a, G => (evE S ρ a G).bind fun x G1 => .of (walkOf x) G1
  | .rng1 a, G => (evE S ρ a G).bind fun x G1 => match x with
    | .int j => if -(2 ^ 62) ≤ j ∧ j < 2 ^ 62 then .ok (rangeD 0 j) G1 else .bad
    | _ => .bad
  | .rng2 a b, G => (evE S ρ a G).bind fun x G1 => (evE S ρ b G1).bind fun y G2 => match x, y with
    | .int i, .int j => if (-(2 ^ 62) ≤ i ∧ i < 2 ^ 62) ∧ (-(2 ^ 62) ≤ j ∧ j < 2 ^ 62) then .ok (rangeD i j) G2 else .bad
    | _, _ => .bad
  | .zip2 a b, G => (evE S ρ a G).bind fun x G1 => (evE S ρ b G1).bind fun y G2 => .of (zipD x y) G2
  | .enum a, G => (evE S ρ a G).bind fun x G1 => match x with
    | .lst l => .ok (enumD l) G1
    | .tup l => .ok (enumD l) G1
    | _ => .bad
  | .revI a, G => (evE S ρ a G).bind fun x G1 => match seqOf x with
    | some l => .ok l.reverse G1
    | none => .bad
end

/-- what a statement leaves -/
inductive F where
  | next (ρ : Env) (G : Gs) | ret (d : D) (G : Gs) | brk (ρ : Env) (G : Gs) | cont (ρ : Env) (G : Gs) | exc (c : Nat) (G : Gs) | bad
def F.then : F → (Env → Gs → F) → F
  | .next ρ G, f => f ρ G
  | .ret d G, _ => .ret d G
  | .brk ρ G, _ => .brk ρ G
  | .cont ρ G, _ => .cont ρ G
  | .exc c G, _ => .exc c G
  | .bad, _ => .bad
def R.go {α : Type} (r : R α) (f : α → Gs → F) : F := match r with
  | .ok a G => f a G
  | .exc c G => .exc c G
  | .bad => .bad

inductive St where
  | set (t : Tg) (e : E)
  | setC (i : Nat) (e : E)          -- name = [..] (a comprehension)
  | setix (o i e : E)
  | ex (e : E)
  | ret (e : E)
  | ite (c : E) (a b : List St)
  | for_ (t : Tg) (it : It) (b : List St)
  | raise (c : Nat) (e : E)
  | pass
  | brk
  | cont
  | aug (i : Nat) (o : Bop) (e : E)
  | setfld (o : E) (f : Str) (e : E)
  | while_ (c : E) (b : List St)

def forL (f : D → Env → Gs → F) : List D → Env → Gs → F
  | [], ρ, G => .next ρ G
  | d :: ds, ρ, G => match f d ρ G with
    | .next ρ' G' => forL f ds ρ' G'
    | .cont ρ' G' => forL f ds ρ' G'
    | .brk ρ' G' => .next ρ' G'
    | .ret d G' => .ret d G'
    | .exc c G' => .exc c G'
    | .bad => .bad

/-- turns while a test holds, at most so many -/
def whL (c : Env → Gs → R D) (f : Env → Gs → F) : Nat → Env → Gs → F
  | 0, _, _ => .bad
  | n + 1, ρ, G => (c ρ G).go fun x G1 => match x with
    | .bl true => match f ρ G1 with
      | .next ρ' G' => whL c f n ρ' G'
      | .cont ρ' G' => whL c f n ρ' G'
      | .brk ρ' G' => .next ρ' G'
      | .ret d G' => .ret d G'
      | .exc c G' => .exc c G'
      | .bad => .bad
    | .bl false => .next ρ G1
    | _ => .bad
def augD : Bop → Int → Int → Option Int
  | .add, a, b => some (a + b)
  | .sub, a, b => some (a - b)
  | _, _, _ => none

def setD (G : Gs) : D → D → D → Option Gs
  | .cell n, .int k, v => match G[n]? with
    | some (some (.lst l)) => match ixN l.length k with
      | some j => some (G.set n (some (.lst (l.set j v))))
      | none => none
    | _ => none
  | .cell n, .tup t, v => match G[n]? with
    | some (some (.dct ks vs)) => match keyT (.tup t) with
      | some k => if ks.length < sizeLine then some (G.set n (some (.dct (storeK k (.tup t) v ks vs).1 (storeK k (.tup t) v ks vs).2))) else none
      | none => none
    | _ => none
  | _, _, _ => none

mutual
def evS (S : Sem) : St → Env → Gs → F
  | .set t e, ρ, G => (evE S ρ e G).go fun d G1 => match assign ρ t d with
    | some ρ' => .next ρ' G1
    | none => .bad
  | .setC i e, ρ, G => (evE S ρ e G).go fun d G1 => .next (ρ.set i (some d)) G1
  | .setix o i e, ρ, G => (evE S ρ e G).go fun v G1 => (evE S ρ o G1).go fun x G2 => (evE S ρ i G2).go fun y G3 => match setD G3 x y v with
    | some G4 => .next ρ G4
    | none => .bad
  | .ex e, ρ, G => (evE S ρ e G).go fun _ G1 => .next ρ G1
  | .ret e, ρ, G => (evE S ρ e G).go fun d G1 => .ret d G1
  | .ite c a b, ρ, G => (evE S ρ c G).go fun x G1 => match x with
    | .bl true => evB S a ρ G1
    | .bl false => evB S b ρ G1
    | _ => .bad
  | .for_ t it b, ρ, G => (evI S ρ it G).go fun ds G1 => forL (fun d ρ1 G2 => match assign ρ1 t d with
    | some ρ2 => evB S b ρ2 G2
    | none => .bad) ds ρ G1
  | .raise c e, ρ, G => (evE S ρ e G).go fun _ G1 => .exc c G1
  | .setfld o f e, ρ, G => (evE S ρ e G).go fun v G1 => (evE S ρ o G1).go fun x G2 => match x with
    | .cell n => (match G2[n]? with
      | some (some (.rcd c fn fs)) => if S.flds c f = true ∧ fn.length < 1000 ∧ fn.contains f = false then .next ρ (G2.set n (some (.rcd c (fn ++ [f]) (fs ++ [v])))) else .bad
      | _ => .bad)
    | _ => .bad
  | .pass, ρ, G => .next ρ G
  | .brk, ρ, G => .brk ρ G
  | .cont, ρ, G => .cont ρ G
  | .aug i o e, ρ, G => match ρ[i]? with
    | some (some (.int a)) => (evE S ρ e G).go fun d G1 => match d with
      | .int b => (match augD o a b with
        | some c => .next (ρ.set i (some (.int c))) G1
        | none => .bad)
      | _ => .bad
    | _ => .bad
  | .while_ c b, ρ, G => whL (fun ρ1 G1 => evE S ρ1 c G1) (fun ρ1 G1 => evB S b ρ1 G1) 100000 ρ G
def evB (S : Sem) : List St → Env → Gs → F
  | [], ρ, G => .next ρ G
  | s :: r, ρ, G => (evS S s ρ G).then fun ρ' G' => evB S r ρ' G'
end

structure Fn where
  np : Nat
  ns : Nat
  body : List St

structure Prog where
  fns : List Fn
  lams : List E
  told : Nat → Option Str
  toldI : Nat
  flds : Nat → Str → Bool := fun _ _ => false

/-! what a def leaves: its own cells are given up -/
mutual
def free : D → Bool
  | .cell _ => false
  | .tup l => frees l
  | .lst l => frees l
  | .frz l => frees l
  | .dct ks vs => frees ks && frees vs
  | .obj _ _ fs => frees fs
  | .non => true
  | .bl _ => true
  | .int _ => true
  | .str _ => true
  | .lam _ => true
def frees : List D → Bool
  | [] => true
  | d :: ds => free d && frees ds
end
def freeC : Option C → Bool
  | some (.lst l) => frees l
  | some (.dct ks vs) => frees ks && frees vs
  | some (.rcd _ _ fs) => frees fs
  | none => true
def clean (n : Nat) (G : Gs) : Bool := (G.take n).all freeC
def gcR (n : Nat) : R D → R D
  | .ok d G => if free d && clean n G then .ok d (G.take n) else .ok d G
  | .exc c G => if clean n G then .exc c (G.take n) else .exc c G
  | .bad => .bad
def runFn (S : Sem) (f : Fn) (args : List D) (G : Gs) : R D := gcR G.length <|
  if args.length = f.np then (match evB S f.body (args.map some ++ List.replicate (f.ns - f.np) none) G with
    | .next _ G' => .ok .non G'
    | .ret d G' => .ok d G'
    | .exc c G' => .exc c G'
    | _ => .bad) else .bad
/-- the def that tells, called with a kept lambda -/
def toldCal (S : Sem) (L : Nat → Gs → R D) (ds : List D) (G : Gs) : R D := match ds with
  | [.lam k] => toldR S (L k G)
  | _ => .bad
def lamAt (S : Sem) (P : Prog) (k : Nat) (G : Gs) : R D := match P.lams[k]? with
  | some e => evE S [] e G
  | none => .bad
def calAt (S : Sem) (P : Prog) (g : Nat) (args : List D) (G : Gs) : R D := if g = P.toldI then toldCal S (lamAt S P) args G else match P.fns[g]? with
  | some f => runFn S f args G
  | none => .bad
def semAt (P : Prog) : Nat → Sem
  | 0 => ⟨fun _ _ _ => .bad, fun _ _ => .bad, P.told, P.flds⟩
  | n + 1 => ⟨calAt (semAt P n) P, lamAt (semAt P n) P, P.told, P.flds⟩
end PV
end
/-! ## PV2 -/
section
set_option Elab.async false
set_option linter.all false
set_option maxRecDepth 100000
set_option maxHeartbeats 4000000
/-! What a plain value is in a heap, what an evaluation leaves, and the judgement: an expression of the text does what the evaluator says. -/
namespace PV
open PySem L2 LamX

/-- a lambda without parameters that reads no name of its maker -/
structure LamD where
  qual : Str
  params : Arguments
  body : Expr
  scope : Scope
structure Par where
  lamD : Nat → LamD
  T : List (Addr × Str)
  cls : Nat → Value
  P : Program
  W : World
  clA : Nat → Addr
/-- the function object of such a lambda at f, its code at c -/
def lamO (l : LamD) (f c : Addr) : HO := .ext fun h => ∃ pm ctv, h.get? f = some (PySem.W.kla_obj "<lambda>" l.qual l.params l.body l.scope [] pm c ctv)

/-- a dict, known as its one object -/
def DictO (a : Addr) (o : Obj) : HO := .ext fun h => h.get? a = some o
/-- what stands at a cell -/
def CellO (a : Addr) (u : HO) : Prop := (∃ vs, u = .lst vs) ∨ (∃ o, u = DictO a o ∧ o.ExactDict ∧ ∃ es ep, o.data = .dict es ep) ∨ ∃ C dx fs, u = .ins C dx fs
theorem heap_at (a : Addr) (o : Obj) (hf : ∀ h : Heap, h.objs.size = a → (h.push o).get? a = some o) : ∃ h : Heap, h.get? a = some o := by
  have ex : ∀ n : Nat, ∃ h : Heap, h.objs.size = n := fun n => ⟨⟨Array.replicate n { cls := .none, data := .fields #[] }, {}⟩, by simp⟩
  obtain ⟨h, e⟩ := ex a
  exact ⟨h.push o, hf h e⟩
theorem dictO_ne {a : Addr} {o : Obj} {φ : Heap → Prop} (hd : ∃ es ep, o.data = .dict es ep) (hn : ∀ h : Heap, h.get? a = some o → ¬ φ h) : DictO a o ≠ .ext φ := fun e => by
  obtain ⟨es, ep, hd⟩ := hd
  obtain ⟨h, hh⟩ := heap_at a o (fun h e => by subst e; exact Heap.get?_push_size _ (Obj.isFreed_of_dict hd))
  unfold DictO at e
  injection e with e
  have := congrFun e h
  exact hn h hh (this ▸ hh)
theorem nc_code {c : Addr} {q : Str} : ¬ CellO c (CodeO c q) := by
  rintro (⟨vs, e⟩ | ⟨o, e, _, es, ep, hd⟩ | ⟨_, _, _, e⟩)
  rotate_left 2
  · unfold CodeO at e; cases e
  · unfold CodeO at e; cases e
  · unfold CodeO at e
    refine dictO_ne ⟨es, ep, hd⟩ (fun h hh ⟨oc, vs, t, h1, h2, _⟩ => ?_) e.symm
    rw [hh] at h1; cases h1
    rw [hd] at h2; cases h2
theorem nc_lam {l : LamD} {f c : Addr} : ¬ CellO f (lamO l f c) := by
  rintro (⟨vs, e⟩ | ⟨o, e, _, es, ep, hd⟩ | ⟨_, _, _, e⟩)
  rotate_left 2
  · unfold lamO at e; cases e
  · unfold lamO at e; cases e
  · unfold lamO at e
    refine dictO_ne ⟨es, ep, hd⟩ (fun h hh ⟨pm, ctv, h1⟩ => ?_) e.symm
    rw [hh] at h1
    have h1 := congrArg Obj.data (Option.some.inj h1)
    rw [hd] at h1
    exact absurd h1 (by simp [PySem.W.kla_obj])
theorem nc_tup {a : Addr} {vs : List V} : ¬ CellO a (.tup vs) := by rintro (⟨vs, e⟩ | ⟨o, e, _⟩ | ⟨_, _, _, e⟩) <;> cases e
theorem nc_frz {a : Addr} {o : Obj} {u : HO} : ¬ CellO a (.frz o u) := by rintro (⟨vs, e⟩ | ⟨o, e, _⟩ | ⟨_, _, _, e⟩) <;> cases e

/-- a state of the heap as the evaluator sees it: the cells' places, the cells, lists that none may touch, the heap -/
structure Z where
  μ : List Addr
  G : Gs
  B : List Addr
  H : Hp

def Live (z : Z) (a : Addr) : Prop := ∃ (n : Nat) (c : C), z.G[n]? = some (some c) ∧ z.μ[n]? = some a
def Free (z : Z) (a : Addr) : Prop := a ∉ z.B ∧ ¬ Live z a
/-- a list of the written part -/
def KL (K : PySem.W.Frag) (a : Addr) (xs : List V) : Prop := ∃ (o : Obj) (its : Array Value) (n : Nat), K.lookup a = some o ∧ o.cls = .type "list" ∧ o.dict = none ∧ o.data = .seq its n ∧ its.size ≤ sizeLine ∧ Vals xs its.toList

/-- the object o at a is a dict of the entries xs -/
def DictRep (q : Par) (a : Addr) (o : Obj) (xs : List (NestedKey × Addr × Value)) : Prop := ∃ es ep, o.ExactDict ∧ o.data = .dict es ep ∧ es.toList = xs.map (entryOfKey (nestedKind q.P q.W)) ∧ (xs.map (·.1)).Nodup ∧ xs.length ≤ sizeLine ∧ (a == sysModules) = false
theorem DictRep.cell {q : Par} {a : Addr} {o : Obj} {xs : List (NestedKey × Addr × Value)} (h : DictRep q a o xs) : CellO a (DictO a o) := by
  obtain ⟨es, ep, h1, h2, _⟩ := h
  exact .inr (.inl ⟨o, rfl, h1, es, ep, h2⟩)
def Keyed (ks : List D) (KS : List NestedKey) : Prop := ks.map keyT = KS.map some
section
variable (K : PySem.W.Frag) (q : Par)
mutual
def Has (z : Z) : D → V → Prop
  | .non, v => v = .non
  | .bl b, v => v = .bl b
  | .int i, v => v = .int i
  | .str s, v => v = .str s
  | .tup ds, v => ∃ a vs, v = .ref a ∧ SqT K z.H a vs ∧ HasL z ds vs
  | .lst ds, v => ∃ a vs, v = .ref a ∧ z.H a = some (.lst vs) ∧ Free z a ∧ HasL z ds vs
  | .frz ds, v => ∃ a vs, v = .ref a ∧ ((Rd z.H a (.lst vs) ∧ Free z a) ∨ KL K a vs) ∧ HasL z ds vs
  | .cell n, v => ∃ a, v = .ref a ∧ z.μ[n]? = some a
  | .lam k, v => ∃ f c, v = .ref f ∧ z.H f = some (lamO (q.lamD k) f c) ∧ z.H c = some (CodeO c (q.lamD k).qual)
  | .dct ks vs, v => ∃ a o xs us, v = .ref a ∧ z.H a = some (DictO a o) ∧ DictRep q a o xs ∧ Keyed ks (xs.map (·.1)) ∧ HasL z ks (xs.map fun x => V.ref x.2.1) ∧ Vals us (xs.map (·.2.2)) ∧ HasL z vs us ∧ Free z a
  | .obj c fn fs, v => ∃ a dx vs, v = .ref a ∧ z.H a = some (.ins (q.clA c) dx (fn.zip vs)) ∧ fn.length = fs.length ∧ HasL z fs vs ∧ Free z a
def HasL (z : Z) : List D → List V → Prop
  | [], vs => vs = []
  | d :: ds, vs => ∃ v r, vs = v :: r ∧ Has z d v ∧ HasL z ds r
end

/-- what a cell's place holds -/
def HasC (z : Z) : C → Addr → Prop
  | .lst ds, a => ∃ vs, z.H a = some (.lst vs) ∧ HasL K q z ds vs
  | .dct ks vs, a => ∃ o xs us, z.H a = some (DictO a o) ∧ DictRep q a o xs ∧ Keyed ks (xs.map (·.1)) ∧ HasL K q z ks (xs.map fun x => V.ref x.2.1) ∧ Vals us (xs.map (·.2.2)) ∧ HasL K q z vs us
  | .rcd c fn fs, a => ∃ dx vs, z.H a = some (.ins (q.clA c) dx (fn.zip vs)) ∧ fn.length = fs.length ∧ HasL K q z fs vs
structure Ok (z : Z) : Prop where
  len : z.μ.length = z.G.length
  cells : ∀ (n : Nat) (c : C), z.G[n]? = some (some c) → ∃ a, z.μ[n]? = some a ∧ HasC K q z c a ∧ a ∉ z.B
  inj : ∀ (n m : Nat) (ds es : C) (a : Addr), z.G[n]? = some (some ds) → z.G[m]? = some (some es) → z.μ[n]? = some a → z.μ[m]? = some a → n = m
  blk : ∀ b ∈ z.B, ∃ vs, z.H b = some (.lst vs)
  tabs : Tabs q.T z.H
end

/-- nothing stands there but perhaps a table of code -/
def NewA (z : Z) (a : Addr) : Prop := ∀ o, z.H a = some o → ∃ ps, o = .tbl ps
theorem newA {z : Z} {a : Addr} (h : z.H a = none) : NewA z a := fun o e => by rw [h] at e; cases e
theorem NewA.no {z : Z} {a : Addr} {o : HO} {P : Prop} (n : NewA z a) (h : z.H a = some o) (nt : ∀ ps, o ≠ .tbl ps) : P := by
  obtain ⟨ps, e⟩ := n o h
  exact absurd e (nt ps)
structure Ext (z z' : Z) : Prop where
  pre : z.μ <+: z'.μ
  bs : z'.B = z.B
  live : ∀ a, Live z' a → Live z a ∨ NewA z a
  keep : ∀ b o, z.H b = some o → (∀ ps, o ≠ .tbl ps) → ¬ Live z b → z'.H b = some o
  dom : ∀ b, NewA z' b → NewA z b

theorem Ext.refl (z : Z) : Ext z z := ⟨List.prefix_refl _, rfl, fun _ h => .inl h, fun _ _ h _ _ => h, fun _ h => h⟩

section
variable {K : PySem.W.Frag} {q : Par} {z z' z'' : Z}
theorem HasC.at {c : C} {a : Addr} (h : HasC K q z c a) : ∃ u, z.H a = some u ∧ CellO a u := by
  cases c with
  | lst ds => obtain ⟨vs, h1, _⟩ := h; exact ⟨_, h1, .inl ⟨vs, rfl⟩⟩
  | dct ks vs => obtain ⟨o, xs, us, h1, h2, _⟩ := h; exact ⟨_, h1, h2.cell⟩
  | rcd c fn fs => obtain ⟨dx, vs, h1, _⟩ := h; exact ⟨_, h1, .inr (.inr ⟨_, _, _, rfl⟩)⟩
theorem Ok.liveL (o : Ok K q z) {a : Addr} (l : Live z a) : ∃ u, z.H a = some u ∧ CellO a u := by
  obtain ⟨n, ds, h1, h2⟩ := l
  obtain ⟨a', e1, e2, _⟩ := o.cells n ds h1
  rw [h2] at e1
  cases e1
  exact e2.at
theorem Ok.liveB (o : Ok K q z) {a : Addr} (l : Live z a) : a ∉ z.B := by
  obtain ⟨n, ds, h1, h2⟩ := l
  obtain ⟨a', e1, _, e2⟩ := o.cells n ds h1
  rw [h2] at e1
  cases e1
  exact e2
theorem Ext.trans (a : Ext z z') (b : Ext z' z'') : Ext z z'' := by
  refine ⟨List.IsPrefix.trans a.pre b.pre, b.bs.trans a.bs, fun x l => ?_, fun x o h nt nl => ?_, fun x h => a.dom x (b.dom x h)⟩
  · rcases b.live x l with l' | n
    · exact a.live x l'
    · exact .inr (a.dom x n)
  · refine b.keep x o (a.keep x o h nt nl) nt fun l => ?_
    rcases a.live x l with l' | n
    · exact nl l'
    · exact n.no h nt
theorem Ext.free (e : Ext z z') {a : Addr} {o : HO} (h : z.H a = some o) (nt : ∀ ps, o ≠ .tbl ps) (f : Free z a) : Free z' a := by
  refine ⟨by rw [e.bs]; exact f.1, fun l => ?_⟩
  rcases e.live a l with l | n
  · exact f.2 l
  · exact n.no h nt
theorem Ok.notLive (o : Ok K q z) {a : Addr} {u : HO} (hu : z.H a = some u) (hn : ¬ CellO a u) : ¬ Live z a := fun l => by
  obtain ⟨w, e, hw⟩ := o.liveL l
  rw [hu] at e; cases e
  exact hn hw
theorem Ext.sqT (e : Ext z z') (o : Ok K q z) {a : Addr} {vs : List V} (h : SqT K z.H a vs) : SqT K z'.H a vs := by
  rcases h with (h | ⟨ob, h⟩) | h
  · exact .inl (.inl (e.keep _ _ h (fun _ x => nomatch x) (o.notLive h nc_tup)))
  · exact .inl (.inr ⟨ob, e.keep _ _ h (fun _ x => nomatch x) (o.notLive h nc_frz)⟩)
  · exact .inr h
theorem Ext.rdL (e : Ext z z') (o : Ok K q z) {a : Addr} {vs : List V} (f : Free z a) (h : Rd z.H a (.lst vs)) : Rd z'.H a (.lst vs) ∧ Free z' a := by
  rcases h with h | ⟨ob, h⟩
  · exact ⟨.inl (e.keep _ _ h (fun _ x => nomatch x) f.2), e.free h (fun _ x => nomatch x) f⟩
  · exact ⟨.inr ⟨ob, e.keep _ _ h (fun _ x => nomatch x) f.2⟩, e.free h (fun _ x => nomatch x) f⟩

/-- values may move from one state to another -/
structure Mv (K : PySem.W.Frag) (q : Par) (z z' : Z) : Prop where
  mu : ∀ (n : Nat) (a : Addr), z.μ[n]? = some a → z'.μ[n]? = some a
  t : ∀ a vs, SqT K z.H a vs → SqT K z'.H a vs
  l : ∀ a vs, z.H a = some (.lst vs) → Free z a → z'.H a = some (.lst vs) ∧ Free z' a
  r : ∀ a vs, Rd z.H a (.lst vs) → Free z a → Rd z'.H a (.lst vs) ∧ Free z' a
  m : ∀ f φ, z.H f = some (.ext φ) → ¬ CellO f (.ext φ) → z'.H f = some (.ext φ)
  d : ∀ a o, z.H a = some (DictO a o) → Free z a → z'.H a = some (DictO a o) ∧ Free z' a
  i : ∀ a C dx fs, z.H a = some (.ins C dx fs) → Free z a → z'.H a = some (.ins C dx fs) ∧ Free z' a
mutual
theorem Has.mv (e : Mv K q z z') : ∀ (d : D) (v : V), Has K q z d v → Has K q z' d v
  | .non, v, h => by simpa only [Has] using h
  | .bl b, v, h => by simpa only [Has] using h
  | .int i, v, h => by simpa only [Has] using h
  | .str s, v, h => by simpa only [Has] using h
  | .tup ds, v, h => by
    simp only [Has] at h ⊢
    obtain ⟨a, vs, rfl, h1, h2⟩ := h
    exact ⟨a, vs, rfl, e.t a vs h1, HasL.mv e ds vs h2⟩
  | .lst ds, v, h => by
    simp only [Has] at h ⊢
    obtain ⟨a, vs, rfl, h1, f, h2⟩ := h
    exact ⟨a, vs, rfl, (e.l a vs h1 f).1, (e.l a vs h1 f).2, HasL.mv e ds vs h2⟩
  | .frz ds, v, h => by
    simp only [Has] at h ⊢
    obtain ⟨a, vs, rfl, h1, h2⟩ := h
    refine ⟨a, vs, rfl, ?_, HasL.mv e ds vs h2⟩
    rcases h1 with ⟨r, f⟩ | h1
    · exact .inl (e.r a vs r f)
    · exact .inr h1
  | .cell n, v, h => by
    simp only [Has] at h ⊢
    obtain ⟨a, rfl, h1⟩ := h
    exact ⟨a, rfl, e.mu n a h1⟩
  | .lam k, v, h => by
    simp only [Has] at h ⊢
    obtain ⟨f, c, rfl, h1, h2⟩ := h
    exact ⟨f, c, rfl, e.m f _ h1 nc_lam, e.m c _ h2 nc_code⟩
  | .dct ks vs, v, h => by
    simp only [Has] at h ⊢
    obtain ⟨a, o, xs, us, rfl, h1, h2, h3, h4, h5, h6, f⟩ := h
    exact ⟨a, o, xs, us, rfl, (e.d a o h1 f).1, h2, h3, HasL.mv e ks _ h4, h5, HasL.mv e vs us h6, (e.d a o h1 f).2⟩
  | .obj c fn fs, v, h => by
    simp only [Has] at h ⊢
    obtain ⟨a, dx, vs, rfl, h1, h2, h3, f⟩ := h
    exact ⟨a, dx, vs, rfl, (e.i a _ _ _ h1 f).1, h2, HasL.mv e fs vs h3, (e.i a _ _ _ h1 f).2⟩
theorem HasL.mv (e : Mv K q z z') : ∀ (ds : List D) (vs : List V), HasL K q z ds vs → HasL K q z' ds vs
  | [], vs, h => by simpa only [HasL] using h
  | d :: ds, vs, h => by
    simp only [HasL] at h ⊢
    obtain ⟨v, r, rfl, h1, h2⟩ := h
    exact ⟨v, r, rfl, Has.mv e d v h1, HasL.mv e ds r h2⟩
end
theorem Ext.mv (e : Ext z z') (o : Ok K q z) : Mv K q z z' where
  mu := fun n a h1 => by
    obtain ⟨t, ht⟩ := e.pre
    rw [← ht, List.getElem?_append_left (List.getElem?_eq_some_iff.mp h1).1]
    exact h1
  t := fun a vs h => e.sqT o h
  l := fun a vs h f => ⟨e.keep _ _ h (fun _ x => nomatch x) f.2, e.free h (fun _ x => nomatch x) f⟩
  r := fun a vs h f => e.rdL o f h
  m := fun f φ h hn => e.keep _ _ h (fun _ x => nomatch x) (o.notLive h hn)
  d := fun a ob h f => ⟨e.keep _ _ h (fun _ x => nomatch x) f.2, e.free h (fun _ x => nomatch x) f⟩
  i := fun a C dx fs h f => ⟨e.keep _ _ h (fun _ x => nomatch x) f.2, e.free h (fun _ x => nomatch x) f⟩
theorem Has.ext (o : Ok K q z) (e : Ext z z') (d : D) (v : V) (h : Has K q z d v) : Has K q z' d v := Has.mv (e.mv o) d v h
theorem HasL.ext (o : Ok K q z) (e : Ext z z') (ds : List D) (vs : List V) (h : HasL K q z ds vs) : HasL K q z' ds vs := HasL.mv (e.mv o) ds vs h

/-- a cell's content where the heap stands at its place -/
theorem HasC.mvAt {c : C} {a : Addr} (e : Mv K q z z') (ha : ∀ u, z.H a = some u → CellO a u → z'.H a = some u) (h : HasC K q z c a) : HasC K q z' c a := by
  cases c with
  | lst ds =>
    obtain ⟨vs, h1, h2⟩ := h
    exact ⟨vs, ha _ h1 (.inl ⟨vs, rfl⟩), HasL.mv e ds vs h2⟩
  | dct ks vs =>
    obtain ⟨o, xs, us, h1, h2, h3, h4, h5, h6⟩ := h
    exact ⟨o, xs, us, ha _ h1 h2.cell, h2, h3, HasL.mv e ks _ h4, h5, HasL.mv e vs us h6⟩
  | rcd c fn fs =>
    obtain ⟨dx, vs, h1, h2, h3⟩ := h
    exact ⟨dx, vs, ha _ h1 (.inr (.inr ⟨_, _, _, rfl⟩)), h2, HasL.mv e fs vs h3⟩

/-! ### lists of values -/
theorem HasL.len : ∀ {ds : List D} {vs : List V}, HasL K q z ds vs → vs.length = ds.length
  | [], vs, h => by simp only [HasL] at h; subst h; rfl
  | d :: ds, vs, h => by
    simp only [HasL] at h
    obtain ⟨v, r, rfl, _, h2⟩ := h
    simp [HasL.len h2]
theorem HasL.nil : HasL K q z [] [] := by simp only [HasL]
theorem HasL.cons {d : D} {v : V} {ds : List D} {vs : List V} (h : Has K q z d v) (t : HasL K q z ds vs) : HasL K q z (d :: ds) (v :: vs) := by
  simp only [HasL]
  exact ⟨v, vs, rfl, h, t⟩
theorem HasL.cons_inv {d : D} {ds : List D} {vs : List V} (h : HasL K q z (d :: ds) vs) : ∃ v r, vs = v :: r ∧ Has K q z d v ∧ HasL K q z ds r := by simpa only [HasL] using h
theorem HasL.nil_inv {vs : List V} (h : HasL K q z [] vs) : vs = [] := by simpa only [HasL] using h
theorem HasL.app : ∀ {ds es : List D} {vs ws : List V}, HasL K q z ds vs → HasL K q z es ws → HasL K q z (ds ++ es) (vs ++ ws)
  | [], es, vs, ws, h, g => by
    have e := h.nil_inv
    subst e
    exact g
  | d :: ds, es, vs, ws, h, g => by
    obtain ⟨v, r, rfl, h1, h2⟩ := h.cons_inv
    exact HasL.cons h1 (HasL.app h2 g)
theorem HasL.get : ∀ {ds : List D} {vs : List V} {i : Nat} {d : D}, HasL K q z ds vs → ds[i]? = some d → ∃ v, vs[i]? = some v ∧ Has K q z d v
  | [], vs, i, d, h, e => by simp at e
  | d0 :: ds, vs, 0, d, h, e => by
    obtain ⟨v, r, rfl, h1, h2⟩ := h.cons_inv
    simp at e; subst e
    exact ⟨v, rfl, h1⟩
  | d0 :: ds, vs, i + 1, d, h, e => by
    obtain ⟨v, r, rfl, h1, h2⟩ := h.cons_inv
    obtain ⟨w, e1, e2⟩ := HasL.get (i := i) (d := d) h2 (by simpa using e)
    exact ⟨w, by simpa using e1, e2⟩
theorem HasL.get' : ∀ {ds : List D} {vs : List V} {i : Nat} {v : V}, HasL K q z ds vs → vs[i]? = some v → ∃ d, ds[i]? = some d ∧ Has K q z d v
  | [], vs, i, d, h, e => by rw [h.nil_inv] at e; simp at e
  | d0 :: ds, vs, 0, v, h, e => by
    obtain ⟨v, r, rfl, h1, h2⟩ := h.cons_inv
    simp at e; subst e
    exact ⟨d0, rfl, h1⟩
  | d0 :: ds, vs, i + 1, v, h, e => by
    obtain ⟨v, r, rfl, h1, h2⟩ := h.cons_inv
    obtain ⟨w, e1, e2⟩ := HasL.get' (i := i) h2 (by simpa using e)
    exact ⟨w, by simpa using e1, e2⟩
theorem HasL.set {d : D} {v : V} (hv : Has K q z d v) : ∀ {ds : List D} {vs : List V} (i : Nat), HasL K q z ds vs → HasL K q z (ds.set i d) (vs.set i v)
  | [], vs, i, h => by rw [h.nil_inv]; exact HasL.nil
  | d0 :: ds, vs, 0, h => by
    obtain ⟨w, r, rfl, h1, h2⟩ := h.cons_inv
    exact HasL.cons hv h2
  | d0 :: ds, vs, i + 1, h => by
    obtain ⟨w, r, rfl, h1, h2⟩ := h.cons_inv
    exact HasL.cons h1 (HasL.set hv i h2)
theorem HasL.take : ∀ {ds : List D} {vs : List V} (n : Nat), HasL K q z ds vs → HasL K q z (ds.take n) (vs.take n)
  | _, _, 0, _ => HasL.nil
  | [], vs, n + 1, h => by rw [h.nil_inv]; exact HasL.nil
  | d0 :: ds, vs, n + 1, h => by
    obtain ⟨w, r, rfl, h1, h2⟩ := h.cons_inv
    exact HasL.cons h1 (HasL.take n h2)
theorem HasL.drop : ∀ {ds : List D} {vs : List V} (n : Nat), HasL K q z ds vs → HasL K q z (ds.drop n) (vs.drop n)
  | _, _, 0, h => h
  | [], vs, n + 1, h => by rw [h.nil_inv]; exact HasL.nil
  | d0 :: ds, vs, n + 1, h => by
    obtain ⟨w, r, rfl, h1, h2⟩ := h.cons_inv
    exact HasL.drop n h2
theorem HasL.rep {ds : List D} {vs : List V} (h : HasL K q z ds vs) : ∀ k : Nat, HasL K q z (List.replicate k ds).flatten (List.replicate k vs).flatten
  | 0 => HasL.nil
  | k + 1 => by
    rw [List.replicate_succ, List.replicate_succ, List.flatten_cons, List.flatten_cons]
    exact h.app (HasL.rep h k)
theorem Has.ref_of_tup {ds : List D} {v : V} (h : Has K q z (.tup ds) v) : ∃ a vs, v = .ref a ∧ SqT K z.H a vs ∧ HasL K q z ds vs := by simpa only [Has] using h
theorem Has.of_lst {ds : List D} {v : V} (h : Has K q z (.lst ds) v) : ∃ a vs, v = .ref a ∧ z.H a = some (.lst vs) ∧ Free z a ∧ HasL K q z ds vs := by simpa only [Has] using h
theorem Has.of_int {i : Int} {v : V} (h : Has K q z (.int i) v) : v = .int i := by simpa only [Has] using h
theorem Has.of_bl {i : Bool} {v : V} (h : Has K q z (.bl i) v) : v = .bl i := by simpa only [Has] using h
theorem Has.of_str {i : Str} {v : V} (h : Has K q z (.str i) v) : v = .str i := by simpa only [Has] using h
theorem Has.of_non {v : V} (h : Has K q z .non v) : v = .non := by simpa only [Has] using h
theorem Has.int {i : Int} : Has K q z (.int i) (.int i) := by simp only [Has]
theorem Has.bl {i : Bool} : Has K q z (.bl i) (.bl i) := by simp only [Has]
theorem Has.str {i : Str} : Has K q z (.str i) (.str i) := by simp only [Has]
theorem Has.non : Has K q z .non .non := by simp only [Has]
theorem Has.tup {ds : List D} {a : Addr} {vs : List V} (h : SqT K z.H a vs) (t : HasL K q z ds vs) : Has K q z (.tup ds) (.ref a) := by
  simp only [Has]; exact ⟨a, vs, rfl, h, t⟩
theorem Has.lst {ds : List D} {a : Addr} {vs : List V} (h : z.H a = some (.lst vs)) (f : Free z a) (t : HasL K q z ds vs) : Has K q z (.lst ds) (.ref a) := by
  simp only [Has]; exact ⟨a, vs, rfl, h, f, t⟩

/-! ### a new object -/
abbrev Z.put (z : Z) (p : Addr) (o : HO) : Z := { z with H := upd z.H p o }
theorem live_put {p : Addr} {o : HO} {a : Addr} : Live (z.put p o) a ↔ Live z a := Iff.rfl
theorem Ext.put {p : Addr} {o : HO} (h : z.H p = none) : Ext z (z.put p o) := by
  refine ⟨List.prefix_refl _, rfl, fun _ l => .inl l, fun b u hb _ _ => ?_, fun b hb u hu => hb u ?_⟩
  · show upd z.H p o b = some u
    rw [upd_ne (ne_of_none hb h)]; exact hb
  · show upd z.H p o b = some u
    rw [upd_ne (ne_of_none hu h)]; exact hu
theorem Ok.put (ok : Ok K q z) {p : Addr} {o : HO} (h : z.H p = none) : Ok K q (z.put p o) := by
  have e := Ext.put (o := o) h
  have kp : ∀ b u, z.H b = some u → (z.put p o).H b = some u := fun b u hb => by
    show upd z.H p o b = some u
    rw [upd_ne (ne_of_none hb h)]; exact hb
  refine ⟨ok.len, fun n ds hn => ?_, fun n m ds es a h1 h2 h3 h4 => ok.inj n m ds es a h1 h2 h3 h4, fun b hb => ?_, ok.tabs.ext kp⟩
  · obtain ⟨a, h1, h2, h4⟩ := ok.cells n ds hn
    exact ⟨a, h1, h2.mvAt (e.mv ok) (fun u hu _ => kp a u hu), h4⟩
  · obtain ⟨vs, hv⟩ := ok.blk b hb
    exact ⟨vs, kp b _ hv⟩
theorem Ok.freeNew (ok : Ok K q z) {p : Addr} {o : HO} (h : z.H p = none) : Free (z.put p o) p := by
  refine ⟨fun hb => ?_, fun l => ?_⟩
  · obtain ⟨vs, hv⟩ := ok.blk p hb
    rw [h] at hv; cases hv
  · obtain ⟨u, hv, _⟩ := ok.liveL (z := z) l
    rw [h] at hv; cases hv
theorem put_tup (ok : Ok K q z) {p : Addr} {ds : List D} {vs : List V} (h : z.H p = none) (t : HasL K q z ds vs) : Has K q (z.put p (.tup vs)) (.tup ds) (.ref p) :=
  Has.tup (SqT.of upd_same) (HasL.ext ok (Ext.put h) ds vs t)
theorem put_lst (ok : Ok K q z) {p : Addr} {ds : List D} {vs : List V} (h : z.H p = none) (t : HasL K q z ds vs) : Has K q (z.put p (.lst vs)) (.lst ds) (.ref p) :=
  Has.lst upd_same (ok.freeNew h) (HasL.ext ok (Ext.put h) ds vs t)

/-! ### a list that none may touch -/
abbrev Z.push (z : Z) (p : Addr) (vs : List V) : Z := { z with B := p :: z.B, H := upd z.H p (.lst vs) }
theorem mv_push (o : Ok K q z) {p : Addr} {vs : List V} (h : z.H p = none) : Mv K q z (z.push p vs) := by
  have e := (Ext.put (o := .lst vs) h).mv o
  have fr : ∀ a, Free z a → z.H a ≠ none → Free (z.push p vs) a := fun a f n => ⟨fun hb => by
    rcases List.mem_cons.mp hb with e1 | hb
    · rw [e1] at n; exact n h
    · exact f.1 hb, f.2⟩
  refine ⟨fun n a h1 => h1, e.t, fun a ws h1 f => ⟨(e.l a ws h1 f).1, fr a f (by rw [h1]; simp)⟩, fun a ws h1 f => ⟨(e.r a ws h1 f).1, fr a f ?_⟩, e.m, fun a ob h1 f => ⟨(e.d a ob h1 f).1, fr a f (by rw [h1]; simp)⟩, fun a _ _ _ h1 f => ⟨(e.i a _ _ _ h1 f).1, fr a f (by rw [h1]; simp)⟩⟩
  rcases h1 with h1 | ⟨ob, h1⟩ <;> rw [h1] <;> simp
theorem Ok.push (o : Ok K q z) {p : Addr} {vs : List V} (h : z.H p = none) : Ok K q (z.push p vs) := by
  have o' := o.put (o := .lst vs) h
  refine ⟨o'.len, fun n ds hn => ?_, o'.inj, fun b hb => ?_, o'.tabs⟩
  · obtain ⟨a, h1, h2, h4⟩ := o.cells n ds hn
    refine ⟨a, h1, h2.mvAt (mv_push o h) (fun u hu _ => ?_), fun hb => ?_⟩
    · show upd z.H p _ a = _
      rw [upd_ne (ne_of_none hu h)]; exact hu
    · obtain ⟨u, hu, _⟩ := h2.at
      rcases List.mem_cons.mp hb with e1 | hb
      · rw [e1, h] at hu; cases hu
      · exact h4 hb
  · rcases List.mem_cons.mp hb with e1 | hb
    · subst e1
      exact ⟨vs, upd_same⟩
    · exact o'.blk b hb
/-- the list at p, of those that none may touch, is written -/
abbrev Z.wr (z : Z) (p : Addr) (vs : List V) : Z := { z with H := upd z.H p (.lst vs) }
theorem mv_wr {p : Addr} {vs ws : List V} (hb : p ∈ z.B) (h : z.H p = some (.lst ws)) : Mv K q z (z.wr p vs) := by
  have ne : ∀ a (u : HO), z.H a = some u → (∀ w, u ≠ .lst w) → a ≠ p := fun a u e n e1 => by rw [e1, h] at e; cases e; exact n _ rfl
  have nf : ∀ a, Free z a → a ≠ p := fun a f e => f.1 (e ▸ hb)
  refine ⟨fun n a h1 => h1, fun a us h1 => ?_, fun a us h1 f => ⟨?_, f⟩, fun a us h1 f => ⟨?_, f⟩, fun f φ h1 _ => ?_, fun a ob h1 f => ⟨?_, f⟩, fun a _ _ _ h1 f => ⟨?_, f⟩⟩
  · rcases h1 with (h1 | ⟨ob, h1⟩) | h1
    · exact .inl (.inl (by show upd z.H p _ a = _; rw [upd_ne (ne a _ h1 fun w x => nomatch x)]; exact h1))
    · exact .inl (.inr ⟨ob, by show upd z.H p _ a = _; rw [upd_ne (ne a _ h1 fun w x => nomatch x)]; exact h1⟩)
    · exact .inr h1
  · show upd z.H p _ a = _
    rw [upd_ne (nf a f)]; exact h1
  · rcases h1 with h1 | ⟨ob, h1⟩
    · exact .inl (by show upd z.H p _ a = _; rw [upd_ne (nf a f)]; exact h1)
    · exact .inr ⟨ob, by show upd z.H p _ a = _; rw [upd_ne (nf a f)]; exact h1⟩
  · show upd z.H p _ f = _
    rw [upd_ne (ne f _ h1 fun w x => nomatch x)]; exact h1
  · show upd z.H p _ a = _
    rw [upd_ne (nf a f)]; exact h1
  · show upd z.H p _ a = _
    rw [upd_ne (nf a f)]; exact h1
theorem tabs_wr {T : List (Addr × Str)} {H : Hp} {p : Addr} {u v : HO} (h : H p = some u) (hc : CellO p u) (t : Tabs T H) : Tabs T (upd H p v) := fun x hx => by
  obtain ⟨ps, h1, h2, h3⟩ := t x hx
  refine ⟨ps, by rw [upd_ne (fun e => by rw [e, h] at h1; cases h1; rcases hc with ⟨_, e⟩ | ⟨_, e, _⟩ | ⟨_, _, _, e⟩ <;> cases e)]; exact h1, h2, fun pos cv hcv => ?_⟩
  obtain ⟨c, e1, e2⟩ := h3 pos cv hcv
  exact ⟨c, e1, by rw [upd_ne (fun e => by rw [e, h] at e2; cases e2; exact nc_code hc)]; exact e2⟩
theorem Ok.wr (o : Ok K q z) {p : Addr} {vs ws : List V} (hb : p ∈ z.B) (h : z.H p = some (.lst ws)) : Ok K q (z.wr p vs) := by
  refine ⟨o.len, fun n ds hn => ?_, o.inj, fun b hb' => ?_, tabs_wr h (.inl ⟨_, rfl⟩) o.tabs⟩
  · obtain ⟨a, h1, h2, h4⟩ := o.cells n ds hn
    refine ⟨a, h1, h2.mvAt (mv_wr hb h) (fun u hu _ => ?_), h4⟩
    show upd z.H p _ a = _
    rw [upd_ne (fun e => h4 (by rw [e]; exact hb))]; exact hu
  · by_cases e : b = p
    · rw [e]; exact ⟨vs, upd_same⟩
    · obtain ⟨us, hu⟩ := o.blk b hb'
      exact ⟨us, by show upd z.H p _ b = _; rw [upd_ne e]; exact hu⟩
/-- fewer are kept from touch -/
theorem mv_less {B : List Addr} (hB : ∀ b ∈ B, b ∈ z.B) : Mv K q z { z with B := B } :=
  ⟨fun n a h1 => h1, fun a us h1 => h1, fun a us h1 f => ⟨h1, fun hb => f.1 (hB a hb), f.2⟩, fun a us h1 f => ⟨h1, fun hb => f.1 (hB a hb), f.2⟩, fun k f h1 _ => h1, fun a ob h1 f => ⟨h1, fun hb => f.1 (hB a hb), f.2⟩, fun a _ _ _ h1 f => ⟨h1, fun hb => f.1 (hB a hb), f.2⟩⟩
theorem Ok.less (o : Ok K q z) {B : List Addr} (hB : ∀ b ∈ B, b ∈ z.B) : Ok K q { z with B := B } := by
  refine ⟨o.len, fun n ds hn => ?_, o.inj, fun b hb => o.blk b (hB b hb), o.tabs⟩
  obtain ⟨a, h1, h2, h4⟩ := o.cells n ds hn
  exact ⟨a, h1, h2.mvAt (mv_less hB) (fun _ hu _ => hu), fun hb => h4 (hB a hb)⟩

/-! ### slots -/
def RelS (K : PySem.W.Frag) (q : Par) (z : Z) (ρ : Env) (σ : L2.St) : Prop := ρ.length = σ.length ∧ ∀ (i : Nat) (d : D), ρ[i]? = some (some d) → ∃ v, σ[i]? = some (some v) ∧ Has K q z d v
theorem RelS.ext {ρ : Env} {σ : L2.St} (r : RelS K q z ρ σ) (o : Ok K q z) (e : Ext z z') : RelS K q z' ρ σ :=
  ⟨r.1, fun i d h => by obtain ⟨v, h1, h2⟩ := r.2 i d h; exact ⟨v, h1, Has.ext o e d v h2⟩⟩
theorem RelS.mv {ρ : Env} {σ : L2.St} (r : RelS K q z ρ σ) (e : Mv K q z z') : RelS K q z' ρ σ :=
  ⟨r.1, fun i d h => by obtain ⟨v, h1, h2⟩ := r.2 i d h; exact ⟨v, h1, Has.mv e d v h2⟩⟩
theorem RelS.set {ρ : Env} {σ : L2.St} (r : RelS K q z ρ σ) {d : D} {v : V} (h : Has K q z d v) (i : Nat) : RelS K q z (ρ.set i (some d)) (σ.set i (some v)) := by
  refine ⟨by rw [List.length_set, List.length_set]; exact r.1, fun j e hj => ?_⟩
  by_cases hij : i = j
  · subst hij
    have hl : i < ρ.length := by
      have := (List.getElem?_eq_some_iff.mp hj).1
      rwa [List.length_set] at this
    rw [List.getElem?_set_self hl] at hj
    cases hj
    exact ⟨v, List.getElem?_set_self (by rw [← r.1]; exact hl), h⟩
  · rw [List.getElem?_set_ne hij] at hj
    rw [List.getElem?_set_ne hij]
    exact r.2 j e hj
theorem RelS.wipe {ρ : Env} {σ : L2.St} (r : RelS K q z ρ σ) : ∀ own : List Nat, RelS K q z (wipeE ρ own) (L2.wipe σ own)
  | [] => r
  | v :: vs => by
    have ih := RelS.wipe r vs
    refine ⟨by show (List.set _ _ _).length = (List.set _ _ _).length; rw [List.length_set, List.length_set]; exact ih.1, fun j e hj => ?_⟩
    have hj : ((wipeE ρ vs).set v none)[j]? = some (some e) := hj
    show ∃ w, ((L2.wipe σ vs).set v none)[j]? = some (some w) ∧ _
    by_cases hij : v = j
    · subst hij
      by_cases hl : v < (wipeE ρ vs).length
      · rw [List.getElem?_set_self hl] at hj; cases hj
      · rw [List.getElem?_eq_none (by rw [List.length_set]; omega)] at hj; cases hj
    · rw [List.getElem?_set_ne hij] at hj
      rw [List.getElem?_set_ne hij]
      exact ih.2 j e hj

/-! ### what is wanted of an evaluation -/
def wp {α : Type} (K : PySem.W.Frag) (q : Par) (z : Z) (r : R α) (P : α → Z → Prop) (E : XK) : Prop := match r with
  | .ok a G' => ∀ z' : Z, z'.G = G' → Ok K q z' → Ext z z' → P a z'
  | .exc c G' => ∀ z' : Z, z'.G = G' → Ok K q z' → Ext z z' → E (q.cls c) none z'.H
  | .bad => False
theorem wp.ext {α : Type} {r : R α} {P : α → Z → Prop} {E : XK} (e : Ext z z') (h : wp K q z r P E) : wp K q z' r P E := by
  cases r with
  | ok a G' => exact fun w hw o e' => h w hw o (e.trans e')
  | exc c G' => exact fun w hw o e' => h w hw o (e.trans e')
  | bad => exact h
theorem wp.bind {α β : Type} {r : R α} {f : α → Gs → R β} {P : β → Z → Prop} {E : XK} (h : wp K q z (r.bind f) P E) : wp K q z r (fun a z' => wp K q z' (f a z'.G) P E) E := by
  cases r with
  | ok a G' =>
    intro w hw o e
    subst hw
    exact wp.ext e h
  | exc c G' => exact h
  | bad => exact h
theorem wp.mono {α : Type} {r : R α} {P P' : α → Z → Prop} {E : XK} (h : wp K q z r P E) (hp : ∀ a z', Ok K q z' → Ext z z' → P a z' → P' a z') : wp K q z r P' E := by
  cases r with
  | ok a G' => exact fun w hw o e => hp a w o e (h w hw o e)
  | exc c G' => exact h
  | bad => exact h
theorem wp.of {α : Type} {o : Option α} {P : α → Z → Prop} {E : XK} (h : wp K q z (.of o z.G) P E) : ∃ a, o = some a ∧ ∀ z' : Z, z'.G = z.G → Ok K q z' → Ext z z' → P a z' := by
  cases o with
  | none => exact False.elim h
  | some a => exact ⟨a, rfl, h⟩
theorem wp.here {α : Type} {a : α} {P : α → Z → Prop} {E : XK} (o : Ok K q z) (h : wp K q z (.ok a z.G) P E) : P a z := h z rfl o (Ext.refl z)
/-- the result as a value, wanted by Q -/
abbrev PQ (K : PySem.W.Frag) (q : Par) (Q : VK) : D → Z → Prop := fun d z' => ∀ v, Has K q z' d v → Q v z'.H

/-! ### the judgements -/
def rdE (K : PySem.W.Frag) (q : Par) (S : Sem) (E : XK) (e : PV.E) : TE := fun σ H Q => ∃ z ρ, z.H = H ∧ Ok K q z ∧ RelS K q z ρ σ ∧ wp K q z (evE S ρ e z.G) (PQ K q Q) E
def rdEs (K : PySem.W.Frag) (q : Par) (S : Sem) (E : XK) (es : List PV.E) : TA := fun σ H Q => ∃ z ρ, z.H = H ∧ Ok K q z ∧ RelS K q z ρ σ ∧ wp K q z (evEs S ρ es z.G) (fun ds z' => ∀ vs, HasL K q z' ds vs → Q vs z'.H) E
def rdT (K : PySem.W.Frag) (q : Par) (S : Sem) (E : XK) (e : PV.E) : TT := fun σ H Q => ∃ z ρ, z.H = H ∧ Ok K q z ∧ RelS K q z ρ σ ∧ wp K q z (evE S ρ e z.G) (fun d z' => ∃ b, d = .bl b ∧ Q b z'.H) E
abbrev Tk (X : Cx) (E : XK) : Prop := Takes X (fun cls d _ H => E cls d H)
def Sd (X : Cx) (q : Par) (S : Sem) (e : Expr) (m : PV.E) : Prop := ∀ E : XK, Tk X E → PE X e (rdE X.K q S E m)
def SdA (X : Cx) (q : Par) (S : Sem) (es : List Expr) (ms : List PV.E) : Prop := ∀ E : XK, Tk X E → PA X es (rdEs X.K q S E ms)
def Td (X : Cx) (q : Par) (S : Sem) (e : Expr) (m : PV.E) : Prop := ∀ E : XK, Tk X E → PT X e (rdT X.K q S E m)
theorem pe_imp {X : Cx} {e : Expr} {t t' : TE} (h : PE X e t) (f : ∀ σ H Q, t' σ H Q → t σ H Q) : PE X e t' := ⟨fun pins s σ H Q I w => h.run pins s σ H Q I (f σ H Q w)⟩
theorem pa_imp {X : Cx} {e : List Expr} {t t' : TA} (h : PA X e t) (f : ∀ σ H Q, t' σ H Q → t σ H Q) : PA X e t' := ⟨fun pos pins s σ H Q I w => h.run pos pins s σ H Q I (f σ H Q w)⟩
theorem pt_imp {X : Cx} {e : Expr} {t t' : TT} (h : PT X e t) (f : ∀ σ H Q, t' σ H Q → t σ H Q) : PT X e t' := ⟨fun pins s σ H Q I w => h.run pins s σ H Q I (f σ H Q w)⟩
theorem pw_imp {X : Cx} {e : Expr} {t t' : TT} (h : PW X e t) (f : ∀ σ H Q, t' σ H Q → t σ H Q) : PW X e t' := ⟨fun wh pins s σ H Q I w => h.run wh pins s σ H Q I (f σ H Q w)⟩
theorem ps_imp {X : Cx} {e : Stmt} {t t' : TS} (h : PS X e t) (f : ∀ D σ H, t' D σ H → t D σ H) : PS X e t' := ⟨fun pins s σ H D I w => h.run pins s σ H D I (f D σ H w)⟩
theorem pss_imp {X : Cx} {e : List Stmt} {t t' : TS} (h : PSs X e t) (f : ∀ D σ H, t' D σ H → t D σ H) : PSs X e t' := ⟨fun pins s σ H D I w => h.run pins s σ H D I (f D σ H w)⟩
end
end PV
end
/-! ## PV0k -/
section
set_option Elab.async false
set_option linter.all false
set_option maxRecDepth 100000
set_option maxHeartbeats 4000000
/-! sorted(x, key=f) of whatever is walked -/
namespace PySem.W
open PySem PySem.Calls PyProof.Rows SeqAt
section
variable {prog : Program} {w : World} {A : Around} {E : Value → Shared → Prop} {s : Shared}
theorem sorted_gathersK {β : Type} {r : Addr} {vs : List Value} {bs : List β} {R : Value → β → Prop} {q : Addr} {Q : Value → Shared → Prop} (k : β → PyData) (G : Gathers prog w A.in1 s r vs) (e : EachIs R vs bs) (hal : AllAlike (bs.map k)) (hk : Sortable (bs.map k)) (hL : vs.length ≤ sizeLine)
    (hu : ∀ b ∈ bs, A.units + 2 + (k b).depth < cLine)
    (turn : ∀ (v : Value) (x : β), R v x → x ∈ bs → ∀ (h : Heap) (tk : Nat), (∀ b o, s.heap.get? b = some o → h.get? b = some o) →
      wpAny (model prog w) A.in1.in1 (call (.ref q) [v]) (KeyPure (k x) { s with heap := h, toks := tk }) (fun _ _ => False) { s with heap := h, toks := tk })
    (h : ∀ (h1 h' : Heap) (tk ep : Nat) (out : List Value), (∀ b o, s.heap.get? b = some o → h1.get? b = some o) → (∀ b o, h1.get? b = some o → h'.get? b = some o) → h'.get? h1.objs.size = some (seqObj "list" out.toArray ep) → EachIs R out (isortB (dataLe false k) bs) → out.length = vs.length → Q (.ref h1.objs.size) { s with heap := h', toks := tk }) :
    wpAny (model prog w) A (call (.builtin "sorted") [.ref r] [(Str.ofString "key", .ref q)]) Q E s := by
  refine call_function_entry_kw kind_sorted plain_sorted entry_sorted (ksk_s1 _ _) ?_
  unfold Builtin.«sorted»
  refine wpAny_bind (m := checkCount "sorted" 1 1 _) (wpAny_pure ?_)
  refine wpAny_bind (G _ _ fun h1 tk hk1 => ?_)
  refine wpAny_bind (wpAny_newList ?_ hL)
  have ho : (h1.push (seqObj "list" vs.toArray 0)).get? h1.objs.size = some (seqObj "list" vs.toArray 0) := Heap.get?_push_size _ rfl
  refine wpAny_bind (wpAny_holding (wpAny_call_entry_kw slot_list_sort ⟨_, ho, rfl⟩ entry_list_sort ?body (ksk_l1 _ _)))
  case body =>
    show wpAny (model prog w) A.in1.in1 (Builtin.«list.sort» ⟨[.ref h1.objs.size], [(Str.ofString "key", .ref q)]⟩) _ _ _
    rw [ksk_t1]
    have old1 : ∀ b o, h1.get? b = some o → (h1.push (seqObj "list" vs.toArray 0)).get? b = some o := fun b o e => Heap.get?_push_of_some _ e
    have up : ∀ {g : Heap}, KeepsBut h1.objs.size (h1.push (seqObj "list" vs.toArray 0)) g → ∀ b o, h1.get? b = some o → g.get? b = some o := fun {g} kp b o q =>
      kp b o (Nat.ne_of_lt (Heap.lt_size q)) (old1 b o q)
    refine keyH_tree (kz := bs.map k) (s := { s with heap := h1.push (seqObj "list" vs.toArray 0), toks := tk }) ho (by rw [List.length_map]; exact e.length.symm) hL hal hk (bound_map (A := A.in1.in1) hu)
      (keyH_turns (s := { s with heap := h1.push (seqObj "list" vs.toArray 0), toks := tk }) e fun v x hR hx h tk kp => turn v x hR hx h tk fun b o e => up kp b o (hk1 b o e)) fun h' tk' out c kp hD ko => ⟨_, rfl, wpAny_pure ⟨_, rfl, ?_⟩⟩
    have eo := keyedOut_each k ko e
    rw [isort_data] at eo
    exact h h1 h' tk' c out hk1 (fun b o e => up kp b o e) hD eo (ko.length (by rw [List.length_map]; exact e.length.symm))
end
end PySem.W
end
/-! ## PV0l -/
section
set_option Elab.async false
set_option linter.all false
set_option maxRecDepth 100000
set_option maxHeartbeats 4000000
/-! the key lambda r: r[0] * (c // r[1]), called -/
namespace PV
open PySem PySem.Spec PyProof.Rows L2 LamX PySem.W
def keyBody (x : Str) (c : Int) (p0 p1 p2 p3 p4 p5 p6 p7 p8 : Pos) (j0 j1 j2 : Nat) : Expr :=
  .BinOp (.Subscript (.Name x p0) (.Constant (.int 0) j0 p1) p2) .Mult (.BinOp (.Constant (.int c) j1 p3) .FloorDiv (.Subscript (.Name x p4) (.Constant (.int 1) j2 p5) p6) p7) p8
section
variable {prog : Program} {w : World} {A : Around} {E : Value → Shared → Prop} {s : Shared} {env : PySem.Env} {m : Str → Option Value} {x : Str} {a : Addr} {Q : Value → Shared → Prop}
theorem ev_item {its : List Value} {i : Int} {j j0 : Nat} {v : Value} {p0 p1 p2 : Pos} (hk : env.scope.kind = .function) (hl : env.scope.names.lookup x = some .local) (hn : s.heap.Ns env.locals m) (hm : m x = some (.ref a)) (hd : (x == ("__debug__" : Str)) = false)
    (ht : IsTup s.heap a its.toArray) (h1 : seqIndex? i its.toArray.size = some j) (hlo : -2 ^ 63 ≤ i) (hhi : i < 2 ^ 63) (h2 : its[j]? = some v) (h : ∀ k, Q v { s with toks := k }) :
    wpAny (model prog w) A (eval (.Subscript (.Name x p0) (.Constant (.int i) j0 p1) p2) env) Q E s := by
  refine Subscript_Constant (wpAny_Name (wpAny_loadName_local hk hl hn hm ?_) hd)
  refine wpAny_Constant_int ?_
  exact ⟨"tuple", _, slot_tuple_getitem.lookup, ht.typeIs, getItem_tuple (j := j) ht (by omega) (by omega) h1 (by simpa using h2) (h _)⟩
theorem ev_keyBody {n d c : Int} {t u : Tok} {p0 p1 p2 p3 p4 p5 p6 p7 p8 : Pos} {j0 j1 j2 : Nat} (hk : env.scope.kind = .function) (hl : env.scope.names.lookup x = some .local) (hn : s.heap.Ns env.locals m) (hm : m x = some (.ref a)) (hd : (x == ("__debug__" : Str)) = false)
    (ht : IsTup s.heap a #[.int n t, .int d u]) (h0 : d ≠ 0) (hz : d.natAbs < 1073741824) (hmul : n.natAbs.log2 + (c.fdiv d).natAbs.log2 < 1000000) (h : ∀ k t', Q (.int (n * c.fdiv d) t') { s with toks := k }) :
    wpAny (model prog w) A (eval (keyBody x c p0 p1 p2 p3 p4 p5 p6 p7 p8 j0 j1 j2) env) Q E s := by
  unfold keyBody
  refine wpAny_BinOp (ev_item (its := [.int n t, .int d u]) (j := 0) hk hl hn hm hd ht rfl (by decide) (by decide) rfl fun k1 => ?_)
  refine wpAny_BinOp (wpAny_Constant_int (ev_item (its := [.int n t, .int d u]) (j := 1) hk hl hn hm hd ht rfl (by decide) (by decide) rfl fun k2 => ?_))
  refine floordiv_int h0 ?_ (.inl (PyProof.noPylong_small (by omega)))
  exact mul_int (h _ _) (CMulW.ok hmul)
end
structure KeyL (l : LamD) (x : Str) : Prop where
  kind : l.scope.kind = .function
  co : l.scope.isCoroutine = false
  gen : l.scope.isGenerator = false
  loc : l.scope.names.lookup x = some .local
  cell : ∀ y ∈ l.scope.names, y.2 ≠ .cell
  bind : ∀ (qn : Str) (cl : List (Str × Addr)) (pm cv ctv v : Value), bindArgs (PySem.W.kla_fn "<lambda>" qn l.params l.body l.scope cl pm cv ctv) ⟨[v], []⟩ = pure [(x, v)]
  dbg : (x == ("__debug__" : Str)) = false
theorem turn_key {prog : Program} {w : World} {A : Around} {s : Shared} {l : LamD} {x : Str} {f c1 a : Addr} {pm ctv : Value} {n d c : Int} {t u : Tok} {p0 p1 p2 p3 p4 p5 p6 p7 p8 : Pos} {j0 j1 j2 : Nat} (KL : KeyL l x) (hb : l.body = keyBody x c p0 p1 p2 p3 p4 p5 p6 p7 p8 j0 j1 j2)
    (hf : s.heap.get? f = some (PySem.W.kla_obj "<lambda>" l.qual l.params l.body l.scope [] pm c1 ctv)) (hc : ∃ (oc : Obj) (vs : Array Value) (tk : Tok), s.heap.get? c1 = some oc ∧ oc.data = .fields vs ∧ vs[1]? = some (.str l.qual tk)) (lim : s.heap.NoLimit) (hd : A.depth < recursionLimit)
    (ht : IsTup s.heap a #[.int n t, .int d u]) (h0 : d ≠ 0) (hz : d.natAbs < 1073741824) (hmul : n.natAbs.log2 + (c.fdiv d).natAbs.log2 < 1000000) :
    wpAny (model prog w) A (call (.ref f) [.ref a]) (KeyPure (.int (n * c.fdiv d)) s) (fun _ _ => False) s := by
  obtain ⟨oc, vs, tk, g1, g2, g3⟩ := hc
  refine wpAny_call ?_
  refine PySem.W.kla_callFunE hd hf rfl KL.co KL.gen rfl ⟨c1, oc, vs, tk, rfl, g1, g2, g3⟩ ?_
  rw [KL.bind]
  refine wpAny_pure (wpAny_newFunctionEnv KL.cell (fun y hy => by
    rcases List.mem_cons.mp hy with rfl | hy
    · exact KL.loc
    · cases hy) (fun h1 hns sb => ⟨lim.fresh _ sb, ?_⟩) KL.kind)
  have kp : ∀ b o, s.heap.get? b = some o → h1.get? b = some o := fun b o e => sb.extBut b o (Nat.ne_of_lt (Heap.lt_size e)) (Heap.get?_push_of_some _ e)
  refine PySem.W.kla_codeExpr ?_
  show wpAny _ _ (eval l.body _) _ _ _
  rw [hb]
  refine ev_keyBody (m := fun y => ([(x, Value.ref a)] : List (Str × Value)).reverse.lookup y) (a := a) (n := n) (d := d) (t := t) (u := u) KL.kind KL.loc hns (by simp [List.lookup]) KL.dbg (by
    obtain ⟨o, ho, r⟩ := ht
    exact ⟨o, kp _ _ ho, r⟩) h0 hz hmul fun k t' => ?_
  exact ⟨h1, k, rfl, kp, .int _ _⟩
end PV
end
/-! ## PV3 -/
section
set_option Elab.async false
set_option linter.all false
set_option maxRecDepth 100000
set_option maxHeartbeats 4000000
/-! The rules: expressions. -/
namespace PV
open PySem L2 LamX
section
variable {X : Cx} {q : Par} {S : Sem}

theorem sd_var (i : Nat) {x : Str} {pos : Pos} (hN : X.N[i]? = some x := by rfl) (hv : Vis X.env.scope x := by first | exact Or.inl rfl | exact Or.inr (Or.inl rfl) | exact Or.inr (Or.inr rfl)) (hd : (x == ("__debug__" : Str)) = false := by decide)
    (hcd : (x == ("__classdict__" : Str)) = false := by decide) : Sd X q S (.Name x pos) (.var i) := fun E tk =>
  pe_imp (pe_var hN hv hd hcd) fun σ H Q ⟨z, ρ, hH, ok, rl, w⟩ => by
    subst hH
    have w : wp X.K q z (match ρ[i]? with
      | some (some d) => R.ok d z.G
      | _ => R.bad) (PQ X.K q Q) E := w
    split at w
    · rename_i d e
      obtain ⟨v, h1, h2⟩ := rl.2 i d e
      exact ⟨v, h1, wp.here (P := PQ X.K q Q) ok w v h2⟩
    · exact w.elim
theorem sd_int {i : Int} {j pos} : Sd X q S (.Constant (.int i) j pos) (.con (.int i)) := fun E tk =>
  pe_imp pe_int fun σ H Q ⟨z, ρ, hH, ok, rl, w⟩ => by subst hH; exact wp.here (P := PQ X.K q Q) ok w _ Has.int
theorem sd_bl {i : Bool} {j pos} : Sd X q S (.Constant (.bool i) j pos) (.con (.bl i)) := fun E tk =>
  pe_imp pe_bl fun σ H Q ⟨z, ρ, hH, ok, rl, w⟩ => by subst hH; exact wp.here (P := PQ X.K q Q) ok w _ Has.bl
theorem sd_non {j pos} : Sd X q S (.Constant .none j pos) (.con .non) := fun E tk =>
  pe_imp pe_non fun σ H Q ⟨z, ρ, hH, ok, rl, w⟩ => by subst hH; exact wp.here (P := PQ X.K q Q) ok w _ Has.non
theorem sd_str {x : Str} {j pos} : Sd X q S (.Constant (.str x) j pos) (.con (.str x)) := fun E tk =>
  pe_imp pe_str fun σ H Q ⟨z, ρ, hH, ok, rl, w⟩ => by subst hH; exact wp.here (P := PQ X.K q Q) ok w _ Has.str
/-- a module's constant -/
theorem sd_glob {x : Str} {d : D} {pos : Pos} (hg : Gl X x) (hm : ∃ u v, X.mg x = some u ∧ RelV v u ∧ ∀ z : Z, Has X.K q z d v) (hd : (x == ("__debug__" : Str)) = false := by decide) : Sd X q S (.Name x pos) (.con d) := fun E tk => by
  obtain ⟨u, v, h1, h2, h3⟩ := hm
  exact pe_imp (pe_glob hg h1 h2 hd) fun σ H Q ⟨z, ρ, hH, ok, rl, w⟩ => by subst hH; exact wp.here (P := PQ X.K q Q) ok w _ (h3 z)

/-! ### operators -/
/-- what follows a result that made nothing that changes the cells -/
abbrev Post (K : PySem.W.Frag) (q : Par) (z : Z) (Q : VK) (c : D) : Prop := ∀ z' : Z, z'.G = z.G → Ok K q z' → Ext z z' → PQ K q Q c z'
theorem Post.at {K : PySem.W.Frag} {q : Par} {z : Z} {Q : VK} {c : D} (h : Post K q z Q c) (ok : Ok K q z) {v : V} (hv : Has K q z c v) : Q v z.H := h z rfl ok (Ext.refl z) v hv
theorem Post.put {K : PySem.W.Frag} {q : Par} {z : Z} {Q : VK} {c : D} (h : Post K q z Q c) (ok : Ok K q z) {p : Addr} {o : HO} (hp : z.H p = none) (hv : Has K q (z.put p o) c (.ref p)) : Q (.ref p) (upd z.H p o) := h (z.put p o) rfl (ok.put hp) (Ext.put hp) _ hv
/-- an operator by values does what the evaluator's function says -/
def rD (K : PySem.W.Frag) (q : Par) (g : D → D → Option D) : R2 := fun x y H Q => ∃ (z : Z) (d e c : D), z.H = H ∧ Ok K q z ∧ Has K q z d x ∧ Has K q z e y ∧ g d e = some c ∧ Post K q z Q c
abbrev OpD (X : Cx) (q : Par) (f : Value → Value → PySem.Sem Value) (g : D → D → Option D) : Prop := OpR X f (rD X.K q g)

theorem bin_imp {a b : Expr} {ma mb : E} {E : XK} {g : D → D → Option D} {r : R2} (hr : ∀ x y H Q, rD X.K q g x y H Q → r x y H Q) {σ : L2.St} {H : Hp} {Q : VK}
    (h : ∃ z ρ, z.H = H ∧ Ok X.K q z ∧ RelS X.K q z ρ σ ∧ wp X.K q z ((evE S ρ ma z.G).bind fun x G1 => (evE S ρ mb G1).bind fun y G2 => .of (g x y) G2) (PQ X.K q Q) E) :
    tOp r (rdE X.K q S E ma) (rdE X.K q S E mb) σ H Q := by
  obtain ⟨z, ρ, hH, ok, rl, w⟩ := h
  subst hH
  refine ⟨z, ρ, rfl, ok, rl, (wp.bind w).mono fun d z1 ok1 e1 w1 v hv => ?_⟩
  refine ⟨z1, ρ, rfl, ok1, rl.ext ok e1, (wp.bind w1).mono fun e z2 ok2 e2 w2 u hu => ?_⟩
  obtain ⟨c, hc, hp⟩ := wp.of w2
  exact hr _ _ _ _ ⟨z2, d, e, c, rfl, ok2, Has.ext ok1 e2 d v hv, hu, hc, hp⟩
theorem sd_bin {op : Operator} {o : Bop} {a b : Expr} {ma mb : E} {pos : Pos} (ho : OpD X q (binaryOp op) (binD o)) (ha : Sd X q S a ma) (hb : Sd X q S b mb) : Sd X q S (.BinOp a op b pos) (.bin o ma mb) := fun E tk =>
  pe_imp (pe_op ho (ha E tk) (hb E tk)) fun σ H Q ⟨z, ρ, hH, ok, rl, w⟩ => bin_imp (a := a) (b := b) (fun _ _ _ _ h => h) ⟨z, ρ, hH, ok, rl, w⟩
theorem sd_cmp {op : CmpOp} {o : Cop} {a b : Expr} {ma mb : E} {pos : Pos} (ho : OpD X q (compareOp op) (fun x y => (cmpD o x y).map .bl)) (ha : Sd X q S a ma) (hb : Sd X q S b mb) (hm : behindInMarks op b = false) : Sd X q S (.Compare a [op] [b] pos) (.cmp o ma mb) := fun E tk =>
  pe_imp (pe_cmpR ho (ha E tk) (hb E tk) hm) fun σ H Q ⟨z, ρ, hH, ok, rl, w⟩ => bin_imp (a := a) (b := b) (fun _ _ _ _ h => h) ⟨z, ρ, hH, ok, rl, w⟩
theorem td_cmp {op : CmpOp} {o : Cop} {a b : Expr} {ma mb : E} {pos : Pos} (ho : OpD X q (compareOp op) (fun x y => (cmpD o x y).map .bl)) (ha : Sd X q S a ma) (hb : Sd X q S b mb) (hm : behindInMarks op b = false) : Td X q S (.Compare a [op] [b] pos) (.cmp o ma mb) := fun E tk =>
  pt_imp (pt_cmpR ho (ha E tk) (hb E tk) hm) fun σ H Q ⟨z, ρ, hH, ok, rl, w⟩ => by
    refine bin_imp (a := a) (b := b) (fun _ _ _ _ h => h) ⟨z, ρ, hH, ok, rl, wp.mono w fun d z' ok' e' ⟨b, hb, hq⟩ v hv => ?_⟩
    subst hb
    exact ⟨b, hv.of_bl, hq⟩

theorem eqD_some {a b : D} {c : Bool} (h : eqD a b = some c) : ∃ p q, toPy a = some p ∧ toPy b = some q ∧ SeqAt.shaped p = true ∧ SeqAt.shaped q = true ∧ PyData.eqv p q = c := by
  unfold eqD at h
  split at h
  · rename_i p q h1 h2
    split at h
    · rename_i hs
      simp only [Bool.and_eq_true] at hs
      exact ⟨p, q, h1, h2, hs.1, hs.2, Option.some.inj h⟩
    · cases h
  · cases h
mutual
theorem has_dp {K : PySem.W.Frag} {z : Z} : ∀ (d : D) (p : PyData) (v : V), toPy d = some p → Has K q z d v → Dp K z.H v p
  | .non, p, v, e, h => by simp only [toPy, Option.some.injEq] at e; subst e; rw [h.of_non]; exact .non
  | .bl b, p, v, e, h => by simp only [toPy, Option.some.injEq] at e; subst e; rw [h.of_bl]; exact .bl b
  | .int b, p, v, e, h => by simp only [toPy, Option.some.injEq] at e; subst e; rw [h.of_int]; exact .int b
  | .str b, p, v, e, h => by simp only [toPy, Option.some.injEq] at e; subst e; rw [h.of_str]; exact .str b
  | .tup ds, p, v, e, h => by
    simp only [toPy, Option.map_eq_some_iff] at e
    obtain ⟨ps, e1, rfl⟩ := e
    simp only [Has] at h
    obtain ⟨a, vs, rfl, h1, h2⟩ := h
    exact .tup h1 (has_dps ds ps vs e1 h2)
  | .lst ds, p, v, e, h => by
    simp only [toPy, Option.map_eq_some_iff] at e
    obtain ⟨ps, e1, rfl⟩ := e
    simp only [Has] at h
    obtain ⟨a, vs, rfl, h1, _, h2⟩ := h
    exact .lst (SqL.of h1) (has_dps ds ps vs e1 h2)
  | .frz ds, p, v, e, h => by
    simp only [toPy, Option.map_eq_some_iff] at e
    obtain ⟨ps, e1, rfl⟩ := e
    simp only [Has] at h
    obtain ⟨a, vs, rfl, h1, h2⟩ := h
    refine .lst ?_ (has_dps ds ps vs e1 h2)
    rcases h1 with ⟨r, _⟩ | h1
    · exact .inl r
    · exact .inr h1
  | .cell n, p, v, e, h => by simp only [toPy] at e; cases e
  | .lam n, p, v, e, h => by simp only [toPy] at e; cases e
theorem has_dps {K : PySem.W.Frag} {z : Z} : ∀ (ds : List D) (ps : List PyData) (vs : List V), toPys ds = some ps → HasL K q z ds vs → DpAll K z.H vs ps
  | [], ps, vs, e, h => by
    simp only [toPys, Option.some.injEq] at e
    subst e
    rw [h.nil_inv]; exact .nil
  | d :: ds, ps, vs, e, h => by
    obtain ⟨v, r, rfl, h1, h2⟩ := h.cons_inv
    simp only [toPys] at e
    split at e
    · rename_i p ps' e1 e2
      cases e
      exact .cons (has_dp d p v e1 h1) (has_dps ds ps' r e2 h2)
    · cases e
end
theorem od_eq (hu : X.A.units + 64 < cLine) : OpD X q (compareOp .Eq) (fun x y => (cmpD .eq x y).map .bl) := by
  intro pins s σ H x y v u Q I rx ry h
  obtain ⟨z, d, e, c, rfl, ok, hd, he, hg, hp⟩ := h
  simp only [cmpD, Option.map_eq_some_iff] at hg
  obtain ⟨b, hg, rfl⟩ := hg
  obtain ⟨p, r, h1, h2, h3, h4, h5⟩ := eqD_some hg
  refine op_eqD hu pins s σ _ x y v u Q I rx ry ⟨p, r, has_dp d p x h1 hd, has_dp e r y h2 he, h3, h4, ?_⟩
  rw [h5]
  exact hp.at ok Has.bl
theorem od_ne (hu : X.A.units + 64 < cLine) : OpD X q (compareOp .NotEq) (fun x y => (cmpD .ne x y).map .bl) := by
  intro pins s σ H x y v u Q I rx ry h
  obtain ⟨z, d, e, c, rfl, ok, hd, he, hg, hp⟩ := h
  simp only [cmpD, Option.map_eq_some_iff] at hg
  obtain ⟨b, ⟨b', hg, rfl⟩, rfl⟩ := hg
  obtain ⟨p, r, h1, h2, h3, h4, h5⟩ := eqD_some hg
  refine op_neD hu pins s σ _ x y v u Q I rx ry ⟨p, r, has_dp d p x h1 hd, has_dp e r y h2 he, h3, h4, ?_⟩
  rw [h5]
  exact hp.at ok Has.bl
theorem cmp_int {o : Cop} {p : Int → Int → Bool} {d e c : D} (ho : o = .lt ∨ o = .le ∨ o = .gt ∨ o = .ge) (h : (cmpD o d e).map D.bl = some c) : ∃ i j, d = .int i ∧ e = .int j := by
  rcases ho with rfl | rfl | rfl | rfl <;> (cases d <;> cases e <;> simp [cmpD] at h) <;> exact ⟨_, _, rfl, rfl⟩
theorem od_lt : OpD X q (compareOp .Lt) (fun x y => (cmpD .lt x y).map .bl) := by
  intro pins s σ H x y v u Q I rx ry h
  obtain ⟨z, d, e, c, rfl, ok, hd, he, hg, hp⟩ := h
  obtain ⟨i, j, rfl, rfl⟩ := cmp_int (p := fun _ _ => true) (.inl rfl) hg
  simp only [cmpD, Option.map_some, Option.some.injEq] at hg
  subst hg
  exact op_lt pins s σ _ x y v u Q I rx ry ⟨i, j, hd.of_int, he.of_int, hp.at ok Has.bl⟩
theorem od_le : OpD X q (compareOp .LtE) (fun x y => (cmpD .le x y).map .bl) := by
  intro pins s σ H x y v u Q I rx ry h
  obtain ⟨z, d, e, c, rfl, ok, hd, he, hg, hp⟩ := h
  obtain ⟨i, j, rfl, rfl⟩ := cmp_int (p := fun _ _ => true) (.inr (.inl rfl)) hg
  simp only [cmpD, Option.map_some, Option.some.injEq] at hg
  subst hg
  exact op_le pins s σ _ x y v u Q I rx ry ⟨i, j, hd.of_int, he.of_int, hp.at ok Has.bl⟩
theorem od_gt : OpD X q (compareOp .Gt) (fun x y => (cmpD .gt x y).map .bl) := by
  intro pins s σ H x y v u Q I rx ry h
  obtain ⟨z, d, e, c, rfl, ok, hd, he, hg, hp⟩ := h
  obtain ⟨i, j, rfl, rfl⟩ := cmp_int (p := fun _ _ => true) (.inr (.inr (.inl rfl))) hg
  simp only [cmpD, Option.map_some, Option.some.injEq] at hg
  subst hg
  exact op_gt pins s σ _ x y v u Q I rx ry ⟨i, j, hd.of_int, he.of_int, hp.at ok Has.bl⟩
theorem od_ge : OpD X q (compareOp .GtE) (fun x y => (cmpD .ge x y).map .bl) := by
  intro pins s σ H x y v u Q I rx ry h
  obtain ⟨z, d, e, c, rfl, ok, hd, he, hg, hp⟩ := h
  obtain ⟨i, j, rfl, rfl⟩ := cmp_int (p := fun _ _ => true) (.inr (.inr (.inr rfl))) hg
  simp only [cmpD, Option.map_some, Option.some.injEq] at hg
  subst hg
  exact op_ge pins s σ _ x y v u Q I rx ry ⟨i, j, hd.of_int, he.of_int, hp.at ok Has.bl⟩
theorem od_in : OpD X q (compareOp .In) (fun x y => (cmpD .isIn x y).map .bl) := by
  intro pins s σ H x y v u Q I rx ry h
  obtain ⟨z, d, e, c, rfl, ok, hd, he, hg, hp⟩ := h
  cases d <;> cases e <;> simp [cmpD] at hg
  subst hg
  exact op_in_str pins s σ _ x y v u Q I rx ry ⟨_, _, hd.of_str, he.of_str, hp.at ok (by simp only [Has]; try simp)⟩
theorem od_notIn : OpD X q (compareOp .NotIn) (fun x y => (cmpD .notIn x y).map .bl) := by
  intro pins s σ H x y v u Q I rx ry h
  obtain ⟨z, d, e, c, rfl, ok, hd, he, hg, hp⟩ := h
  cases d <;> cases e <;> simp [cmpD] at hg
  subst hg
  exact op_notin_str pins s σ _ x y v u Q I rx ry ⟨_, _, hd.of_str, he.of_str, hp.at ok (by simp only [Has]; try simp)⟩
theorem od_add : OpD X q (binaryOp .Add) (binD .add) := by
  intro pins s σ H x y v u Q I rx ry h
  obtain ⟨z, d, e, c, rfl, ok, hd, he, hg, hp⟩ := h
  cases d <;> cases e <;> simp only [binD, reduceCtorEq] at hg
  · cases hg
    exact op_add pins s σ _ x y v u Q I rx ry ⟨_, _, hd.of_int, he.of_int, hp.at ok Has.int⟩
  · split at hg <;> cases hg
    rename_i hs
    exact op_add_str pins s σ _ x y v u Q I rx ry ⟨_, _, hd.of_str, he.of_str, hs, hp.at ok Has.str⟩
  · split at hg <;> cases hg
    rename_i l1 l2 hs
    obtain ⟨a, vs, rfl, h1, h2⟩ := hd.ref_of_tup
    obtain ⟨b, ws, rfl, h3, h4⟩ := he.ref_of_tup
    refine op_catA pins s σ _ _ _ v u Q I rx ry ⟨a, b, vs, ws, rfl, rfl, h1, h3, by rw [h2.len, h4.len]; exact hs, fun e1 => ?_, fun _ e2 => ?_, fun _ _ p hn => hp.put ok hn (put_tup ok hn (h2.app h4))⟩
    · subst e1
      have e : l1 = [] := List.eq_nil_of_length_eq_zero (by rw [← h2.len]; rfl)
      subst e
      exact hp.at ok he
    · subst e2
      have e : l2 = [] := List.eq_nil_of_length_eq_zero (by rw [← h4.len]; rfl)
      subst e
      rw [List.append_nil] at hp
      exact hp.at ok hd
  · split at hg <;> cases hg
    rename_i l1 l2 hs
    obtain ⟨a, vs, rfl, h1, _, h2⟩ := hd.of_lst
    obtain ⟨b, ws, rfl, h3, _, h4⟩ := he.of_lst
    exact op_cat pins s σ _ _ _ v u Q I rx ry ⟨a, b, vs, ws, rfl, rfl, h1, h3, by rw [h2.len, h4.len]; exact hs, fun p hn => hp.put ok hn (put_lst ok hn (h2.app h4))⟩
theorem od_sub : OpD X q (binaryOp .Sub) (binD .sub) := by
  intro pins s σ H x y v u Q I rx ry h
  obtain ⟨z, d, e, c, rfl, ok, hd, he, hg, hp⟩ := h
  cases d <;> cases e <;> simp only [binD, reduceCtorEq] at hg
  cases hg
  exact op_sub pins s σ _ x y v u Q I rx ry ⟨_, _, hd.of_int, he.of_int, hp.at ok Has.int⟩
/-- * of two factors of together less than a hundred million bits -/
def CMulV (i j : Int) : Prop := i.natAbs.log2 + j.natAbs.log2 < 100000000
theorem CMulV.ok {i j : Int} (h : CMulV i j) : IntMulOk i j := by
  have b : ∀ x : Int, Builtin.Int.intBits x ≤ x.natAbs.log2 + 1 := fun x => by
    unfold Builtin.Int.intBits
    split <;> omega
  have h1 := b i
  have h2 := b j
  have h3 : i.natAbs.log2 + j.natAbs.log2 < 100000000 := h
  have e : bitsLine = 134217728 := by decide
  unfold IntMulOk
  intro z
  rw [Bool.and_eq_true] at z
  have z2 := z.2
  unfold Builtin.Int.intTooBig at z2
  have z3 := of_decide_eq_true z2
  rw [e] at z3
  omega
open PySem.Spec PyProof.Rows in
theorem op_mulV {X : Cx} : OpR X (binaryOp .Mult) (rI CMulV fun i j => .int (i * j)) := opI fun _ _ _ _ _ _ _ hc q => mul_int q hc.ok
theorem od_mul : OpD X q (binaryOp .Mult) (binD .mul) := by
  intro pins s σ H x y v u Q I rx ry h
  obtain ⟨z, d, e, c, rfl, ok, hd, he, hg, hp⟩ := h
  cases d <;> cases e <;> simp only [binD, reduceCtorEq] at hg
  · split at hg <;> cases hg
    rename_i i j hs
    exact op_mulV pins s σ _ x y v u Q I rx ry ⟨_, _, hd.of_int, he.of_int, (by simpa [okMul] using hs : i.natAbs.log2 + j.natAbs.log2 < 100000000), hp.at ok Has.int⟩
  · split at hg <;> cases hg
    rename_i l k hs
    obtain ⟨a, vs, rfl, h1, h2⟩ := hd.ref_of_tup
    obtain ⟨k0, k1, k2⟩ := hs
    have hl := h2.len
    refine op_repA pins s σ _ _ y v u Q I rx ry ⟨a, k, vs, rfl, he.of_int, h1, k0, k1, by omega, fun e => ?_, fun e1 e2 p hn => ?_, fun e1 e2 p hn => hp.put ok hn (put_tup ok hn (h2.rep _))⟩
    · rcases e with e | e
      · have e : l = [] := List.eq_nil_of_length_eq_zero (by rw [← hl, e]; rfl)
        subst e
        have : (List.replicate k.toNat ([] : List D)).flatten = [] := by simp
        rw [this] at hp
        exact hp.at ok hd
      · subst e
        have : (List.replicate (1 : Int).toNat l).flatten = l := by simp
        rw [this] at hp
        exact hp.at ok hd
    · have : (List.replicate k.toNat l).flatten = [] := by
        have : k.toNat = 0 := by omega
        rw [this]; rfl
      rw [this] at hp
      exact hp.put ok hn (put_tup ok hn HasL.nil)
  · split at hg <;> cases hg
    rename_i l k hs
    obtain ⟨a, vs, rfl, h1, _, h2⟩ := hd.of_lst
    obtain ⟨k0, k1, k2⟩ := hs
    refine op_rep pins s σ _ _ y v u Q I rx ry ⟨a, k, vs, rfl, he.of_int, h1, by omega, by omega, ?_, fun p hn => hp.put ok hn (put_lst ok hn (h2.rep _))⟩
    have e : vs.length ≤ 1000 := by rw [h2.len]; exact k2
    have e2 : k.toNat ≤ 1000 := by omega
    exact Nat.le_trans (Nat.mul_le_mul e e2) (by rw [sizeLine_eq]; decide)
theorem od_fdiv : OpD X q (binaryOp .FloorDiv) (binD .fdiv) := by
  intro pins s σ H x y v u Q I rx ry h
  obtain ⟨z, d, e, c, rfl, ok, hd, he, hg, hp⟩ := h
  cases d <;> cases e <;> simp only [binD, reduceCtorEq] at hg
  split at hg <;> cases hg
  rename_i i j hs
  simp only [Bool.or_eq_true, Bool.and_eq_true, decide_eq_true_eq] at hs
  rcases hs with ⟨h1, h2⟩ | ⟨h1, h2⟩
  · refine op_fdivW pins s σ _ x y v u Q I rx ry ⟨_, _, hd.of_int, he.of_int, ⟨h1, h2⟩, ?_⟩
    show Q (.int (i / j)) z.H
    rw [← Int.fdiv_eq_ediv_of_nonneg i (Int.le_of_lt h1)]
    exact hp.at ok Has.int
  · exact op_fdivN pins s σ _ x y v u Q I rx ry ⟨_, _, hd.of_int, he.of_int, ⟨h1, h2⟩, hp.at ok Has.int⟩
theorem od_mod : OpD X q (binaryOp .Mod) (binD .mod) := by
  intro pins s σ H x y v u Q I rx ry h
  obtain ⟨z, d, e, c, rfl, ok, hd, he, hg, hp⟩ := h
  cases d <;> cases e <;> simp only [binD, reduceCtorEq] at hg
  split at hg <;> cases hg
  rename_i i j hs
  exact op_modN pins s σ _ x y v u Q I rx ry ⟨_, _, hd.of_int, he.of_int, hs, hp.at ok Has.int⟩
theorem od_pow : OpD X q (binaryOp .Pow) (binD .pow) := by
  intro pins s σ H x y v u Q I rx ry h
  obtain ⟨z, d, e, c, rfl, ok, hd, he, hg, hp⟩ := h
  cases d <;> cases e <;> simp only [binD, reduceCtorEq] at hg
  split at hg <;> cases hg
  rename_i i j hs
  exact op_pow pins s σ _ x y v u Q I rx ry ⟨_, _, hd.of_int, he.of_int, hs, hp.at ok Has.int⟩

/-! ### not, and, or, a if t else b -/
/-- an expression whose value is a bool, as a test -/
theorem td_val {e : Expr} {m : E} (h : Sd X q S e m) (he : ∀ whole, isTrue e X.env whole = (do let v ← whole; standAt e.pos; holding [v] (truthy v)) := by intro _; rfl) : Td X q S e m := fun E tk =>
  pt_imp (pt_val (h E tk) he) fun σ H Q ⟨z, ρ, hH, ok, rl, w⟩ => ⟨z, ρ, hH, ok, rl, w.mono fun d z' ok' e' ⟨b, hb, hq⟩ v hv => by
    subst hb
    exact ⟨b, hv.of_bl, hq⟩⟩
theorem td_not {a : Expr} {ma : E} {pos : Pos} (h : Td X q S a ma) : Td X q S (.UnaryOp .Not a pos) (.not ma) := fun E tk =>
  pt_imp (pt_not (h E tk)) fun σ H Q ⟨z, ρ, hH, ok, rl, w⟩ => ⟨z, ρ, hH, ok, rl, (wp.bind w).mono fun d z' ok' e' w' => by
    cases d <;> try exact False.elim w'
    rename_i b
    obtain ⟨b', hb', hq⟩ := wp.here (P := fun d z' => ∃ b, d = D.bl b ∧ Q b z'.H) ok' w'
    cases hb'
    exact ⟨b, rfl, hq⟩⟩
theorem sd_not {a : Expr} {ma : E} {pos : Pos} (h : Sd X q S a ma) : Sd X q S (.UnaryOp .Not a pos) (.not ma) := fun E tk =>
  pe_imp (pe_not (h E tk)) fun σ H Q ⟨z, ρ, hH, ok, rl, w⟩ => ⟨z, ρ, hH, ok, rl, (wp.bind w).mono fun d z' ok' e' w' v hv => by
    cases d <;> try exact False.elim w'
    rename_i b
    exact ⟨b, hv.of_bl, wp.here (P := PQ X.K q Q) ok' w' _ Has.bl⟩⟩
/-- tests joined by and, or -/
def TdW (X : Cx) (q : Par) (S : Sem) (e : Expr) (m : E) : Prop := ∀ E : XK, Tk X E → PW X e (rdT X.K q S E m)
theorem TdW.td {e : Expr} {m : E} (h : TdW X q S e m) : Td X q S e m := fun E tk => (h E tk).pt
theorem tw_and1 {a : Expr} {ma : E} {pos : Pos} (h : Td X q S a ma) : TdW X q S (.BoolOp .And [a] pos) ma := fun E tk => pw_and1 (h E tk)
theorem tw_or1 {a : Expr} {ma : E} {pos : Pos} (h : Td X q S a ma) : TdW X q S (.BoolOp .Or [a] pos) ma := fun E tk => pw_or1 (h E tk)
theorem tw_and {a b : Expr} {rest : List Expr} {ma mb : E} {pos : Pos} (h : Td X q S a ma) (g : TdW X q S (.BoolOp .And (b :: rest) pos) mb) : TdW X q S (.BoolOp .And (a :: b :: rest) pos) (.and ma mb) := fun E tk =>
  pw_imp (pw_and (h E tk) (g E tk)) fun σ H Q ⟨z, ρ, hH, ok, rl, w⟩ => ⟨z, ρ, hH, ok, rl, (wp.bind w).mono fun d z' ok' e' w' => by
    cases d <;> try exact False.elim w'
    rename_i b
    refine ⟨b, rfl, ?_⟩
    cases b with
    | true => exact ⟨z', ρ, rfl, ok', rl.ext ok e', w'⟩
    | false =>
      obtain ⟨b', hb', hq⟩ := wp.here (P := fun d z' => ∃ b, d = D.bl b ∧ Q b z'.H) ok' w'
      cases hb'
      exact hq⟩
theorem tw_or {a b : Expr} {rest : List Expr} {ma mb : E} {pos : Pos} (h : Td X q S a ma) (g : TdW X q S (.BoolOp .Or (b :: rest) pos) mb) : TdW X q S (.BoolOp .Or (a :: b :: rest) pos) (.or ma mb) := fun E tk =>
  pw_imp (pw_or (h E tk) (g E tk)) fun σ H Q ⟨z, ρ, hH, ok, rl, w⟩ => ⟨z, ρ, hH, ok, rl, (wp.bind w).mono fun d z' ok' e' w' => by
    cases d <;> try exact False.elim w'
    rename_i b
    refine ⟨b, rfl, ?_⟩
    cases b with
    | false => exact ⟨z', ρ, rfl, ok', rl.ext ok e', w'⟩
    | true =>
      obtain ⟨b', hb', hq⟩ := wp.here (P := fun d z' => ∃ b, d = D.bl b ∧ Q b z'.H) ok' w'
      cases hb'
      exact hq⟩
theorem sd_one {op} {a : Expr} {ma : E} {pos : Pos} (h : Sd X q S a ma) : Sd X q S (.BoolOp op [a] pos) ma := fun E tk => pe_one (h E tk)
theorem sd_and {a b : Expr} {rest : List Expr} {ma mb : E} {pos : Pos} (h : Sd X q S a ma) (g : Sd X q S (.BoolOp .And (b :: rest) pos) mb) : Sd X q S (.BoolOp .And (a :: b :: rest) pos) (.and ma mb) := fun E tk =>
  pe_imp (pe_and (h E tk) (g E tk)) fun σ H Q ⟨z, ρ, hH, ok, rl, w⟩ => ⟨z, ρ, hH, ok, rl, (wp.bind w).mono fun d z' ok' e' w' v hv => by
    cases d <;> try exact False.elim w'
    rename_i b
    refine ⟨b, hv.of_bl, ?_⟩
    cases b with
    | true => exact ⟨z', ρ, rfl, ok', rl.ext ok e', w'⟩
    | false => exact wp.here (P := PQ X.K q Q) ok' w' _ Has.bl⟩
theorem sd_or {a b : Expr} {rest : List Expr} {ma mb : E} {pos : Pos} (h : Sd X q S a ma) (g : Sd X q S (.BoolOp .Or (b :: rest) pos) mb) : Sd X q S (.BoolOp .Or (a :: b :: rest) pos) (.or ma mb) := fun E tk =>
  pe_imp (pe_or (h E tk) (g E tk)) fun σ H Q ⟨z, ρ, hH, ok, rl, w⟩ => ⟨z, ρ, hH, ok, rl, (wp.bind w).mono fun d z' ok' e' w' v hv => by
    cases d <;> try exact False.elim w'
    rename_i b
    refine ⟨b, hv.of_bl, ?_⟩
    cases b with
    | false => exact ⟨z', ρ, rfl, ok', rl.ext ok e', w'⟩
    | true => exact wp.here (P := PQ X.K q Q) ok' w' _ Has.bl⟩
theorem sd_if {c a b : Expr} {mc ma mb : E} {pos : Pos} (hc : Td X q S c mc) (ha : Sd X q S a ma) (hb : Sd X q S b mb) : Sd X q S (.IfExp c a b pos) (.ite mc ma mb) := fun E tk =>
  pe_imp (pe_ifExp (hc E tk) (ha E tk) (hb E tk)) fun σ H Q ⟨z, ρ, hH, ok, rl, w⟩ => ⟨z, ρ, hH, ok, rl, (wp.bind w).mono fun d z' ok' e' w' => by
    cases d <;> try exact False.elim w'
    rename_i b
    refine ⟨b, rfl, ?_⟩
    cases b with
    | false => exact ⟨z', ρ, rfl, ok', rl.ext ok e', w'⟩
    | true => exact ⟨z', ρ, rfl, ok', rl.ext ok e', w'⟩⟩
end
end PV
end
/-! ## PV4 -/
section
set_option Elab.async false
set_option linter.all false
set_option maxRecDepth 100000
set_option maxHeartbeats 4000000
/-! The rules: arguments, displays, calls, built-ins, items, slices. -/
namespace PV
open PySem L2 LamX
section
variable {X : Cx} {q : Par} {S : PV.Sem}

theorem sda_nil : SdA X q S [] [] := fun E tk => pa_imp pa_nil fun σ H Q ⟨z, ρ, hH, ok, rl, w⟩ => by
  subst hH
  exact wp.here (P := fun ds z' => ∀ vs, HasL X.K q z' ds vs → Q vs z'.H) ok w [] HasL.nil
theorem sda_cons {e : Expr} {es : List Expr} {m : E} {ms : List E} (h : Sd X q S e m) (t : SdA X q S es ms) (hs : starEach (e :: es) X.env = (false, eval e X.env) :: starEach es X.env := by rfl) : SdA X q S (e :: es) (m :: ms) := fun E tk =>
  pa_imp (pa_cons (h E tk) (t E tk) hs) fun σ H Q ⟨z, ρ, hH, ok, rl, w⟩ => ⟨z, ρ, hH, ok, rl, (wp.bind w).mono fun d z1 ok1 e1 w1 v hv => ⟨z1, ρ, rfl, ok1, rl.ext ok e1, (wp.bind w1).mono fun ds z2 ok2 e2 w2 vs hvs =>
    wp.here (P := fun ds z' => ∀ vs, HasL X.K q z' ds vs → Q vs z'.H) ok2 w2 _ (HasL.cons (Has.ext ok1 e2 d v hv) hvs)⟩⟩
theorem sd_tup {es : List Expr} {ms : List E} {x1} {pos : Pos} (h : SdA X q S es ms) : Sd X q S (.Tuple es x1 pos) (.tup ms) := fun E tk =>
  pe_imp (pe_tup (h E tk)) fun σ H Q ⟨z, ρ, hH, ok, rl, w⟩ => ⟨z, ρ, hH, ok, rl, (wp.bind w).mono fun ds z1 ok1 e1 w1 vs hvs => by
    have w1 : wp X.K q z1 (if ds.length ≤ sizeLine then R.ok (D.tup ds) z1.G else R.bad) (PQ X.K q Q) E := w1
    split at w1
    · rename_i hz
      refine ⟨by rw [hvs.len]; exact hz, fun p hp => ?_⟩
      exact w1 (z1.put p (.tup vs)) rfl (ok1.put hp) (Ext.put hp) _ (put_tup ok1 hp hvs)
    · exact w1.elim⟩
theorem sd_lst {es : List Expr} {ms : List E} {pos : Pos} (h : SdA X q S es ms) : Sd X q S (.List es pos) (.lst ms) := fun E tk =>
  pe_imp (pe_lst (h E tk)) fun σ H Q ⟨z, ρ, hH, ok, rl, w⟩ => ⟨z, ρ, hH, ok, rl, (wp.bind w).mono fun ds z1 ok1 e1 w1 vs hvs => by
    have w1 : wp X.K q z1 (if ds.length ≤ sizeLine then R.ok (D.lst ds) z1.G else R.bad) (PQ X.K q Q) E := w1
    split at w1
    · rename_i hz
      refine ⟨by rw [hvs.len]; exact hz, fun p hp => ?_⟩
      exact w1 (z1.put p (.lst vs)) rfl (ok1.put hp) (Ext.put hp) _ (put_lst ok1 hp hvs)
    · exact w1.elim⟩

/-! ### a new cell -/
abbrev Z.cell (z : Z) (p : Addr) (c : C) (o : HO) : Z := { μ := z.μ ++ [p], G := z.G ++ [some c], B := z.B, H := upd z.H p o }
theorem Ext.cell {K : PySem.W.Frag} {z : Z} (ok : Ok K q z) {p : Addr} {c : C} {o : HO} (h : z.H p = none) : Ext z (z.cell p c o) := by
  refine ⟨List.prefix_append _ _, rfl, fun a ⟨n, es, h1, h2⟩ => ?_, fun b u hb _ _ => ?_, fun b hb => ?_⟩
  · have h1 : (z.G ++ [some c])[n]? = some (some es) := h1
    have h2 : (z.μ ++ [p])[n]? = some a := h2
    by_cases hn : n < z.G.length
    · rw [List.getElem?_append_left hn] at h1
      rw [List.getElem?_append_left (by rw [ok.len]; exact hn)] at h2
      exact .inl ⟨n, es, h1, h2⟩
    · rw [List.getElem?_append_right (by rw [ok.len]; omega)] at h2
      have : n - z.μ.length = 0 := by
        have := (List.getElem?_eq_some_iff.mp h2).1
        simp at this; omega
      rw [this] at h2
      simp at h2
      subst h2
      exact .inr (newA h)
  · show upd z.H p _ b = some u
    rw [upd_ne (ne_of_none hb h)]; exact hb
  · refine fun u hu => hb u ?_
    show upd z.H p _ b = some u
    rw [upd_ne (ne_of_none hu h)]; exact hu
theorem Ok.cell {K : PySem.W.Frag} {z : Z} (ok : Ok K q z) {p : Addr} {c : C} {o : HO} (h : z.H p = none) (hv : ∀ z' : Z, Mv K q z z' → z'.H p = some o → HasC K q z' c p) : Ok K q (z.cell p c o) := by
  have e := Ext.cell (c := c) (o := o) ok h
  have kp : ∀ b u, z.H b = some u → (z.cell p c o).H b = some u := fun b u hb => by
    show upd z.H p o b = some u
    rw [upd_ne (ne_of_none hb h)]; exact hb
  have pm : ∀ (n : Nat) (a : Addr), z.μ[n]? = some a → (z.μ ++ [p])[n]? = some a := fun n a ha => by
    rw [List.getElem?_append_left (List.getElem?_eq_some_iff.mp ha).1]; exact ha
  have split : ∀ (n : Nat) (es : C), (z.G ++ [some c])[n]? = some (some es) → (n < z.G.length ∧ z.G[n]? = some (some es)) ∨ (n = z.G.length ∧ es = c) := fun n es hn => by
    by_cases hl : n < z.G.length
    · rw [List.getElem?_append_left hl] at hn
      exact .inl ⟨hl, hn⟩
    · rw [List.getElem?_append_right (by omega)] at hn
      have : n - z.G.length = 0 := by
        have := (List.getElem?_eq_some_iff.mp hn).1
        simp at this; omega
      rw [this] at hn
      simp at hn
      exact .inr ⟨by omega, hn.symm⟩
  have atp : (z.μ ++ [p])[z.G.length]? = some p := by rw [← ok.len]; simp
  refine ⟨by show (z.μ ++ [p]).length = (z.G ++ [some c]).length; rw [List.length_append, List.length_append, ok.len]; rfl, fun n es hn => ?_, fun n m es fs a h1 h2 h3 h4 => ?_, fun b hb => ?_, ok.tabs.ext kp⟩
  · rcases split n es hn with ⟨hl, hn⟩ | ⟨rfl, rfl⟩
    · obtain ⟨a, h1, h2, h4⟩ := ok.cells n es hn
      exact ⟨a, pm n a h1, h2.mvAt (e.mv ok) (fun u hu _ => kp a u hu), h4⟩
    · refine ⟨p, atp, hv _ (e.mv ok) upd_same, fun hb => ?_⟩
      obtain ⟨ws, hw⟩ := ok.blk p hb
      rw [h] at hw; cases hw
  · have h1 : (z.G ++ [some c])[n]? = some (some es) := h1
    have h2 : (z.G ++ [some c])[m]? = some (some fs) := h2
    have h3 : (z.μ ++ [p])[n]? = some a := h3
    have h4 : (z.μ ++ [p])[m]? = some a := h4
    have lo : ∀ (k : Nat) (gs : C), z.G[k]? = some (some gs) → (z.μ ++ [p])[k]? = some a → a ≠ p := fun k gs hk ha e' => by
      obtain ⟨a', g1, g2, _⟩ := ok.cells k gs hk
      rw [pm k a' g1] at ha
      cases ha
      obtain ⟨u, hu, _⟩ := g2.at
      rw [e', h] at hu; cases hu
    rcases split n es h1 with ⟨l1, h1⟩ | ⟨e1, _⟩
    · rcases split m fs h2 with ⟨l2, h2⟩ | ⟨e2, _⟩
      · rw [List.getElem?_append_left (by rw [ok.len]; exact l1)] at h3
        rw [List.getElem?_append_left (by rw [ok.len]; exact l2)] at h4
        exact ok.inj n m es fs a h1 h2 h3 h4
      · exfalso
        rw [e2, atp] at h4
        exact lo n es h1 h3 (Option.some.inj h4).symm
    · rcases split m fs h2 with ⟨l2, h2⟩ | ⟨e2, _⟩
      · exfalso
        rw [e1, atp] at h3
        exact lo m fs h2 h4 (Option.some.inj h3).symm
      · rw [e1, e2]
  · obtain ⟨ws, hw⟩ := ok.blk b hb
    exact ⟨ws, kp b _ hw⟩
theorem has_cell {K : PySem.W.Frag} {z : Z} {n : Nat} {a : Addr} (h : z.μ[n]? = some a) : Has K q z (.cell n) (.ref a) := by
  simp only [Has]
  exact ⟨a, rfl, h⟩
theorem sd_lstC {es : List Expr} {ms : List E} {pos : Pos} (h : SdA X q S es ms) : Sd X q S (.List es pos) (.lstC ms) := fun E tk =>
  pe_imp (pe_lst (h E tk)) fun σ H Q ⟨z, ρ, hH, ok, rl, w⟩ => ⟨z, ρ, hH, ok, rl, (wp.bind w).mono fun ds z1 ok1 e1 w1 vs hvs => by
    have w1 : wp X.K q z1 (if ds.length ≤ sizeLine then R.ok (D.cell z1.G.length) (z1.G ++ [some (.lst ds)]) else R.bad) (PQ X.K q Q) E := w1
    split at w1
    · rename_i hz
      refine ⟨by rw [hvs.len]; exact hz, fun p hp => ?_⟩
      refine w1 (z1.cell p (.lst ds) (.lst vs)) rfl (ok1.cell hp fun z' m hp' => ⟨vs, hp', HasL.mv m ds vs hvs⟩) (Ext.cell ok1 hp) _ (has_cell ?_)
      show (z1.μ ++ [p])[z1.G.length]? = some p
      rw [← ok1.len]; simp
    · exact w1.elim⟩

/-! ### calls of defs -/
def spC (K : PySem.W.Frag) (q : Par) (S : PV.Sem) (g : Nat) (n : Nat) : Sp := fun vs H Q E => ∃ (z : Z) (ds : List D), z.H = H ∧ Ok K q z ∧ HasL K q z ds vs ∧ vs.length = n ∧ wp K q z (S.cal g ds z.G) (PQ K q Q) E
structure FnAt (P : Program) (w : World) (K : PySem.W.Frag) (mg : Str → Option Value) (base : Heap) (q : Par) (S : PV.Sem) (k g : Nat) (x : Str) (dd : List D) : Prop where
  ex : ∃ f fd ps ds dvs, FnOk P w K mg base (L2.CX P w) k f fd ps (spC K q S g ps.length) ∧ mg x = some (.ref f) ∧ PySem.W.keepIn K (.ref f) = true ∧ Binds K fd ps ds ∧ Vals dvs ds ∧ (∀ z, HasL K q z dd dvs) ∧ ∀ ds G, ds.length ≠ ps.length → S.cal g ds G = .bad
theorem passes_tk {E : XK} (tk : Tk X E) : Passes (L2.CX X.prog X.w) X E := fun pins σ H s e s' I c => passAt tk σ pins H s e s' I c
theorem call_pre {g n : Nat} {z : Z} {ds : List D} {vs : List V} {Q : VK} {E : XK} (ar : ∀ ds G, ds.length ≠ n → S.cal g ds G = .bad) (ok : Ok X.K q z) (hv : HasL X.K q z ds vs) (w : wp X.K q z (S.cal g ds z.G) (PQ X.K q Q) E) : spC X.K q S g n vs z.H Q E := by
  refine ⟨z, ds, rfl, ok, hv, ?_, w⟩
  rw [hv.len]
  by_cases hl : ds.length = n
  · exact hl
  · rw [ar ds z.G hl] at w
    exact w.elim
theorem evEs_app {ρ : Env} : ∀ (ms : List E) (dd : List D) (G : Gs), evEs S ρ (ms ++ dd.map .con) G = (evEs S ρ ms G).bind fun ds G1 => .ok (ds ++ dd) G1
  | [], dd, G => by
    show evEs S ρ (dd.map .con) G = .ok ([] ++ dd) G
    induction dd with
    | nil => rfl
    | cons d r ih =>
      show (R.bind (.ok d G) fun d G1 => (evEs S ρ (r.map .con) G1).bind fun ds G2 => .ok (d :: ds) G2) = _
      show ((evEs S ρ (r.map .con) G).bind fun ds G2 => R.ok (d :: ds) G2) = _
      rw [ih]
      rfl
  | m :: ms, dd, G => by
    show ((evE S ρ m G).bind fun d G1 => (evEs S ρ (ms ++ dd.map .con) G1).bind fun ds G2 => .ok (d :: ds) G2) = ((evE S ρ m G).bind fun d G1 => (evEs S ρ ms G1).bind fun ds G2 => R.ok (d :: ds) G2).bind fun ds G1 => .ok (ds ++ dd) G1
    cases evE S ρ m G with
    | bad => rfl
    | exc c G' => rfl
    | ok d G1 =>
      show ((evEs S ρ (ms ++ dd.map .con) G1).bind fun ds G2 => R.ok (d :: ds) G2) = ((evEs S ρ ms G1).bind fun ds G2 => R.ok (d :: ds) G2).bind fun ds G1 => .ok (ds ++ dd) G1
      rw [evEs_app ms dd G1]
      cases evEs S ρ ms G1 <;> rfl
theorem sd_callD {k g : Nat} {x : Str} {p pos : Pos} {e : Expr} {es : List Expr} {ms ms' : List E} {dd : List D} (F : FnAt X.prog X.w X.K X.mg X.base q S k g x dd) (hr : Room k X.A) (hg : Gl X x) (ha : SdA X q S (e :: es) ms) (hm' : ms' = ms ++ dd.map .con)
    (hdb : (x == ("__debug__" : Str)) = false := by decide) (he : starEach (e :: es) X.env = (false, eval e X.env) :: starEach es X.env := by rfl) (hpl : (backTo pos (starEach es X.env)).any (·.1) = false := by rfl) : Sd X q S (.Call (.Name x p) (e :: es) [] pos) (.call g ms') := fun E tk => by
  obtain ⟨f, fd, ps, ds, dvs, F1, hm, hk, hb, hv, hd, ar⟩ := F.ex
  subst hm'
  exact pe_imp (pe_call F1 hr hg hm hk hb hv (passes_tk tk) (ha E tk) hdb he hpl) fun σ H Q ⟨z, ρ, hH, ok, rl, w⟩ => ⟨z, ρ, hH, ok, rl, by
    have w : wp X.K q z ((evEs S ρ (ms ++ dd.map .con) z.G).bind fun ds G1 => S.cal g ds G1) (PQ X.K q Q) E := w
    rw [evEs_app] at w
    have e0 : ((evEs S ρ ms z.G).bind fun ds G1 => R.ok (ds ++ dd) G1).bind (fun ds G1 => S.cal g ds G1) = (evEs S ρ ms z.G).bind fun ds G1 => S.cal g (ds ++ dd) G1 := by cases evEs S ρ ms z.G <;> rfl
    rw [e0] at w
    exact (wp.bind w).mono fun ds' z1 ok1 e1 w1 vs hvs => call_pre ar ok1 (hvs.app (hd z1)) w1⟩
theorem sd_call {k g : Nat} {x : Str} {p pos : Pos} {e : Expr} {es : List Expr} {ms : List E} (F : FnAt X.prog X.w X.K X.mg X.base q S k g x []) (hr : Room k X.A) (hg : Gl X x) (ha : SdA X q S (e :: es) ms)
    (hdb : (x == ("__debug__" : Str)) = false := by decide) (he : starEach (e :: es) X.env = (false, eval e X.env) :: starEach es X.env := by rfl) (hpl : (backTo pos (starEach es X.env)).any (·.1) = false := by rfl) : Sd X q S (.Call (.Name x p) (e :: es) [] pos) (.call g ms) := sd_callD F hr hg ha (by simp) hdb he hpl
theorem sd_call0 {k g : Nat} {x : Str} {p pos : Pos} (F : FnAt X.prog X.w X.K X.mg X.base q S k g x []) (hr : Room k X.A) (hg : Gl X x)
    (hdb : (x == ("__debug__" : Str)) = false := by decide) : Sd X q S (.Call (.Name x p) [] [] pos) (.call g []) := fun E tk => by
  obtain ⟨f, fd, ps, ds, dvs, F1, hm, hk, hb, hv, hd, ar⟩ := F.ex
  have hd0 := (hd ⟨[], [], [], fun _ => none⟩).nil_inv
  subst hd0
  exact pe_imp (pe_call0 F1 hr hg hm hk hb hv (passes_tk tk) hdb) fun σ H Q ⟨z, ρ, hH, ok, rl, w⟩ => by
    subst hH
    exact call_pre ar ok HasL.nil w

/-! ### calls of what is built in -/
def rC (K : PySem.W.Frag) (q : Par) (p : Pr) : List V → Hp → VK → Prop := fun vs H Q => ∃ (z : Z) (ds : List D) (c : D), z.H = H ∧ Ok K q z ∧ HasL K q z ds vs ∧ prim z.G p ds = some c ∧ Post K q z Q c
theorem prim_imp {p : Pr} {ms : List E} {E : XK} {σ : L2.St} {H : Hp} {Q : VK} (h : rdE X.K q S E (.prim p ms) σ H Q) : tCB (rC X.K q p) (rdEs X.K q S E ms) σ H Q := by
  obtain ⟨z, ρ, hH, ok, rl, w⟩ := h
  refine ⟨z, ρ, hH, ok, rl, (wp.bind w).mono fun ds z1 ok1 e1 w1 vs hvs => ?_⟩
  obtain ⟨c, hc, hp⟩ := wp.of w1
  exact ⟨z1, ds, c, rfl, ok1, hvs, hc, hp⟩
theorem sd_callB {p : Pr} {id : String} {x : Str} {pp pos : Pos} {e : Expr} {es : List Expr} {ms : List E} (hc : CallR X (.builtin id) (rC X.K q p)) (hg : Gl X x) (hm : X.mg x = none) (hv : bootBuiltins x = some (.builtin id)) (ha : SdA X q S (e :: es) ms)
    (hn : x ≠ "__name__" := by decide) (hdb : (x == ("__debug__" : Str)) = false := by decide) (he : starEach (e :: es) X.env = (false, eval e X.env) :: starEach es X.env := by rfl) (hpl : (backTo pos (starEach es X.env)).any (·.1) = false := by rfl) : Sd X q S (.Call (.Name x pp) (e :: es) [] pos) (.prim p ms) := fun E tk =>
  pe_imp (pe_callB hc hg hm hv (ha E tk) hn hdb he hpl) fun σ H Q h => prim_imp h
theorem sd_callTy {p : Pr} {T : String} {x : Str} {pp pos : Pos} {e : Expr} {es : List Expr} {ms : List E} (hc : CallR X (.type T) (rC X.K q p)) (hg : Gl X x) (hm : X.mg x = none) (hv : bootBuiltins x = some (.type T)) (ha : SdA X q S (e :: es) ms)
    (hn : x ≠ "__name__" := by decide) (hdb : (x == ("__debug__" : Str)) = false := by decide) (he : starEach (e :: es) X.env = (false, eval e X.env) :: starEach es X.env := by rfl) (hpl : (backTo pos (starEach es X.env)).any (·.1) = false := by rfl) : Sd X q S (.Call (.Name x pp) (e :: es) [] pos) (.prim p ms) := fun E tk =>
  pe_imp (pe_callTy hc hg hm hv (ha E tk) hn hdb he hpl) fun σ H Q h => prim_imp h
theorem sd_callF {p : Pr} {id : String} {x : Str} {pp pos : Pos} {e : Expr} {es : List Expr} {ms : List E} (hc : CallR X (.builtin id) (rC X.K q p)) (hg : Gl X x) (hm : X.mg x = some (.builtin id)) (ha : SdA X q S (e :: es) ms)
    (hdb : (x == ("__debug__" : Str)) = false := by decide) (he : starEach (e :: es) X.env = (false, eval e X.env) :: starEach es X.env := by rfl) (hpl : (backTo pos (starEach es X.env)).any (·.1) = false := by rfl) : Sd X q S (.Call (.Name x pp) (e :: es) [] pos) (.prim p ms) := fun E tk =>
  pe_imp (pe_callBfun hc hg hm (ha E tk) hdb he hpl) fun σ H Q h => prim_imp h

theorem has_seq {K : PySem.W.Frag} {z : Z} {d : D} {l : List D} {v : V} (h : seqOf d = some l) (hv : Has K q z d v) : ∃ a vs, v = .ref a ∧ (SqL K z.H a vs ∨ SqT K z.H a vs) ∧ HasL K q z l vs := by
  cases d <;> simp only [seqOf, reduceCtorEq, Option.some.injEq] at h
  · subst h
    obtain ⟨a, vs, rfl, h1, h2⟩ := hv.ref_of_tup
    exact ⟨a, vs, rfl, .inr h1, h2⟩
  · subst h
    obtain ⟨a, vs, rfl, h1, _, h2⟩ := hv.of_lst
    exact ⟨a, vs, rfl, .inl (SqL.of h1), h2⟩
  · subst h
    simp only [Has] at hv
    obtain ⟨a, vs, rfl, h1, h2⟩ := hv
    refine ⟨a, vs, rfl, .inl ?_, h2⟩
    rcases h1 with ⟨r, _⟩ | h1
    · exact .inl r
    · exact .inr h1
theorem has_lst {K : PySem.W.Frag} {z : Z} {d : D} {l : List D} {v : V} (h : lstOf d = some l) (hv : Has K q z d v) : ∃ a vs, v = .ref a ∧ SqL K z.H a vs ∧ HasL K q z l vs := by
  cases d <;> simp only [lstOf, reduceCtorEq, Option.some.injEq] at h
  · subst h
    obtain ⟨a, vs, rfl, h1, _, h2⟩ := hv.of_lst
    exact ⟨a, vs, rfl, SqL.of h1, h2⟩
  · subst h
    simp only [Has] at hv
    obtain ⟨a, vs, rfl, h1, h2⟩ := hv
    refine ⟨a, vs, rfl, ?_, h2⟩
    rcases h1 with ⟨r, _⟩ | h1
    · exact .inl r
    · exact .inr h1
theorem has_ints {K : PySem.W.Frag} {z : Z} : ∀ {l : List D} {vs : List V} {ns : List Int}, intsD l = some ns → HasL K q z l vs → vs = ns.map V.int
  | [], vs, ns, h, hv => by
    simp only [intsD, Option.some.injEq] at h
    subst h
    exact hv.nil_inv
  | d :: l, vs, ns, h, hv => by
    obtain ⟨v, r, rfl, h1, h2⟩ := hv.cons_inv
    cases d <;> simp only [intsD, reduceCtorEq, Option.map_eq_some_iff] at h
    obtain ⟨ms, h, rfl⟩ := h
    rw [h1.of_int, has_ints h h2]
    rfl
theorem has_strs {K : PySem.W.Frag} {z : Z} : ∀ {l : List D} {vs : List V} {ns : List Str}, strsD l = some ns → HasL K q z l vs → vs = ns.map V.str
  | [], vs, ns, h, hv => by
    simp only [strsD, Option.some.injEq] at h
    subst h
    exact hv.nil_inv
  | d :: l, vs, ns, h, hv => by
    obtain ⟨v, r, rfl, h1, h2⟩ := hv.cons_inv
    cases d <;> simp only [strsD, reduceCtorEq, Option.map_eq_some_iff] at h
    obtain ⟨ms, h, rfl⟩ := h
    rw [h1.of_str, has_strs h h2]
    rfl
theorem strs_has {K : PySem.W.Frag} {z : Z} : ∀ ns : List Str, HasL K q z (ns.map .str) (ns.map V.str)
  | [] => HasL.nil
  | n :: ns => HasL.cons Has.str (strs_has ns)
theorem HasL.one {K : PySem.W.Frag} {z : Z} {d : D} {vs : List V} (h : HasL K q z [d] vs) : ∃ v, vs = [v] ∧ Has K q z d v := by
  obtain ⟨v, r, rfl, h1, h2⟩ := h.cons_inv
  rw [h2.nil_inv]
  exact ⟨v, rfl, h1⟩
theorem HasL.two {K : PySem.W.Frag} {z : Z} {d e : D} {vs : List V} (h : HasL K q z [d, e] vs) : ∃ v u, vs = [v, u] ∧ Has K q z d v ∧ Has K q z e u := by
  obtain ⟨v, r, rfl, h1, h2⟩ := h.cons_inv
  obtain ⟨u, rfl, h3⟩ := h2.one
  exact ⟨v, u, rfl, h1, h3⟩
/-- len of a dict -/
def rLenD (q : Par) : List V → Hp → VK → Prop := fun vs H Q => ∃ (a : Addr) (o : Obj) (xs : List (NestedKey × Addr × Value)), vs = [V.ref a] ∧ H a = some (DictO a o) ∧ DictRep q a o xs ∧ Q (.int xs.length) H
theorem raw_of {H : Hp} {h : Heap} {P : Program} {w : World} {a : Addr} {o : Obj} {xs : List (NestedKey × Addr × Value)} (hok : HOk P w H h) (e : H a = some (DictO a o)) (r : DictRep q a o xs) : ∃ es ep, h.DictRaw a es ep ∧ es.toList = xs.map (entryOfKey (nestedKind q.P q.W)) ∧ es.size = xs.length ∧ (a == sysModules) = false ∧ es.size ≤ sizeLine := by
  obtain ⟨es, ep, h1, h2, h3, h4, h5, h6⟩ := r
  have hg : h.get? a = some o := (hok a _ e).1
  have hs : es.size = xs.length := by rw [← Array.length_toList, h3, List.length_map]
  exact ⟨es, ep, ⟨o, hg, h1, h2⟩, h3, hs, h6, by rw [hs]; exact h5⟩
theorem call_len_dct : CallR X (.builtin "len") (rLenD q) := by
  intro pins s σ H xs us Q I r h
  obtain ⟨a, o, es0, rfl, ha, hr, hQ⟩ := h
  obtain ⟨es, ep, hraw, he, hs, lo, hz⟩ := raw_of I.hok ha hr
  rw [Vals.ref1 r]
  refine PyProof.Rows.call_len_slot (n := es.size) hraw.typeIs F.slot_dict_len (fun Q' hq => call_len_raw lo hraw hq) (by omega) (by rw [sizeLine_eq] at hz; omega) ?_
  rw [hs]
  exact ⟨.int es0.length, H, I.tok _, ⟨_, rfl⟩, hQ⟩
/-! the functions -/
theorem pr_len : CallR X (.builtin "len") (rC X.K q .len) := by
  intro pins s σ H xs us Q I r h
  obtain ⟨z, ds, c, rfl, ok, hv, hc, hp⟩ := h
  have hc : pLen z.G ds = some c := hc
  unfold pLen at hc
  split at hc <;> try (cases hc; done)
  · split at hc <;> cases hc
    rename_i s' hs
    obtain ⟨v, rfl, h1⟩ := hv.one
    rw [h1.of_str] at r
    exact call_len_str pins s σ _ _ us Q I r ⟨_, rfl, hs, hp.at ok Has.int⟩
  · obtain ⟨v, rfl, h1⟩ := hv.one
    simp only [Has] at h1
    obtain ⟨a, rfl, h1⟩ := h1
    split at hc <;> cases hc
    · rename_i n l hn
      obtain ⟨a', e1, ⟨vs, e2, e3⟩, _⟩ := ok.cells _ _ hn
      rw [h1] at e1
      cases e1
      exact call_len_seq pins s σ _ _ us Q I r ⟨a, vs, rfl, .inl (SqL.of e2), by rw [e3.len]; exact hp.at ok Has.int⟩
    · rename_i n ks vs hn
      obtain ⟨a', e1, ⟨o, xs, us', g1, g2, g3, g4, _⟩, _⟩ := ok.cells _ _ hn
      rw [h1] at e1
      cases e1
      refine call_len_dct (q := q) pins s σ _ _ us Q I r ⟨a, o, xs, rfl, g1, g2, ?_⟩
      have : xs.length = ks.length := by have := g4.len; simpa using this
      rw [this]
      exact hp.at ok Has.int
  · cases hc
    rename_i ks vs
    obtain ⟨v, rfl, h1⟩ := hv.one
    simp only [Has] at h1
    obtain ⟨a, o, xs, us', rfl, g1, g2, g3, g4, _⟩ := h1
    refine call_len_dct (q := q) pins s σ _ _ us Q I r ⟨a, o, xs, rfl, g1, g2, ?_⟩
    have : xs.length = ks.length := by have := g4.len; simpa using this
    rw [this]
    exact hp.at ok Has.int
  · rename_i d hd1 hd2 hd3
    simp only [Option.map_eq_some_iff] at hc
    obtain ⟨l, hl, rfl⟩ := hc
    obtain ⟨v, rfl, h1⟩ := hv.one
    obtain ⟨a, vs, rfl, h2, h3⟩ := has_seq hl h1
    exact call_len_seq pins s σ _ _ us Q I r ⟨a, vs, rfl, h2, by rw [h3.len]; exact hp.at ok Has.int⟩
theorem pr_abs : CallR X (.builtin "abs") (rC X.K q .abs) := by
  intro pins s σ H xs us Q I r h
  obtain ⟨z, ds, c, rfl, ok, hv, hc, hp⟩ := h
  have hc : pAbs ds = some c := hc
  unfold pAbs at hc
  split at hc <;> try (cases hc; done)
  cases hc
  obtain ⟨v, rfl, h1⟩ := hv.one
  rw [h1.of_int] at r
  exact call_abs pins s σ _ _ us Q I r ⟨_, rfl, hp.at ok Has.int⟩
theorem pr_list : CallR X (.type "list") (rC X.K q .list) := by
  intro pins s σ H xs us Q I r h
  obtain ⟨z, ds, c, rfl, ok, hv, hc, hp⟩ := h
  have hc : pList ds = some c := hc
  unfold pList at hc
  split at hc <;> try (cases hc; done)
  simp only [Option.map_eq_some_iff] at hc
  obtain ⟨l, hl, rfl⟩ := hc
  obtain ⟨v, rfl, h1⟩ := hv.one
  obtain ⟨a, vs, rfl, h2, h3⟩ := has_seq hl h1
  exact call_list_of pins s σ _ _ us Q I r ⟨a, vs, rfl, h2, fun p hn => hp.put ok hn (put_lst ok hn h3)⟩
theorem pr_tuple : CallR X (.type "tuple") (rC X.K q .tuple) := by
  intro pins s σ H xs us Q I r h
  obtain ⟨z, ds, c, rfl, ok, hv, hc, hp⟩ := h
  have hc : pTuple ds = some c := hc
  unfold pTuple at hc
  split at hc <;> try (cases hc; done)
  simp only [Option.map_eq_some_iff] at hc
  obtain ⟨l, hl, rfl⟩ := hc
  obtain ⟨v, rfl, h1⟩ := hv.one
  obtain ⟨a, vs, rfl, h2, h3⟩ := has_seq hl h1
  refine call_tuple_of pins s σ _ _ us Q I r ⟨a, vs, rfl, ?_⟩
  rcases h2 with h2 | h2
  · exact .inl ⟨h2, fun p hn => hp.put ok hn (put_tup ok hn h3)⟩
  · exact .inr ⟨h2, hp.at ok (Has.tup h2 h3)⟩
theorem pr_int : CallR X (.type "int") (rC X.K q .int) := by
  intro pins s σ H xs us Q I r h
  obtain ⟨z, ds, c, rfl, ok, hv, hc, hp⟩ := h
  have hc : pInt ds = some c := hc
  unfold pInt at hc
  split at hc <;> try (cases hc; done)
  · cases hc
    obtain ⟨v, rfl, h1⟩ := hv.one
    rw [h1.of_int] at r
    exact call_int1 pins s σ _ _ us Q I r (.inl ⟨_, rfl, hp.at ok Has.int⟩)
  · cases hc
    obtain ⟨v, rfl, h1⟩ := hv.one
    rw [h1.of_bl] at r
    exact call_int1 pins s σ _ _ us Q I r (.inr ⟨_, rfl, hp.at ok Has.int⟩)
  · split at hc <;> try (cases hc; done)
    split at hc <;> cases hc
    rename_i s' n hn hl
    obtain ⟨v, rfl, h1⟩ := hv.one
    rw [h1.of_str] at r
    exact call_int_str pins s σ _ _ us Q I r ⟨_, _, rfl, hn, hl, hp.at ok Has.int⟩
theorem pr_str : CallR X (.type "str") (rC X.K q .str) := by
  intro pins s σ H xs us Q I r h
  obtain ⟨z, ds, c, rfl, ok, hv, hc, hp⟩ := h
  have hc : pStr ds = some c := hc
  unfold pStr at hc
  split at hc <;> try (cases hc; done)
  split at hc <;> cases hc
  rename_i i hs
  obtain ⟨v, rfl, h1⟩ := hv.one
  rw [h1.of_int] at r
  exact call_str_int pins s σ _ _ us Q I r ⟨_, rfl, hs, hp.at ok Has.str⟩
theorem pr_gcd : CallR X (.builtin "math.gcd") (rC X.K q .gcd) := by
  intro pins s σ H xs us Q I r h
  obtain ⟨z, ds, c, rfl, ok, hv, hc, hp⟩ := h
  have hc : pGcd ds = some c := hc
  unfold pGcd at hc
  split at hc <;> try (cases hc; done)
  cases hc
  obtain ⟨v, u, rfl, h1, h2⟩ := hv.two
  rw [h1.of_int, h2.of_int] at r
  exact cr_gcd pins s σ _ _ us Q I r ⟨_, _, rfl, hp.at ok Has.int⟩
theorem fold_max : ∀ (r : List Int) (x m : Int), (m = x ∨ m ∈ r) → x ≤ m → (∀ y ∈ r, y ≤ m) → r.foldl (fun a b => if b > a then b else a) x = m
  | [], x, m, h, _, _ => by
    rcases h with h | h
    · exact h.symm
    · cases h
  | b :: r, x, m, h, hx, hr => by
    rw [List.foldl_cons]
    have hb := hr b (List.mem_cons_self ..)
    refine fold_max r _ m ?_ ?_ fun y hy => hr y (List.mem_cons_of_mem _ hy)
    · rcases h with h | h
      · subst h
        split
        · omega
        · exact .inl rfl
      · rcases List.mem_cons.mp h with h | h
        · subst h
          split
          · exact .inl rfl
          · left; omega
        · exact .inr h
    · split <;> omega
theorem fold_min : ∀ (r : List Int) (x m : Int), (m = x ∨ m ∈ r) → m ≤ x → (∀ y ∈ r, m ≤ y) → r.foldl (fun a b => if b < a then b else a) x = m
  | [], x, m, h, _, _ => by
    rcases h with h | h
    · exact h.symm
    · cases h
  | b :: r, x, m, h, hx, hr => by
    rw [List.foldl_cons]
    have hb := hr b (List.mem_cons_self ..)
    refine fold_min r _ m ?_ ?_ fun y hy => hr y (List.mem_cons_of_mem _ hy)
    · rcases h with h | h
      · subst h
        split
        · omega
        · exact .inl rfl
      · rcases List.mem_cons.mp h with h | h
        · subst h
          split
          · exact .inl rfl
          · left; omega
        · exact .inr h
    · split <;> omega
theorem pr_max1 (hcm : X.calm = true) : CallR X (.builtin "max") (rC X.K q .max1) := by
  intro pins s σ H xs us Q I r h
  obtain ⟨z, ds, c, rfl, ok, hv, hc, hp⟩ := h
  have hc : pMax1 ds = some c := hc
  unfold pMax1 at hc
  split at hc <;> try (cases hc; done)
  simp only [Option.map_eq_some_iff, Option.bind_eq_some_iff] at hc
  obtain ⟨ns, ⟨l, hl, hn⟩, m, hm, rfl⟩ := hc
  obtain ⟨v, rfl, h1⟩ := hv.one
  obtain ⟨a, vs, rfl, h2, h3⟩ := has_lst hl h1
  have e := has_ints hn h3
  subst e
  cases ns with
  | nil => simp [maxI] at hm
  | cons x rr =>
    simp only [maxI, Option.some.injEq] at hm
    refine cr_max hcm pins s σ _ _ us Q I r ⟨a, _, rfl, h2, by simp, fun m' h4 h5 => ?_⟩
    have := fold_max rr x m' (List.mem_cons.mp h4) (h5 x (List.mem_cons_self ..)) fun y hy => h5 y (List.mem_cons_of_mem _ hy)
    rw [← this, hm]
    exact hp.at ok Has.int
theorem pr_min1 (hcm : X.calm = true) : CallR X (.builtin "min") (rC X.K q .min1) := by
  intro pins s σ H xs us Q I r h
  obtain ⟨z, ds, c, rfl, ok, hv, hc, hp⟩ := h
  have hc : pMin1 ds = some c := hc
  unfold pMin1 at hc
  split at hc <;> try (cases hc; done)
  simp only [Option.map_eq_some_iff, Option.bind_eq_some_iff] at hc
  obtain ⟨ns, ⟨l, hl, hn⟩, m, hm, rfl⟩ := hc
  obtain ⟨v, rfl, h1⟩ := hv.one
  obtain ⟨a, vs, rfl, h2, h3⟩ := has_lst hl h1
  have e := has_ints hn h3
  subst e
  cases ns with
  | nil => simp [minI] at hm
  | cons x rr =>
    simp only [minI, Option.some.injEq] at hm
    refine cr_min hcm pins s σ _ _ us Q I r ⟨a, _, rfl, h2, by simp, fun m' h4 h5 => ?_⟩
    have := fold_min rr x m' (List.mem_cons.mp h4) (h5 x (List.mem_cons_self ..)) fun y hy => h5 y (List.mem_cons_of_mem _ hy)
    rw [← this, hm]
    exact hp.at ok Has.int
theorem pr_max2 (hcm : X.calm = true) : CallR X (.builtin "max") (rC X.K q .max2) := by
  intro pins s σ H xs us Q I r h
  obtain ⟨z, ds, c, rfl, ok, hv, hc, hp⟩ := h
  have hc : pMax2 ds = some c := hc
  unfold pMax2 at hc
  split at hc <;> try (cases hc; done)
  cases hc
  obtain ⟨v, u, rfl, h1, h2⟩ := hv.two
  rw [h1.of_int, h2.of_int] at r
  exact call_max2 hcm pins s σ _ _ us Q I r ⟨_, _, rfl, hp.at ok Has.int⟩
theorem pr_min2 (hcm : X.calm = true) : CallR X (.builtin "min") (rC X.K q .min2) := by
  intro pins s σ H xs us Q I r h
  obtain ⟨z, ds, c, rfl, ok, hv, hc, hp⟩ := h
  have hc : pMin2 ds = some c := hc
  unfold pMin2 at hc
  split at hc <;> try (cases hc; done)
  cases hc
  obtain ⟨v, u, rfl, h1, h2⟩ := hv.two
  rw [h1.of_int, h2.of_int] at r
  exact call_min2 hcm pins s σ _ _ us Q I r ⟨_, _, rfl, hp.at ok Has.int⟩
theorem pr_sum (hcm : X.calm = true) : CallR X (.builtin "sum") (rC X.K q .sum) := by
  intro pins s σ H xs us Q I r h
  obtain ⟨z, ds, c, rfl, ok, hv, hc, hp⟩ := h
  have hc : pSum ds = some c := hc
  unfold pSum at hc
  split at hc <;> try (cases hc; done)
  simp only [Option.map_eq_some_iff, Option.bind_eq_some_iff] at hc
  obtain ⟨ns, ⟨l, hl, hn⟩, rfl⟩ := hc
  obtain ⟨v, rfl, h1⟩ := hv.one
  obtain ⟨a, vs, rfl, h2, h3⟩ := has_lst hl h1
  have e := has_ints hn h3
  subst e
  exact cr_sum hcm pins s σ _ _ us Q I r ⟨a, _, rfl, h2, hp.at ok Has.int⟩
theorem has_bls {K : PySem.W.Frag} {q : Par} {z : Z} : ∀ {l : List D} {bs : List Bool} {vs : List V}, blsD l = some bs → HasL K q z l vs → vs = bs.map V.bl
  | [], bs, vs, h, hv => by
    simp only [blsD, Option.some.injEq] at h
    subst h
    exact hv.nil_inv
  | d :: l, bs, vs, h, hv => by
    cases d <;> simp only [blsD, reduceCtorEq] at h
    simp only [Option.map_eq_some_iff] at h
    obtain ⟨b, hb, rfl⟩ := h
    obtain ⟨v, vr, rfl, g1, g2⟩ := hv.cons_inv
    rw [has_bls hb g2, g1.of_bl]
    rfl
theorem pr_all1 (hcm : X.calm = true) : CallR X (.builtin "all") (rC X.K q .all1) := by
  intro pins s σ H xs us Q I r h
  obtain ⟨z, ds, c, rfl, ok, hv, hc, hp⟩ := h
  have hc : pAll ds = some c := hc
  unfold pAll at hc
  split at hc <;> try (cases hc; done)
  simp only [Option.map_eq_some_iff, Option.bind_eq_some_iff] at hc
  obtain ⟨ns, ⟨l, hl, hn⟩, rfl⟩ := hc
  obtain ⟨v, rfl, h1⟩ := hv.one
  obtain ⟨a, vs, rfl, h2, h3⟩ := has_lst hl h1
  have e := has_bls hn h3
  subst e
  exact cr_all hcm pins s σ _ _ us Q I r ⟨a, _, rfl, h2, hp.at ok Has.bl⟩
theorem hasL_ints {K : PySem.W.Frag} {q : Par} {z : Z} : ∀ ns : List Int, HasL K q z (ns.map .int) (ns.map V.int)
  | [] => HasL.nil
  | _ :: ns => HasL.cons Has.int (hasL_ints ns)
/-! sorted -/
open PySem.W in
theorem src_gathers {K : PySem.W.Frag} {z : Z} {d : D} {l : List D} {v : V} (ok : Ok K q z) (h : srcOf z.G d = some l) (hv : Has K q z d v) : ∃ a vs, v = .ref a ∧ HasL K q z l vs ∧
    ∀ (X : Cx) (pins : List (Addr × Obj)) (σ : L2.St) (s : Shared), X.K = K → X.calm = true → L2.Inv X pins σ z.H s → ∃ us, Vals vs us ∧ us.length ≤ sizeLine ∧ Gathers X.prog X.w X.A.in1 s a us := by
  have lstc : ∀ (a : Addr) (vs : List V), SqL K z.H a vs → ∀ (X : Cx) (pins : List (Addr × Obj)) (σ : L2.St) (s : Shared), X.K = K → X.calm = true → L2.Inv X pins σ z.H s → ∃ us, Vals vs us ∧ us.length ≤ sizeLine ∧ Gathers X.prog X.w X.A.in1 s a us := fun a vs hs X pins σ s hK hc I => by
    subst hK
    obtain ⟨its, rv, pl, hz⟩ := I.list hs
    exact ⟨its, rv, by rw [← rv.length]; exact hz, gathers_list pl.isList (by rw [← rv.length]; exact hz)⟩
  have dctc : ∀ (a : Addr) (o : Obj) (xs : List (NestedKey × Addr × Value)), z.H a = some (DictO a o) → DictRep q a o xs → ∀ (X : Cx) (pins : List (Addr × Obj)) (σ : L2.St) (s : Shared), X.K = K → X.calm = true → L2.Inv X pins σ z.H s → ∃ us, Vals (xs.map fun x => V.ref x.2.1) us ∧ us.length ≤ sizeLine ∧ Gathers X.prog X.w X.A.in1 s a us := fun a o xs ha hr X pins σ s hK hc I => by
    obtain ⟨es, ep, hraw, he, hs, lo, hz⟩ := raw_of I.hok ha hr
    refine ⟨es.toList.map (·.key), ?_, by rw [List.length_map, Array.length_toList]; exact hz, gathers_dict (A := X.A.in1) (show X.A.in1.handled = none from I.ok.hd hc) lo hraw hz⟩
    rw [he, List.map_map]
    have : ∀ ys : List (NestedKey × Addr × Value), Vals (ys.map fun x => V.ref x.2.1) (ys.map ((fun e : DictEntry => e.key) ∘ entryOfKey (nestedKind q.P q.W))) := fun ys => by
      induction ys with
      | nil => exact .nil
      | cons y ys ih => exact .cons rfl ih
    exact this xs
  cases d <;> simp only [srcOf, reduceCtorEq, Option.some.injEq] at h
  · subst h
    obtain ⟨a, vs, rfl, h1, h2⟩ := hv.ref_of_tup
    refine ⟨a, vs, rfl, h2, fun X pins σ s hK hc I => ?_⟩
    subst hK
    obtain ⟨its, rv, pl, hz⟩ := I.tuple h1
    exact ⟨its, rv, by rw [← rv.length]; exact hz, gathers_tup pl (by rw [← rv.length]; exact hz)⟩
  · subst h
    obtain ⟨a, vs, rfl, h1, _, h2⟩ := hv.of_lst
    exact ⟨a, vs, rfl, h2, lstc a vs (SqL.of h1)⟩
  · subst h
    simp only [Has] at hv
    obtain ⟨a, vs, rfl, h1, h2⟩ := hv
    refine ⟨a, vs, rfl, h2, lstc a vs ?_⟩
    rcases h1 with ⟨r, _⟩ | h1
    · exact .inl r
    · exact .inr h1
  · simp only [Has] at hv
    obtain ⟨a, rfl, h1⟩ := hv
    split at h <;> cases h
    · rename_i n l hn
      obtain ⟨a', e1, ⟨vs, e2, e3⟩, _⟩ := ok.cells _ _ hn
      rw [h1] at e1; cases e1
      exact ⟨a, vs, rfl, e3, lstc a vs (SqL.of e2)⟩
    · rename_i n ks vs hn
      obtain ⟨a', e1, ⟨o, xs, us', g1, g2, g3, g4, _⟩, _⟩ := ok.cells _ _ hn
      rw [h1] at e1; cases e1
      exact ⟨a, _, rfl, g4, dctc a o xs g1 g2⟩
  · subst h
    simp only [Has] at hv
    obtain ⟨a, o, xs, us', rfl, g1, g2, g3, g4, _⟩ := hv
    exact ⟨a, _, rfl, g4, dctc a o xs g1 g2⟩
theorem toPys_len : ∀ {l : List D} {ps : List PyData}, toPys l = some ps → ps.length = l.length
  | [], ps, h => by simp only [toPys, Option.some.injEq] at h; subst h; rfl
  | d :: l, ps, h => by
    simp only [toPys] at h
    split at h
    · rename_i p ps' h1 h2
      cases h
      rw [List.length_cons, List.length_cons, toPys_len h2]
    · cases h
open PyProof.Rows PySem.W in
theorem each_zip {K : PySem.W.Frag} {z : Z} : ∀ {l : List D} {ps : List PyData} {vs : List V} {us : List Value}, toPys l = some ps → HasL K q z l vs → Vals vs us → EachIs (fun u (b : D × PyData) => (∃ x, RelV x u ∧ Has K q z b.1 x) ∧ toPy b.1 = some b.2) us (l.zip ps)
  | [], ps, vs, us, h, hv, r => by
    simp only [toPys, Option.some.injEq] at h
    subst h
    have e := hv.nil_inv
    subst e
    cases r
    exact .nil
  | d :: l, ps, vs, us, h, hv, r => by
    simp only [toPys] at h
    split at h
    · rename_i p ps' h1 h2
      cases h
      obtain ⟨v, vr, rfl, g1, g2⟩ := hv.cons_inv
      cases r with
      | cons r1 r2 => exact .cons ⟨⟨v, r1, g1⟩, h1⟩ (each_zip h2 g2 r2)
    · cases h
open PyProof.Rows PySem.W in
theorem each_out {K : PySem.W.Frag} {z : Z} : ∀ {out : List Value} {bs : List (D × PyData)}, EachIs (fun u (b : D × PyData) => ∃ x, RelV x u ∧ Has K q z b.1 x) out bs → ∃ ys, Vals ys out ∧ HasL K q z (bs.map (·.1)) ys
  | _, _, .nil => ⟨[], .nil, HasL.nil⟩
  | _, _, .cons ⟨x, h1, h2⟩ t => by
    obtain ⟨ys, g1, g2⟩ := each_out t
    exact ⟨x :: ys, .cons h1 g1, HasL.cons h2 g2⟩
abbrev tokF (b : D × PyData) : D × List (Int ⊕ List Nat) := (b.1, PySem.W.keyToks b.2)
theorem ins_eq (x : D × PyData) : ∀ l : List (D × PyData), (PySem.W.insB (PySem.W.dataLe false (·.2)) x l).map tokF = insD (tokF x) (l.map tokF)
  | [] => rfl
  | y :: r => by
    have e : PySem.W.dataLe false (fun b : D × PyData => b.2) x y = !(PyProof.Rows.lexLt PyProof.Rows.itemOrd (PySem.W.keyToks y.2) (PySem.W.keyToks x.2)) := rfl
    show (if PySem.W.dataLe false (fun b : D × PyData => b.2) x y = true then x :: y :: r else y :: PySem.W.insB (PySem.W.dataLe false (·.2)) x r).map tokF = if PyProof.Rows.lexLt PyProof.Rows.itemOrd (PySem.W.keyToks y.2) (PySem.W.keyToks x.2) = true then tokF y :: insD (tokF x) (r.map tokF) else tokF x :: tokF y :: r.map tokF
    rw [e]
    cases PyProof.Rows.lexLt PyProof.Rows.itemOrd (PySem.W.keyToks y.2) (PySem.W.keyToks x.2) with
    | true =>
      rw [if_neg (by simp), if_pos rfl, List.map_cons, ins_eq x r]
    | false => rw [if_pos (by simp), if_neg (by simp)]; rfl
theorem isort_D : ∀ l : List (D × PyData), (PySem.W.isortB (PySem.W.dataLe false (·.2)) l).map tokF = sortD (l.map tokF)
  | [] => rfl
  | x :: r => by
    show (PySem.W.insB _ x (PySem.W.isortB _ r)).map tokF = insD (tokF x) (sortD (r.map tokF))
    rw [ins_eq, isort_D r]
theorem zip_tok : ∀ (l : List D) (ps : List PyData), (l.zip ps).map tokF = l.zip (ps.map PySem.W.keyToks)
  | [], _ => rfl
  | _ :: _, [] => rfl
  | d :: l, p :: ps => by
    rw [List.zip_cons_cons, List.map_cons, zip_tok l ps]
    rfl
open PySem.W PyProof.Rows in
theorem pr_sorted (hcm : X.calm = true) (hu : X.A.units + 64 < cLine) : CallR X (.builtin "sorted") (rC X.K q .sorted) := by
  intro pins s σ H xs us Q I r h
  obtain ⟨z, ds, c, rfl, ok, hv, hc, hp⟩ := h
  have hc : pSorted z.G ds = some c := hc
  unfold pSorted at hc
  split at hc <;> try (cases hc; done)
  simp only [Option.map_eq_some_iff, Option.bind_eq_some_iff] at hc
  obtain ⟨l2, ⟨l, hl, hn⟩, rfl⟩ := hc
  obtain ⟨v, rfl, h1⟩ := hv.one
  obtain ⟨a, vs, rfl, h2, hg⟩ := src_gathers ok hl h1
  obtain ⟨us', rv, hz, G⟩ := hg X pins σ s rfl hcm I
  rw [Vals.ref1 r]
  unfold sortL at hn
  split at hn
  · rename_i ps hps
    split at hn <;> cases hn
    rename_i hf
    obtain ⟨hf, hlz⟩ := hf
    have hlen := toPys_len hps
    unfold fitS at hf
    simp only [Bool.and_eq_true, List.all_eq_true, decide_eq_true_eq] at hf
    have em : ∀ b ∈ l.zip ps, b.2 ∈ ps := fun b hb => (List.of_mem_zip hb).2
    have each := each_zip (us := us') hps h2 rv
    have er : EachIs (fun v (b : D × PyData) => ∃ as, Reads s.heap v b.2 as) us' (l.zip ps) := each.mono fun u b ⟨⟨x, e1, e2⟩, e3⟩ => Dp.reads I _ x u (has_dp b.1 b.2 x e3 e2) e1
    refine sorted_gathers (bs := l.zip ps) (enc := (·.2)) G er (fun d hd d' hd' => ?_) (fun b hb e => ?_) hz (fun b hb => ?_) fun hp1 h' tk ep out k1 k2 hat ho holen => ?_
    · obtain ⟨b, hb, rfl⟩ := List.mem_map.mp hd
      obtain ⟨b', hb', rfl⟩ := List.mem_map.mp hd'
      exact hf.1 _ (em b hb) _ (em b' hb')
    · have := (hf.2 _ (em b hb)).2
      rw [e] at this
      cases this
    · have := (hf.2 _ (em b hb)).1
      omega
    · have eo := ho (fun u (b : D × PyData) => ∃ x, RelV x u ∧ Has X.K q z b.1 x) (each.mono fun u b h => h.1)
      obtain ⟨ys, rys, hys⟩ := each_out eo
      have ed : (isortB (dataLe false fun b : D × PyData => b.2) (l.zip ps)).map (·.1) = (sortD (l.zip (ps.map keyToks))).map (·.1) := by
        rw [← zip_tok, ← isort_D, List.map_map]
        rfl
      rw [ed] at hys
      have I1 : L2.Inv X pins σ z.H { s with heap := hp1, toks := tk } := I.kept k1
      refine ⟨.ref hp1.objs.size, upd z.H hp1.objs.size (.lst ys), I1.laid (t' := tk) k2 (Nat.le_refl _) (show ObjOk X.prog X.w _ _ _ (.lst ys) from ⟨?_, out, ep, rys, hat⟩), rfl, ?_⟩
      · rw [rys.length, holen]; exact hz
      · exact hp.put ok (I1.hok.fresh (Nat.le_refl _)) (put_lst ok (I1.hok.fresh (Nat.le_refl _)) hys)
  · cases hn
end
end PV
end
/-! ## PV5 -/
section
set_option Elab.async false
set_option linter.all false
set_option maxRecDepth 100000
set_option maxHeartbeats 4000000
/-! The rules: walks, targets, comprehensions, loops. -/
namespace PV
open PySem L2 LamX RZ
section
variable {X : Cx} {q : Par} {S : PV.Sem}

/-! ### walks -/
structure Wk (K : PySem.W.Frag) (q : Par) (J : L2.It) (ds : List D) (I : Z → Prop) : Prop where
  stop : ∀ z, Ok K q z → I z → J.stop ds.length z.H
  go : ∀ z i, Ok K q z → I z → i < ds.length → J.go i z.H
  yld : ∀ z i x H', Ok K q z → I z → i < ds.length → J.yld i z.H x H' → ∃ z' : Z, z'.H = H' ∧ z'.G = z.G ∧ Ok K q z' ∧ Ext z z' ∧ ∃ d, ds[i]? = some d ∧ Has K q z' d x
  st : ∀ z z', Mv K q z z' → I z → I z'
def rdI (K : PySem.W.Frag) (q : Par) (S : PV.Sem) (E : XK) (it : PV.It) : TI := fun σ H R => ∃ z ρ, z.H = H ∧ Ok K q z ∧ RelS K q z ρ σ ∧ wp K q z (evI S ρ it z.G) (fun ds z' => ∀ J I, Wk K q J ds I → I z' → R J z'.H) E
def SdI (X : Cx) (q : Par) (S : PV.Sem) (tg e : Expr) (it : PV.It) : Prop := ∀ E : XK, Tk X E → PI X tg e (rdI X.K q S E it)
theorem pi_imp {tg e : Expr} {t t' : TI} (h : PI X tg e t) (f : ∀ σ H R, t' σ H R → t σ H R) : PI X tg e t' := ⟨fun pins s σ H R I w => h.run pins s σ H R I (f σ H R w)⟩
theorem pi_or {tg e : Expr} {t t' : TI} (h : PI X tg e t) (h' : PI X tg e t') : PI X tg e (fun σ H R => t σ H R ∨ t' σ H R) := ⟨fun pins s σ H R I w => by
  rcases w with w | w
  · exact h.run pins s σ H R I w
  · exact h'.run pins s σ H R I w⟩
theorem wk_lst {K : PySem.W.Frag} {a : Addr} {ds : List D} {vs : List V} : Wk K q (Itl K a) ds (fun z => Rd z.H a (.lst vs) ∧ Free z a ∧ HasL K q z ds vs) where
  stop := fun z ok ⟨h1, _, h2⟩ => ⟨vs, .inl h1, by rw [h2.len]; exact Nat.le_refl _⟩
  go := fun z i ok ⟨h1, _, h2⟩ hi => ⟨vs, vs[i]'(by rw [h2.len]; exact hi), .inl h1, by simp⟩
  yld := fun z i x H' ok ⟨h1, _, h2⟩ hi ⟨e, h3⟩ => by
    subst e
    obtain ⟨d, h4, h5⟩ := h2.get' (h3 vs (.inl h1))
    exact ⟨z, rfl, rfl, ok, Ext.refl z, d, h4, h5⟩
  st := fun z z' m ⟨h1, f, h2⟩ => ⟨(m.r a vs h1 f).1, (m.r a vs h1 f).2, HasL.mv m ds vs h2⟩
theorem wk_kl {K : PySem.W.Frag} {a : Addr} {ds : List D} {vs : List V} (hk : KL K a vs) : Wk K q (Itl K a) ds (fun z => HasL K q z ds vs) where
  stop := fun z ok h2 => ⟨vs, .inr hk, by rw [h2.len]; exact Nat.le_refl _⟩
  go := fun z i ok h2 hi => ⟨vs, vs[i]'(by rw [h2.len]; exact hi), .inr hk, by simp⟩
  yld := fun z i x H' ok h2 hi ⟨e, h3⟩ => by
    subst e
    obtain ⟨d, h4, h5⟩ := h2.get' (h3 vs (.inr hk))
    exact ⟨z, rfl, rfl, ok, Ext.refl z, d, h4, h5⟩
  st := fun z z' m h2 => HasL.mv m ds vs h2
theorem wk_tup {K : PySem.W.Frag} {a : Addr} {ds : List D} {vs : List V} : Wk K q (Itt K a) ds (fun z => SqT K z.H a vs ∧ HasL K q z ds vs) where
  stop := fun z ok ⟨h1, h2⟩ => ⟨vs, h1, by rw [h2.len]; exact Nat.le_refl _⟩
  go := fun z i ok ⟨h1, h2⟩ hi => ⟨vs, vs[i]'(by rw [h2.len]; exact hi), h1, by simp⟩
  yld := fun z i x H' ok ⟨h1, h2⟩ hi ⟨e, h3⟩ => by
    subst e
    obtain ⟨d, h4, h5⟩ := h2.get' (h3 vs h1)
    exact ⟨z, rfl, rfl, ok, Ext.refl z, d, h4, h5⟩
  st := fun z z' m ⟨h1, h2⟩ => ⟨m.t a vs h1, HasL.mv m ds vs h2⟩
theorem rangeD_len (lo hi : Int) : (rangeD lo hi).length = (hi - lo).toNat := by simp [rangeD]
theorem wk_rng {K : PySem.W.Frag} {lo hi : Int} : Wk K q (Itr lo (hi - lo).toNat) (rangeD lo hi) (fun _ => True) where
  stop := fun z ok _ => by rw [rangeD_len]; exact Nat.le_refl _
  go := fun z i ok _ h => by rw [rangeD_len] at h; exact h
  yld := fun z i x H' ok _ h ⟨e, e2⟩ => by
    subst e; subst e2
    rw [rangeD_len] at h
    refine ⟨z, rfl, rfl, ok, Ext.refl z, .int (lo + i), ?_, Has.int⟩
    simp [rangeD, h]
  st := fun _ _ _ _ => trivial
theorem wk_zip {K : PySem.W.Frag} {a b : Addr} {ds es : List D} {vs ws : List V} : Wk K q (Itz K a b) ((ds.zip es).map fun p => .tup [p.1, p.2]) (fun z => z.H a = some (.lst vs) ∧ z.H b = some (.lst ws) ∧ Free z a ∧ Free z b ∧ HasL K q z ds vs ∧ HasL K q z es ws) where
  stop := fun z ok ⟨h1, h2, _, _, h3, h4⟩ => ⟨vs, ws, SqL.of h1, SqL.of h2, by
    have e1 := h3.len
    have e2 := h4.len
    rw [List.length_map, List.length_zip]
    omega⟩
  go := fun z i ok ⟨h1, h2, _, _, h3, h4⟩ hi => by
    have e1 := h3.len
    have e2 := h4.len
    rw [List.length_map, List.length_zip] at hi
    exact ⟨vs, ws, vs[i]'(by omega), ws[i]'(by omega), SqL.of h1, SqL.of h2, by simp, by simp⟩
  yld := fun z i x H' ok ⟨h1, h2, _, _, h3, h4⟩ hi ⟨T, x1, y1, e1, hn, e2, h5, h6⟩ => by
    subst e1; subst e2
    obtain ⟨d, g1, g2⟩ := h3.get' (h5 vs (SqL.of h1))
    obtain ⟨e, g3, g4⟩ := h4.get' (h6 ws (SqL.of h2))
    refine ⟨z.put T (.tup [x1, y1]), rfl, rfl, ok.put hn, Ext.put hn, .tup [d, e], ?_, put_tup ok hn (HasL.cons g2 (HasL.cons g4 HasL.nil))⟩
    have : (ds.zip es)[i]? = some (d, e) := List.getElem?_zip_eq_some.mpr ⟨g1, g3⟩
    rw [List.getElem?_map, this]
    rfl
  st := fun z z' m ⟨h1, h2, f1, f2, h3, h4⟩ => ⟨(m.l a vs h1 f1).1, (m.l b ws h2 f2).1, (m.l a vs h1 f1).2, (m.l b ws h2 f2).2, HasL.mv m ds vs h3, HasL.mv m es ws h4⟩
theorem wk_zipT {K : PySem.W.Frag} {a b : Addr} {ds es : List D} {vs ws : List V} : Wk K q (ItzT K a b) ((ds.zip es).map fun p => .tup [p.1, p.2]) (fun z => SqT K z.H a vs ∧ SqT K z.H b ws ∧ HasL K q z ds vs ∧ HasL K q z es ws) where
  stop := fun z ok ⟨h1, h2, h3, h4⟩ => ⟨vs, ws, h1, h2, by
    have e1 := h3.len
    have e2 := h4.len
    rw [List.length_map, List.length_zip]
    omega⟩
  go := fun z i ok ⟨h1, h2, h3, h4⟩ hi => by
    have e1 := h3.len
    have e2 := h4.len
    rw [List.length_map, List.length_zip] at hi
    exact ⟨vs, ws, vs[i]'(by omega), ws[i]'(by omega), h1, h2, by simp, by simp⟩
  yld := fun z i x H' ok ⟨h1, h2, h3, h4⟩ hi ⟨T, x1, y1, e1, hn, e2, h5, h6⟩ => by
    subst e1; subst e2
    obtain ⟨d, g1, g2⟩ := h3.get' (h5 vs h1)
    obtain ⟨e, g3, g4⟩ := h4.get' (h6 ws h2)
    refine ⟨z.put T (.tup [x1, y1]), rfl, rfl, ok.put hn, Ext.put hn, .tup [d, e], ?_, put_tup ok hn (HasL.cons g2 (HasL.cons g4 HasL.nil))⟩
    have : (ds.zip es)[i]? = some (d, e) := List.getElem?_zip_eq_some.mpr ⟨g1, g3⟩
    rw [List.getElem?_map, this]
    rfl
  st := fun z z' m ⟨h1, h2, h3, h4⟩ => ⟨m.t a vs h1, m.t b ws h2, HasL.mv m ds vs h3, HasL.mv m es ws h4⟩

theorem wk_str {K : PySem.W.Frag} {x : Str} : Wk K q (Its x) (x.cps.toList.map fun c => D.str ⟨#[c]⟩) (fun _ => True) where
  stop := fun z ok _ => by show x.cps.size ≤ _; simp
  go := fun z i ok _ h => by show i < x.cps.size; simpa using h
  yld := fun z i y H' ok _ h ⟨e, c, hc, e2⟩ => by
    subst e; subst e2
    refine ⟨z, rfl, rfl, ok, Ext.refl z, .str ⟨#[c]⟩, ?_, Has.str⟩
    rw [List.getElem?_map, Array.getElem?_toList, hc]
    rfl
  st := fun _ _ _ _ => trivial
/-- a walk over a list or a tuple -/
theorem sdi_seq {tg a : Expr} {ma : E} (h : Sd X q S a ma) : SdI X q S tg a (.seq ma) := fun E tk =>
  pi_imp (pi_or (pi_str (h E tk)) (pi_or (pi_list (h E tk)) (pi_tup (h E tk)))) fun σ H R ⟨z, ρ, hH, ok, rl, w⟩ => by
    have w1 := wp.bind w
    cases hr : evE S ρ ma z.G with
    | bad => rw [hr] at w1; exact w1.elim
    | exc c G' =>
      refine .inl ⟨z, ρ, hH, ok, rl, ?_⟩
      rw [hr] at w1 ⊢
      exact w1
    | ok d G' =>
      have no : walkOf d = none → ∀ P : Prop, ∀ z1 : Z, z1.G = G' → Ok X.K q z1 → Ext z z1 → P := fun hn P z1 hG ok1 e1 => by
        rw [hr] at w1
        obtain ⟨c, hc, _⟩ := wp.of (w1 z1 hG ok1 e1)
        rw [hn] at hc; cases hc
      have li : ∀ l, walkOf d = some l → ∀ z1 : Z, z1.G = G' → Ok X.K q z1 → Ext z z1 → ∀ J I, Wk X.K q J l I → I z1 → R J z1.H := fun l hl z1 hG ok1 e1 => by
        rw [hr] at w1
        obtain ⟨c, hc, hp⟩ := wp.of (w1 z1 hG ok1 e1)
        rw [hl] at hc; cases hc
        exact hp z1 rfl ok1 (Ext.refl _)
      by_cases ht : ∃ l, d = .tup l
      · obtain ⟨l, rfl⟩ := ht
        refine .inr (.inr ⟨z, ρ, hH, ok, rl, ?_⟩)
        rw [hr]
        intro z1 hG ok1 e1 v hv
        obtain ⟨a, vs, rfl, h1, h2⟩ := hv.ref_of_tup
        exact ⟨a, rfl, ⟨vs, h1⟩, li l rfl z1 hG ok1 e1 _ _ wk_tup ⟨h1, h2⟩⟩
      · by_cases hs : ∃ x, d = .str x
        · obtain ⟨x, rfl⟩ := hs
          refine .inl ⟨z, ρ, hH, ok, rl, ?_⟩
          rw [hr]
          intro z1 hG ok1 e1 v hv
          exact ⟨x, hv.of_str, li _ rfl z1 hG ok1 e1 _ _ wk_str trivial⟩
        refine .inr (.inl ⟨z, ρ, hH, ok, rl, ?_⟩)
        rw [hr]
        intro z1 hG ok1 e1 v hv
        cases d with
        | str x => exact absurd ⟨x, rfl⟩ hs
        | tup l => exact absurd ⟨l, rfl⟩ ht
        | lst l =>
          obtain ⟨a, vs, rfl, h1, f, h2⟩ := hv.of_lst
          exact ⟨a, rfl, ⟨vs, SqL.of h1⟩, li l rfl z1 hG ok1 e1 _ _ wk_lst ⟨.inl h1, f, h2⟩⟩
        | frz l =>
          simp only [Has] at hv
          obtain ⟨a, vs, rfl, h1, h2⟩ := hv
          rcases h1 with ⟨h1, f⟩ | h1
          · exact ⟨a, rfl, ⟨vs, .inl h1⟩, li l rfl z1 hG ok1 e1 _ _ wk_lst ⟨h1, f, h2⟩⟩
          · exact ⟨a, rfl, ⟨vs, .inr h1⟩, li l rfl z1 hG ok1 e1 _ _ (wk_kl h1) h2⟩
        | _ => exact no rfl _ z1 hG ok1 e1
theorem sdi_rng1 {tg a : Expr} {ma : E} {p pos : Pos} (hg : Gl X "range") (hm : X.mg "range" = none) (h : Sd X q S a ma) (hs : starEach [a] X.env = [(false, eval a X.env)] := by rfl) : SdI X q S tg (.Call (.Name "range" p) [a] [] pos) (.rng1 ma) := fun E tk =>
  pi_imp (pi_range1 hg hm (sda_cons h sda_nil (by rw [hs]; rfl) E tk) hs) fun σ H R ⟨z, ρ, hH, ok, rl, w⟩ => by
    refine ⟨z, ρ, hH, ok, rl, ?_⟩
    have e0 : evEs S ρ [ma] z.G = (evE S ρ ma z.G).bind fun d G1 => .ok [d] G1 := rfl
    have w1 := wp.bind w
    rw [e0]
    cases hr : evE S ρ ma z.G with
    | bad => rw [hr] at w1; exact w1.elim
    | exc c G' => rw [hr] at w1; exact w1
    | ok d G' =>
      rw [hr] at w1
      intro z1 hG ok1 e1 vs hvs
      have w2 := w1 z1 hG ok1 e1
      obtain ⟨v, rfl, hv⟩ := hvs.one
      cases d with
      | int j =>
        have w2 : wp X.K q z1 (if -(2 ^ 62) ≤ j ∧ j < 2 ^ 62 then PV.R.ok (rangeD 0 j) z1.G else PV.R.bad) _ E := w2
        split at w2
        · rename_i hb
          refine ⟨j, by rw [hv.of_int], hb.1, hb.2, ?_⟩
          have wk := wk_rng (K := X.K) (q := q) (lo := 0) (hi := j)
          rw [Int.sub_zero] at wk
          exact w2 z1 rfl ok1 (Ext.refl _) _ _ wk trivial
        · exact w2.elim
      | _ => exact w2.elim
theorem sdi_rng2 {tg a b : Expr} {ma mb : E} {p pos : Pos} (hg : Gl X "range") (hm : X.mg "range" = none) (h : Sd X q S a ma) (g : Sd X q S b mb) (hs : starEach [a, b] X.env = [(false, eval a X.env), (false, eval b X.env)] := by rfl) (hs2 : starEach [b] X.env = [(false, eval b X.env)] := by rfl) : SdI X q S tg (.Call (.Name "range" p) [a, b] [] pos) (.rng2 ma mb) := fun E tk =>
  pi_imp (pi_range2 hg hm (sda_cons h (sda_cons g sda_nil (by rw [hs2]; rfl)) (by rw [hs, hs2]) E tk) hs hs2) fun σ H R ⟨z, ρ, hH, ok, rl, w⟩ => by
    refine ⟨z, ρ, hH, ok, rl, ?_⟩
    have e0 : evEs S ρ [ma, mb] z.G = (evE S ρ ma z.G).bind fun d G1 => ((evE S ρ mb G1).bind fun e G2 => .ok [e] G2).bind fun ds G3 => .ok (d :: ds) G3 := rfl
    rw [e0]
    have w1 : wp X.K q z ((evE S ρ ma z.G).bind fun x G1 => (evE S ρ mb G1).bind fun y G2 => match x, y with
      | .int i, .int j => if (-(2 ^ 62) ≤ i ∧ i < 2 ^ 62) ∧ (-(2 ^ 62) ≤ j ∧ j < 2 ^ 62) then PV.R.ok (rangeD i j) G2 else .bad
      | _, _ => .bad) (fun ds z' => ∀ J I, Wk X.K q J ds I → I z' → R J z'.H) E := w
    cases hr : evE S ρ ma z.G with
    | bad => rw [hr] at w1; exact w1.elim
    | exc c G' => rw [hr] at w1; exact w1
    | ok d G' =>
      rw [hr] at w1
      show wp X.K q z (((evE S ρ mb G').bind fun e G2 => .ok [e] G2).bind fun ds G3 => .ok (d :: ds) G3) _ E
      have w1 : wp X.K q z ((evE S ρ mb G').bind fun y G2 => match d, y with
        | .int i, .int j => if (-(2 ^ 62) ≤ i ∧ i < 2 ^ 62) ∧ (-(2 ^ 62) ≤ j ∧ j < 2 ^ 62) then PV.R.ok (rangeD i j) G2 else .bad
        | _, _ => .bad) (fun ds z' => ∀ J I, Wk X.K q J ds I → I z' → R J z'.H) E := w1
      cases hr2 : evE S ρ mb G' with
      | bad => rw [hr2] at w1; exact w1.elim
      | exc c G' => rw [hr2] at w1; exact w1
      | ok e G2 =>
        rw [hr2] at w1
        intro z1 hG ok1 e1 vs hvs
        obtain ⟨v, u, rfl, hv, hu⟩ := hvs.two
        cases d with
        | int i =>
          cases e with
          | int j =>
            have w1 : wp X.K q z (if (-(2 ^ 62) ≤ i ∧ i < 2 ^ 62) ∧ (-(2 ^ 62) ≤ j ∧ j < 2 ^ 62) then PV.R.ok (rangeD i j) G2 else PV.R.bad) _ E := w1
            split at w1
            · rename_i hb
              exact ⟨i, j, by rw [hv.of_int, hu.of_int], ⟨hb.1.1, hb.1.2, hb.2.1, hb.2.2⟩, w1 z1 hG ok1 e1 _ _ wk_rng trivial⟩
            · exact w1.elim
          | _ => exact w1.elim
        | _ => exact w1.elim

/-! ### targets -/
mutual
def slotsT : Tg → List Nat
  | .nm i => [i]
  | .tp l => slotsL l
def slotsL : List Tg → List Nat
  | [] => []
  | t :: ts => slotsT t ++ slotsL ts
end
theorem assignL_len {ρ ρ' : Env} : ∀ {l : List Tg} {ds : List D}, assignL ρ l ds = some ρ' → l.length = ds.length := by
  intro l
  induction l generalizing ρ with
  | nil =>
    intro ds h
    cases ds with
    | nil => rfl
    | cons d ds => simp [assignL] at h
  | cons t ts ih =>
    intro ds h
    cases ds with
    | nil => simp [assignL] at h
    | cons d ds =>
      simp only [assignL] at h
      split at h
      · rw [List.length_cons, List.length_cons, ih h]
      · cases h
theorem wipe_get {σ : L2.St} {j : Nat} : ∀ {vs : List Nat}, j ∈ vs → (L2.wipe σ vs)[j]? = if j < σ.length then some none else none
  | [], h => by cases h
  | v :: vs, h => by
    show ((L2.wipe σ vs).set v none)[j]? = _
    by_cases e : v = j
    · subst e
      by_cases hl : v < σ.length
      · rw [List.getElem?_set_self (by rw [L2.wipe_length]; exact hl), if_pos hl]
      · rw [List.getElem?_eq_none (by rw [List.length_set, L2.wipe_length]; omega), if_neg hl]
    · rw [List.getElem?_set_ne e]
      exact wipe_get ((List.mem_cons.mp h).resolve_left fun x => e x.symm)
theorem wipe_set {σ : L2.St} {i : Nat} {x : Option V} {vs : List Nat} (h : i ∈ vs) : L2.wipe (σ.set i x) vs = L2.wipe σ vs := by
  refine List.ext_getElem? fun j => ?_
  by_cases hj : j ∈ vs
  · rw [wipe_get hj, wipe_get hj, List.length_set]
  · rw [L2.wipe_out hj, L2.wipe_out hj, List.getElem?_set_ne (fun e => hj (by rw [← e]; exact h))]
def rdG (K : PySem.W.Frag) (q : Par) (tg : Tg) : TG := fun v σ H Q => ∃ z d ρ ρ', z.H = H ∧ Ok K q z ∧ RelS K q z ρ σ ∧ Has K q z d v ∧ PV.assign ρ tg d = some ρ' ∧ ∀ σ', RelS K q z ρ' σ' → (∀ vs, (∀ i ∈ slotsT tg, i ∈ vs) → L2.wipe σ' vs = L2.wipe σ vs) → Q σ' H
def rdGs (K : PySem.W.Frag) (q : Par) (l : List Tg) : TGs := fun vs σ H Q => ∃ z ds ρ ρ', z.H = H ∧ Ok K q z ∧ RelS K q z ρ σ ∧ HasL K q z ds vs ∧ assignL ρ l ds = some ρ' ∧ ∀ σ', RelS K q z ρ' σ' → (∀ vs, (∀ i ∈ slotsL l, i ∈ vs) → L2.wipe σ' vs = L2.wipe σ vs) → Q σ' H
abbrev SdG (X : Cx) (q : Par) (e : Expr) (tg : Tg) : Prop := PG X e (rdG X.K q tg)
abbrev SdGs (X : Cx) (q : Par) (es : List Expr) (l : List Tg) : Prop := PGs X es (rdGs X.K q l)
theorem pg_imp {e : Expr} {t t' : TG} (h : PG X e t) (f : ∀ v σ H Q, t' v σ H Q → t v σ H Q) : PG X e t' := ⟨fun pins s σ H v u Q I r w => h.run pins s σ H v u Q I r (f v σ H Q w)⟩
theorem pgs_imp {e : List Expr} {t t' : TGs} (h : PGs X e t) (f : ∀ v σ H Q, t' v σ H Q → t v σ H Q) : PGs X e t' := ⟨fun pins s σ H v u Q I r w => h.run pins s σ H v u Q I r (f v σ H Q w)⟩
theorem pg_or {e : Expr} {t t' : TG} (h : PG X e t) (h' : PG X e t') : PG X e (fun v σ H Q => t v σ H Q ∨ t' v σ H Q) := ⟨fun pins s σ H v u Q I r w => by
  rcases w with w | w
  · exact h.run pins s σ H v u Q I r w
  · exact h'.run pins s σ H v u Q I r w⟩
theorem sdg_name (i : Nat) {x : Str} {pos : Pos} (hN : X.N.Nodup) (hi : X.N[i]? = some x := by rfl) (hx : Loc X.env.scope x := by first | exact Or.inl rfl | exact Or.inr rfl) (hf : X.fn x = true ∨ X.env.scope.names.lookup x = some .local := by first | exact .inl rfl | exact .inr rfl) : SdG X q (.Name x pos) (.nm i) :=
  pg_imp (pg_name hN hi hx hf) fun v σ H Q ⟨z, d, ρ, ρ', hH, ok, rl, hv, ha, k⟩ => by
    simp only [PV.assign, Option.some.injEq] at ha
    subst ha
    exact k _ (rl.set hv i) fun vs hs => wipe_set (hs i (by simp [slotsT]))
theorem sdgs_nil : SdGs X q [] [] := pgs_imp pgs_nil fun vs σ H Q ⟨z, ds, ρ, ρ', hH, ok, rl, hv, ha, k⟩ => by
  have e : ds = [] := List.eq_nil_of_length_eq_zero (assignL_len ha).symm
  subst e
  simp only [assignL, Option.some.injEq] at ha
  subst ha
  exact ⟨hv.nil_inv, k σ rl fun _ _ => rfl⟩
theorem sdgs_cons {e : Expr} {es : List Expr} {t : Tg} {l : List Tg} (h : SdG X q e t) (g : SdGs X q es l) (hs : (assignEach (e :: es) X.env).map (·.2) = PySem.assign e X.env :: (assignEach es X.env).map (·.2) := by rfl) : SdGs X q (e :: es) (t :: l) :=
  pgs_imp (pgs_cons h g hs) fun vs σ H Q ⟨z, ds, ρ, ρ', hH, ok, rl, hv, ha, k⟩ => by
    cases ds with
    | nil => simp [assignL] at ha
    | cons d ds =>
      simp only [assignL] at ha
      split at ha
      · rename_i ρ1 h1
        obtain ⟨v, r, rfl, g1, g2⟩ := hv.cons_inv
        refine ⟨v, r, rfl, z, d, ρ, ρ1, hH, ok, rl, g1, h1, fun σ1 rl1 w1 => ?_⟩
        refine ⟨z, ds, _, _, hH, ok, rl1, g2, ha, fun σ2 rl2 w2 => k σ2 rl2 fun vs hs => ?_⟩
        rw [w2 vs (fun j hj => hs j (by simp only [slotsL]; exact List.mem_append_right _ hj)), w1 vs (fun j hj => hs j (by simp only [slotsL]; exact List.mem_append_left _ hj))]
      · cases ha
theorem sdg_tup {es : List Expr} {k : Nat} {l : List Tg} {n : Nat} {pos : Pos} (hc : X.calm = true) (h : SdGs X q es l) (hln : l.length = n) (hn : (assignEach es X.env).length = n := by rfl) (hst : (assignEach es X.env).findIdx? (·.1) = none := by rfl) : SdG X q (.Tuple es k pos) (.tp l) :=
  pg_imp (pg_or (pg_tup (n := n) hc h hn hst) (pg_unl (n := n) hc h hn hst)) fun v σ H Q ⟨z, d, ρ, ρ', hH, ok, rl, hv, ha, k⟩ => by
    subst hH
    cases d <;> simp only [PV.assign, reduceCtorEq] at ha
    · rename_i ds
      obtain ⟨a, vs, rfl, h1, h2⟩ := hv.ref_of_tup
      exact .inl ⟨a, vs, rfl, h1, by rw [h2.len, ← assignL_len ha]; exact hln, z, ds, ρ, ρ', rfl, ok, rl, h2, ha, fun σ' r w => k σ' r fun vs hs => w vs fun i hi => hs i (by simpa only [slotsT] using hi)⟩
    · rename_i ds
      obtain ⟨a, vs, rfl, h1, _, h2⟩ := hv.of_lst
      exact .inr ⟨a, vs, rfl, SqL.of h1, by rw [h2.len, ← assignL_len ha]; exact hln, z, ds, ρ, ρ', rfl, ok, rl, h2, ha, fun σ' r w => k σ' r fun vs hs => w vs fun i hi => hs i (by simpa only [slotsT] using hi)⟩

/-! ### comprehensions -/
/-- the tests of a comprehension -/
def SdTs (X : Cx) (q : Par) (S : PV.Sem) (cs : List Expr) (ms : List E) : Prop := ∀ E : XK, Tk X E → PTs X cs (fun σ H Q => ∃ z ρ, z.H = H ∧ Ok X.K q z ∧ RelS X.K q z ρ σ ∧ wp X.K q z (evT S ρ ms z.G) (fun b z' => Q b z'.H) E)
theorem pts_imp {cs : List Expr} {t t' : TT} (h : PTs X cs t) (f : ∀ σ H Q, t' σ H Q → t σ H Q) : PTs X cs t' := ⟨fun pins s σ H Q I w => h.run pins s σ H Q I (f σ H Q w)⟩
theorem sdts_nil : SdTs X q S [] [] := fun E tk => pts_imp pts_nil fun σ H Q ⟨z, ρ, hH, ok, rl, w⟩ => by
  subst hH
  exact wp.here (P := fun b z' => Q b z'.H) ok w
theorem sdts_one {c : Expr} {m : E} (h : Td X q S c m) : SdTs X q S [c] [m] := fun E tk => pts_imp (pts_one (h E tk)) fun σ H Q ⟨z, ρ, hH, ok, rl, w⟩ => ⟨z, ρ, hH, ok, rl, (wp.bind w).mono fun d z1 ok1 e1 w1 => by
  cases d with
  | bl b =>
    refine ⟨b, rfl, ?_⟩
    cases b with
    | true => exact wp.here (P := fun b z' => Q b z'.H) ok1 w1
    | false => exact wp.here (P := fun b z' => Q b z'.H) ok1 w1
  | _ => exact w1.elim⟩

abbrev Z.less (z : Z) (B : List Addr) : Z := { z with B := B }
/-- one turn of a comprehension, as the evaluator has it -/
def turnC (S : PV.Sem) (ρ : Env) (tg : Tg) (cs : List E) (el : E) (d : D) (G : Gs) : R (Option D) := match PV.assign ρ tg d with
  | some ρ' => (evT S ρ' cs G).bind fun b G3 => if b then (evE S ρ' el G3).bind fun y G4 => .ok (some y) G4 else .ok none G3
  | none => .bad
theorem bind_ok {α β : Type} {r : R α} {f : α → Gs → R β} {b : β} {G : Gs} (h : r.bind f = .ok b G) : ∃ a G1, r = .ok a G1 ∧ f a G1 = .ok b G := by
  cases r with
  | ok a G1 => exact ⟨a, G1, rfl, h⟩
  | exc c G1 => cases h
  | bad => cases h
/-- the state within a comprehension -/
structure CI (K : PySem.W.Frag) (q : Par) (S : PV.Sem) (z1 : Z) (D0 : Addr) (ρ : Env) (σ : L2.St) (tg : Tg) (cs : List E) (el : E) (ds : List D) (I : Z → Prop) (PF : List D → Gs → Prop) (i : Nat) (z : Z) : Prop where
  ok : Ok K q z
  B : z.B = D0 :: z1.B
  ext : Ext z1 (z.less z1.B)
  rl : RelS K q z ρ σ
  src : I z
  acc : ∃ acc accV ys G5, z.H D0 = some (.lst accV) ∧ HasL K q z acc accV ∧ compL (turnC S ρ tg cs el) (ds.drop i) z.G = .ok ys G5 ∧ PF (acc ++ ys) G5
theorem ext_less {z z' : Z} {B : List Addr} (e : Ext z z') : Ext (z.less B) (z'.less B) := ⟨e.pre, rfl, e.live, e.keep, e.dom⟩
theorem ext_wr {z1 z : Z} {p : Addr} {vs : List V} (e : Ext z1 (z.less z1.B)) (h : z1.H p = none) (hs : ∃ o, z.H p = some o) : Ext z1 ((z.wr p vs).less z1.B) := by
  refine ⟨e.pre, rfl, e.live, fun b o hb nt nl => ?_, fun b hb => ?_⟩
  · show upd z.H p _ b = some o
    rw [upd_ne (ne_of_none hb h)]
    exact e.keep b o hb nt nl
  · by_cases eb : b = p
    · rw [eb]; exact newA h
    · refine e.dom b fun u hu => hb u ?_
      show upd z.H p _ b = some u
      rw [upd_ne eb]; exact hu
theorem ci_ext {z1 z z' : Z} {D0 : Addr} (B : z.B = D0 :: z1.B) (ext : Ext z1 (z.less z1.B)) (e : Ext z z') : z'.B = D0 :: z1.B ∧ Ext z1 (z'.less z1.B) := ⟨e.bs.trans B, ext.trans (ext_less e)⟩
theorem sd_comp {elt tg iter : Expr} {ifs : List Expr} {scope : Scope} {own : List (Str × Nat)} {pos : Pos} {tgm : Tg} {it : PV.It} {mel : E} {mcs : List E} {ownm : List Nat} (hc : X.calm = true) (hN : X.N.Nodup) (hi : SdI X q S tg iter it) (okb : BlkOk X.N X.env.scope scope own)
    (ho : ownm = own.map (·.2)) (hsl : ∀ i ∈ slotsT tgm, i ∈ ownm)
    (hg : ∀ (s : Shared) (H : Hp) (C : Addr) (cl : List (Str × Addr)) (fp : List Addr), SdG (X.blk s H scope (compEnvC scope cl C X.env) fp) q tg tgm) (ht : ∀ (s : Shared) (H : Hp) (C : Addr) (cl : List (Str × Addr)) (fp : List Addr), SdTs (X.blk s H scope (compEnvC scope cl C X.env) fp) q S ifs mcs)
    (he : ∀ (s : Shared) (H : Hp) (C : Addr) (cl : List (Str × Addr)) (fp : List Addr), Sd (X.blk s H scope (compEnvC scope cl C X.env) fp) q S elt mel) (hs : ∀ x, foldedSetIterable iter X.env x = pure x := by intro _; rfl) :
    ∀ E : XK, Tk X E → ∃ wi g tt te, PI X tg iter wi ∧ (∀ (s : Shared) (H : Hp) (C : Addr) (cl : List (Str × Addr)) (fp : List Addr), PG (X.blk s H scope (compEnvC scope cl C X.env) fp) tg g) ∧ (∀ (s : Shared) (H : Hp) (C : Addr) (cl : List (Str × Addr)) (fp : List Addr), PTs (X.blk s H scope (compEnvC scope cl C X.env) fp) ifs tt) ∧
      (∀ (s : Shared) (H : Hp) (C : Addr) (cl : List (Str × Addr)) (fp : List Addr), PE (X.blk s H scope (compEnvC scope cl C X.env) fp) elt te) ∧ ∀ σ H Q, rdE X.K q S E (.comp ownm mel tgm it mcs) σ H Q → tLc wi g tt te (own.map (·.2)) σ H Q := by
  intro E tk
  subst ho
  refine ⟨_, rdG X.K q tgm, (fun σ H Q => ∃ z ρ, z.H = H ∧ Ok X.K q z ∧ RelS X.K q z ρ σ ∧ wp X.K q z (evT S ρ mcs z.G) (fun b z' => Q b z'.H) (fun _ _ _ => False)), rdE X.K q S (fun _ _ _ => False) mel, hi E tk, hg, fun s H C cl fp => ht s H C cl fp (fun _ _ _ => False) L2.takes0, fun s H C cl fp => he s H C cl fp (fun _ _ _ => False) L2.takes0, fun σ H Q ⟨z, ρ, hH, ok, rl, w⟩ => ?_⟩
  refine ⟨z, ρ, hH, ok, rl, (wp.bind w).mono fun ds z1 ok1 e1 w1 J I wk hI D0 hD => ?_⟩
  -- what the evaluator has: all turns go, the list is short
  have rl1 := rl.ext ok e1
  obtain ⟨ys, G5, hcl, hys, hfin⟩ : ∃ ys G5, compL (turnC S (wipeE ρ (own.map (·.2))) tgm mcs mel) ds z1.G = .ok ys G5 ∧ ys.length < sizeLine ∧ ∀ z' : Z, z'.G = G5 → Ok X.K q z' → Ext z1 z' → PQ X.K q Q (.lst ys) z' := by
    have w1 : wp X.K q z1 (((compL (turnC S (wipeE ρ (own.map (·.2))) tgm mcs mel) ds z1.G).calm).bind fun ys G5 => if ys.length < sizeLine then PV.R.ok (.lst ys) G5 else .bad) (PQ X.K q Q) E := w1
    cases hr : compL (turnC S (wipeE ρ (own.map (·.2))) tgm mcs mel) ds z1.G with
    | bad => rw [hr] at w1; exact w1.elim
    | exc c G' => rw [hr] at w1; exact w1.elim
    | ok ys G5 =>
      rw [hr] at w1
      have w1 : wp X.K q z1 (if ys.length < sizeLine then PV.R.ok (.lst ys) G5 else .bad) (PQ X.K q Q) E := w1
      split at w1
      · rename_i hlt
        exact ⟨ys, G5, rfl, hlt, w1⟩
      · exact w1.elim
  have start : CI X.K q S z1 D0 (wipeE ρ (own.map (·.2))) (L2.wipe σ (own.map (·.2))) tgm mcs mel ds I (fun ys G5 => ys.length < sizeLine ∧ ∀ z' : Z, z'.G = G5 → Ok X.K q z' → Ext z1 z' → PQ X.K q Q (.lst ys) z') 0 (z1.push D0 []) := by
    refine ⟨ok1.push hD, rfl, ⟨List.prefix_refl _, rfl, fun a l => .inl l, fun b o hb _ _ => ?_, fun b hb => ?_⟩, (rl1.mv (mv_push ok1 hD)).wipe _, wk.st _ _ (mv_push ok1 hD) hI, [], [], ys, G5, upd_same, HasL.nil, hcl, hys, hfin⟩
    · show upd z1.H D0 _ b = some o
      rw [upd_ne (ne_of_none hb hD)]; exact hb
    · by_cases eb : b = D0
      · rw [eb]; exact newA hD
      · refine fun u hu => hb u ?_
        show upd z1.H D0 _ b = some u
        rw [upd_ne eb]; exact hu
  refine ⟨fun i m H => m = ds.length - i ∧ i ≤ ds.length ∧ ∃ z, z.H = H ∧ CI X.K q S z1 D0 (wipeE ρ (own.map (·.2))) (L2.wipe σ (own.map (·.2))) tgm mcs mel ds I (fun ys G5 => ys.length < sizeLine ∧ ∀ z' : Z, z'.G = G5 → Ok X.K q z' → Ext z1 z' → PQ X.K q Q (.lst ys) z') i z, ⟨ds.length, by simp, Nat.zero_le _, _, rfl, start⟩, ?_⟩
  rintro i m H ⟨rfl, hi, z2, rfl, c⟩
  obtain ⟨acc, accV, ys, G5, hacc, hav, hcl, hf⟩ := c.acc
  by_cases hlt : i < ds.length
  · refine .inr ⟨wk.go z2 i c.ok c.src hlt, fun H' => ∃ z, z.H = H' ∧ CI X.K q S z1 D0 (wipeE ρ (own.map (·.2))) (L2.wipe σ (own.map (·.2))) tgm mcs mel ds I (fun ys G5 => ys.length < sizeLine ∧ ∀ z' : Z, z'.G = G5 → Ok X.K q z' → Ext z1 z' → PQ X.K q Q (.lst ys) z') (i + 1) z, fun H' ⟨z, hz, c'⟩ => ⟨ds.length - (i + 1), by omega, rfl, hlt, z, hz, c'⟩, fun x H' hy => ?_⟩
    obtain ⟨z3, rfl, hG3, ok3, e3, d, hd, hx⟩ := wk.yld z2 i x H' c.ok c.src hlt hy
    have hdr : ds.drop i = d :: ds.drop (i + 1) := by
      rw [List.drop_eq_getElem_cons hlt]
      congr 1
      rw [List.getElem?_eq_getElem hlt] at hd
      exact Option.some.inj hd
    rw [hdr] at hcl
    obtain ⟨o, G6, h6, hcl⟩ := bind_ok hcl
    obtain ⟨r, G7, h7, hcl⟩ := bind_ok hcl
    unfold turnC at h6
    split at h6
    · rename_i ρ' hρ
      have rl3 := c.rl.ext c.ok e3
      refine ⟨z3, d, _, ρ', rfl, ok3, rl3, hx, hρ, fun σ' rl4 hw => ⟨?_, ?_⟩⟩
      · rw [hw _ hsl]
        refine List.ext_getElem? fun j => ?_
        by_cases hj : j ∈ own.map (·.2)
        · rw [wipe_get hj, wipe_get hj, L2.wipe_length]
        · rw [L2.wipe_out hj]
      · refine ⟨z3, ρ', rfl, ok3, rl4, ?_⟩
        obtain ⟨b, G8, h8, h6⟩ := bind_ok h6
        rw [hG3, h8]
        intro z4 hG4 ok4 e4
        have e24 := e3.trans e4
        obtain ⟨B4, x4⟩ := ci_ext c.B c.ext e24
        have rl5 := rl4.ext ok3 e4
        cases b with
        | false =>
          rw [if_neg (by simp)] at h6
          dsimp only
          rw [if_neg (by simp)]
          cases h6
          cases hcl
          refine ⟨z4, rfl, ok4, B4, x4, ?_, wk.st _ _ (e24.mv c.ok) c.src, acc, accV, _, _, ?_, HasL.ext c.ok e24 acc accV hav, by rw [hG4]; exact h7, hf⟩
          · exact c.rl.ext c.ok e24
          · refine e24.keep _ _ hacc (fun _ x => nomatch x) fun l => ?_
            exact c.ok.liveB l (by rw [c.B]; exact List.mem_cons_self ..)
        | true =>
          rw [if_pos rfl] at h6
          dsimp only
          rw [if_pos rfl]
          obtain ⟨y, G9, h9, h6⟩ := bind_ok h6
          cases h6
          cases hcl
          refine ⟨z4, ρ', rfl, ok4, rl5, ?_⟩
          rw [hG4, h9]
          intro z5 hG5 ok5 e5 yv hyv
          have e25 := e24.trans e5
          obtain ⟨B5, x5⟩ := ci_ext c.B c.ext e25
          have hacc5 : z5.H D0 = some (.lst accV) := e25.keep _ _ hacc (fun _ x => nomatch x) fun l => c.ok.liveB l (by rw [c.B]; exact List.mem_cons_self ..)
          have hb5 : D0 ∈ z5.B := by rw [B5]; exact List.mem_cons_self ..
          have mw := mv_wr (q := q) (K := X.K) (vs := accV ++ [yv]) hb5 hacc5
          have hacn : acc.length ≤ (acc ++ y :: r).length := by simp
          refine ⟨accV, hacc5, by rw [hav.len]; exact Nat.lt_of_le_of_lt hacn hf.1, z5.wr D0 (accV ++ [yv]), rfl, ok5.wr hb5 hacc5, B5, ext_wr x5 hD ⟨_, hacc5⟩, (c.rl.ext c.ok e25).mv mw, wk.st _ _ mw (wk.st _ _ (e25.mv c.ok) c.src), acc ++ [y], accV ++ [yv], r, _, upd_same, ?_, by show compL _ _ z5.G = _; rw [hG5]; exact h7, by rw [List.append_assoc]; exact hf⟩
          exact HasL.mv mw _ _ ((HasL.ext c.ok e25 acc accV hav).app (HasL.cons hyv HasL.nil))
    · cases h6
  · have e : i = ds.length := by omega
    subst e
    refine .inl ⟨wk.stop z2 c.ok c.src, ?_⟩
    rw [List.drop_length] at hcl
    cases hcl
    rw [List.append_nil] at hf
    have hB : ∀ b ∈ z1.B, b ∈ z2.B := fun b hb => by rw [c.B]; exact List.mem_cons_of_mem _ hb
    refine hf.2 (z2.less z1.B) rfl (c.ok.less hB) c.ext _ (Has.lst (z := z2.less z1.B) hacc ⟨fun hb => ?_, fun l => ?_⟩ (HasL.mv (mv_less hB) acc accV hav))
    · obtain ⟨vs, hv⟩ := ok1.blk D0 hb
      rw [hD] at hv; cases hv
    · exact c.ok.liveB (a := D0) l (by rw [c.B]; exact List.mem_cons_self ..)
theorem sd_lc {elt tg iter : Expr} {ifs : List Expr} {scope : Scope} {pos : Pos} {tgm : Tg} {it : PV.It} {mel : E} {mcs : List E} {ownm : List Nat} (own : List (Str × Nat)) (hc : X.calm = true) (hN : X.N.Nodup) (hi : SdI X q S tg iter it) (okb : BlkOk X.N X.env.scope scope own)
    (hg : ∀ (s : Shared) (H : Hp) (C : Addr) (cl : List (Str × Addr)) (fp : List Addr), SdG (X.blk s H scope (compEnvC scope cl C X.env) fp) q tg tgm) (ht : ∀ (s : Shared) (H : Hp) (C : Addr) (cl : List (Str × Addr)) (fp : List Addr), SdTs (X.blk s H scope (compEnvC scope cl C X.env) fp) q S ifs mcs)
    (he : ∀ (s : Shared) (H : Hp) (C : Addr) (cl : List (Str × Addr)) (fp : List Addr), Sd (X.blk s H scope (compEnvC scope cl C X.env) fp) q S elt mel) (ho : ownm = own.map (·.2) := by rfl) (hsl : ∀ i ∈ slotsT tgm, i ∈ ownm := by decide) (hs : ∀ x, foldedSetIterable iter X.env x = pure x := by intro _; rfl) :
    Sd X q S (.ListComp elt [⟨tg, iter, ifs, 0⟩] scope pos) (.comp ownm mel tgm it mcs) := fun E tk => by
  obtain ⟨wi, g, tt, te, h1, h2, h3, h4, h5⟩ := sd_comp (pos := pos) hc hN hi okb ho hsl hg ht he hs E tk
  exact pe_imp (pe_lc hc hN h1 okb h2 h3 h4 hs) h5
end
end PV
end
/-! ## PV5b -/
section
set_option Elab.async false
set_option linter.all false
set_option maxRecDepth 100000
set_option maxHeartbeats 4000000
/-! Comprehensions of two fors. -/
namespace PV
open PySem L2 LamX RZ
section
variable {X : Cx} {q : Par} {S : PV.Sem}
/-- one turn of the outer for -/
def turnC2 (S : PV.Sem) (ρ : Env) (own2 : List Nat) (t1 : Tg) (i2 : PV.It) (t2 : Tg) (cs : List E) (el : E) (d : D) (G : Gs) : R (List D) := match PV.assign ρ t1 d with
  | some ρ' => (evI S ρ' i2 G).bind fun es G3 => compL (turnC S (wipeE ρ' own2) t2 cs el) es G3
  | none => .bad
/-- the state within -/
structure CJ (K : PySem.W.Frag) (q : Par) (z1 : Z) (D0 : Addr) (ρ : Env) (σ : L2.St) (I : Z → Prop) (z : Z) : Prop where
  ok : Ok K q z
  B : z.B = D0 :: z1.B
  ext : Ext z1 (z.less z1.B)
  rl : RelS K q z ρ σ
  src : I z
theorem CJ.next {K : PySem.W.Frag} {z1 z z' : Z} {D0 : Addr} {ρ : Env} {σ : L2.St} {I : Z → Prop} (c : CJ K q z1 D0 ρ σ I z) (st : ∀ z z', Mv K q z z' → I z → I z') (e : Ext z z') (o : Ok K q z') : CJ K q z1 D0 ρ σ I z' :=
  ⟨o, (ci_ext c.B c.ext e).1, (ci_ext c.B c.ext e).2, c.rl.ext c.ok e, st _ _ (e.mv c.ok) c.src⟩
theorem CJ.notLive {K : PySem.W.Frag} {z1 z : Z} {D0 : Addr} {ρ : Env} {σ : L2.St} {I : Z → Prop} (c : CJ K q z1 D0 ρ σ I z) : ¬ Live z D0 := fun l => c.ok.liveB l (by rw [c.B]; exact List.mem_cons_self ..)
/-- what is gathered so far -/
def Acc (K : PySem.W.Frag) (q : Par) (D0 : Addr) (z : Z) (acc : List D) : Prop := ∃ accV, z.H D0 = some (.lst accV) ∧ HasL K q z acc accV
theorem Acc.next {K : PySem.W.Frag} {z1 z z' : Z} {D0 : Addr} {ρ : Env} {σ : L2.St} {I : Z → Prop} {acc : List D} (c : CJ K q z1 D0 ρ σ I z) (a : Acc K q D0 z acc) (e : Ext z z') : Acc K q D0 z' acc := by
  obtain ⟨accV, h1, h2⟩ := a
  exact ⟨accV, e.keep _ _ h1 (fun _ x => nomatch x) c.notLive, HasL.ext c.ok e acc accV h2⟩
theorem wipe_idem {σ σ' : L2.St} {vs : List Nat} (h : L2.wipe σ' vs = L2.wipe σ vs) {ws : List Nat} (hs : ∀ i ∈ ws, i ∈ vs) : L2.wipe (L2.wipe σ' ws) vs = L2.wipe σ vs := by
  rw [← h]
  refine List.ext_getElem? fun j => ?_
  by_cases hj : j ∈ vs
  · rw [wipe_get hj, wipe_get hj, L2.wipe_length]
  · rw [L2.wipe_out hj, L2.wipe_out hj, L2.wipe_out (fun h => hj (hs j h))]
theorem sd_compB {elt tg iter tg1 iter1 : Expr} {ifs1 : List Expr} {scope : Scope} {own : List (Str × Nat)} {pos : Pos} {t1 t2 : Tg} {i1 i2 : PV.It} {mel : E} {mcs : List E} {ownm own2 : List Nat} (hc : X.calm = true) (hN : X.N.Nodup) (hi : SdI X q S tg iter i1) (okb : BlkOk X.N X.env.scope scope own)
    (ho : ownm = own.map (·.2)) (hsl : ∀ i ∈ slotsT t1, i ∈ ownm) (hsl2 : ∀ i ∈ slotsT t2, i ∈ own2) (hsub : ∀ i ∈ own2, i ∈ ownm)
    (hg : ∀ (s : Shared) (H : Hp) (C : Addr) (cl : List (Str × Addr)) (fp : List Addr), SdG (X.blk s H scope (compEnvC scope cl C X.env) fp) q tg t1)
    (hi1 : ∀ (s : Shared) (H : Hp) (C : Addr) (cl : List (Str × Addr)) (fp : List Addr), SdI (X.blk s H scope (compEnvC scope cl C X.env) fp) q S tg1 iter1 i2)
    (hg1 : ∀ (s : Shared) (H : Hp) (C : Addr) (cl : List (Str × Addr)) (fp : List Addr), SdG (X.blk s H scope (compEnvC scope cl C X.env) fp) q tg1 t2)
    (ht : ∀ (s : Shared) (H : Hp) (C : Addr) (cl : List (Str × Addr)) (fp : List Addr), SdTs (X.blk s H scope (compEnvC scope cl C X.env) fp) q S ifs1 mcs)
    (he : ∀ (s : Shared) (H : Hp) (C : Addr) (cl : List (Str × Addr)) (fp : List Addr), Sd (X.blk s H scope (compEnvC scope cl C X.env) fp) q S elt mel) :
    ∀ E : XK, Tk X E → ∃ wi g wi1 g1 tt1 te, PI X tg iter wi ∧ (∀ (s : Shared) (H : Hp) (C : Addr) (cl : List (Str × Addr)) (fp : List Addr), PG (X.blk s H scope (compEnvC scope cl C X.env) fp) tg g) ∧
      (∀ (s : Shared) (H : Hp) (C : Addr) (cl : List (Str × Addr)) (fp : List Addr), PI (X.blk s H scope (compEnvC scope cl C X.env) fp) tg1 iter1 wi1) ∧ (∀ (s : Shared) (H : Hp) (C : Addr) (cl : List (Str × Addr)) (fp : List Addr), PG (X.blk s H scope (compEnvC scope cl C X.env) fp) tg1 g1) ∧
      (∀ (s : Shared) (H : Hp) (C : Addr) (cl : List (Str × Addr)) (fp : List Addr), PTs (X.blk s H scope (compEnvC scope cl C X.env) fp) ifs1 tt1) ∧ (∀ (s : Shared) (H : Hp) (C : Addr) (cl : List (Str × Addr)) (fp : List Addr), PE (X.blk s H scope (compEnvC scope cl C X.env) fp) elt te) ∧
      ∀ σ H Q, rdE X.K q S E (.comp2 ownm own2 mel t1 i1 t2 i2 mcs) σ H Q → tLc2 wi g (fun σ H Q => Q true H) wi1 g1 tt1 te (own.map (·.2)) own2 σ H Q := by
  intro E tk
  subst ho
  refine ⟨_, rdG X.K q t1, rdI X.K q S (fun _ _ _ => False) i2, rdG X.K q t2, (fun σ H Q => ∃ z ρ, z.H = H ∧ Ok X.K q z ∧ RelS X.K q z ρ σ ∧ wp X.K q z (evT S ρ mcs z.G) (fun b z' => Q b z'.H) (fun _ _ _ => False)), rdE X.K q S (fun _ _ _ => False) mel, hi E tk, hg,
    fun s H C cl fp => hi1 s H C cl fp (fun _ _ _ => False) L2.takes0, hg1, fun s H C cl fp => ht s H C cl fp (fun _ _ _ => False) L2.takes0, fun s H C cl fp => he s H C cl fp (fun _ _ _ => False) L2.takes0, fun σ H Q ⟨z, ρ, hH, ok, rl, w⟩ => ?_⟩
  refine ⟨z, ρ, hH, ok, rl, (wp.bind w).mono fun ds z1 ok1 e1 w1 J I wk hI D0 hD => ?_⟩
  have rl1 := rl.ext ok e1
  obtain ⟨ys, G5, hcl, hys, hfin⟩ : ∃ ys G5, compL2 (turnC2 S (wipeE ρ (own.map (·.2))) own2 t1 i2 t2 mcs mel) ds z1.G = .ok ys G5 ∧ ys.length < sizeLine ∧ ∀ z' : Z, z'.G = G5 → Ok X.K q z' → Ext z1 z' → PQ X.K q Q (.lst ys) z' := by
    have w1 : wp X.K q z1 (((compL2 (turnC2 S (wipeE ρ (own.map (·.2))) own2 t1 i2 t2 mcs mel) ds z1.G).calm).bind fun ys G5 => if ys.length < sizeLine then PV.R.ok (.lst ys) G5 else .bad) (PQ X.K q Q) E := w1
    cases hr : compL2 (turnC2 S (wipeE ρ (own.map (·.2))) own2 t1 i2 t2 mcs mel) ds z1.G with
    | bad => rw [hr] at w1; exact w1.elim
    | exc c G' => rw [hr] at w1; exact w1.elim
    | ok ys G5 =>
      rw [hr] at w1
      have w1 : wp X.K q z1 (if ys.length < sizeLine then PV.R.ok (.lst ys) G5 else .bad) (PQ X.K q Q) E := w1
      split at w1
      · rename_i hlt
        exact ⟨ys, G5, rfl, hlt, w1⟩
      · exact w1.elim
  let PF : List D → Gs → Prop := fun ys G5 => ys.length < sizeLine ∧ ∀ z' : Z, z'.G = G5 → Ok X.K q z' → Ext z1 z' → PQ X.K q Q (.lst ys) z'
  let ρ0 := wipeE ρ (own.map (·.2))
  let σ0 := L2.wipe σ (own.map (·.2))
  let T := turnC2 S ρ0 own2 t1 i2 t2 mcs mel
  let Inv1 : Nat → Z → Prop := fun i z => CJ X.K q z1 D0 ρ0 σ0 I z ∧ ∃ acc ys G5, Acc X.K q D0 z acc ∧ compL2 T (ds.drop i) z.G = .ok ys G5 ∧ PF (acc ++ ys) G5
  have start : Inv1 0 (z1.push D0 []) := by
    refine ⟨⟨ok1.push hD, rfl, ⟨List.prefix_refl _, rfl, fun a l => .inl l, fun b o hb _ _ => ?_, fun b hb => ?_⟩, (rl1.mv (mv_push ok1 hD)).wipe _, wk.st _ _ (mv_push ok1 hD) hI⟩, [], ys, G5, ⟨[], upd_same, HasL.nil⟩, hcl, hys, hfin⟩
    · show upd z1.H D0 _ b = some o
      rw [upd_ne (ne_of_none hb hD)]; exact hb
    · by_cases eb : b = D0
      · rw [eb]; exact newA hD
      · refine fun u hu => hb u ?_
        show upd z1.H D0 _ b = some u
        rw [upd_ne eb]; exact hu
  refine ⟨fun i m H => m = ds.length - i ∧ i ≤ ds.length ∧ ∃ z, z.H = H ∧ Inv1 i z, ⟨ds.length, by simp, Nat.zero_le _, _, rfl, start⟩, ?_⟩
  rintro i m H ⟨rfl, hi, z2, rfl, c, acc, ys2, G52, hacc, hcl2, hf⟩
  by_cases hlt : i < ds.length
  · refine .inr ⟨wk.go z2 i c.ok c.src hlt, fun H' => ∃ z, z.H = H' ∧ Inv1 (i + 1) z, fun H' ⟨z, hz, c'⟩ => ⟨ds.length - (i + 1), by omega, rfl, hlt, z, hz, c'⟩, fun x H' hy => ?_⟩
    obtain ⟨z3, rfl, hG3, ok3, e3, d, hd, hx⟩ := wk.yld z2 i x H' c.ok c.src hlt hy
    have c3 := c.next wk.st e3 ok3
    have a3 := hacc.next c e3
    have hdr : ds.drop i = d :: ds.drop (i + 1) := by
      rw [List.drop_eq_getElem_cons hlt]
      congr 1
      rw [List.getElem?_eq_getElem hlt] at hd
      exact Option.some.inj hd
    rw [hdr] at hcl2
    obtain ⟨o, G6, h6, hcl2⟩ := bind_ok hcl2
    obtain ⟨r, G7, h7, hcl2⟩ := bind_ok hcl2
    cases hcl2
    have h6 : (match PV.assign ρ0 t1 d with
      | some ρ' => (evI S ρ' i2 z2.G).bind fun es G3 => compL (turnC S (wipeE ρ' own2) t2 mcs mel) es G3
      | none => .bad) = PV.R.ok o G6 := h6
    split at h6
    · rename_i ρ' hρ
      refine ⟨z3, d, _, ρ', rfl, ok3, c3.rl, hx, hρ, fun σ' rl4 hw => ⟨?_, ?_⟩⟩
      · rw [hw _ hsl]
        refine List.ext_getElem? fun j => ?_
        by_cases hj : j ∈ own.map (·.2)
        · rw [wipe_get hj, wipe_get hj, L2.wipe_length]
        · rw [L2.wipe_out hj]
      · refine ⟨z3, ρ', rfl, ok3, rl4, ?_⟩
        obtain ⟨es, G8, h8, h6⟩ := bind_ok h6
        rw [hG3, h8]
        intro z4 hG4 ok4 e4 J1 I1 wk1 hI1
        have c4 := c3.next wk.st e4 ok4
        have a4 := a3.next c3 e4
        have rl5 : RelS X.K q z4 (wipeE ρ' own2) (L2.wipe σ' own2) := (rl4.ext ok3 e4).wipe own2
        let T2 := turnC S (wipeE ρ' own2) t2 mcs mel
        let Inv2 : Nat → Z → Prop := fun j z => CJ X.K q z1 D0 ρ0 σ0 I z ∧ RelS X.K q z (wipeE ρ' own2) (L2.wipe σ' own2) ∧ I1 z ∧ ∃ acc ys G9, Acc X.K q D0 z acc ∧ compL T2 (es.drop j) z.G = .ok ys G9 ∧ G9 = G6 ∧ PF (acc ++ ys ++ r) G52
        have start2 : Inv2 0 z4 := ⟨c4, rl5, hI1, acc, o, G6, a4, by show compL T2 es z4.G = _; rw [hG4]; exact h6, rfl, by rw [List.append_assoc]; exact hf⟩
        refine ⟨fun j k H => k = es.length - j ∧ j ≤ es.length ∧ ∃ z, z.H = H ∧ Inv2 j z, ⟨es.length, by simp, Nat.zero_le _, _, rfl, start2⟩, ?_⟩
        rintro j k H ⟨rfl, hj, z5, rfl, c5, rl6, hI5, acc5, ys5, G9, ha5, hcl5, rfl, hf5⟩
        by_cases hlt5 : j < es.length
        · refine .inr ⟨wk1.go z5 j c5.ok hI5 hlt5, fun H' => ∃ z, z.H = H' ∧ Inv2 (j + 1) z, fun H' ⟨z, hz, c'⟩ => ⟨es.length - (j + 1), by omega, rfl, hlt5, z, hz, c'⟩, fun x H' hy => ?_⟩
          obtain ⟨z6, rfl, hG6, ok6, e6, d6, hd6, hx6⟩ := wk1.yld z5 j x H' c5.ok hI5 hlt5 hy
          have c6 := c5.next wk.st e6 ok6
          have a6 := ha5.next c5 e6
          have hdr6 : es.drop j = d6 :: es.drop (j + 1) := by
            rw [List.drop_eq_getElem_cons hlt5]
            congr 1
            rw [List.getElem?_eq_getElem hlt5] at hd6
            exact Option.some.inj hd6
          rw [hdr6] at hcl5
          obtain ⟨o5, G10, h10, hcl5⟩ := bind_ok hcl5
          obtain ⟨r5, G11, h11, hcl5⟩ := bind_ok hcl5
          have h10 : (match PV.assign (wipeE ρ' own2) t2 d6 with
            | some ρ' => (evT S ρ' mcs z5.G).bind fun b G3 => if b then (evE S ρ' mel G3).bind fun y G4 => .ok (some y) G4 else .ok none G3
            | none => .bad) = PV.R.ok o5 G10 := h10
          split at h10
          · rename_i ρ6 hρ6
            have rl7 := rl6.ext c5.ok e6
            refine ⟨z6, d6, _, ρ6, rfl, ok6, rl7, hx6, hρ6, fun σ6 rl8 hw6 => ⟨?_, ?_⟩⟩
            · rw [hw6 _ hsl2]
              refine List.ext_getElem? fun j => ?_
              by_cases hj : j ∈ own2
              · rw [wipe_get hj, wipe_get hj, L2.wipe_length]
              · rw [L2.wipe_out hj]
            · refine ⟨z6, ρ6, rfl, ok6, rl8, ?_⟩
              obtain ⟨b, G12, h12, h10⟩ := bind_ok h10
              rw [hG6, h12]
              intro z7 hG7 ok7 e7
              have c7 := c6.next wk.st e7 ok7
              have a7 := a6.next c6 e7
              have rl9 := rl7.ext ok6 e7
              have hI7 := wk1.st _ _ ((e6.trans e7).mv c5.ok) hI5
              cases b with
              | false =>
                rw [if_neg (by simp)] at h10
                dsimp only
                rw [if_neg (by simp)]
                cases h10
                cases hcl5
                exact ⟨z7, rfl, c7, rl9, hI7, acc5, _, _, a7, by show compL T2 _ z7.G = _; rw [hG7]; exact h11, rfl, hf5⟩
              | true =>
                rw [if_pos rfl] at h10
                dsimp only
                rw [if_pos rfl]
                obtain ⟨y, G13, h13, h10⟩ := bind_ok h10
                cases h10
                cases hcl5
                refine ⟨z7, ρ6, rfl, ok7, rl8.ext ok6 e7, ?_⟩
                rw [hG7, h13]
                intro z8 hG8 ok8 e8 yv hyv
                have c8 := c7.next wk.st e8 ok8
                obtain ⟨accV, hacc8, hav⟩ := a7.next c7 e8
                have hb8 : D0 ∈ z8.B := by rw [c8.B]; exact List.mem_cons_self ..
                have mw := mv_wr (q := q) (K := X.K) (vs := accV ++ [yv]) hb8 hacc8
                have hacn : acc5.length ≤ (acc5 ++ y :: r5 ++ r).length := by simp
                refine ⟨accV, hacc8, by rw [hav.len]; exact Nat.lt_of_le_of_lt hacn hf5.1, z8.wr D0 (accV ++ [yv]), rfl, ⟨ok8.wr hb8 hacc8, c8.B, ext_wr c8.ext hD ⟨_, hacc8⟩, c8.rl.mv mw, wk.st _ _ mw c8.src⟩, (rl9.ext ok7 e8).mv mw, wk1.st _ _ mw (wk1.st _ _ (e8.mv ok7) hI7), acc5 ++ [y], r5, _, ⟨accV ++ [yv], upd_same, ?_⟩, by show compL T2 _ z8.G = _; rw [hG8]; exact h11, rfl, by rw [List.append_assoc acc5]; exact hf5⟩
                exact HasL.mv mw _ _ (hav.app (HasL.cons hyv HasL.nil))
          · cases h10
        · have e : j = es.length := by omega
          subst e
          rw [List.drop_length] at hcl5
          cases hcl5
          rw [List.append_nil] at hf5
          exact .inl ⟨wk1.stop z5 c5.ok hI5, z5, rfl, c5, acc5, r, G52, ha5, h7, hf5⟩
    · cases h6
  · have e : i = ds.length := by omega
    subst e
    refine .inl ⟨wk.stop z2 c.ok c.src, ?_⟩
    rw [List.drop_length] at hcl2
    cases hcl2
    rw [List.append_nil] at hf
    obtain ⟨accV, hacc, hav⟩ := hacc
    have hB : ∀ b ∈ z1.B, b ∈ z2.B := fun b hb => by rw [c.B]; exact List.mem_cons_of_mem _ hb
    refine hf.2 (z2.less z1.B) rfl (c.ok.less hB) c.ext _ (Has.lst (z := z2.less z1.B) hacc ⟨fun hb => ?_, fun l => ?_⟩ (HasL.mv (mv_less hB) acc accV hav))
    · obtain ⟨vs, hv⟩ := ok1.blk D0 hb
      rw [hD] at hv; cases hv
    · exact c.ok.liveB (a := D0) l (by rw [c.B]; exact List.mem_cons_self ..)
theorem sd_lc2 {elt tg iter tg1 iter1 : Expr} {ifs1 : List Expr} {scope : Scope} {pos : Pos} {t1 t2 : Tg} {i1 i2 : PV.It} {mel : E} {mcs : List E} {ownm own2 : List Nat} (own : List (Str × Nat)) (hc : X.calm = true) (hN : X.N.Nodup) (hi : SdI X q S tg iter i1) (okb : BlkOk X.N X.env.scope scope own)
    (hg : ∀ (s : Shared) (H : Hp) (C : Addr) (cl : List (Str × Addr)) (fp : List Addr), SdG (X.blk s H scope (compEnvC scope cl C X.env) fp) q tg t1)
    (hi1 : ∀ (s : Shared) (H : Hp) (C : Addr) (cl : List (Str × Addr)) (fp : List Addr), SdI (X.blk s H scope (compEnvC scope cl C X.env) fp) q S tg1 iter1 i2)
    (hg1 : ∀ (s : Shared) (H : Hp) (C : Addr) (cl : List (Str × Addr)) (fp : List Addr), SdG (X.blk s H scope (compEnvC scope cl C X.env) fp) q tg1 t2)
    (ht : ∀ (s : Shared) (H : Hp) (C : Addr) (cl : List (Str × Addr)) (fp : List Addr), SdTs (X.blk s H scope (compEnvC scope cl C X.env) fp) q S ifs1 mcs)
    (he : ∀ (s : Shared) (H : Hp) (C : Addr) (cl : List (Str × Addr)) (fp : List Addr), Sd (X.blk s H scope (compEnvC scope cl C X.env) fp) q S elt mel) (ho : ownm = own.map (·.2) := by rfl) (hsl : ∀ i ∈ slotsT t1, i ∈ ownm := by decide) (hsl2 : ∀ i ∈ slotsT t2, i ∈ own2 := by decide) (hsub : ∀ i ∈ own2, i ∈ ownm := by decide)
    (hs : ∀ x, foldedSetIterable iter X.env x = pure x := by intro _; rfl) (hs1 : ∀ env x, foldedSetIterable iter1 env x = pure x := by intro _ _; rfl) :
    Sd X q S (.ListComp elt [⟨tg, iter, [], 0⟩, ⟨tg1, iter1, ifs1, 0⟩] scope pos) (.comp2 ownm own2 mel t1 i1 t2 i2 mcs) := fun E tk => by
  obtain ⟨wi, g, wi1, g1, tt1, te, h1, h2, h3, h4, h5, h6, h7⟩ := sd_compB (pos := pos) hc hN hi okb ho hsl hsl2 hsub hg hi1 hg1 ht he E tk
  subst ho
  exact pe_imp (pe_lc2 hc hN h1 okb hsub h2 (fun _ _ _ _ _ => pts_nil) h3 h4 h5 h6 hs hs1) h7
end
end PV
end
/-! ## PVd -/
section
set_option Elab.async false
set_option linter.all false
set_option maxRecDepth 100000
set_option maxHeartbeats 4000000
/-! Cells' contents changed; dicts; what a value's class is. -/
namespace PV
open PySem L2 LamX PyProof.Rows RZ
section
variable {X : Cx} {q : Par} {S : PV.Sem} {K : PySem.W.Frag} {z z' : Z}
/-! ### a cell's content changed -/
abbrev Z.stC (z : Z) (n : Nat) (a : Addr) (c : C) (o : HO) : Z := { z with G := z.G.set n (some c), H := upd z.H a o }
theorem live_stC {n : Nat} {a : Addr} {c c' : C} {o : HO} (h : z.G[n]? = some (some c)) (x : Addr) : Live (z.stC n a c' o) x ↔ Live z x := by
  constructor
  · rintro ⟨m, es, h1, h2⟩
    have h1 : (z.G.set n (some c'))[m]? = some (some es) := h1
    by_cases e : n = m
    · subst e
      exact ⟨n, c, h, h2⟩
    · rw [List.getElem?_set_ne e] at h1
      exact ⟨m, es, h1, h2⟩
  · rintro ⟨m, es, h1, h2⟩
    by_cases e : n = m
    · subst e
      exact ⟨n, c', List.getElem?_set_self (List.getElem?_eq_some_iff.mp h1).1, h2⟩
    · exact ⟨m, es, by show (z.G.set n (some c'))[m]? = _; rw [List.getElem?_set_ne e]; exact h1, h2⟩
theorem ext_stC {n : Nat} {a : Addr} {c c' : C} {o : HO} (ok : Ok K q z) (h : z.G[n]? = some (some c)) (ha : z.μ[n]? = some a) (ho : ∀ ps, o ≠ .tbl ps) : Ext z (z.stC n a c' o) := by
  have la : Live z a := ⟨n, c, h, ha⟩
  refine ⟨List.prefix_refl _, rfl, fun x l => .inl ((live_stC h x).mp l), fun b u hb nt nl => ?_, fun b hb => ?_⟩
  · show upd z.H a _ b = some u
    rw [upd_ne (fun e => nl (by rw [e]; exact la))]
    exact hb
  · by_cases e : b = a
    · exact hb.no (z := z.stC n a c' o) (o := o) (by rw [e]; exact upd_same) ho
    · refine fun u hu => hb u ?_
      show upd z.H a _ b = some u
      rw [upd_ne e]; exact hu
theorem ok_stC {n : Nat} {a : Addr} {c c' : C} {o : HO} (ok : Ok K q z) (h : z.G[n]? = some (some c)) (ha : z.μ[n]? = some a) (ho : ∀ ps, o ≠ .tbl ps) (hv : ∀ z' : Z, Mv K q z z' → z'.H a = some o → HasC K q z' c' a) : Ok K q (z.stC n a c' o) := by
  have e := ext_stC (c' := c') (o := o) ok h ha ho
  obtain ⟨a0, g1, g2, g4⟩ := ok.cells n c h
  rw [ha] at g1; cases g1
  obtain ⟨u0, hu0, hc0⟩ := g2.at
  refine ⟨by show z.μ.length = (z.G.set n _).length; rw [List.length_set]; exact ok.len, fun m es hm => ?_, fun m k es fs x h1 h2 h3 h4 => ?_, fun b hb => ?_, tabs_wr hu0 hc0 ok.tabs⟩
  · have hm : (z.G.set n (some c'))[m]? = some (some es) := hm
    by_cases em : n = m
    · subst em
      rw [List.getElem?_set_self (List.getElem?_eq_some_iff.mp h).1] at hm
      cases hm
      exact ⟨a, ha, hv _ (e.mv ok) upd_same, g4⟩
    · rw [List.getElem?_set_ne em] at hm
      obtain ⟨b, k1, k2, k4⟩ := ok.cells m es hm
      refine ⟨b, k1, k2.mvAt (e.mv ok) (fun u hu _ => ?_), k4⟩
      show upd z.H a _ b = _
      rw [upd_ne (fun eb => em (ok.inj n m c es a h hm ha (by rw [← eb]; exact k1)))]
      exact hu
  · have get : ∀ (m : Nat) (es : C), (z.G.set n (some c'))[m]? = some (some es) → ∃ es', z.G[m]? = some (some es') := fun m es hm => by
      by_cases em : n = m
      · subst em; exact ⟨c, h⟩
      · rw [List.getElem?_set_ne em] at hm; exact ⟨es, hm⟩
    obtain ⟨e1, h1⟩ := get m es h1
    obtain ⟨e2, h2⟩ := get k fs h2
    exact ok.inj m k e1 e2 x h1 h2 h3 h4
  · obtain ⟨us, hu⟩ := ok.blk b hb
    refine ⟨us, ?_⟩
    show upd z.H a _ b = _
    rw [upd_ne (fun eb => g4 (by rw [← eb]; exact hb))]; exact hu
theorem cell_at {n : Nat} {v : V} {c : C} (ok : Ok K q z) (hv : Has K q z (.cell n) v) (h : z.G[n]? = some (some c)) : ∃ a, v = .ref a ∧ z.μ[n]? = some a ∧ HasC K q z c a := by
  simp only [Has] at hv
  obtain ⟨a, ea, hua⟩ := hv
  obtain ⟨a', g1, g2, g4⟩ := ok.cells n c h
  rw [hua] at g1; cases g1
  exact ⟨a, ea, hua, g2⟩

/-! ### keys -/
mutual
theorem has_key {pins : List (Addr × Obj)} {σ : L2.St} {s : Shared} (I : L2.Inv X pins σ z.H s) : ∀ (d : D) (k : NestedKey) (v : V) (u : Value), toKey d = some k → Has X.K q z d v → RelV v u → NestedIs s.heap k u
  | .non, k, v, u, e, h, r => by
    simp only [toKey, Option.some.injEq] at e
    subst e
    rw [h.of_non] at r
    rw [show u = Value.none from r]
    exact .none
  | .bl b, k, v, u, e, h, r => by
    simp only [toKey, Option.some.injEq] at e
    subst e
    rw [h.of_bl] at r
    rw [show u = Value.bool b from r]
    exact .bool rfl
  | .int i, k, v, u, e, h, r => by
    simp only [toKey, Option.some.injEq] at e
    subst e
    rw [h.of_int] at r
    obtain ⟨t, rfl⟩ := r
    exact .int i t
  | .str i, k, v, u, e, h, r => by
    simp only [toKey, Option.some.injEq] at e
    subst e
    rw [h.of_str] at r
    obtain ⟨t, rfl⟩ := r
    exact .text i t
  | .tup l, k, v, u, e, h, r => by
    simp only [toKey] at e
    split at e
    · rename_i ks hks
      cases e
      simp only [Has] at h
      obtain ⟨a, vs, rfl, h1, h2⟩ := h
      rw [show u = Value.ref a from r]
      obtain ⟨its, rv, pl, hz⟩ := I.tuple h1
      obtain ⟨o, ho, hc, n, hd⟩ := pl
      exact .tup ho hc hd (has_keys I l ks vs its hks h2 rv)
    · cases e
  | .lst l, k, v, u, e, h, r => by simp [toKey] at e
  | .frz l, k, v, u, e, h, r => by simp [toKey] at e
  | .cell l, k, v, u, e, h, r => by simp [toKey] at e
  | .lam l, k, v, u, e, h, r => by simp [toKey] at e
  | .dct _ _, k, v, u, e, h, r => by simp [toKey] at e
theorem has_keys {pins : List (Addr × Obj)} {σ : L2.St} {s : Shared} (I : L2.Inv X pins σ z.H s) : ∀ (l : List D) (ks : List NestedKey) (vs : List V) (us : List Value), toKeys l = some ks → HasL X.K q z l vs → Vals vs us → NestedAll s.heap ks us
  | [], ks, vs, us, e, h, r => by
    simp only [toKeys, Option.some.injEq] at e
    subst e
    have := h.nil_inv
    subst this
    cases r
    exact .nil
  | d :: l, ks, vs, us, e, h, r => by
    simp only [toKeys] at e
    split at e
    · rename_i p ps h1 h2
      cases e
      obtain ⟨v, vr, rfl, g1, g2⟩ := h.cons_inv
      cases r with
      | cons r1 r2 => exact .cons (has_key I d p v _ h1 g1 r1) (has_keys I l ps vr _ h2 g2 r2)
    · cases e
end
theorem keyT_tup {d : D} {k : NestedKey} (h : keyT d = some k) : toKey d = some k ∧ k.depth ≤ 8 ∧ ∃ l, d = .tup l := by
  unfold keyT at h
  split at h
  · rename_i l
    split at h
    · rename_i ks hks
      split at h
      · rename_i hd
        cases h
        exact ⟨by simp only [toKey, hks], hd, l, rfl⟩
      · cases h
    · cases h
  · cases h
theorem key_is {pins : List (Addr × Obj)} {σ : L2.St} {s : Shared} (I : L2.Inv X pins σ z.H s) {d : D} {k : NestedKey} {a : Addr} (h : keyT d = some k) (hv : Has X.K q z d (.ref a)) {P : Program} {w : World} : (nestedKind P w).is s.heap k a := by
  obtain ⟨h1, h2, _⟩ := keyT_tup h
  exact ⟨has_key I d k (.ref a) (.ref a) h1 hv rfl, h2⟩
theorem keyed_cons {d : D} {ds : List D} {k : NestedKey} {ks : List NestedKey} (h : Keyed (d :: ds) (k :: ks)) : keyT d = some k ∧ Keyed ds ks := by
  unfold Keyed at h
  rw [List.map_cons, List.map_cons] at h
  injection h with h1 h2
  exact ⟨h1, h2⟩
theorem keyed_all {pins : List (Addr × Obj)} {σ : L2.St} {s : Shared} (I : L2.Inv X pins σ z.H s) {P : Program} {w : World} : ∀ (ks : List D) (xs : List (NestedKey × Addr × Value)), Keyed ks (xs.map (·.1)) → HasL X.K q z ks (xs.map fun x => V.ref x.2.1) → ∀ x ∈ xs, (nestedKind P w).is s.heap x.1 x.2.1
  | [], [], _, _ => fun x hx => (nomatch hx)
  | [], _ :: _, h, _ => by simp [Keyed] at h
  | _ :: _, [], h, _ => by simp [Keyed] at h
  | d :: ds, x :: xs, h, hv => fun y hy => by
    obtain ⟨h1, h2⟩ := keyed_cons (ks := xs.map (·.1)) h
    obtain ⟨v, vr, e, g1, g2⟩ := hv.cons_inv
    rw [List.map_cons] at e
    injection e with e1 e2
    subst e1 e2
    rcases List.mem_cons.mp hy with rfl | hy
    · exact key_is I h1 g1
    · exact keyed_all I ds xs h2 g2 y hy
theorem isKey_eq {d : D} {k k' : NestedKey} (h : keyT d = some k) : isKey k' d = decide (k = k') := by
  unfold isKey
  rw [h, NestedKey.decide_eq]
/-- what a look-up finds -/
theorem get_at : ∀ (k : NestedKey) (ks vs : List D) (xs : List (NestedKey × Addr × Value)) (us : List V), Keyed ks (xs.map (·.1)) → Vals us (xs.map (·.2.2)) → HasL K q z vs us →
    (∀ d, getK k ks vs = some d → ∃ p x, atKey xs k = some p ∧ RelV x p.2 ∧ Has K q z d x) ∧ (getK k ks vs = none → atKey xs k = none)
  | k, [], vs, [], us, _, r, h => ⟨fun d e => by cases vs <;> simp [getK] at e, fun _ => rfl⟩
  | k, [], _, _ :: _, _, h, _, _ => by simp [Keyed] at h
  | k, _ :: _, _, [], _, h, _, _ => by simp [Keyed] at h
  | k, d :: ds, vs, x :: xs, us, h, r, hv => by
    obtain ⟨h1, h2⟩ := keyed_cons (ks := xs.map (·.1)) h
    cases r with
    | @cons u w us' ws' r1 r2 =>
      cases vs with
      | nil => have := hv.nil_inv; cases this
      | cons v vs =>
        obtain ⟨v', vr, e, g1, g2⟩ := hv.cons_inv
        cases e
        have ih := get_at k ds vs xs us' h2 r2 g2
        unfold getK
        rw [isKey_eq (k' := k) h1]
        by_cases e : x.1 = k
        · rw [if_pos (decide_eq_true e)]
          refine ⟨fun d' e' => ?_, fun e' => nomatch e'⟩
          cases e'
          exact ⟨x.2, u, by simp [atKey, e], r1, g1⟩
        · rw [if_neg (by simpa using e)]
          have e2 : atKey (x :: xs) k = atKey xs k := by simp [atKey, e]
          rw [e2]
          exact ih
theorem put_at : ∀ (k : NestedKey) (dv : D) (ks vs : List D) (xs : List (NestedKey × Addr × Value)) (us : List V) (v : V) (w : Value), Keyed ks (xs.map (·.1)) → Vals us (xs.map (·.2.2)) → HasL K q z vs us → RelV v w → Has K q z dv v →
    ∃ us', Vals us' ((xs.map (putAt k w)).map (·.2.2)) ∧ HasL K q z (putK k dv ks vs) us'
  | k, dv, [], vs, [], us, v, w, _, r, h, _, _ => ⟨us, r, by
      cases vs with
      | nil => exact h
      | cons a b => obtain ⟨_, _, e, _⟩ := h.cons_inv; subst e; cases r⟩
  | k, dv, [], _, _ :: _, _, _, _, h, _, _, _, _ => by simp [Keyed] at h
  | k, dv, _ :: _, _, [], _, _, _, h, _, _, _, _ => by simp [Keyed] at h
  | k, dv, d :: ds, vs, x :: xs, us, v, w, h, r, hv, rw', hd => by
    obtain ⟨h1, h2⟩ := keyed_cons (ks := xs.map (·.1)) h
    cases r with
    | @cons u w' us' ws' r1 r2 =>
      cases vs with
      | nil => have := hv.nil_inv; cases this
      | cons v0 vs =>
        obtain ⟨v', vr, e, g1, g2⟩ := hv.cons_inv
        cases e
        obtain ⟨us2, k1, k2⟩ := put_at k dv ds vs xs us' v w h2 r2 g2 rw' hd
        unfold putK
        rw [isKey_eq (k' := k) h1]
        by_cases e : x.1 = k
        · rw [if_pos (decide_eq_true e)]
          refine ⟨v :: us2, ?_, HasL.cons hd k2⟩
          have : putAt k w x = (x.1, x.2.1, w) := by simp [putAt, e]
          rw [List.map_cons, List.map_cons, this]
          exact .cons rw' k1
        · rw [if_neg (by simpa using e)]
          refine ⟨u :: us2, ?_, HasL.cons g1 k2⟩
          have : putAt k w x = x := by simp [putAt, e]
          rw [List.map_cons, List.map_cons, this]
          exact .cons r1 k1
theorem put_keys (k : NestedKey) (w : Value) (xs : List (NestedKey × Addr × Value)) : (xs.map (putAt k w)).map (·.1) = xs.map (·.1) ∧ (xs.map (putAt k w)).map (fun x => V.ref x.2.1) = xs.map fun x => V.ref x.2.1 := by
  refine ⟨?_, ?_⟩ <;> rw [List.map_map] <;> refine List.map_congr_left fun x _ => ?_
  · show (putAt k w x).1 = x.1
    unfold putAt; split <;> rfl
  · show V.ref (putAt k w x).2.1 = V.ref x.2.1
    unfold putAt; split <;> rfl
theorem dict_of {pins : List (Addr × Obj)} {σ : L2.St} {s : Shared} (I : L2.Inv X pins σ z.H s) (hP : q.P = X.prog) (hW : q.W = X.w) {ks vs : List D} {a : Addr} (h : HasC X.K q z (.dct ks vs) a) :
    ∃ o xs us, z.H a = some (DictO a o) ∧ DictRep q a o xs ∧ s.heap.DictOfH (nestedKind X.prog X.w) a xs ∧ Keyed ks (xs.map (·.1)) ∧ HasL X.K q z ks (xs.map fun x => V.ref x.2.1) ∧ Vals us (xs.map (·.2.2)) ∧ HasL X.K q z vs us ∧ xs.length = ks.length ∧ (a == sysModules) = false := by
  obtain ⟨o, xs, us, h1, h2, h3, h4, h5, h6⟩ := h
  obtain ⟨es, ep, e1, e2, e3, e4, e5, e6⟩ := id h2
  rw [hP, hW] at e3
  exact ⟨o, xs, us, h1, h2, ⟨o, es, ep, (I.hok a _ h1).1, e1, e2, e3, keyed_all I ks xs h3 h4, e4⟩, h3, h4, h5, h6, by have := h4.len; simpa using this, e6⟩

/-! ### stores -/
def rSetC (K : PySem.W.Frag) (q : Par) : TSet := fun o i v H Q => ∃ (z : Z) (dx dy dv : D) (G4 : Gs), z.H = H ∧ Ok K q z ∧ Has K q z dx o ∧ Has K q z dy i ∧ Has K q z dv v ∧ setD z.G dx dy dv = some G4 ∧ ∀ z' : Z, z'.G = G4 → Ok K q z' → Ext z z' → Q z'.H
theorem nroom (hu : X.A.units + 64 < cLine) : (nestedKind X.prog X.w).room X.A.in1 := by
  show X.A.units + 1 + 8 < cLine
  omega
theorem set_C (hu : X.A.units + 64 < cLine) (hP : q.P = X.prog) (hW : q.W = X.w) : PSet X (rSetC X.K q) := by
  intro pins s σ H o i v ov iv u Q I ro ri rv h
  obtain ⟨z, dx, dy, dv, G4, rfl, ok, ho, hi, hv, hG, hQ⟩ := h
  unfold setD at hG
  split at hG
  · rename_i n k
    split at hG
    · rename_i l hl
      split at hG <;> cases hG
      rename_i j hj
      obtain ⟨a, rfl, hua, vs, g2, g3⟩ := cell_at ok ho hl
      refine set_list pins s σ _ _ _ v ov iv u Q I ro ri rv ⟨a, vs, k, j, rfl, hi.of_int, g2, by rw [g3.len]; exact hj, ?_⟩
      exact hQ (z.stC n a (.lst (l.set j dv)) (.lst (vs.set j v))) rfl (ok_stC ok hl hua (fun _ x => nomatch x) fun z' m hp => ⟨_, hp, HasL.mv m _ _ (g3.set hv j)⟩) (ext_stC ok hl hua (fun _ x => nomatch x))
    · cases hG
  · rename_i n t
    split at hG
    · rename_i ks vs hl
      split at hG
      · rename_i k hk
        split at hG <;> cases hG
        rename_i hsz
        obtain ⟨a, rfl, hua, hc⟩ := cell_at ok ho hl
        obtain ⟨ob, xs, us, g1, g2, hm, g3, g4, g5, g6, hlen, lo⟩ := dict_of I hP hW hc
        obtain ⟨b, tv, rfl, _⟩ := hi.ref_of_tup
        rw [show ov = Value.ref a from ro, show iv = Value.ref b from ri]
        refine wpAny_setItem_heap (nroom hu) (key_is I hk hi) hm (fun h' hm' hs => ?_) (by omega)
        obtain ⟨ob', es', ep', f1, f2, f3, f4, f5, f6⟩ := hm'
        -- the new entries
        obtain ⟨us', n1, n2, n3, n4⟩ : ∃ us', Keyed (storeK k (.tup t) dv ks vs).1 ((storedH xs k b u).map (·.1)) ∧ HasL X.K q z (storeK k (.tup t) dv ks vs).1 ((storedH xs k b u).map fun x => V.ref x.2.1) ∧ Vals us' ((storedH xs k b u).map (·.2.2)) ∧ HasL X.K q z (storeK k (.tup t) dv ks vs).2 us' := by
          obtain ⟨l1, l2⟩ := get_at (z := z) (q := q) (K := X.K) k ks vs xs us g3 g5 g6
          unfold storeK
          cases hg : getK k ks vs with
          | some d =>
            obtain ⟨p, x, a1, _⟩ := l1 d hg
            rw [storedH_old a1]
            obtain ⟨us', b1, b2⟩ := put_at (z := z) (q := q) (K := X.K) k dv ks vs xs us v u g3 g5 g6 rv hv
            refine ⟨us', ?_, ?_, b1, b2⟩
            · show Keyed ks _
              rw [(put_keys k u xs).1]; exact g3
            · show HasL X.K q z ks _
              rw [(put_keys k u xs).2]; exact g4
          | none =>
            rw [storedH_new (l2 hg)]
            refine ⟨us ++ [v], ?_, ?_, ?_, ?_⟩
            · show Keyed (ks ++ [.tup t]) _
              unfold Keyed at g3 ⊢
              rw [List.map_append, List.map_append, List.map_append, g3]
              simp [hk]
            · show HasL X.K q z (ks ++ [.tup t]) _
              rw [List.map_append]
              exact g4.app (HasL.cons hi HasL.nil)
            · rw [List.map_append]
              exact g5.append (.cons rv .nil)
            · show HasL X.K q z (vs ++ [dv]) _
              exact g6.app (HasL.cons hv HasL.nil)
        have hlen' : (storedH xs k b u).length ≤ sizeLine := by
          unfold storedH
          split
          · rw [List.length_map]; omega
          · rw [List.length_append, List.length_singleton]; omega
        have rep : DictRep q a ob' (storedH xs k b u) := ⟨es', ep', f2, f3, by rw [f4, hP, hW], f6, hlen', lo⟩
        have I' : L2.Inv X pins σ (upd z.H a (DictO a ob')) { s with heap := h', toks := s.toks + (nestedKind X.prog X.w).draws k } :=
          I.write (x := a) (e := a) (by rw [g1]; exact trivial) (.inl rfl) (fun b' u' hb hu' => (hs.2 b' hb).trans hu') ⟨_, f1⟩ ⟨f1, ⟨_, f1⟩, fun h1 h2 e1 e2 => e2 _ e1⟩
        refine ⟨_, I', ?_⟩
        exact hQ (z.stC n a (.dct (storeK k (.tup t) dv ks vs).1 (storeK k (.tup t) dv ks vs).2) (DictO a ob')) rfl
          (ok_stC ok hl hua (fun _ x => nomatch x) fun z' m hp => ⟨ob', _, us', hp, rep, n1, HasL.mv m _ _ n2, n3, HasL.mv m _ _ n4⟩) (ext_stC ok hl hua (fun _ x => nomatch x))
      · cases hG
    · cases hG
  · cases hG

/-! ### {} -/
theorem sd_dctC {pos : Pos} : Sd X q S (.Dict [] [] pos) .dctC := fun E tk => ⟨fun pins s σ H Q I ⟨z, ρ, hH, ok, rl, w⟩ => by
  subst hH
  have new : (s.heap.push { cls := .type "dict", data := .dict #[] }).get? s.heap.objs.size = some { cls := .type "dict", data := .dict #[] } := Heap.get?_push_size _ rfl
  refine wpAny_Dict_empty ⟨.ref s.heap.objs.size, _, I.laid (a := s.heap.objs.size) (o := DictO s.heap.objs.size { cls := .type "dict", data := .dict #[] }) (t' := s.toks) (fun _ _ q => Heap.get?_push_of_some _ q) (Nat.le_refl _) ⟨new, ⟨_, new⟩, fun h1 h2 e1 e2 => e2 _ e1⟩, rfl, ?_⟩
  have hp := I.hok.fresh (Nat.le_refl _)
  refine w (z.cell s.heap.objs.size (.dct [] []) (DictO s.heap.objs.size { cls := .type "dict", data := .dict #[] })) rfl (ok.cell hp fun z' m hp' => ⟨_, [], [], hp', ⟨#[], 0, ⟨rfl, rfl, rfl⟩, rfl, rfl, List.nodup_nil, Nat.zero_le _, beq_eq_false_iff_ne.mpr (Ne.symm (Nat.ne_of_lt I.big))⟩, rfl, HasL.nil, .nil, HasL.nil⟩) (Ext.cell ok hp) _ (has_cell ?_)
  show (z.μ ++ [_])[z.G.length]? = some _
  rw [← ok.len]; simp⟩

/-! ### d[k] -/
def rIxC (K : PySem.W.Frag) (q : Par) : R2 := fun x y H Q => ∃ (z : Z) (ks vs t : List D) (k : NestedKey) (c : D) (a : Addr), z.H = H ∧ Ok K q z ∧ x = .ref a ∧ HasC K q z (.dct ks vs) a ∧ Has K q z (.tup t) y ∧ keyT (.tup t) = some k ∧ getK k ks vs = some c ∧ Post K q z Q c
theorem ix_C (hu : X.A.units + 64 < cLine) (hP : q.P = X.prog) (hW : q.W = X.w) : IxR X (rIxC X.K q) := by
  intro value slice pins s σ H x y v u Q I rx ry h hs
  obtain ⟨z, ks, vs, t, k, c, a, rfl, ok, rfl, hc, hy, hk, hg, hp⟩ := h
  obtain ⟨ob, xs, us, g1, g2, hm, g3, g4, g5, g6, hlen, lo⟩ := dict_of I hP hW hc
  obtain ⟨b, tv, rfl, _⟩ := id hy.ref_of_tup
  rw [show v = Value.ref a from rx, show u = Value.ref b from ry] at hs ⊢
  obtain ⟨p, xv, a1, a2, a3⟩ := (get_at (z := z) (q := q) (K := X.K) k ks vs xs us g3 g5 g6).1 c hg
  refine tail_any (ops := [.ref a, .ref b]) hm.typeIs slot_dict_getitem.lookup ?_ hs
  exact wpAny_getItem_heap (nroom hu) (key_is I hk hy) hm a1 ⟨xv, z.H, I.tok _, a2, hp.at ok a3⟩

/-! ### d.get(k, x) -/
theorem dct_has {dx : D} {x : V} {p : List D × List D} (ok : Ok K q z) (hx : Has K q z dx x) (h : dctAt z.G dx = some p) : ∃ a, x = .ref a ∧ HasC K q z (.dct p.1 p.2) a := by
  cases dx <;> simp only [dctAt, reduceCtorEq] at h
  · rename_i n
    split at h
    · rename_i ks vs hl
      cases h
      obtain ⟨a, e, _, hc⟩ := cell_at ok hx hl
      exact ⟨a, e, hc⟩
    · cases h
  · rename_i ks vs
    cases h
    simp only [Has] at hx
    obtain ⟨a, o, xs, us, rfl, g1, g2, g3, g4, g5, g6, fr⟩ := hx
    exact ⟨a, rfl, o, xs, us, g1, g2, g3, g4, g5, g6⟩
theorem sd_dget {o e f : Expr} {mo me mf : E} {apos cpos : Pos} (hu : X.A.units + 64 < cLine) (hP : q.P = X.prog) (hW : q.W = X.w) (ho : Sd X q S o mo) (he : Sd X q S e me) (hf : Sd X q S f mf) (m : M2 X o "get" apos e f cpos) : Sd X q S (.Call (.Attribute o "get" apos) [e, f] [] cpos) (.dget mo me mf) := fun E tk => ⟨fun pins s σ H Q I ⟨z, ρ, hH, ok, rl, w⟩ => by
  subst hH
  refine wpAny_Call_method m.base m.few m.line PySem.F.plainAttrs_dict PySem.F.slot_dict_get PySem.F.type_dict_get (thn ((ho E tk).run pins s σ z.H (fun v H' => ∃ z1 dx, z1.H = H' ∧ Ok X.K q z1 ∧ RelS X.K q z1 ρ σ ∧ Has X.K q z1 dx v ∧ wp X.K q z1 (match dctAt z1.G dx with
    | some _ => (evE S ρ me z1.G).bind fun y G2 => (evE S ρ mf G2).bind fun e G3 => .of (getD2 G3 dx y e) G3
    | none => .bad) (PQ X.K q Q) E) I ⟨z, ρ, rfl, ok, rl, (wp.bind w).mono fun d z1 ok1 e1 w1 v hv => ⟨z1, d, rfl, ok1, rl.ext ok e1, hv, w1⟩⟩) fun u s1 ⟨x, H1, I1, rx, z1, dx, hz1, ok1, rl1, hx, w1⟩ => ?_)
  subst hz1
  split at w1
  · rename_i p hp
    obtain ⟨a, rfl, hc⟩ := dct_has ok1 hx hp
    obtain ⟨ob, xs, us, g1, g2, hm, _⟩ := dict_of I1 hP hW hc
    rw [show u = Value.ref a from rx]
    refine ⟨hm.typeIs, fun b q => ?_, ?_⟩
    · cases q
      obtain ⟨ob, _, _, h1, h2, _⟩ := hm
      exact ⟨ob, h1, h2.2.1⟩
    rw [m.trees]
    refine Calls.callWith_builtin rfl (Calls.evalArgs_plain (Calls.spliced_cons (thn ((he E tk).run pins s1 σ z1.H (fun v H' => ∃ z2 dy, z2.H = H' ∧ Ok X.K q z2 ∧ RelS X.K q z2 ρ σ ∧ Has X.K q z2 dx (.ref a) ∧ Has X.K q z2 dy v ∧ wp X.K q z2 ((evE S ρ mf z2.G).bind fun e G3 => .of (getD2 G3 dx dy e) G3) (PQ X.K q Q) E) I1 ⟨z1, ρ, rfl, ok1, rl1, (wp.bind w1).mono fun d z2 ok2 e2 w2 v hv => ⟨z2, d, rfl, ok2, rl1.ext ok1 e2, Has.ext ok1 e2 _ _ hx, hv, w2⟩⟩) fun iv s2 ⟨y, H2, I2, ry, z2, dy, hz2, ok2, rl2, hx2, hy, w2⟩ => ?_)))
    subst hz2
    refine Calls.spliced_cons (thn ((hf E tk).run pins s2 σ z2.H (fun v H' => ∃ z3 de, z3.H = H' ∧ Ok X.K q z3 ∧ Has X.K q z3 dx (.ref a) ∧ Has X.K q z3 dy y ∧ Has X.K q z3 de v ∧ wp X.K q z3 (.of (getD2 z3.G dx dy de) z3.G) (PQ X.K q Q) E) I2 ⟨z2, ρ, rfl, ok2, rl2, (wp.bind w2).mono fun d z3 ok3 e3 w3 v hv => ⟨z3, d, rfl, ok3, Has.ext ok2 e3 _ _ hx2, Has.ext ok2 e3 _ _ hy, hv, w3⟩⟩) fun fv s3 ⟨zv, H3, I3, rz, z3, de, hz3, ok3, hx3, hy3, he3, w3⟩ => Calls.spliced_nil ?_)
    subst hz3
    obtain ⟨c, hc3, hp3⟩ := wp.of w3
    replace hp3 : Post X.K q z3 Q c := hp3
    unfold getD2 at hc3
    simp only [Option.bind_eq_some_iff, Option.map_eq_some_iff] at hc3
    obtain ⟨p3, hd3, k, hk, rfl⟩ := hc3
    obtain ⟨a', e', hcc⟩ := dct_has ok3 hx3 hd3
    cases e'
    obtain ⟨ob3, xs3, us3, k1, k2, hm3, k3, k4, k5, k6, klen, lo⟩ := dict_of I3 hP hW hcc
    obtain ⟨_, _, l, rfl⟩ := keyT_tup hk
    obtain ⟨b, tv, rfl, _⟩ := id hy3.ref_of_tup
    rw [show iv = Value.ref b from ry]
    refine call_meetsIn PySem.F.slot_dict_get hm3.typeIs PySem.F.entry_dict_get (PySem.F.args_dict_get_3 _ _ _) (meetsH_dict_get_default (nestedKind X.prog X.w) a b lo fv) ⟨nroom hu, k, xs3, key_is I3 hk hy3, hm3, ?_⟩
    obtain ⟨l1, l2⟩ := get_at (z := z3) (q := q) (K := X.K) k p3.1 p3.2 xs3 us3 k3 k5 k6
    cases hg : getK k p3.1 p3.2 with
    | some d =>
      obtain ⟨p, xv, a1, a2, a3⟩ := l1 d hg
      rw [a1]
      rw [hg] at hp3
      exact ⟨xv, z3.H, I3.tok _, a2, hp3.at ok3 a3⟩
    | none =>
      rw [l2 hg]
      rw [hg] at hp3
      exact ⟨zv, z3.H, I3.tok _, rz, hp3.at ok3 he3⟩
  · exact w1.elim⟩

/-! ### isinstance(x, tuple) -/
theorem isT_val {d : D} {b : Bool} {x : V} {H : Hp} (hH : z.H = H) (h : isTupD d = some b) (hx : Has K q z d x) : ∃ t, TyX K H x t ∧ PySem.W.kitOne K t (.type "tuple") = some b := by
  subst hH
  cases d <;> simp only [isTupD, reduceCtorEq, Option.some.injEq] at h
  · subst h; rw [hx.of_non]; exact ⟨_, .base .non, kit_ty (by decide +kernel)⟩
  · subst h; rw [hx.of_int]; exact ⟨_, .base (.int _), kit_ty (by decide +kernel)⟩
  · subst h; rw [hx.of_str]; exact ⟨_, .base (.str _), kit_ty (by decide +kernel)⟩
  · subst h
    obtain ⟨a, vs, rfl, h1, _⟩ := hx.ref_of_tup
    rcases h1 with (h1 | ⟨ob, h1⟩) | h1
    · exact ⟨_, .base (.tup h1), kit_ty (by decide +kernel)⟩
    · exact ⟨_, .fTuple h1, kit_ty (by decide +kernel)⟩
    · obtain ⟨o, its, n, h1, h2, _⟩ := h1
      exact ⟨_, .kTuple h1 h2, kit_ty (by decide +kernel)⟩
  · subst h
    obtain ⟨a, vs, rfl, h1, _, _⟩ := hx.of_lst
    exact ⟨_, .base (.lst h1), kit_ty (by decide +kernel)⟩
theorem sd_isTup {a : Expr} {ma : E} {p p2 pos : Pos} (hg : Gl X "isinstance") (hm : X.mg "isinstance" = none) (hg2 : Gl X "tuple") (hm2 : X.mg "tuple" = none) (ha : Sd X q S a ma) (he1 : starEach (.Name "tuple" p2 :: []) X.env = (false, eval (.Name "tuple" p2) X.env) :: starEach [] X.env := by rfl) (he2 : starEach (a :: [.Name "tuple" p2]) X.env = (false, eval a X.env) :: starEach [.Name "tuple" p2] X.env := by rfl) (hpl : (backTo pos (starEach [.Name "tuple" p2] X.env)).any (·.1) = false := by rfl) :
    Sd X q S (.Call (.Name "isinstance" p) [a, .Name "tuple" p2] [] pos) (.isTup ma) := fun E tk =>
  pe_imp (pe_callB call_isi hg hm (by decide +kernel) (pa_cons (ha E tk) (pa_cons (pe_bltn (v := .ty "tuple") hg2 hm2 (by decide +kernel) rfl) pa_nil he1) he2) (by decide) (by decide) he2 hpl) fun σ H Q ⟨z, ρ, hH, ok, rl, w⟩ => ⟨z, ρ, hH, ok, rl, (wp.bind w).mono fun d z1 ok1 e1 w1 v hv => by
    obtain ⟨c, hc, hp⟩ := wp.of w1
    replace hp : Post X.K q z1 Q c := hp
    simp only [Option.map_eq_some_iff] at hc
    obtain ⟨b, hb, rfl⟩ := hc
    obtain ⟨t, h1, h2⟩ := isT_val rfl hb hv
    exact ⟨v, .ty "tuple", t, .type "tuple", b, rfl, .ty "tuple", h1, h2, hp.at ok1 Has.bl⟩⟩

/-! ### tuple(range(n)), list(range(n)) -/
theorem rgV_has (j : Int) : HasL K q z (rangeD 0 j) (rgV 0 j) := by
  have : rgV 0 j = (List.range (j - 0).toNat).map fun (k : Nat) => V.int (0 + (k : Int)) := rfl
  rw [this]
  unfold rangeD
  generalize (List.range (j - 0).toNat) = l
  induction l with
  | nil => exact HasL.nil
  | cons a l ih => exact HasL.cons Has.int ih
theorem sd_rngT {a : Expr} {ma : E} {p p2 pos pos2 : Pos} (hc : X.calm = true) (hg : Gl X "range") (hm : X.mg "range" = none) (hg2 : Gl X "tuple") (hm2 : X.mg "tuple" = none) (ha : Sd X q S a ma) (na : starEach [a] X.env = (false, eval a X.env) :: starEach [] X.env := by rfl) (na2 : starEach [.Call (.Name "range" p) [a] [] pos] X.env = (false, eval (.Call (.Name "range" p) [a] [] pos) X.env) :: starEach [] X.env := by rfl) :
    Sd X q S (.Call (.Name "tuple" p2) [.Call (.Name "range" p) [a] [] pos] [] pos2) (.rngT ma) := fun E tk =>
  pe_imp (pe_tupRg hc hg2 hm2 (prg_1 hg hm (ha E tk) na) na2) fun σ H Q ⟨z, ρ, hH, ok, rl, w⟩ => ⟨z, ρ, hH, ok, rl, (wp.bind w).mono fun d z1 ok1 e1 w1 v hv => by
    cases d with
    | int j =>
      have w1 : wp X.K q z1 (if -(2 ^ 62) ≤ j ∧ j ≤ 100000 then R.ok (.tup (rangeD 0 j)) z1.G else .bad) (PQ X.K q Q) E := w1
      split at w1
      · rename_i hb
        refine ⟨j, hv.of_int, ⟨by omega, by omega, by omega, by omega, by omega⟩, fun p hp => ?_⟩
        exact w1 (z1.put p (.tup (rgV 0 j))) rfl (ok1.put hp) (Ext.put hp) _ (put_tup ok1 hp (rgV_has j))
      · exact w1.elim
    | _ => exact w1.elim⟩
theorem sd_rngL {a : Expr} {ma : E} {p p2 pos pos2 : Pos} (hc : X.calm = true) (hg : Gl X "range") (hm : X.mg "range" = none) (hg2 : Gl X "list") (hm2 : X.mg "list" = none) (ha : Sd X q S a ma) (na : starEach [a] X.env = (false, eval a X.env) :: starEach [] X.env := by rfl) (na2 : starEach [.Call (.Name "range" p) [a] [] pos] X.env = (false, eval (.Call (.Name "range" p) [a] [] pos) X.env) :: starEach [] X.env := by rfl) :
    Sd X q S (.Call (.Name "list" p2) [.Call (.Name "range" p) [a] [] pos] [] pos2) (.rngL ma) := fun E tk =>
  pe_imp (pe_listRg hc hg2 hm2 (prg_1 hg hm (ha E tk) na) na2) fun σ H Q ⟨z, ρ, hH, ok, rl, w⟩ => ⟨z, ρ, hH, ok, rl, (wp.bind w).mono fun d z1 ok1 e1 w1 v hv => by
    cases d with
    | int j =>
      have w1 : wp X.K q z1 (if -(2 ^ 62) ≤ j ∧ j ≤ 100000 then R.ok (.lst (rangeD 0 j)) z1.G else .bad) (PQ X.K q Q) E := w1
      split at w1
      · rename_i hb
        refine ⟨j, hv.of_int, ⟨by omega, by omega, by omega, by omega, by omega⟩, fun p hp => ?_⟩
        exact w1 (z1.put p (.lst (rgV 0 j))) rfl (ok1.put hp) (Ext.put hp) _ (put_lst ok1 hp (rgV_has j))
      · exact w1.elim
    | _ => exact w1.elim⟩
/-- what is never reached -/
theorem sd_bad {e : Expr} : Sd X q S e .bad := fun E tk => ⟨fun pins s σ H Q I ⟨z, ρ, hH, ok, rl, w⟩ => w.elim⟩
end
end PV
end
/-! ## PV6 -/
section
set_option Elab.async false
set_option linter.all false
set_option maxRecDepth 100000
set_option maxHeartbeats 4000000
/-! The rules: statements, defs. -/
namespace PV
open PySem L2 LamX PyProof.Rows
section
variable {X : Cx} {q : Par} {S : PV.Sem} {K : PySem.W.Frag} {z z' : Z}

def wpF (K : PySem.W.Frag) (q : Par) (z : Z) (f : F) (D : Ends) (E : XK) : Prop := match f with
  | .next ρ' G' => ∀ z' σ', z'.G = G' → Ok K q z' → Ext z z' → RelS K q z' ρ' σ' → D.nx σ' z'.H
  | .brk ρ' G' => ∀ z' σ', z'.G = G' → Ok K q z' → Ext z z' → RelS K q z' ρ' σ' → D.bk σ' z'.H
  | .cont ρ' G' => ∀ z' σ', z'.G = G' → Ok K q z' → Ext z z' → RelS K q z' ρ' σ' → D.ct σ' z'.H
  | .ret d G' => ∀ z' v, z'.G = G' → Ok K q z' → Ext z z' → Has K q z' d v → D.rt v z'.H
  | .exc c G' => ∀ z' : Z, z'.G = G' → Ok K q z' → Ext z z' → E (q.cls c) none z'.H
  | .bad => False
theorem wpF.ext {f : F} {D : Ends} {E : XK} (e : Ext z z') (h : wpF K q z f D E) : wpF K q z' f D E := by
  cases f with
  | next ρ' G' => exact fun w σ' hw o e' r => h w σ' hw o (e.trans e') r
  | brk ρ' G' => exact fun w σ' hw o e' r => h w σ' hw o (e.trans e') r
  | cont ρ' G' => exact fun w σ' hw o e' r => h w σ' hw o (e.trans e') r
  | ret d G' => exact fun w v hw o e' r => h w v hw o (e.trans e') r
  | exc c G' => exact fun w hw o e' => h w hw o (e.trans e')
  | bad => exact h
theorem wpF.go {α : Type} {r : R α} {f : α → Gs → F} {D : Ends} {E : XK} (h : wpF K q z (r.go f) D E) : wp K q z r (fun a z' => wpF K q z' (f a z'.G) D E) E := by
  cases r with
  | ok a G' =>
    intro w hw o e
    subst hw
    exact wpF.ext e h
  | exc c G' => exact h
  | bad => exact h
def rdS (K : PySem.W.Frag) (q : Par) (S : PV.Sem) (E : XK) (m : PV.St) : TS := fun D σ H => ∃ z ρ, z.H = H ∧ Ok K q z ∧ RelS K q z ρ σ ∧ wpF K q z (evS S m ρ z.G) D E
def rdB (K : PySem.W.Frag) (q : Par) (S : PV.Sem) (E : XK) (ms : List PV.St) : TS := fun D σ H => ∃ z ρ, z.H = H ∧ Ok K q z ∧ RelS K q z ρ σ ∧ wpF K q z (evB S ms ρ z.G) D E
def SdS (X : Cx) (q : Par) (S : PV.Sem) (st : Stmt) (m : PV.St) : Prop := ∀ E : XK, Tk X E → PS X st (rdS X.K q S E m)
def SdB (X : Cx) (q : Par) (S : PV.Sem) (sts : List Stmt) (ms : List PV.St) : Prop := ∀ E : XK, Tk X E → PSs X sts (rdB X.K q S E ms)
theorem sb_nil : SdB X q S [] [] := fun E tk => pss_imp pss_nil fun D σ H ⟨z, ρ, hH, ok, rl, w⟩ => by
  subst hH
  exact w z σ rfl ok (Ext.refl z) rl
theorem sb_cons {st : Stmt} {rest : List Stmt} {m : PV.St} {ms : List PV.St} (h : SdS X q S st m) (t : SdB X q S rest ms) : SdB X q S (st :: rest) (m :: ms) := fun E tk =>
  pss_imp (pss_cons (h E tk) (t E tk)) fun D σ H ⟨z, ρ, hH, ok, rl, w⟩ => by
    refine ⟨z, ρ, hH, ok, rl, ?_⟩
    have w : wpF X.K q z ((evS S m ρ z.G).then fun ρ' G' => evB S ms ρ' G') D E := w
    cases hr : evS S m ρ z.G with
    | next ρ' G' =>
      rw [hr] at w
      intro z1 σ1 hG ok1 e1 rl1
      subst hG
      exact ⟨z1, ρ', rfl, ok1, rl1, wpF.ext e1 w⟩
    | brk ρ' G' => rw [hr] at w; exact w
    | cont ρ' G' => rw [hr] at w; exact w
    | ret d G' => rw [hr] at w; exact w
    | exc c G' => rw [hr] at w; exact w
    | bad => rw [hr] at w; exact w
theorem ss_pass {pos : Pos} : SdS X q S (.Pass pos) .pass := fun E tk => ps_imp ps_pass fun D σ H ⟨z, ρ, hH, ok, rl, w⟩ => by
  subst hH
  exact w z σ rfl ok (Ext.refl z) rl
theorem ss_doc {x j pos pos'} : SdS X q S (.Expr (.Constant (.str x) j pos) pos') .pass := fun E tk => ps_imp ps_doc fun D σ H ⟨z, ρ, hH, ok, rl, w⟩ => by
  subst hH
  exact w z σ rfl ok (Ext.refl z) rl
theorem ss_ex {e : Expr} {m : PV.E} {pos : Pos} (h : Sd X q S e m) (hs : swapsWith e none pos.line X.env = pure false := by rfl) : SdS X q S (.Expr e pos) (.ex m) := fun E tk =>
  ps_imp (ps_expr (h E tk) hs) fun D σ H ⟨z, ρ, hH, ok, rl, w⟩ => ⟨z, ρ, hH, ok, rl, (wpF.go w).mono fun d z1 ok1 e1 w1 v hv => w1 z1 σ rfl ok1 (Ext.refl _) (rl.ext ok e1)⟩
theorem ss_ret {e : Expr} {m : PV.E} {pos : Pos} (h : Sd X q S e m) : SdS X q S (.Return (some e) pos) (.ret m) := fun E tk =>
  ps_imp (ps_ret (h E tk)) fun D σ H ⟨z, ρ, hH, ok, rl, w⟩ => ⟨z, ρ, hH, ok, rl, (wpF.go w).mono fun d z1 ok1 e1 w1 v hv => w1 z1 v rfl ok1 (Ext.refl _) hv⟩
theorem ss_if {c : Expr} {a b : List Stmt} {mc : PV.E} {ma mb : List PV.St} {pos : Pos} (hc : Td X q S c mc) (ha : SdB X q S a ma) (hb : SdB X q S b mb) : SdS X q S (.If c a b pos) (.ite mc ma mb) := fun E tk =>
  ps_imp (ps_if (hc E tk) (ha E tk) (hb E tk)) fun D σ H ⟨z, ρ, hH, ok, rl, w⟩ => ⟨z, ρ, hH, ok, rl, (wpF.go w).mono fun d z1 ok1 e1 w1 => by
    cases d with
    | bl b =>
      refine ⟨b, rfl, ?_⟩
      cases b with
      | true => exact ⟨z1, ρ, rfl, ok1, rl.ext ok e1, w1⟩
      | false => exact ⟨z1, ρ, rfl, ok1, rl.ext ok e1, w1⟩
    | _ => exact w1.elim⟩
theorem ss_set {tg e : Expr} {tgm : Tg} {m : PV.E} {pos : Pos} (hg : SdG X q tg tgm) (h : Sd X q S e m) (hs : swapsWithSole [tg] e pos.line X.env = pure false := by rfl) (hw : swappedStores [tg] e X.env = pure none := by rfl)
    (h1 : (assignEach [tg] X.env).map (·.2) = [PySem.assign tg X.env] := by rfl) : SdS X q S (.Assign [tg] e pos) (.set tgm m) := fun E tk =>
  ps_imp (ps_asg (h E tk) hg hs hw h1) fun D σ H ⟨z, ρ, hH, ok, rl, w⟩ => ⟨z, ρ, hH, ok, rl, (wpF.go w).mono fun d z1 ok1 e1 w1 v hv => by
    have w1 : wpF X.K q z1 (match PV.assign ρ tgm d with
      | some ρ' => F.next ρ' z1.G
      | none => F.bad) D E := w1
    split at w1
    · rename_i ρ' hρ
      exact ⟨z1, d, ρ, ρ', rfl, ok1, rl.ext ok e1, hv, hρ, fun σ' rl' _ => w1 z1 σ' rfl ok1 (Ext.refl _) rl'⟩
    · exact w1.elim⟩
/-- a, b = x, y: no tuple is made -/
theorem ss_par {i j : Nat} {x y : Str} {a b : Expr} {ma mb : PV.E} {px py pt pos : Pos} {kt k2 pt2} (hc : X.calm = true) (hN : X.N.Nodup) (ha : Sd X q S a ma) (hb : Sd X q S b mb) (hi : X.N[i]? = some x := by rfl) (hj : X.N[j]? = some y := by rfl) (hij : i ≠ j := by decide)
    (hx : X.env.scope.names.lookup x = some .local := by rfl) (hy : X.env.scope.names.lookup y = some .local := by rfl)
    (hw : swappedStores [.Tuple [.Name x px, .Name y py] kt pt] (.Tuple [a, b] k2 pt2) X.env = pure (some [x, y]) := by rfl)
    (hs : swapsWithSole [.Tuple [.Name x px, .Name y py] kt pt] (.Tuple [a, b] k2 pt2) pos.line X.env = pure false := by rfl)
    (he1 : starEach (b :: []) X.env = (false, eval b X.env) :: starEach [] X.env := by rfl) (he2 : starEach (a :: [b]) X.env = (false, eval a X.env) :: starEach [b] X.env := by rfl) :
    SdS X q S (.Assign [.Tuple [.Name x px, .Name y py] kt pt] (.Tuple [a, b] k2 pt2) pos) (.set (.tp [.nm i, .nm j]) (.tup [ma, mb])) := fun E tk =>
  ps_imp (ps_par hc hN hi hj hij hx hy (sda_cons ha (sda_cons hb sda_nil he1) he2 E tk) hw hs) fun D σ H ⟨z, ρ, hH, ok, rl, w⟩ => ⟨z, ρ, hH, ok, rl, by
    have w1 := wpF.go w
    refine (wp.bind w1).mono fun ds z1 ok1 e1 w2 vs hvs => ?_
    have w2 : wp X.K q z1 (if ds.length ≤ sizeLine then R.ok (PV.D.tup ds) z1.G else R.bad) _ E := w2
    split at w2
    · have w3 := w2 z1 rfl ok1 (Ext.refl _)
      have w3 : wpF X.K q z1 (match PV.assign ρ (.tp [.nm i, .nm j]) (.tup ds) with
        | some ρ' => F.next ρ' z1.G
        | none => F.bad) D E := w3
      have w3 : wpF X.K q z1 (match assignL ρ [.nm i, .nm j] ds with
        | some ρ' => F.next ρ' z1.G
        | none => F.bad) D E := by simpa only [PV.assign] using w3
      split at w3
      · rename_i ρ' hρ
        have hl := assignL_len hρ
        match ds, hl with
        | [d1, d2], _ =>
          obtain ⟨v, u, rfl, h1, h2⟩ := hvs.two
          simp only [assignL, PV.assign, Option.some.injEq] at hρ
          subst hρ
          exact ⟨v, u, rfl, w3 z1 _ rfl ok1 (Ext.refl _) (((rl.ext ok e1).set h1 i).set h2 j)⟩
      · exact w3.elim
    · exact w2.elim⟩
/-- name = [..], a comprehension -/
theorem ss_setLc {i : Nat} {y : Str} {py : Pos} {spos : Pos} {elt tg iter : Expr} {ifs : List Expr} {scope : Scope} {pos : Pos} {tgm : Tg} {it : PV.It} {mel : PV.E} {mcs : List PV.E} {ownm : List Nat} (own : List (Str × Nat)) (hc : X.calm = true) (hN : X.N.Nodup) (hi : SdI X q S tg iter it) (okb : BlkOk X.N X.env.scope scope own)
    (hg : ∀ (s : Shared) (H : Hp) (C : Addr) (cl : List (Str × Addr)) (fp : List Addr), SdG (X.blk s H scope (compEnvC scope cl C X.env) fp) q tg tgm) (ht : ∀ (s : Shared) (H : Hp) (C : Addr) (cl : List (Str × Addr)) (fp : List Addr), SdTs (X.blk s H scope (compEnvC scope cl C X.env) fp) q S ifs mcs)
    (he : ∀ (s : Shared) (H : Hp) (C : Addr) (cl : List (Str × Addr)) (fp : List Addr), Sd (X.blk s H scope (compEnvC scope cl C X.env) fp) q S elt mel) (hsw : swapsWith (.ListComp elt [⟨tg, iter, ifs, 0⟩] scope pos) (some (.Name y py)) spos.line X.env = pure true) (ho : ownm = own.map (·.2) := by rfl) (hsl : ∀ i ∈ slotsT tgm, i ∈ ownm := by decide)
    (hy : X.N[i]? = some y := by rfl) (hyl : X.env.scope.names.lookup y = some .local := by rfl) (hs : ∀ x, foldedSetIterable iter X.env x = pure x := by intro _; rfl) :
    SdS X q S (.Assign [.Name y py] (.ListComp elt [⟨tg, iter, ifs, 0⟩] scope pos) spos) (.set (.nm i) (.comp ownm mel tgm it mcs)) := fun E tk => by
  obtain ⟨wi, g, tt, te, h1, h2, h3, h4, h5⟩ := sd_comp (pos := pos) hc hN hi okb ho hsl hg ht he hs E tk
  refine ps_imp (ps_setLc hc hN hy hyl hsw h1 okb h2 h3 h4 hs) fun D σ H ⟨z, ρ, hH, ok, rl, w⟩ => h5 σ H _ ⟨z, ρ, hH, ok, rl, (wpF.go w).mono fun d z1 ok1 e1 w1 v hv => ?_⟩
  exact w1 z1 _ rfl ok1 (Ext.refl _) ((rl.ext ok e1).set hv i)

/-- name = [..], a comprehension of two fors -/
theorem ss_setLc2 {i : Nat} {y : Str} {py : Pos} {spos : Pos} {elt tg iter tg1 iter1 : Expr} {ifs1 : List Expr} {scope : Scope} {pos : Pos} {t1 t2 : Tg} {i1 i2 : PV.It} {mel : PV.E} {mcs : List PV.E} {ownm own2 : List Nat} (own : List (Str × Nat)) (hc : X.calm = true) (hN : X.N.Nodup) (hi : SdI X q S tg iter i1) (okb : BlkOk X.N X.env.scope scope own)
    (hg : ∀ (s : Shared) (H : Hp) (C : Addr) (cl : List (Str × Addr)) (fp : List Addr), SdG (X.blk s H scope (compEnvC scope cl C X.env) fp) q tg t1)
    (hi1 : ∀ (s : Shared) (H : Hp) (C : Addr) (cl : List (Str × Addr)) (fp : List Addr), SdI (X.blk s H scope (compEnvC scope cl C X.env) fp) q S tg1 iter1 i2)
    (hg1 : ∀ (s : Shared) (H : Hp) (C : Addr) (cl : List (Str × Addr)) (fp : List Addr), SdG (X.blk s H scope (compEnvC scope cl C X.env) fp) q tg1 t2)
    (ht : ∀ (s : Shared) (H : Hp) (C : Addr) (cl : List (Str × Addr)) (fp : List Addr), SdTs (X.blk s H scope (compEnvC scope cl C X.env) fp) q S ifs1 mcs)
    (he : ∀ (s : Shared) (H : Hp) (C : Addr) (cl : List (Str × Addr)) (fp : List Addr), Sd (X.blk s H scope (compEnvC scope cl C X.env) fp) q S elt mel) (hsw : swapsWith (.ListComp elt [⟨tg, iter, [], 0⟩, ⟨tg1, iter1, ifs1, 0⟩] scope pos) (some (.Name y py)) spos.line X.env = pure true)
    (ho : ownm = own.map (·.2) := by rfl) (hsl : ∀ i ∈ slotsT t1, i ∈ ownm := by decide) (hsl2 : ∀ i ∈ slotsT t2, i ∈ own2 := by decide) (hsub : ∀ i ∈ own2, i ∈ ownm := by decide)
    (hy : X.N[i]? = some y := by rfl) (hyl : X.env.scope.names.lookup y = some .local := by rfl) (hs : ∀ x, foldedSetIterable iter X.env x = pure x := by intro _; rfl) (hs1 : ∀ env x, foldedSetIterable iter1 env x = pure x := by intro _ _; rfl) :
    SdS X q S (.Assign [.Name y py] (.ListComp elt [⟨tg, iter, [], 0⟩, ⟨tg1, iter1, ifs1, 0⟩] scope pos) spos) (.set (.nm i) (.comp2 ownm own2 mel t1 i1 t2 i2 mcs)) := fun E tk => by
  obtain ⟨wi, g, wi1, g1, tt1, te, h1, h2, h3, h4, h5, h6, h7⟩ := sd_compB (pos := pos) hc hN hi okb ho hsl hsl2 hsub hg hi1 hg1 ht he E tk
  subst ho
  refine ps_imp (ps_setLc2 hc hN hy hyl hsw h1 okb hsub h2 (fun _ _ _ _ _ => pts_nil) h3 h4 h5 h6 hs hs1) fun D σ H ⟨z, ρ, hH, ok, rl, w⟩ => h7 σ H _ ⟨z, ρ, hH, ok, rl, (wpF.go w).mono fun d z1 ok1 e1 w1 v hv => ?_⟩
  exact w1 z1 _ rfl ok1 (Ext.refl _) ((rl.ext ok e1).set hv i)

/-! ### loops -/
theorem wpF.fin {f : F} {D D' : Ends} {E : XK} (h : wpF K q z f D E) (hn : ∀ σ' H', D.nx σ' H' → D'.nx σ' H') (hb : ∀ σ' H', D.bk σ' H' → D'.bk σ' H') (hc : ∀ σ' H', D.ct σ' H' → D'.ct σ' H') (hr : ∀ v H', D.rt v H' → D'.rt v H') : wpF K q z f D' E := by
  cases f with
  | next ρ' G' => exact fun w σ' hw o e' r => hn _ _ (h w σ' hw o e' r)
  | brk ρ' G' => exact fun w σ' hw o e' r => hb _ _ (h w σ' hw o e' r)
  | cont ρ' G' => exact fun w σ' hw o e' r => hc _ _ (h w σ' hw o e' r)
  | ret d G' => exact fun w v hw o e' r => hr _ _ (h w v hw o e' r)
  | exc c G' => exact h
  | bad => exact h
/-- one turn of a for -/
def turnF (S : PV.Sem) (t : Tg) (b : List PV.St) (d : PV.D) (ρ1 : Env) (G2 : Gs) : F := match PV.assign ρ1 t d with
  | some ρ2 => evB S b ρ2 G2
  | none => .bad
theorem ss_for {tg iter : Expr} {body : List Stmt} {tgm : Tg} {it : PV.It} {mb : List PV.St} {pos : Pos} (hp : PassesOwn (model X.prog X.w) X.A X.env X.xe) (hc : X.calm = true) (hi : SdI X q S tg iter it) (hg : SdG X q tg tgm) (hb : SdB X q S body mb)
    (hs : ∀ x, foldedSetIterable iter X.env x = pure x := by intro _; rfl) : SdS X q S (.For tg iter body [] pos) (.for_ tgm it mb) := fun E tk => by
  refine ps_imp (ps_for hp hc (hi E tk) hg (hb E tk) hs) fun D σ H ⟨z, ρ, hH, ok, rl, w⟩ => ⟨z, ρ, hH, ok, rl, (wpF.go w).mono fun ds z1 ok1 e1 w1 J I wk hI => ?_⟩
  have w1 : wpF X.K q z1 (forL (turnF S tgm mb) ds ρ z1.G) D E := w1
  refine ⟨fun i m σ' H' => m = ds.length - i ∧ i ≤ ds.length ∧ ∃ z' ρ', z'.H = H' ∧ Ok X.K q z' ∧ RelS X.K q z' ρ' σ' ∧ I z' ∧ wpF X.K q z' (forL (turnF S tgm mb) (ds.drop i) ρ' z'.G) D E, ⟨ds.length, by simp, Nat.zero_le _, z1, ρ, rfl, ok1, rl.ext ok e1, hI, w1⟩, ?_⟩
  rintro i m σ2 H2 ⟨rfl, hi', z2, ρ2, rfl, ok2, rl2, hI2, w2⟩
  by_cases hlt : i < ds.length
  · refine .inr ⟨wk.go z2 i ok2 hI2 hlt, fun σ' H' => ∃ z' ρ', z'.H = H' ∧ Ok X.K q z' ∧ RelS X.K q z' ρ' σ' ∧ I z' ∧ wpF X.K q z' (forL (turnF S tgm mb) (ds.drop (i + 1)) ρ' z'.G) D E, fun σ' H' h => ⟨ds.length - (i + 1), by omega, rfl, hlt, h⟩, fun x H' hy => ?_⟩
    obtain ⟨z3, rfl, hG3, ok3, e3, d, hd, hx⟩ := wk.yld z2 i x H' ok2 hI2 hlt hy
    have hdr : ds.drop i = d :: ds.drop (i + 1) := by
      rw [List.drop_eq_getElem_cons hlt]
      congr 1
      rw [List.getElem?_eq_getElem hlt] at hd
      exact Option.some.inj hd
    rw [hdr] at w2
    have w3 := wpF.ext e3 w2
    have e0 : forL (turnF S tgm mb) (d :: ds.drop (i + 1)) ρ2 z2.G = (match turnF S tgm mb d ρ2 z2.G with
      | .next ρ' G' => forL (turnF S tgm mb) (ds.drop (i + 1)) ρ' G'
      | .cont ρ' G' => forL (turnF S tgm mb) (ds.drop (i + 1)) ρ' G'
      | .brk ρ' G' => .next ρ' G'
      | .ret d G' => .ret d G'
      | .exc c G' => .exc c G'
      | .bad => .bad) := rfl
    rw [e0] at w3
    cases ha : PV.assign ρ2 tgm d with
    | none =>
      have : turnF S tgm mb d ρ2 z2.G = .bad := by unfold turnF; rw [ha]
      rw [this] at w3
      exact w3.elim
    | some ρ3 =>
      have ht : turnF S tgm mb d ρ2 z2.G = evB S mb ρ3 z3.G := by unfold turnF; rw [ha, hG3]
      rw [ht] at w3
      refine ⟨z3, d, ρ2, ρ3, rfl, ok3, rl2.ext ok2 e3, hx, ha, fun σ' rl4 _ => ⟨z3, ρ3, rfl, ok3, rl4, ?_⟩⟩
      have hI3 := wk.st _ _ (e3.mv ok2) hI2
      cases hr : evB S mb ρ3 z3.G with
      | next ρ4 G4 =>
        rw [hr] at w3
        intro z4 σ4 hG4 ok4 e4 rl4
        subst hG4
        exact ⟨z4, ρ4, rfl, ok4, rl4, wk.st _ _ (e4.mv ok3) hI3, wpF.ext e4 w3⟩
      | cont ρ4 G4 =>
        rw [hr] at w3
        intro z4 σ4 hG4 ok4 e4 rl4
        subst hG4
        exact ⟨z4, ρ4, rfl, ok4, rl4, wk.st _ _ (e4.mv ok3) hI3, wpF.ext e4 w3⟩
      | brk ρ4 G4 => rw [hr] at w3; exact w3
      | ret d' G4 => rw [hr] at w3; exact w3
      | exc c G4 => rw [hr] at w3; exact w3
      | bad => rw [hr] at w3; exact w3
  · have e : i = ds.length := by omega
    subst e
    rw [List.drop_length] at w2
    exact .inl ⟨wk.stop z2 ok2 hI2, w2 z2 σ2 rfl ok2 (Ext.refl _) rl2⟩

theorem ss_break {pos : Pos} : SdS X q S (.Break pos) .brk := fun E tk => ps_imp ps_break fun D σ H ⟨z, ρ, hH, ok, rl, w⟩ => by
  subst hH
  exact w z σ rfl ok (Ext.refl z) rl
theorem ss_continue {pos : Pos} : SdS X q S (.Continue pos) .cont := fun E tk => ps_imp ps_continue fun D σ H ⟨z, ρ, hH, ok, rl, w⟩ => by
  subst hH
  exact w z σ rfl ok (Ext.refl z) rl
/-- while, without an else -/
theorem ss_while {c : Expr} {body : List Stmt} {mc : PV.E} {mb : List PV.St} {pos : Pos} (hp : PassesOwn (model X.prog X.w) X.A X.env X.xe) (hc : Td X q S c mc) (hb : SdB X q S body mb) : SdS X q S (.While c body [] pos) (.while_ mc mb) := fun E tk => by
  refine ps_imp (ps_while hp (hc E tk) (hb E tk)) fun D σ H ⟨z, ρ, hH, ok, rl, w⟩ => ?_
  refine ⟨fun m σ' H' => ∃ z' ρ', z'.H = H' ∧ Ok X.K q z' ∧ RelS X.K q z' ρ' σ' ∧ wpF X.K q z' (whL (fun ρ1 G1 => evE S ρ1 mc G1) (fun ρ1 G1 => evB S mb ρ1 G1) m ρ' z'.G) D E, ⟨100000, z, ρ, hH, ok, rl, w⟩, ?_⟩
  rintro m σ2 H2 ⟨z2, ρ2, hH2, ok2, rl2, w2⟩
  cases m with
  | zero => exact w2.elim
  | succ n =>
    refine ⟨z2, ρ2, hH2, ok2, rl2, (wpF.go w2).mono fun d z1 ok1 e1 w1 => ?_⟩
    cases d with
    | bl b =>
      refine ⟨b, rfl, ?_⟩
      cases b with
      | false => exact w1 z1 σ2 rfl ok1 (Ext.refl _) (rl2.ext ok2 e1)
      | true =>
        refine ⟨fun σ' H' => ∃ z' ρ', z'.H = H' ∧ Ok X.K q z' ∧ RelS X.K q z' ρ' σ' ∧ wpF X.K q z' (whL (fun ρ1 G1 => evE S ρ1 mc G1) (fun ρ1 G1 => evB S mb ρ1 G1) n ρ' z'.G) D E, fun σ' H' h => ⟨n, Nat.lt_succ_self n, h⟩, z1, ρ2, rfl, ok1, rl2.ext ok2 e1, ?_⟩
        have w1 : wpF X.K q z1 (match evB S mb ρ2 z1.G with
          | .next ρ' G' => whL (fun ρ1 G1 => evE S ρ1 mc G1) (fun ρ1 G1 => evB S mb ρ1 G1) n ρ' G'
          | .cont ρ' G' => whL (fun ρ1 G1 => evE S ρ1 mc G1) (fun ρ1 G1 => evB S mb ρ1 G1) n ρ' G'
          | .brk ρ' G' => .next ρ' G'
          | .ret d G' => .ret d G'
          | .exc c G' => .exc c G'
          | .bad => .bad) D E := w1
        cases hr : evB S mb ρ2 z1.G with
        | next ρ4 G4 =>
          rw [hr] at w1
          intro z4 σ4 hG4 ok4 e4 rl4
          subst hG4
          exact ⟨z4, ρ4, rfl, ok4, rl4, wpF.ext e4 w1⟩
        | cont ρ4 G4 =>
          rw [hr] at w1
          intro z4 σ4 hG4 ok4 e4 rl4
          subst hG4
          exact ⟨z4, ρ4, rfl, ok4, rl4, wpF.ext e4 w1⟩
        | brk ρ4 G4 => rw [hr] at w1; exact w1
        | ret d' G4 => rw [hr] at w1; exact w1
        | exc c G4 => rw [hr] at w1; exact w1
        | bad => rw [hr] at w1; exact w1
    | _ => exact w1.elim
/-- name += e, name -= e, of whole numbers -/
theorem ss_aug {i : Nat} {x : Str} {e : Expr} {m : PV.E} {op : Operator} {o : Bop} {f : Int → Int → Int} {p pos : Pos} (hN : X.N.Nodup) (h : Sd X q S e m) (ho : PIp X op (ipI f)) (hf' : ∀ a b, augD o a b = some (f a b)) (hi : X.N[i]? = some x := by rfl) (hx : Loc X.env.scope x := by first | exact Or.inl rfl | exact Or.inr rfl) (hf : X.fn x = true ∨ X.env.scope.names.lookup x = some .local := by first | exact .inl rfl | exact .inr rfl) :
    SdS X q S (.AugAssign (.Name x p) op e pos) (.aug i o m) := fun E tk =>
  ps_imp (ps_aug hN hi hx (h E tk) ho hf) fun D σ H ⟨z, ρ, hH, ok, rl, w⟩ => by
    have w : wpF X.K q z (match ρ[i]? with
      | some (some (.int a)) => (evE S ρ m z.G).go fun d G1 => match d with
        | .int b => (match augD o a b with
          | some c => .next (ρ.set i (some (.int c))) G1
          | none => .bad)
        | _ => .bad
      | _ => .bad) D E := w
    split at w
    · rename_i a ha
      obtain ⟨v, h1, h2⟩ := rl.2 i _ ha
      refine ⟨v, h1, z, ρ, hH, ok, rl, (wpF.go w).mono fun d z1 ok1 e1 w1 u hu => ?_⟩
      cases d with
      | int b =>
        refine ⟨a, b, h2.of_int, hu.of_int, ?_⟩
        have w1 : wpF X.K q z1 (match augD o a b with
          | some c => .next (ρ.set i (some (.int c))) z1.G
          | none => .bad) D E := w1
        rw [hf' a b] at w1
        exact w1 z1 _ rfl ok1 (Ext.refl _) ((rl.ext ok e1).set Has.int i)
      | _ => exact w1.elim
    · exact w.elim
theorem ss_augadd {i : Nat} {x : Str} {e : Expr} {m : PV.E} {p pos : Pos} (hN : X.N.Nodup) (h : Sd X q S e m) (hi : X.N[i]? = some x := by rfl) (hx : Loc X.env.scope x := by first | exact Or.inl rfl | exact Or.inr rfl) (hf : X.fn x = true ∨ X.env.scope.names.lookup x = some .local := by first | exact .inl rfl | exact .inr rfl) : SdS X q S (.AugAssign (.Name x p) .Add e pos) (.aug i .add m) := ss_aug hN h ip_add (fun _ _ => rfl) hi hx hf
theorem ss_augsub {i : Nat} {x : Str} {e : Expr} {m : PV.E} {p pos : Pos} (hN : X.N.Nodup) (h : Sd X q S e m) (hi : X.N[i]? = some x := by rfl) (hx : Loc X.env.scope x := by first | exact Or.inl rfl | exact Or.inr rfl) (hf : X.fn x = true ∨ X.env.scope.names.lookup x = some .local := by first | exact .inl rfl | exact .inr rfl) : SdS X q S (.AugAssign (.Name x p) .Sub e pos) (.aug i .sub m) := ss_aug hN h ip_sub (fun _ _ => rfl) hi hx hf

theorem ss_setix {o i e : Expr} {mo mi me : PV.E} {pos pos2 : Pos} (hset : PSet X (rSetC X.K q)) (ho : Sd X q S o mo) (hi : Sd X q S i mi) (he : Sd X q S e me) (ha : ∀ v, PySem.assign (.Subscript o i pos) X.env v = (do
      let ov ← holding [v] (eval o X.env)
      let iv ← holding [v, ov] (eval i X.env)
      standAt pos
      holding [v, ov, iv] (setItem ov iv v)
      release [v, ov, iv] []) := by intro _; rfl) (hs : swapsWithSole [.Subscript o i pos] e pos2.line X.env = pure false := by rfl) (hw : swappedStores [.Subscript o i pos] e X.env = pure none := by rfl)
    (h1 : (assignEach [.Subscript o i pos] X.env).map (·.2) = [PySem.assign (.Subscript o i pos) X.env] := by rfl) : SdS X q S (.Assign [.Subscript o i pos] e pos2) (.setix mo mi me) := fun E tk =>
  ps_imp (ps_asg (he E tk) (pg_sub (ho E tk) (hi E tk) hset ha) hs hw h1) fun D σ H ⟨z, ρ, hH, ok, rl, w⟩ => ⟨z, ρ, hH, ok, rl, (wpF.go w).mono fun d z1 ok1 e1 w1 v hv =>
    ⟨z1, ρ, rfl, ok1, rl.ext ok e1, (wpF.go w1).mono fun x z2 ok2 e2 w2 u hu => ⟨z2, ρ, rfl, ok2, (rl.ext ok e1).ext ok1 e2, (wpF.go w2).mono fun y z3 ok3 e3 w3 t ht => by
      have w3 : wpF X.K q z3 (match setD z3.G x y d with
        | some G4 => F.next ρ G4
        | none => F.bad) D E := w3
      split at w3
      · rename_i G4 hG
        exact ⟨z3, x, y, d, G4, rfl, ok3, Has.ext ok2 e3 _ _ hu, ht, Has.ext ok2 e3 _ _ (Has.ext ok1 e2 _ _ hv), hG, fun z' hz ok' e' => w3 z' σ hz ok' e' ((((rl.ext ok e1).ext ok1 e2).ext ok2 e3).ext ok3 e')⟩
      · exact w3.elim⟩⟩⟩

/-- xs.append(e): a cell that grows -/
theorem sd_app {o e : Expr} {mo me : PV.E} {apos pos : Pos} (ho : Sd X q S o mo) (he : Sd X q S e me) (hbase : attributeBase o "append" X.env (eval o X.env) = eval o X.env := by rfl)
    (hfew : ((backTo pos (starEach [e] X.env)).all (fun x => !x.1) && (backToKw pos (keywordEach [] X.env)).all (fun x => x.1.isSome)
      && decide (([e] : List Expr).length + ([] : List Keyword).length + (if ([] : List Keyword).isEmpty then 0 else 1) < 30)) = true := by rfl)
    (hline : (apos.endLine == pos.line) = true := by rfl) (hs : starEach [e] X.env = (false, eval e X.env) :: starEach [] X.env := by rfl) (hplain : (backTo pos (starEach [] X.env)).any (·.1) = false := by rfl) : Sd X q S (.Call (.Attribute o "append" apos) [e] [] pos) (.app mo me) := fun E tk =>
  pe_imp (pe_bm PySem.F.plainAttrs_list PySem.F.slot_list_append PySem.F.type_list_append mt_append (ho E tk) (pa_cons (he E tk) pa_nil (hs)) hbase hfew hline hs hplain) fun σ H Q ⟨z, ρ, hH, ok, rl, w⟩ => ⟨z, ρ, hH, ok, rl, (wp.bind w).mono fun d z1 ok1 e1 w1 v hv => by
    cases d with
    | cell n =>
      have w1 : wp X.K q z1 (match z1.G[n]? with
        | some (some (.lst _)) => (evE S ρ me z1.G).bind fun y G2 => match G2[n]? with
          | some (some (.lst l)) => if l.length < sizeLine then PV.R.ok PV.D.non (G2.set n (some (.lst (l ++ [y])))) else .bad
          | _ => .bad
        | _ => .bad) (PQ X.K q Q) E := w1
      split at w1
      · rename_i l0 hl0
        obtain ⟨a, rfl, hua, vs, g2, g3⟩ := cell_at ok1 hv hl0
        refine ⟨.inl ⟨rfl, vs, SqL.of g2⟩, z1, ρ, rfl, ok1, rl.ext ok e1, (wp.bind w1).mono fun y z2 ok2 e2 w2 u hu => ?_⟩
        have w2 : wp X.K q z2 (match z2.G[n]? with
          | some (some (.lst l)) => if l.length < sizeLine then PV.R.ok PV.D.non (z2.G.set n (some (.lst (l ++ [y])))) else .bad
          | _ => .bad) (PQ X.K q Q) E := w2
        split at w2
        · rename_i l hl
          split at w2
          · rename_i hlen
            obtain ⟨b, eb, hub, vs2, k2, k3⟩ := cell_at ok2 (Has.ext ok1 e2 _ _ hv) hl
            cases eb
            refine ⟨a, vs2, u, rfl, rfl, k2, by rw [k3.len]; exact hlen, ?_⟩
            exact w2 (z2.stC n a (.lst (l ++ [y])) (.lst (vs2 ++ [u]))) rfl (ok_stC ok2 hl hub (fun _ x => nomatch x) fun z' m hp => ⟨_, hp, HasL.mv m _ _ (k3.app (HasL.cons hu HasL.nil))⟩) (ext_stC ok2 hl hub (fun _ x => nomatch x)) _ Has.non
          · exact w2.elim
        · exact w2.elim
      · exact w1.elim
    | _ => exact w1.elim⟩
/-- a cell given up: from here on it is what it is -/
theorem take_cell {n : Nat} {c : C} {v : V} (ok1 : Ok K q z) (hv : Has K q z (.cell n) v) (hl : z.G[n]? = some (some c)) : Ok K q { z with G := z.G.set n none } ∧ Ext z { z with G := z.G.set n none } ∧ ∃ a, v = .ref a ∧ HasC K q { z with G := z.G.set n none } c a ∧ Free { z with G := z.G.set n none } a := by
  obtain ⟨a, rfl, hua, hc⟩ := cell_at ok1 hv hl
  obtain ⟨a', g1, _, g4⟩ := ok1.cells n c hl
  rw [hua] at g1; cases g1
  have lv : ∀ x, Live { z with G := z.G.set n none } x → Live z x := fun x ⟨m', es, h1, h2⟩ => by
    by_cases e : n = m'
    · subst e
      have h1 : (z.G.set n none)[n]? = some (some es) := h1
      rw [List.getElem?_set_self (List.getElem?_eq_some_iff.mp hl).1] at h1
      cases h1
    · have h1 : (z.G.set n none)[m']? = some (some es) := h1
      rw [List.getElem?_set_ne e] at h1
      exact ⟨m', es, h1, h2⟩
  have ex : Ext z { z with G := z.G.set n none } := ⟨List.prefix_refl _, rfl, fun x hx => .inl (lv x hx), fun b o hb _ _ => hb, fun b hb => hb⟩
  have cs : ∀ (m' : Nat) (es : C), (z.G.set n none)[m']? = some (some es) → n ≠ m' ∧ z.G[m']? = some (some es) := fun m' es h1 => by
    by_cases e : n = m'
    · subst e
      rw [List.getElem?_set_self (List.getElem?_eq_some_iff.mp hl).1] at h1
      cases h1
    · rw [List.getElem?_set_ne e] at h1
      exact ⟨e, h1⟩
  refine ⟨⟨by show z.μ.length = (z.G.set n none).length; rw [List.length_set]; exact ok1.len, fun m' es h1 => ?_, fun m1 m2 ds es x h1 h2 h3 h4 => ok1.inj m1 m2 ds es x (cs m1 ds h1).2 (cs m2 es h2).2 h3 h4, ok1.blk, ok1.tabs⟩, ex, a, rfl, hc.mvAt (ex.mv ok1) (fun _ hu _ => hu), g4, fun ⟨m', es, h1, h2⟩ => ?_⟩
  · obtain ⟨x, f1, f2, f4⟩ := ok1.cells m' es (cs m' es h1).2
    exact ⟨x, f1, f2.mvAt (ex.mv ok1) (fun _ hu _ => hu), f4⟩
  · exact (cs m' es h1).1 (ok1.inj n m' c es a hl (cs m' es h1).2 hua h2)
theorem sd_take {e : Expr} {m : PV.E} (h : Sd X q S e m) : Sd X q S e (.take m) := fun E tk =>
  pe_imp (h E tk) fun σ H Q ⟨z, ρ, hH, ok, rl, w⟩ => ⟨z, ρ, hH, ok, rl, (wp.bind w).mono fun d z1 ok1 e1 w1 v hv => by
    cases d with
    | cell n =>
      have w1 : wp X.K q z1 (match z1.G[n]? with
        | some (some (.lst l)) => PV.R.ok (PV.D.lst l) (z1.G.set n none)
        | some (some (.dct ks vs)) => PV.R.ok (PV.D.dct ks vs) (z1.G.set n none)
        | _ => .bad) (PQ X.K q Q) E := w1
      split at w1
      · rename_i l hl
        obtain ⟨ok2, ex, a, rfl, ⟨vs, g2, g3⟩, fr⟩ := take_cell ok1 hv hl
        exact w1 _ rfl ok2 ex _ (Has.lst g2 fr g3)
      · rename_i ks vs hl
        obtain ⟨ok2, ex, a, rfl, ⟨o, xs, us, g1, g2, g3, g4, g5, g6⟩, fr⟩ := take_cell ok1 hv hl
        refine w1 _ rfl ok2 ex _ ?_
        simp only [Has]
        exact ⟨a, o, xs, us, rfl, g1, g2, g3, g4, g5, g6, fr⟩
      · exact w1.elim
    | _ => exact w1.elim⟩

/-! ### raise -/
theorem ss_raise {C : Addr} {c : Nat} {bmB : List Value} {B newId initId : String} {x : Str} {e : Expr} {me : PV.E} {p pos pos2 : Pos} (hc : X.calm = true) (Fx : PySem.ExcBaseFacts B newId initId bmB) (qx : PySem.W.excIn X.K C bmB newId = true) (gC : X.mg x = some (.ref C)) (kC : PySem.W.keepIn X.K (.ref C) = true) (r : Raises X (.ref C)) (hg : Gl X x)
    (hcl : q.cls c = .ref C) (he : Sd X q S e me) (hs : starEach [e] X.env = (false, eval e X.env) :: starEach [] X.env := by rfl) (hdb : (x == ("__debug__" : Str)) = false := by decide) : SdS X q S (.Raise (some (.Call (.Name x p) [e] [] pos)) none pos2) (.raise c me) := fun E tk =>
  ps_imp (ps_raise hc tk (SkE.pmk_own1 Fx qx gC kC r hg (he E tk) hs hdb)) fun D σ H ⟨z, ρ, hH, ok, rl, w⟩ => ⟨z, ρ, hH, ok, rl, (wpF.go w).mono fun d z1 ok1 e1 w1 v hv => by
    have w1 : wpF X.K q z1 (.exc c z1.G) D E := w1
    have := w1 z1 rfl ok1 (Ext.refl _)
    rw [hcl] at this
    exact this⟩
end

/-! ### what a def leaves -/
section
variable {K : PySem.W.Frag} {q : Par} {z z2 : Z}
mutual
theorem Has.mu (hH : z2.H = z.H) (hB : z2.B = z.B) (hL : ∀ a, Live z2 a → Live z a) : ∀ (d : PV.D) (v : V), free d = true → Has K q z d v → Has K q z2 d v
  | .non, v, _, h => by simpa only [Has] using h
  | .bl b, v, _, h => by simpa only [Has] using h
  | .int i, v, _, h => by simpa only [Has] using h
  | .str s, v, _, h => by simpa only [Has] using h
  | .tup ds, v, e, h => by
    simp only [Has, hH] at h ⊢
    obtain ⟨a, vs, rfl, h1, h2⟩ := h
    exact ⟨a, vs, rfl, h1, HasL.mu hH hB hL ds vs (by simpa only [free] using e) h2⟩
  | .lst ds, v, e, h => by
    simp only [Has, hH] at h ⊢
    obtain ⟨a, vs, rfl, h1, f, h2⟩ := h
    exact ⟨a, vs, rfl, h1, ⟨by rw [hB]; exact f.1, fun l => f.2 (hL a l)⟩, HasL.mu hH hB hL ds vs (by simpa only [free] using e) h2⟩
  | .frz ds, v, e, h => by
    simp only [Has, hH] at h ⊢
    obtain ⟨a, vs, rfl, h1, h2⟩ := h
    refine ⟨a, vs, rfl, ?_, HasL.mu hH hB hL ds vs (by simpa only [free] using e) h2⟩
    rcases h1 with ⟨r, f⟩ | h1
    · exact .inl ⟨r, by rw [hB]; exact f.1, fun l => f.2 (hL a l)⟩
    · exact .inr h1
  | .cell n, v, e, h => by simp [free] at e
  | .lam k, v, _, h => by
    simp only [Has, hH] at h ⊢
    exact h
  | .dct ks vs, v, e, h => by
    simp only [free, Bool.and_eq_true] at e
    simp only [Has, hH] at h ⊢
    obtain ⟨a, o, xs, us, rfl, h1, h2, h3, h4, h5, h6, f⟩ := h
    exact ⟨a, o, xs, us, rfl, h1, h2, h3, HasL.mu hH hB hL ks _ e.1 h4, h5, HasL.mu hH hB hL vs us e.2 h6, ⟨by rw [hB]; exact f.1, fun l => f.2 (hL a l)⟩⟩
  | .obj c fn fs, v, e, h => by
    simp only [Has, hH] at h ⊢
    obtain ⟨a, dx, vs, rfl, h1, h2, h3, f⟩ := h
    exact ⟨a, dx, vs, rfl, h1, h2, HasL.mu hH hB hL fs vs (by simpa only [free] using e) h3, ⟨by rw [hB]; exact f.1, fun l => f.2 (hL a l)⟩⟩
theorem HasL.mu (hH : z2.H = z.H) (hB : z2.B = z.B) (hL : ∀ a, Live z2 a → Live z a) : ∀ (ds : List PV.D) (vs : List V), frees ds = true → HasL K q z ds vs → HasL K q z2 ds vs
  | [], vs, _, h => by simpa only [HasL] using h
  | d :: ds, vs, e, h => by
    simp only [frees, Bool.and_eq_true] at e
    simp only [HasL] at h ⊢
    obtain ⟨v, r, rfl, h1, h2⟩ := h
    exact ⟨v, r, rfl, Has.mu hH hB hL d v e.1 h1, HasL.mu hH hB hL ds r e.2 h2⟩
end
abbrev Z.cut (z : Z) (n : Nat) : Z := { z with μ := z.μ.take n, G := z.G.take n }
theorem live_cut {n : Nat} (a : Addr) (l : Live (z.cut n) a) : Live z a := by
  obtain ⟨m, c, h1, h2⟩ := l
  have h1 : (z.G.take n)[m]? = some (some c) := h1
  have h2 : (z.μ.take n)[m]? = some a := h2
  have hm : m < n := by
    have := (List.getElem?_eq_some_iff.mp h1).1
    rw [List.length_take] at this
    omega
  rw [List.getElem?_take_of_lt hm] at h1 h2
  exact ⟨m, c, h1, h2⟩
theorem ok_cut {n : Nat} (ok : Ok K q z) (h : clean n z.G = true) : Ok K q (z.cut n) := by
  have at_ : ∀ (m : Nat) (c : C), (z.G.take n)[m]? = some (some c) → m < n ∧ z.G[m]? = some (some c) := fun m c h1 => by
    have hm : m < n := by
      have := (List.getElem?_eq_some_iff.mp h1).1
      rw [List.length_take] at this
      omega
    rw [List.getElem?_take_of_lt hm] at h1
    exact ⟨hm, h1⟩
  refine ⟨by show (z.μ.take n).length = (z.G.take n).length; rw [List.length_take, List.length_take, ok.len], fun m c h1 => ?_, fun m1 m2 c1 c2 a h1 h2 h3 h4 => ?_, ok.blk, ok.tabs⟩
  · obtain ⟨hm, h1'⟩ := at_ m c h1
    obtain ⟨a, g1, g2, g3⟩ := ok.cells m c h1'
    refine ⟨a, by show (z.μ.take n)[m]? = _; rw [List.getElem?_take_of_lt hm]; exact g1, ?_, g3⟩
    have hf : freeC (some c) = true := List.all_eq_true.mp h _ (List.mem_of_getElem? h1)
    cases c with
    | lst l =>
      obtain ⟨vs, k1, k2⟩ := g2
      exact ⟨vs, k1, HasL.mu (z := z) (z2 := z.cut n) rfl rfl live_cut l vs hf k2⟩
    | dct ks vs =>
      simp only [freeC, Bool.and_eq_true] at hf
      obtain ⟨o, xs, us, k1, k2, k3, k4, k5, k6⟩ := g2
      exact ⟨o, xs, us, k1, k2, k3, HasL.mu (z := z) (z2 := z.cut n) rfl rfl live_cut ks _ hf.1 k4, k5, HasL.mu (z := z) (z2 := z.cut n) rfl rfl live_cut vs us hf.2 k6⟩
    | rcd c fn fs =>
      obtain ⟨dx, vs, k1, k2, k3⟩ := g2
      exact ⟨dx, vs, k1, k2, HasL.mu (z := z) (z2 := z.cut n) rfl rfl live_cut fs vs hf k3⟩
  · obtain ⟨l1, k1⟩ := at_ m1 c1 h1
    obtain ⟨l2, k2⟩ := at_ m2 c2 h2
    have h3 : (z.μ.take n)[m1]? = some a := h3
    have h4 : (z.μ.take n)[m2]? = some a := h4
    rw [List.getElem?_take_of_lt l1] at h3
    rw [List.getElem?_take_of_lt l2] at h4
    exact ok.inj m1 m2 c1 c2 a k1 k2 h3 h4
theorem ext_cut {z0 : Z} (ok0 : Ok K q z0) (e : Ext z0 z) : Ext z0 (z.cut z0.G.length) := by
  refine ⟨?_, e.bs, fun a l => e.live a (live_cut a l), e.keep, e.dom⟩
  obtain ⟨t, ht⟩ := e.pre
  refine ⟨[], ?_⟩
  show z0.μ ++ [] = z.μ.take z0.G.length
  rw [← ht, List.append_nil, ← ok0.len, List.take_left]
theorem gc_wp {r : R PV.D} {Q : VK} {E : XK} (ok0 : Ok K q z) (h : wp K q z (gcR z.G.length r) (PQ K q Q) E) : wp K q z r (PQ K q Q) E := by
  cases r with
  | bad => exact h
  | ok d G' =>
    intro z' hG ok' e' v hv
    have h : wp K q z (if (free d && clean z.G.length G') = true then PV.R.ok d (G'.take z.G.length) else .ok d G') (PQ K q Q) E := h
    split at h
    · rename_i hc
      simp only [Bool.and_eq_true] at hc
      subst hG
      exact h (z'.cut z.G.length) rfl (ok_cut ok' hc.2) (ext_cut ok0 e') v (Has.mu (z := z') (z2 := z'.cut z.G.length) rfl rfl live_cut d v hc.1 hv)
    · exact h z' hG ok' e' v hv
  | exc c G' =>
    intro z' hG ok' e'
    have h : wp K q z (if clean z.G.length G' = true then PV.R.exc c (G'.take z.G.length) else .exc c G') (PQ K q Q) E := h
    split at h
    · rename_i hc
      subst hG
      exact h (z'.cut z.G.length) rfl (ok_cut ok' hc) (ext_cut ok0 e')
    · exact h z' hG ok' e'
end
/-! ### defs -/
section
variable {P : Program} {w : World} {K : PySem.W.Frag} {mg : Str → Option Value} {base : Heap} {q : Par}
theorem rels_start {z : Z} {N : List Str} {ds : List D} {vs : List V} (hv : HasL K q z ds vs) (hl : ds.length ≤ N.length) : RelS K q z (ds.map some ++ List.replicate (N.length - ds.length) none) (L2.start N vs) := by
  have e := hv.len
  refine ⟨by simp [L2.start, e], fun i d h => ?_⟩
  by_cases hi : i < ds.length
  · rw [List.getElem?_append_left (by simpa using hi), List.getElem?_map] at h
    cases hd : ds[i]? with
    | none => rw [hd] at h; cases h
    | some d' =>
      rw [hd] at h
      cases h
      obtain ⟨v, h1, h2⟩ := hv.get hd
      refine ⟨v, ?_, h2⟩
      unfold L2.start
      rw [List.getElem?_append_left (by rw [List.length_map, e]; exact hi), List.getElem?_map, h1]
      rfl
  · rw [List.getElem?_append_right (by simpa using hi), List.getElem?_replicate] at h
    split at h <;> cases h
theorem fn_step {S S' : PV.Sem} {g k : Nat} {x qual : Str} {params : Arguments} {body : List Stmt} {scope : Scope} {dvs : List V} {kws : List (Str × V)} {f : Addr} {fd : FuncData} {N ps : List Str} {fn : Fn} (F : FunD K x qual params body scope dvs kws f fd) (Sc : FnScope N ps scope)
    (hS : ∀ ds G, S'.cal g ds G = runFn S fn ds G) (hns : N.length = fn.ns) (hnp : ps.length = fn.np) (hle : fn.np ≤ fn.ns)
    (hbody : ∀ (cdv : Value) (A : Around) (outer : List PySem.Env) (s : Shared) (H : Hp) (E : XK), Room k (A.deeper (envOfC qual scope s.heap.objs.size f cdv)) → SdB (cxOf (L2.CX P w) P w K mg base N qual scope f cdv A outer s H E) q S body fn.body) :
    FnOk P w K mg base (L2.CX P w) (k + 1) f fd ps (spC K q S' g ps.length) := by
  refine F.ok Sc (fun vs H Q E h => ?_) (fun cdv A outer s H vs Q E hr h => ?_)
  · obtain ⟨_, _, _, _, _, h, _⟩ := h
    exact h
  · obtain ⟨z, ds, rfl, ok, hv, hlen, hw⟩ := h
    refine ⟨_, hbody cdv A outer s z.H E hr E (takes_of rfl rfl rfl rfl), z, _, rfl, ok, rels_start hv (by rw [← hv.len, hlen, hnp, hns]; exact hle), ?_⟩
    rw [hS] at hw
    unfold runFn at hw
    replace hw := gc_wp ok hw
    have hdl : ds.length = fn.np := by rw [← hv.len, hlen, hnp]
    rw [if_pos hdl] at hw
    rw [hns, hdl]
    cases hr : evB S fn.body (ds.map some ++ List.replicate (fn.ns - fn.np) none) z.G with
    | next ρ' G' =>
      rw [hr] at hw
      exact fun z' σ' hG ok' e' _ => hw z' hG ok' e' _ Has.non
    | ret d G' =>
      rw [hr] at hw
      exact fun z' v hG ok' e' hd => hw z' hG ok' e' v hd
    | exc c G' =>
      rw [hr] at hw
      exact hw
    | brk ρ' G' => rw [hr] at hw; exact hw.elim
    | cont ρ' G' => rw [hr] at hw; exact hw.elim
    | bad => rw [hr] at hw; exact hw.elim
/-- nothing is promised at the last level -/
theorem fn_zero {S' : PV.Sem} {g k : Nat} {x qual : Str} {params : Arguments} {body : List Stmt} {scope : Scope} {dvs : List V} {kws : List (Str × V)} {f : Addr} {fd : FuncData} {N ps : List Str} (F : FunD K x qual params body scope dvs kws f fd) (Sc : FnScope N ps scope)
    (hS : ∀ ds G, S'.cal g ds G = .bad) : FnOk P w K mg base (L2.CX P w) (k + 1) f fd ps (spC K q S' g ps.length) := by
  refine F.ok Sc (fun vs H Q E h => ?_) (fun cdv A outer s H vs Q E hr h => ?_)
  · obtain ⟨_, _, _, _, _, h, _⟩ := h
    exact h
  · obtain ⟨z, ds, rfl, ok, hv, hlen, hw⟩ := h
    rw [hS] at hw
    exact hw.elim
theorem run_ar {S : PV.Sem} {fn : Fn} {n : Nat} (h : n = fn.np) : ∀ (ds : List D) (G : Gs), ds.length ≠ n → runFn S fn ds G = .bad := fun ds G hn => by
  unfold runFn
  rw [if_neg (by rw [← h]; exact hn)]
  rfl
end
end PV
end
/-! ## PV7 -/
section
set_option Elab.async false
set_option linter.all false
set_option maxRecDepth 100000
set_option maxHeartbeats 4000000
/-! The rules: items, slices, chains, methods of texts, zip, texts made of parts. -/
namespace PV
open PySem L2 LamX PyProof.Rows RZ
section
variable {X : Cx} {q : Par} {S : PV.Sem}

theorem has_at {K : PySem.W.Frag} {z : Z} {l : List PV.D} {vs : List V} {i : Int} {c : PV.D} (hv : HasL K q z l vs) (h : atI l i = some c) : ∃ v, atI vs i = some v ∧ Has K q z c v := by
  unfold atI at h ⊢
  rw [hv.len]
  cases e : ixN l.length i with
  | none => rw [e] at h; cases h
  | some j =>
    rw [e] at h
    exact hv.get h
theorem sd_ix {a b : Expr} {ma mb : PV.E} {pos : Pos} (hx : IxR X (fun x y H Q => rIx X.K x y H Q ∨ rIxC X.K q x y H Q)) (ha : Sd X q S a ma) (hb : Sd X q S b mb) (hs : PlainIx b := by intro _ _; rfl) : Sd X q S (.Subscript a b pos) (.ix ma mb) := fun E tk =>
  pe_imp (pe_ix hx (ha E tk) (hb E tk) hs) fun σ H Q ⟨z, ρ, hH, ok, rl, w⟩ => ⟨z, ρ, hH, ok, rl, (wp.bind w).mono fun d z1 ok1 e1 w1 v hv => ⟨z1, ρ, rfl, ok1, rl.ext ok e1, (wp.bind w1).mono fun e z2 ok2 e2 w2 u hu => by
    obtain ⟨c, hc, hp⟩ := wp.of w2
    replace hp : Post X.K q z2 Q c := hp
    replace hv := Has.ext ok1 e2 d v hv
    unfold ixD at hc
    split at hc
    · rename_i l i
      obtain ⟨p, vs, rfl, h1, h2⟩ := hv.ref_of_tup
      obtain ⟨x, h3, h4⟩ := has_at h2 hc
      exact .inl (.inr (.inl ⟨p, vs, i, x, rfl, hu.of_int, h1, h3, hp.at ok2 h4⟩))
    · rename_i l i
      obtain ⟨p, vs, rfl, h1, _, h2⟩ := hv.of_lst
      obtain ⟨x, h3, h4⟩ := has_at h2 hc
      exact .inl (.inl ⟨p, vs, i, x, rfl, hu.of_int, SqL.of h1, h3, hp.at ok2 h4⟩)
    · rename_i l i
      obtain ⟨p, vs, rfl, h1, h2⟩ := has_seq (d := .frz l) rfl hv
      obtain ⟨x, h3, h4⟩ := has_at h2 hc
      rcases h1 with h1 | h1
      · exact .inl (.inl ⟨p, vs, i, x, rfl, hu.of_int, h1, h3, hp.at ok2 h4⟩)
      · exact .inl (.inr (.inl ⟨p, vs, i, x, rfl, hu.of_int, h1, h3, hp.at ok2 h4⟩))
    · rename_i n i
      split at hc
      · rename_i l hl
        obtain ⟨p, rfl, h1, vs, g2, g3⟩ := cell_at ok2 hv hl
        obtain ⟨x, h3, h4⟩ := has_at g3 hc
        exact .inl (.inl ⟨p, vs, i, x, rfl, hu.of_int, SqL.of g2, h3, hp.at ok2 h4⟩)
      · cases hc
    · rename_i n t
      split at hc
      · rename_i ks vs hl
        obtain ⟨p, rfl, h1, hcc⟩ := cell_at ok2 hv hl
        simp only [Option.bind_eq_some_iff] at hc
        obtain ⟨k, hk, hg⟩ := hc
        exact .inr ⟨z2, ks, vs, t, k, c, p, rfl, ok2, rfl, hcc, hu, hk, hg, hp⟩
      · cases hc
    · rename_i ks vs t
      obtain ⟨p, rfl, hcc⟩ := dct_has (p := (ks, vs)) ok2 hv rfl
      simp only [Option.bind_eq_some_iff] at hc
      obtain ⟨k, hk, hg⟩ := hc
      exact .inr ⟨z2, ks, vs, t, k, c, p, rfl, ok2, rfl, hcc, hu, hk, hg, hp⟩
    · rename_i s i
      split at hc
      · rename_i hz
        simp only [Option.map_eq_some_iff] at hc
        obtain ⟨k, hk, rfl⟩ := hc
        exact .inl (.inr (.inr ⟨s, i, k, hv.of_str, hu.of_int, hz, hk, hp.at ok2 Has.str⟩))
      · cases hc
    · cases hc⟩⟩
theorem ix_all (hu : X.A.units + 64 < cLine) (hP : q.P = X.prog) (hW : q.W = X.w) : IxR X (fun x y H Q => rIx X.K x y H Q ∨ rIxC X.K q x y H Q) := ix_seq.or (ix_C hu hP hW)

theorem sd_neg {a : Expr} {ma : PV.E} {pos : Pos} (h : Sd X q S a ma) : Sd X q S (.UnaryOp .USub a pos) (.neg ma) := fun E tk =>
  pe_imp (pe_un un_neg (h E tk)) fun σ H Q ⟨z, ρ, hH, ok, rl, w⟩ => ⟨z, ρ, hH, ok, rl, (wp.bind w).mono fun d z1 ok1 e1 w1 v hv => by
    cases d with
    | int i => exact ⟨i, hv.of_int, wp.here (P := PQ X.K q Q) ok1 w1 _ Has.int⟩
    | _ => exact w1.elim⟩
theorem has_non {K : PySem.W.Frag} {z : Z} {d : PV.D} {v : V} (h : Has K q z d v) : decide (v = V.non) = isNonD d := by
  cases d with
  | non => rw [h.of_non]; rfl
  | int i => rw [h.of_int]; rfl
  | bl b => rw [h.of_bl]; rfl
  | str s => rw [h.of_str]; rfl
  | tup l => obtain ⟨a, vs, rfl, _⟩ := h.ref_of_tup; rfl
  | lst l => obtain ⟨a, vs, rfl, _⟩ := h.of_lst; rfl
  | frz l => simp only [Has] at h; obtain ⟨a, vs, rfl, _⟩ := h; rfl
  | cell n => simp only [Has] at h; obtain ⟨a, rfl, _⟩ := h; rfl
  | lam n => simp only [Has] at h; obtain ⟨a, c, rfl, _⟩ := h; rfl
  | dct ks vs => simp only [Has] at h; obtain ⟨a, o, xs, us, rfl, _⟩ := h; rfl
  | obj c fn fs => simp only [Has] at h; obtain ⟨a, dx, vs, rfl, _⟩ := h; rfl
theorem od_isN : OpD X q (compareOp .Is) (fun x y => (cmpD .isN x y).map .bl) := by
  intro pins s σ H x y v u Q I rx ry h
  obtain ⟨z, d, e, c, rfl, ok, hd, he, hg, hp⟩ := h
  have hg : (cmpD .isN d e).map PV.D.bl = some c := hg
  cases e <;> (try (cases d <;> simp [cmpD] at hg))
  all_goals
    refine op_isN pins s σ _ x y v u Q I rx ry ⟨he.of_non, ?_⟩
    rw [has_non hd]
    subst hg
    exact hp.at ok Has.bl
theorem od_notN : OpD X q (compareOp .IsNot) (fun x y => (cmpD .notN x y).map .bl) := by
  intro pins s σ H x y v u Q I rx ry h
  obtain ⟨z, d, e, c, rfl, ok, hd, he, hg, hp⟩ := h
  have hg : (cmpD .notN d e).map PV.D.bl = some c := hg
  cases e <;> (try (cases d <;> simp [cmpD] at hg))
  all_goals
    refine op_notN pins s σ _ x y v u Q I rx ry ⟨he.of_non, ?_⟩
    rw [has_non hd]
    subst hg
    exact hp.at ok Has.bl

/-! ### slices -/
def SdO (X : Cx) (q : Par) (S : PV.Sem) (e : Option Expr) (m : Option PV.E) : Prop := ∀ E : XK, Tk X E → PO X e (fun σ H Q => ∃ z ρ, z.H = H ∧ Ok X.K q z ∧ RelS X.K q z ρ σ ∧ wp X.K q z (evO S ρ m z.G) (fun o z' => Q o z'.H) E)
theorem po_imp {e : Option Expr} {t t' : TO} (h : PO X e t) (f : ∀ σ H Q, t' σ H Q → t σ H Q) : PO X e t' := ⟨fun pins s σ H Q I w => h.run pins s σ H Q I (f σ H Q w)⟩
theorem sdo_none : SdO X q S none none := fun E tk => po_imp po_none fun σ H Q ⟨z, ρ, hH, ok, rl, w⟩ => by
  subst hH
  exact wp.here (P := fun o z' => Q o z'.H) ok w
theorem sdo_some {e : Expr} {m : PV.E} (h : Sd X q S e m) : SdO X q S (some e) (some m) := fun E tk => po_imp (po_some (h E tk)) fun σ H Q ⟨z, ρ, hH, ok, rl, w⟩ => ⟨z, ρ, hH, ok, rl, (wp.bind w).mono fun d z1 ok1 e1 w1 v hv => by
  cases d with
  | int i => exact ⟨i, hv.of_int, wp.here (P := fun o z' => Q o z'.H) ok1 w1⟩
  | _ => exact w1.elim⟩
theorem has_cut {K : PySem.W.Frag} {z : Z} {l : List PV.D} {vs : List V} (hv : HasL K q z l vs) (lo hi : Option Int) : HasL K q z (cutD l lo hi) (cutV vs lo hi) := by
  unfold cutD cutV
  rw [hv.len]
  exact (hv.drop _).take _
theorem cut_whole {l : List PV.D} {lo hi : Option Int} (h1 : HT.sIx l.length 0 lo = 0) (h2 : HT.sIx l.length l.length hi = l.length) : cutD l lo hi = l := by
  unfold cutD
  rw [h1, h2, Nat.sub_zero, List.drop_zero, List.take_length]
theorem sd_sl {a : Expr} {lo hi : Option Expr} {ma : PV.E} {mlo mhi : Option PV.E} {p2 pos : Pos} (ha : Sd X q S a ma) (hlo : SdO X q S lo mlo) (hhi : SdO X q S hi mhi) : Sd X q S (.Subscript a (.Slice lo hi none p2) pos) (.sl ma mlo mhi) := fun E tk =>
  pe_imp (pe_slice (sl_tupA.or (sl_list.or sl_str)) (ha E tk) (hlo E tk) (hhi E tk)) fun σ H Q ⟨z, ρ, hH, ok, rl, w⟩ => ⟨z, ρ, hH, ok, rl, (wp.bind w).mono fun d z1 ok1 e1 w1 v hv => ⟨z1, ρ, rfl, ok1, rl.ext ok e1, (wp.bind w1).mono fun l z2 ok2 e2 w2 => ⟨z2, ρ, rfl, ok2, (rl.ext ok e1).ext ok1 e2, (wp.bind w2).mono fun h z3 ok3 e3 w3 => by
    obtain ⟨c, hc, hp⟩ := wp.of w3
    replace hp : Post X.K q z3 Q c := hp
    replace hv := Has.ext ok2 e3 d v (Has.ext ok1 e2 d v hv)
    cases d <;> simp only [slD, reduceCtorEq, Option.some.injEq] at hc
    · rename_i s
      split at hc <;> cases hc
      rename_i hz
      exact .inr (.inr ⟨s, hv.of_str, hz, hp.at ok3 Has.str⟩)
    · rename_i ds
      subst hc
      obtain ⟨p, vs, rfl, h1, h2⟩ := hv.ref_of_tup
      refine .inl ⟨p, vs, rfl, h1, fun ⟨g1, g2⟩ => ?_, fun _ p' hn => hp.put ok3 hn (put_tup ok3 hn (has_cut h2 l h))⟩
      rw [h2.len] at g1 g2
      rw [cut_whole g1 g2] at hp
      exact hp.at ok3 hv
    · rename_i ds
      subst hc
      obtain ⟨p, vs, rfl, h1, _, h2⟩ := hv.of_lst
      exact .inr (.inl ⟨p, vs, rfl, SqL.of h1, fun p' hn => hp.put ok3 hn (put_lst ok3 hn (has_cut h2 l h))⟩)
    · rename_i ds
      subst hc
      simp only [Has] at hv
      obtain ⟨p, vs, rfl, h1, h2⟩ := hv
      refine .inr (.inl ⟨p, vs, rfl, ?_, fun p' hn => hp.put ok3 hn (put_lst ok3 hn (has_cut h2 l h))⟩)
      rcases h1 with ⟨r, _⟩ | h1
      · exact .inl r
      · exact .inr h1⟩⟩⟩

/-! ### a < b < c -/
theorem chain_imp {a b c : Expr} {ma mb mc : PV.E} {o1 o2 : Cop} {E : XK} {σ : L2.St} {H : Hp} {Q : VK}
    (h : rdE X.K q S E (.chain o1 o2 ma mb mc) σ H Q) (hb : ∀ x y : PV.D, cmpD o1 x y ≠ none → True) :
    tChain (rD X.K q (fun x y => (cmpD o1 x y).map .bl)) (rD X.K q (fun x y => (cmpD o2 x y).map .bl)) (rdE X.K q S E ma) (rdE X.K q S E mb) (rdE X.K q S E mc) σ H Q := by
  obtain ⟨z, ρ, hH, ok, rl, w⟩ := h
  refine ⟨z, ρ, hH, ok, rl, (wp.bind w).mono fun d z1 ok1 e1 w1 v hv => ⟨z1, ρ, rfl, ok1, rl.ext ok e1, (wp.bind w1).mono fun e z2 ok2 e2 w2 u hu => ?_⟩⟩
  have hv := Has.ext ok1 e2 d v hv
  have rl2 := (rl.ext ok e1).ext ok1 e2
  have w2 : wp X.K q z2 (match cmpD o1 d e with
    | some true => (evE S ρ mc z2.G).bind fun z G3 => .of ((cmpD o2 e z).map .bl) G3
    | some false => .ok (.bl false) z2.G
    | none => .bad) (PQ X.K q Q) E := w2
  cases hc : cmpD o1 d e with
  | none => rw [hc] at w2; exact w2.elim
  | some k =>
    rw [hc] at w2
    refine ⟨z2, d, e, .bl k, rfl, ok2, hv, hu, (by show (cmpD o1 d e).map D.bl = _; rw [hc]; rfl), fun z3 hG ok3 e3 x hx => ⟨k, hx.of_bl, ?_⟩⟩
    cases k with
    | false =>
      rw [if_neg (by simp)]
      have w2 : wp X.K q z2 (.ok (.bl false) z2.G) (PQ X.K q Q) E := w2
      exact w2 z3 hG ok3 e3 _ Has.bl
    | true =>
      rw [if_pos rfl]
      have w2 : wp X.K q z2 ((evE S ρ mc z2.G).bind fun z G3 => .of ((cmpD o2 e z).map .bl) G3) (PQ X.K q Q) E := w2
      have w3 := wp.ext e3 w2
      rw [← hG] at w3
      refine ⟨z3, ρ, rfl, ok3, rl2.ext ok2 e3, (wp.bind w3).mono fun f z4 ok4 e4 w4 t ht => ?_⟩
      obtain ⟨c', hc', hp'⟩ := wp.of w4
      exact ⟨z4, e, f, c', rfl, ok4, Has.ext ok3 e4 e u (Has.ext ok2 e3 e u hu), ht, hc', hp'⟩
theorem sd_chain {op1 op2 : CmpOp} {o1 o2 : Cop} {a b c : Expr} {ma mb mc : PV.E} {pos : Pos} (h1 : OpD X q (compareOp op1) (fun x y => (cmpD o1 x y).map .bl)) (h2 : OpD X q (compareOp op2) (fun x y => (cmpD o2 x y).map .bl)) (ha : Sd X q S a ma) (hb : Sd X q S b mb) (hc : Sd X q S c mc)
    (hm : lastMarks [op1, op2] [b, c] = false := by with_unfolding_all rfl) : Sd X q S (.Compare a [op1, op2] [b, c] pos) (.chain o1 o2 ma mb mc) := fun E tk =>
  pe_imp (pe_chain h1 h2 (ha E tk) (hb E tk) (hc E tk) hm) fun σ H Q h => chain_imp (a := a) (b := b) (c := c) h fun _ _ _ => trivial
theorem td_chain {op1 op2 : CmpOp} {o1 o2 : Cop} {a b c : Expr} {ma mb mc : PV.E} {pos : Pos} (h1 : OpD X q (compareOp op1) (fun x y => (cmpD o1 x y).map .bl)) (h2 : OpD X q (compareOp op2) (fun x y => (cmpD o2 x y).map .bl)) (ha : Sd X q S a ma) (hb : Sd X q S b mb) (hc : Sd X q S c mc)
    (hm : lastMarks [op1, op2] [b, c] = false := by with_unfolding_all rfl) : Td X q S (.Compare a [op1, op2] [b, c] pos) (.chain o1 o2 ma mb mc) := fun E tk =>
  pt_imp (pt_chain h1 h2 (ha E tk) (hb E tk) (hc E tk) hm) fun σ H Q ⟨z, ρ, hH, ok, rl, w⟩ => chain_imp (a := a) (b := b) (c := c) ⟨z, ρ, hH, ok, rl, w.mono fun d z' ok' e' ⟨b, hb, hq⟩ v hv => by
    subst hb
    exact ⟨b, hv.of_bl, hq⟩⟩ fun _ _ _ => trivial

/-! ### methods of texts -/
def rM (K : PySem.W.Frag) (q : Par) (m : Mt) : V → List V → Hp → VK → Prop := fun x vs H Q => ∃ (z : Z) (s : Str) (ds : List PV.D) (c : PV.D), z.H = H ∧ Ok K q z ∧ x = .str s ∧ HasL K q z ds vs ∧ meth m s ds = some c ∧ Post K q z Q c
theorem sd_meth1 {m : Mt} {id : String} {name : Str} {o e : Expr} {mo me : PV.E} {apos pos : Pos} (slot : Slot "str" name id) (ty : typeOf (.builtin id) = pure (.type "method_descriptor")) (rule : MtR X id (rM X.K q m)) (ho : Sd X q S o mo) (he : Sd X q S e me)
    (hs : starEach [e] X.env = [(false, eval e X.env)] := by rfl) (hbase : attributeBase o name X.env (eval o X.env) = eval o X.env := by rfl) (hline : (apos.endLine == pos.line) = true := by rfl) : Sd X q S (.Call (.Attribute o name apos) [e] [] pos) (.meth m mo [me]) := fun E tk =>
  pe_imp (pe_m1 slot ty rule (ho E tk) (he E tk) hs hbase hline) fun σ H Q ⟨z, ρ, hH, ok, rl, w⟩ => ⟨z, ρ, hH, ok, rl, (wp.bind w).mono fun d z1 ok1 e1 w1 v hv => by
    cases d with
    | str s =>
      refine ⟨⟨s, hv.of_str⟩, z1, ρ, rfl, ok1, rl.ext ok e1, ?_⟩
      have w1 : wp X.K q z1 ((evEs S ρ [me] z1.G).bind fun ds G2 => .of (meth m s ds) G2) (PQ X.K q Q) E := w1
      have e0 : ((evEs S ρ [me] z1.G).bind fun ds G2 => PV.R.of (meth m s ds) G2) = (evE S ρ me z1.G).bind fun d G2 => .of (meth m s [d]) G2 := by
        show (((evE S ρ me z1.G).bind fun d G1 => .ok [d] G1).bind fun ds G2 => PV.R.of (meth m s ds) G2) = _
        cases evE S ρ me z1.G <;> rfl
      rw [e0] at w1
      refine (wp.bind w1).mono fun e' z2 ok2 e2 w2 u hu => ?_
      obtain ⟨c, hc, hp⟩ := wp.of w2
      exact ⟨z2, s, [e'], c, rfl, ok2, hv.of_str, HasL.cons hu HasL.nil, hc, hp⟩
    | _ => exact w1.elim⟩
theorem mt_one {m : Mt} {id : String} {C : Str → Str → Prop} {g : Str → Str → PV.D} {r : V → List V → Hp → VK → Prop} (h : MtR X id r) (hm : ∀ s ds c, meth m s ds = some c → ∃ b, ds = [.str b] ∧ C s b ∧ c = g s b) (hr : ∀ (z : Z) s b Q, Ok X.K q z → C s b → Post X.K q z Q (g s b) → r (.str s) [.str b] z.H Q) : MtR X id (rM X.K q m) := by
  intro pins s σ H x xs v us Q I rx rs hh
  obtain ⟨z, a, ds, c, rfl, ok, rfl, hv, hc, hp⟩ := hh
  obtain ⟨b, rfl, hC, rfl⟩ := hm _ _ _ hc
  obtain ⟨u, rfl, h1⟩ := hv.one
  rw [h1.of_str] at rs
  exact h pins s σ z.H (.str a) [.str b] v us Q I rx rs (hr z a b Q ok hC hp)
theorem mr_removeprefix : MtR X "str.removeprefix" (rM X.K q .removeprefix) :=
  mt_one (C := fun a _ => a.length ≤ sizeLine) (g := fun a b => .str (Txt.removeprefix a b)) mt_removeprefix (fun s ds c h => by
    have h : mRemove s ds = some c := h
    unfold mRemove at h
    split at h
    · split at h <;> cases h
      rename_i hh
      exact ⟨_, rfl, hh, rfl⟩
    · cases h) fun z s b Q ok hC hp => ⟨s, b, rfl, rfl, hC, hp.at ok Has.str⟩
theorem mr_strip : MtR X "str.strip" (rM X.K q .strip1) :=
  mt_one (C := fun a _ => a.length ≤ sizeLine) (g := fun a b => .str (Txt.stripChars a b)) mt_stripChars (fun s ds c h => by
    have h : mStrip s ds = some c := h
    unfold mStrip at h
    split at h
    · split at h <;> cases h
      rename_i hh
      exact ⟨_, rfl, hh, rfl⟩
    · cases h) fun z s b Q ok hC hp => ⟨s, b, rfl, rfl, hC, hp.at ok Has.str⟩
theorem mr_count : MtR X "str.count" (rM X.K q .count) :=
  mt_one (C := fun _ _ => True) (g := fun a b => .int (Txt.count a b)) mt_count (fun s ds c h => by
    have h : mCount s ds = some c := h
    unfold mCount at h
    split at h
    · cases h
      exact ⟨_, rfl, trivial, rfl⟩
    · cases h) fun z s b Q ok hC hp => ⟨s, b, rfl, rfl, hp.at ok Has.int⟩
theorem mr_split : MtR X "str.split" (rM X.K q .split1) :=
  mt_one (C := fun a b => (b.length == 0) = false ∧ a.length + 2 ≤ sizeLine) (g := fun a b => .lst ((Txt.split a b).map .str)) mt_split (fun s ds c h => by
    have h : mSplit s ds = some c := h
    unfold mSplit at h
    split at h
    · split at h <;> cases h
      rename_i hh
      exact ⟨_, rfl, hh, rfl⟩
    · cases h) fun z s b Q ok hC hp => ⟨s, b, rfl, rfl, hC.1, hC.2, fun p hn => hp.put ok hn (put_lst ok hn (strs_has _))⟩
theorem mr_partition : MtR X "str.partition" (rM X.K q .partition) :=
  mt_one (C := fun a b => (b.length == 0) = false ∧ a.length ≤ sizeLine) (g := fun a b => .tup [.str (Txt.partition a b).1, .str (Txt.partition a b).2.1, .str (Txt.partition a b).2.2]) mt_partition (fun s ds c h => by
    have h : mPartition s ds = some c := h
    unfold mPartition at h
    split at h
    · split at h <;> cases h
      rename_i hh
      exact ⟨_, rfl, hh, rfl⟩
    · cases h) fun z s b Q ok hC hp => ⟨s, b, rfl, rfl, hC.1, hC.2, fun p hn => hp.put ok hn (put_tup ok hn (HasL.cons Has.str (HasL.cons Has.str (HasL.cons Has.str HasL.nil))))⟩
theorem mr_join : MtR X "str.join" (rM X.K q .join) := by
  intro pins s σ H x xs v us Q I rx rs hh
  obtain ⟨z, a, ds, c, rfl, ok, rfl, hv, hc, hp⟩ := hh
  have hc : mJoin a ds = some c := hc
  unfold mJoin at hc
  split at hc
  · simp only [Option.bind_eq_some_iff] at hc
    obtain ⟨ys, ⟨l, hl, hy⟩, hc⟩ := hc
    split at hc <;> cases hc
    rename_i hz
    obtain ⟨u, rfl, h1⟩ := hv.one
    obtain ⟨p, vs, rfl, h2, h3⟩ := has_seq hl h1
    have e := has_strs hy h3
    subst e
    exact mt_join pins s σ z.H (.str a) _ v us Q I rx rs ⟨a, p, ys, rfl, rfl, h2, of_decide_eq_true hz, hp.at ok Has.str⟩
  · cases hc

/-! ### zip -/
theorem sdi_zip {a b : Expr} {ma mb : PV.E} {elts : List Expr} {kk : Nat} {tpos p pos : Pos} (hg : Gl X "zip") (hm : X.mg "zip" = none) (ha : Sd X q S a ma) (hb : Sd X q S b mb)
    (hs : starEach [a, b] X.env = (false, eval a X.env) :: starEach [b] X.env := by rfl) (hs2 : starEach [b] X.env = (false, eval b X.env) :: starEach [] X.env := by rfl) (hpl : (backTo pos (starEach [b] X.env)).any (·.1) = false := by rfl) :
    SdI X q S (.Tuple elts kk tpos) (.Call (.Name "zip" p) [a, b] [] pos) (.zip2 ma mb) := fun E tk =>
  pi_imp (pi_zipA hg hm (sda_cons ha (sda_cons hb sda_nil hs2) hs E tk) hs hpl) fun σ H R ⟨z, ρ, hH, ok, rl, w⟩ => ⟨z, ρ, hH, ok, rl, by
    have e0 : ((evE S ρ ma z.G).bind fun x G1 => (evE S ρ mb G1).bind fun y G2 => PV.R.of (zipD x y) G2) = (evEs S ρ [ma, mb] z.G).bind fun ds G => match ds with
      | [x, y] => .of (zipD x y) G
      | _ => .bad := by
      show _ = ((evE S ρ ma z.G).bind fun d G1 => (((evE S ρ mb G1).bind fun e G2 => .ok [e] G2).bind fun ds G3 => PV.R.ok (d :: ds) G3)).bind _
      cases evE S ρ ma z.G with
      | ok d G1 =>
        show ((evE S ρ mb G1).bind fun y G2 => PV.R.of (zipD d y) G2) = (((evE S ρ mb G1).bind fun e G2 => .ok [e] G2).bind fun ds G3 => PV.R.ok (d :: ds) G3).bind _
        cases evE S ρ mb G1 <;> rfl
      | exc c G1 => rfl
      | bad => rfl
    have w : wp X.K q z ((evE S ρ ma z.G).bind fun x G1 => (evE S ρ mb G1).bind fun y G2 => PV.R.of (zipD x y) G2) (fun ds z' => ∀ J I, Wk X.K q J ds I → I z' → R J z'.H) E := w
    rw [e0] at w
    refine (wp.bind w).mono fun ds z1 ok1 e1 w1 vs hvs => ?_
    match ds, w1 with
    | [x, y], w1 =>
      obtain ⟨c, hc, hp⟩ := wp.of w1
      obtain ⟨v, u, rfl, hv, hu⟩ := hvs.two
      cases x <;> cases y <;> simp only [zipD, reduceCtorEq] at hc
      · cases hc
        obtain ⟨p1, vs, rfl, h1, h2⟩ := hv.ref_of_tup
        obtain ⟨p2, ws, rfl, h3, h4⟩ := hu.ref_of_tup
        exact ⟨p1, p2, vs, ws, rfl, .inr ⟨h1, h3, hp z1 rfl ok1 (Ext.refl _) _ _ wk_zipT ⟨h1, h3, h2, h4⟩⟩⟩
      · cases hc
        obtain ⟨p1, vs, rfl, h1, f1, h2⟩ := hv.of_lst
        obtain ⟨p2, ws, rfl, h3, f3, h4⟩ := hu.of_lst
        exact ⟨p1, p2, vs, ws, rfl, .inl ⟨SqL.of h1, SqL.of h3, hp z1 rfl ok1 (Ext.refl _) _ _ wk_zip ⟨h1, h3, f1, f3, h2, h4⟩⟩⟩⟩

/-! ### a list backwards -/
theorem HasL.rev {K : PySem.W.Frag} {z : Z} : ∀ {ds : List PV.D} {vs : List V}, HasL K q z ds vs → HasL K q z ds.reverse vs.reverse
  | [], vs, h => by
    cases h
    exact HasL.nil
  | d :: ds, vs, h => by
    obtain ⟨v, r, rfl, h1, h2⟩ := h
    rw [List.reverse_cons, List.reverse_cons]
    exact (HasL.rev h2).app (HasL.cons h1 HasL.nil)
theorem sd_rev {e : Expr} {m : PV.E} {k : Nat} {p1 p2 p3 pos : Pos} (h : Sd X q S e m) : Sd X q S (.Subscript e (.Slice none none (some (.UnaryOp .USub (.Constant (.int 1) k p1) p2)) p3) pos) (.rev m) := fun E tk =>
  pe_imp (pe_revA (h E tk)) fun σ H Q ⟨z, ρ, hH, ok, rl, w⟩ => ⟨z, ρ, hH, ok, rl, (wp.bind w).mono fun d z1 ok1 e1 w1 v hv => by
    have w1 : wp X.K q z1 (match d with
      | .tup l => PV.R.ok (.tup l.reverse) z1.G
      | x => match lstOf x with
        | some l => .ok (.lst l.reverse) z1.G
        | none => .bad) (PQ X.K q Q) E := w1
    split at w1
    · rename_i l
      obtain ⟨a, vs, rfl, h2, h3⟩ := hv.ref_of_tup
      refine ⟨a, vs, rfl, .inr ⟨h2, fun p hn => ?_⟩⟩
      exact w1 (z1.put p (.tup vs.reverse)) rfl (ok1.put hn) (Ext.put hn) _ (put_tup ok1 hn h3.rev)
    · split at w1
      · rename_i l hl
        obtain ⟨a, vs, rfl, h2, h3⟩ := has_lst hl hv
        refine ⟨a, vs, rfl, .inl ⟨h2, fun p hn => ?_⟩⟩
        exact w1 (z1.put p (.lst vs.reverse)) rfl (ok1.put hn) (Ext.put hn) _ (put_lst ok1 hn h3.rev)
      · exact w1.elim⟩
/-! ### enumerate -/
theorem wk_enum {K : PySem.W.Frag} {a : Addr} {ds : List D} {vs : List V} : Wk K q (Ite K a) (enumD ds) (fun z => z.H a = some (.lst vs) ∧ Free z a ∧ HasL K q z ds vs) where
  stop := fun z ok ⟨h1, _, h3⟩ => ⟨vs, SqL.of h1, by rw [h3.len]; simp [enumD]⟩
  go := fun z i ok ⟨h1, _, h3⟩ hi => by
    have hi : i < ds.length := by simpa [enumD] using hi
    exact ⟨vs, vs[i]'(by rw [h3.len]; exact hi), SqL.of h1, by simp⟩
  yld := fun z i x H' ok ⟨h1, _, h3⟩ hi ⟨T, x1, e1, hn, e2, h5⟩ => by
    subst e1; subst e2
    obtain ⟨d, g1, g2⟩ := h3.get' (h5 vs (SqL.of h1))
    refine ⟨z.put T (.tup [.int (i : Nat), x1]), rfl, rfl, ok.put hn, Ext.put hn, .tup [.int (i : Nat), d], ?_, put_tup ok hn (HasL.cons Has.int (HasL.cons g2 HasL.nil))⟩
    simp [enumD, g1]
  st := fun z z' m ⟨h1, f1, h3⟩ => ⟨(m.l a vs h1 f1).1, (m.l a vs h1 f1).2, HasL.mv m ds vs h3⟩
theorem wk_enumT {K : PySem.W.Frag} {a : Addr} {ds : List D} {vs : List V} : Wk K q (IteT K a) (enumD ds) (fun z => SqT K z.H a vs ∧ HasL K q z ds vs) where
  stop := fun z ok ⟨h1, h3⟩ => ⟨vs, h1, by rw [h3.len]; simp [enumD]⟩
  go := fun z i ok ⟨h1, h3⟩ hi => by
    have hi : i < ds.length := by simpa [enumD] using hi
    exact ⟨vs, vs[i]'(by rw [h3.len]; exact hi), h1, by simp⟩
  yld := fun z i x H' ok ⟨h1, h3⟩ hi ⟨T, x1, e1, hn, e2, h5⟩ => by
    subst e1; subst e2
    obtain ⟨d, g1, g2⟩ := h3.get' (h5 vs h1)
    refine ⟨z.put T (.tup [.int (i : Nat), x1]), rfl, rfl, ok.put hn, Ext.put hn, .tup [.int (i : Nat), d], ?_, put_tup ok hn (HasL.cons Has.int (HasL.cons g2 HasL.nil))⟩
    simp [enumD, g1]
  st := fun z z' m ⟨h1, h3⟩ => ⟨m.t a vs h1, HasL.mv m ds vs h3⟩
theorem sdi_enum {a : Expr} {ma : PV.E} {elts : List Expr} {kk : Nat} {tpos p pos : Pos} (hg : Gl X "enumerate") (hm : X.mg "enumerate" = none) (ha : Sd X q S a ma) (hs : starEach [a] X.env = [(false, eval a X.env)] := by rfl) :
    SdI X q S (.Tuple elts kk tpos) (.Call (.Name "enumerate" p) [a] [] pos) (.enum ma) := fun E tk =>
  pi_imp (pi_or (pi_enum hg hm (sda_cons ha sda_nil hs E tk) hs) (pi_enumT hg hm (sda_cons ha sda_nil hs E tk) hs)) fun σ H R ⟨z, ρ, hH, ok, rl, w⟩ => by
    have e0 : ((evE S ρ ma z.G).bind fun x G1 => match x with
      | .lst l => PV.R.ok (enumD l) G1
      | .tup l => PV.R.ok (enumD l) G1
      | _ => .bad) = (evEs S ρ [ma] z.G).bind fun ds G => match ds with
      | [.lst l] => .ok (enumD l) G
      | [.tup l] => .ok (enumD l) G
      | _ => .bad := by
      show _ = ((evE S ρ ma z.G).bind fun d G1 => PV.R.ok [d] G1).bind _
      cases evE S ρ ma z.G with
      | ok d G1 => cases d <;> rfl
      | exc c G1 => rfl
      | bad => rfl
    have w : wp X.K q z ((evE S ρ ma z.G).bind fun x G1 => match x with
      | .lst l => PV.R.ok (enumD l) G1
      | .tup l => PV.R.ok (enumD l) G1
      | _ => .bad) (fun ds z' => ∀ J I, Wk X.K q J ds I → I z' → R J z'.H) E := w
    rw [e0] at w
    have w1 := wp.bind w
    by_cases ht : ∃ l G', evEs S ρ [ma] z.G = .ok [.tup l] G'
    · obtain ⟨l, G', ht⟩ := ht
      refine .inr ⟨z, ρ, hH, ok, rl, ?_⟩
      rw [ht] at w1 ⊢
      intro z1 hG ok1 e1 vs hvs
      obtain ⟨v, r, rfl, hv, hr⟩ := hvs
      cases hr
      obtain ⟨p1, vs, rfl, h1, h2⟩ := hv.ref_of_tup
      exact ⟨p1, vs, rfl, h1, w1 z1 hG ok1 e1 z1 rfl ok1 (Ext.refl _) _ _ wk_enumT ⟨h1, h2⟩⟩
    · refine .inl ⟨z, ρ, hH, ok, rl, ?_⟩
      cases hr : evEs S ρ [ma] z.G with
      | bad => rw [hr] at w1; exact w1.elim
      | exc c G' => rw [hr] at w1; exact w1
      | ok ds G' =>
        rw [hr] at w1 ht
        intro z1 hG ok1 e1 vs hvs
        have w2 := w1 z1 hG ok1 e1
        dsimp only at w2
        split at w2
        · rename_i l
          obtain ⟨v, r, rfl, hv, hr⟩ := hvs
          cases hr
          obtain ⟨p1, vs, rfl, h1, f1, h2⟩ := hv.of_lst
          exact ⟨p1, vs, rfl, SqL.of h1, w2 z1 rfl ok1 (Ext.refl _) _ _ wk_enum ⟨h1, f1, h2⟩⟩
        · rename_i l
          exact absurd ⟨l, G', rfl⟩ ht
        · exact w2.elim

/-! ### texts made of parts -/
theorem sd_fv {e : Expr} {m : PV.E} {pos : Pos} (h : Sd X q S e m) : Sd X q S (.FormattedValue e (-1) none pos) (.fv m) := fun E tk =>
  pe_imp (pe_fmt (h E tk)) fun σ H Q ⟨z, ρ, hH, ok, rl, w⟩ => ⟨z, ρ, hH, ok, rl, (wp.bind w).mono fun d z1 ok1 e1 w1 v hv => by
    obtain ⟨c, hc, hp⟩ := wp.of w1
    replace hp : Post X.K q z1 Q c := hp
    cases d <;> simp only [fvD, reduceCtorEq] at hc
    · rename_i i
      split at hc <;> cases hc
      rename_i hz
      exact .inr ⟨i, hv.of_int, hz, hp.at ok1 Has.str⟩
    · rename_i y
      split at hc <;> cases hc
      rename_i hz
      exact .inl ⟨y, hv.of_str, hz, hp.at ok1 Has.str⟩⟩
/-- the parts' judgements -/
inductive SdJ (X : Cx) (q : Par) (S : PV.Sem) : List Expr → List PV.E → Prop where
  | nil : SdJ X q S [] []
  | cons {e : Expr} {m : PV.E} {es : List Expr} {ms : List PV.E} (h : Sd X q S e m) (r : SdJ X q S es ms) : SdJ X q S (e :: es) (m :: ms)
theorem SdJ.pj {es : List Expr} {ms : List PV.E} (h : SdJ X q S es ms) (E : XK) (tk : Tk X E) : PJ X es (ms.map (rdE X.K q S E)) := by
  induction h with
  | nil => exact .nil
  | cons h r ih => exact .cons (h E tk) ih
theorem evF_js {E : XK} {ρ : Env} {σ : L2.St} {Q : VK} : ∀ (ms : List PV.E) (acc : Str) (z : Z), Ok X.K q z → RelS X.K q z ρ σ → wp X.K q z (evF S ρ ms acc z.G) (PQ X.K q Q) E → tJs (ms.map (rdE X.K q S E)) acc σ z.H fun out H1 => Q (.str out) H1
  | [], acc, z, ok, rl, w => wp.here (P := PQ X.K q Q) ok w _ Has.str
  | m :: ms, acc, z, ok, rl, w => ⟨z, ρ, rfl, ok, rl, (wp.bind w).mono fun d z1 ok1 e1 w1 v hv => by
    cases d with
    | str y =>
      have w1 : wp X.K q z1 (if (acc ++ y).length ≤ sizeLine then evF S ρ ms (acc ++ y) z1.G else .bad) (PQ X.K q Q) E := w1
      split at w1
      · rename_i hz
        exact ⟨y, hv.of_str, hz, evF_js ms (acc ++ y) z1 ok1 (rl.ext ok e1) w1⟩
      · exact w1.elim
    | _ => exact w1.elim⟩
theorem sd_fmt {v1 v2 : Expr} {rest : List Expr} {ms : List PV.E} {pos : Pos} (h : SdJ X q S (v1 :: v2 :: rest) ms) : Sd X q S (.JoinedStr (v1 :: v2 :: rest) pos) (.fmt ms) := fun E tk =>
  pe_imp (pe_joined (h.pj E tk)) fun σ H Q ⟨z, ρ, hH, ok, rl, w⟩ => by
    subst hH
    exact evF_js ms Str.empty z ok rl w
end
end PV
end
/-! ## PVe -/
section
set_option Elab.async false
set_option linter.all false
set_option maxRecDepth 100000
set_option maxHeartbeats 4000000
/-! The rules: cells made by list(x) and list * int, pop, reversed, list.count, dict(pairs). -/
namespace PV
open PySem L2 LamX PyProof.Rows RZ RT
section
variable {X : Cx} {q : Par} {S : PV.Sem} {K : PySem.W.Frag} {z z' : Z}
theorem cell_new (ok1 : Ok K q z) {p : Addr} {ds : List D} {vs : List V} (hp : z.H p = none) (hvs : HasL K q z ds vs) : Ok K q (z.cell p (.lst ds) (.lst vs)) ∧ Ext z (z.cell p (.lst ds) (.lst vs)) ∧ Has K q (z.cell p (.lst ds) (.lst vs)) (.cell z.G.length) (.ref p) := by
  refine ⟨ok1.cell hp fun z' m hp' => ⟨vs, hp', HasL.mv m ds vs hvs⟩, Ext.cell ok1 hp, has_cell ?_⟩
  show (z.μ ++ [p])[z.G.length]? = some p
  rw [← ok1.len]; simp
/-- list(x): a cell -/
theorem sd_listC {x : Str} {pp pos : Pos} {e : Expr} {m : PV.E} (hg : Gl X x) (hm : X.mg x = none) (hv : bootBuiltins x = some (.type "list")) (h : Sd X q S e m)
    (hn : x ≠ "__name__" := by decide) (hdb : (x == ("__debug__" : Str)) = false := by decide) (he : starEach [e] X.env = (false, eval e X.env) :: starEach [] X.env := by rfl) (hpl : (backTo pos (starEach [] X.env)).any (·.1) = false := by rfl) : Sd X q S (.Call (.Name x pp) [e] [] pos) (.listC m) := fun E tk =>
  pe_imp (pe_callTy call_list_of hg hm hv (pa_cons (h E tk) pa_nil he) hn hdb he hpl) fun σ H Q ⟨z, ρ, hH, ok, rl, w⟩ => ⟨z, ρ, hH, ok, rl, (wp.bind w).mono fun d z1 ok1 e1 w1 v hv => by
    have w1 : wp X.K q z1 (match seqOf d with
      | some l => PV.R.ok (PV.D.cell z1.G.length) (z1.G ++ [some (.lst l)])
      | none => .bad) (PQ X.K q Q) E := w1
    split at w1
    · rename_i l hl
      obtain ⟨a, vs, rfl, h2, h3⟩ := has_seq hl hv
      refine ⟨a, vs, rfl, h2, fun p hp => ?_⟩
      obtain ⟨c1, c2, c3⟩ := cell_new ok1 hp h3
      exact w1 _ rfl c1 c2 _ c3
    · exact w1.elim⟩
/-- list * int: a cell -/
theorem sd_mulC {a b : Expr} {ma mb : PV.E} {pos : Pos} (ha : Sd X q S a ma) (hb : Sd X q S b mb) : Sd X q S (.BinOp a .Mult b pos) (.mulC ma mb) := fun E tk =>
  pe_imp (pe_op op_rep (ha E tk) (hb E tk)) fun σ H Q ⟨z, ρ, hH, ok, rl, w⟩ => ⟨z, ρ, hH, ok, rl, (wp.bind w).mono fun d z1 ok1 e1 w1 v hv => ⟨z1, ρ, rfl, ok1, rl.ext ok e1, (wp.bind w1).mono fun y z2 ok2 e2 w2 u hu => by
    have w2 : wp X.K q z2 (match binD .mul d y with
      | some (.lst l) => PV.R.ok (PV.D.cell z2.G.length) (z2.G ++ [some (.lst l)])
      | _ => .bad) (PQ X.K q Q) E := w2
    split at w2
    · rename_i l hl
      have hv' := Has.ext ok1 e2 d v hv
      cases d <;> cases y <;> simp only [binD, reduceCtorEq] at hl
      · split at hl <;> cases hl
      · split at hl <;> cases hl
      · rename_i l0 k
        split at hl <;> cases hl
        rename_i hs
        obtain ⟨a, vs, rfl, h1, _, h2⟩ := hv'.of_lst
        obtain ⟨k0, k1, k2⟩ := hs
        refine ⟨a, k, vs, rfl, hu.of_int, h1, by omega, by omega, ?_, fun p hp => ?_⟩
        · have e : vs.length ≤ 1000 := by rw [h2.len]; exact k2
          have e2 : k.toNat ≤ 1000 := by omega
          exact Nat.le_trans (Nat.mul_le_mul e e2) (by rw [sizeLine_eq]; decide)
        · obtain ⟨c1, c2, c3⟩ := cell_new ok2 hp (h2.rep k.toNat)
          exact w2 _ rfl c1 c2 _ c3
    · exact w2.elim⟩⟩
/-- xs.pop() -/
theorem HasL.dropLast {ds : List D} {vs : List V} (h : HasL K q z ds vs) : HasL K q z ds.dropLast vs.dropLast := by
  rw [List.dropLast_eq_take, List.dropLast_eq_take, h.len]
  exact h.take _
theorem sd_pop {o : Expr} {mo : PV.E} {apos pos : Pos} (ho : Sd X q S o mo) (hbase : attributeBase o "pop" X.env (eval o X.env) = eval o X.env := by rfl) (hline : (apos.endLine == pos.line) = true := by rfl) : Sd X q S (.Call (.Attribute o "pop" apos) [] [] pos) (.pop mo) := fun E tk =>
  pe_imp (pe_bm0 PySem.F.plainAttrs_list PySem.F.slot_list_pop PySem.F.type_list_pop mt_pop (ho E tk) hbase hline) fun σ H Q ⟨z, ρ, hH, ok, rl, w⟩ => ⟨z, ρ, hH, ok, rl, (wp.bind w).mono fun d z1 ok1 e1 w1 v hv => by
    cases d with
    | cell n =>
      have w1 : wp X.K q z1 (match z1.G[n]? with
        | some (some (.lst l)) => (match l[l.length - 1]? with
          | some y => PV.R.ok y (z1.G.set n (some (.lst l.dropLast)))
          | none => .bad)
        | _ => .bad) (PQ X.K q Q) E := w1
      split at w1
      · rename_i l hl
        split at w1
        · rename_i y hy
          obtain ⟨a, rfl, hua, vs, g2, g3⟩ := cell_at ok1 hv hl
          obtain ⟨u, hu, hyu⟩ := g3.get hy
          refine ⟨.inl ⟨rfl, vs, SqL.of g2⟩, a, vs, u, rfl, rfl, g2, by rw [g3.len]; exact hu, ?_⟩
          have ok2 := ok_stC (c' := .lst l.dropLast) (o := .lst vs.dropLast) ok1 hl hua (fun _ x => nomatch x) fun z' m hp => ⟨_, hp, HasL.mv m _ _ g3.dropLast⟩
          have ex2 := ext_stC (c' := .lst l.dropLast) (o := .lst vs.dropLast) ok1 hl hua (fun _ x => nomatch x)
          exact w1 (z1.stC n a (.lst l.dropLast) (.lst vs.dropLast)) rfl ok2 ex2 _ (Has.ext ok1 ex2 _ _ hyu)
        · exact w1.elim
      · exact w1.elim
    | _ => exact w1.elim⟩
/-! ### reversed -/
theorem rev_at {α : Type} {l : List α} {i : Nat} (h : i < l.length) : l.reverse[i]? = l[l.length - 1 - i]? := by
  rw [List.getElem?_reverse h]
theorem wk_rev {K : PySem.W.Frag} {a : Addr} {ds : List D} {vs : List V} {I : Z → Prop} (hI : ∀ z, Ok K q z → I z → SqL K z.H a vs ∧ HasL K q z ds vs) (st : ∀ z z', Mv K q z z' → I z → I z') : Wk K q (Itv K a ds.length) ds.reverse I where
  stop := fun z ok h => by show ds.length ≤ ds.reverse.length; simp
  go := fun z i ok h hi => by
    have hi : i < ds.length := by simpa using hi
    obtain ⟨h1, h2⟩ := hI z ok h
    exact ⟨hi, vs, vs[ds.length - 1 - i]'(by rw [h2.len]; omega), h1, by simp⟩
  yld := fun z i x H' ok h hi ⟨e, h3⟩ => by
    subst e
    have hi : i < ds.length := by simpa using hi
    obtain ⟨h1, h2⟩ := hI z ok h
    obtain ⟨d, h4, h5⟩ := h2.get' (h3 vs h1)
    exact ⟨z, rfl, rfl, ok, Ext.refl z, d, by rw [rev_at hi]; exact h4, h5⟩
  st := st
theorem wk_revT {K : PySem.W.Frag} {a : Addr} {ds : List D} {vs : List V} : Wk K q (ItvT K a ds.length) ds.reverse (fun z => SqT K z.H a vs ∧ HasL K q z ds vs) where
  stop := fun z ok h => by show ds.length ≤ ds.reverse.length; simp
  go := fun z i ok ⟨h1, h2⟩ hi => by
    have hi : i < ds.length := by simpa using hi
    exact ⟨hi, vs, vs[ds.length - 1 - i]'(by rw [h2.len]; omega), h1, by simp⟩
  yld := fun z i x H' ok ⟨h1, h2⟩ hi ⟨e, h3⟩ => by
    subst e
    have hi : i < ds.length := by simpa using hi
    obtain ⟨d, h4, h5⟩ := h2.get' (h3 vs h1)
    exact ⟨z, rfl, rfl, ok, Ext.refl z, d, by rw [rev_at hi]; exact h4, h5⟩
  st := fun z z' m ⟨h1, h2⟩ => ⟨m.t a vs h1, HasL.mv m ds vs h2⟩
theorem sdi_rev {tg e : Expr} {m : PV.E} {p pos : Pos} (hg : Gl X "reversed") (hm : X.mg "reversed" = none) (h : Sd X q S e m) (hs : starEach [e] X.env = (false, eval e X.env) :: starEach [] X.env := by rfl) : SdI X q S tg (.Call (.Name "reversed" p) [e] [] pos) (.revI m) := fun E tk =>
  pi_imp (pi_revA hg hm (h E tk) hs) fun σ H R ⟨z, ρ, hH, ok, rl, w⟩ => ⟨z, ρ, hH, ok, rl, by
    have w : wp X.K q z ((evE S ρ m z.G).bind fun x G1 => match seqOf x with
      | some l => PV.R.ok l.reverse G1
      | none => .bad) (fun ds z' => ∀ J I, Wk X.K q J ds I → I z' → R J z'.H) E := w
    refine (wp.bind w).mono fun d z1 ok1 e1 w1 v hv => ?_
    cases d with
    | tup l =>
      obtain ⟨a, vs, rfl, h1, h2⟩ := hv.ref_of_tup
      refine ⟨a, vs, rfl, .inr ⟨h1, ?_⟩⟩
      rw [h2.len]
      exact w1 z1 rfl ok1 (Ext.refl _) _ _ wk_revT ⟨h1, h2⟩
    | lst l =>
      obtain ⟨a, vs, rfl, h1, f1, h2⟩ := hv.of_lst
      refine ⟨a, vs, rfl, .inl ⟨SqL.of h1, ?_⟩⟩
      rw [h2.len]
      exact w1 z1 rfl ok1 (Ext.refl _) _ _ (wk_rev (I := fun z => z.H a = some (.lst vs) ∧ Free z a ∧ HasL X.K q z l vs) (fun z ok h => ⟨SqL.of h.1, h.2.2⟩) fun z z' m ⟨h1, f1, h2⟩ => ⟨(m.l a vs h1 f1).1, (m.l a vs h1 f1).2, HasL.mv m _ _ h2⟩) ⟨h1, f1, h2⟩
    | frz l =>
      simp only [Has] at hv
      obtain ⟨a, vs, rfl, h1, h2⟩ := hv
      rcases h1 with ⟨h1, f1⟩ | h1
      · refine ⟨a, vs, rfl, .inl ⟨.inl h1, ?_⟩⟩
        rw [h2.len]
        exact w1 z1 rfl ok1 (Ext.refl _) _ _ (wk_rev (I := fun z => Rd z.H a (.lst vs) ∧ Free z a ∧ HasL X.K q z l vs) (fun z ok h => ⟨.inl h.1, h.2.2⟩) fun z z' m ⟨h1, f1, h2⟩ => ⟨(m.r a vs h1 f1).1, (m.r a vs h1 f1).2, HasL.mv m _ _ h2⟩) ⟨h1, f1, h2⟩
      · refine ⟨a, vs, rfl, .inl ⟨.inr h1, ?_⟩⟩
        rw [h2.len]
        exact w1 z1 rfl ok1 (Ext.refl _) _ _ (wk_rev (I := fun z => HasL X.K q z l vs) (fun z ok h => ⟨.inr h1, h⟩) fun z z' m h2 => HasL.mv m _ _ h2) h2
    | _ => exact w1.elim⟩
/-! ### list.count -/
theorem sd_lcount {o e : Expr} {mo me : PV.E} {apos pos : Pos} (hu : X.A.units + 64 < cLine) (ho : Sd X q S o mo) (he : Sd X q S e me) (hbase : attributeBase o "count" X.env (eval o X.env) = eval o X.env := by rfl)
    (hfew : ((backTo pos (starEach [e] X.env)).all (fun x => !x.1) && (backToKw pos (keywordEach [] X.env)).all (fun x => x.1.isSome)
      && decide (([e] : List Expr).length + ([] : List Keyword).length + (if ([] : List Keyword).isEmpty then 0 else 1) < 30)) = true := by rfl)
    (hline : (apos.endLine == pos.line) = true := by rfl) (hs : starEach [e] X.env = (false, eval e X.env) :: starEach [] X.env := by rfl) (hplain : (backTo pos (starEach [] X.env)).any (·.1) = false := by rfl) : Sd X q S (.Call (.Attribute o "count" apos) [e] [] pos) (.lcount mo me) := fun E tk =>
  pe_imp (pe_bm PySem.F.plainAttrs_list PySem.F.slot_list_count PySem.F.type_list_count (mt_countD hu) (ho E tk) (pa_cons (he E tk) pa_nil (hs)) hbase hfew hline hs hplain) fun σ H Q ⟨z, ρ, hH, ok, rl, w⟩ => ⟨z, ρ, hH, ok, rl, by
    refine (wp.bind w).mono fun d z1 ok1 e1 w1 v hv => ?_
    have w1 : wp X.K q z1 (match lstOf d with
      | some _ => (evE S ρ me z1.G).bind fun y G2 => .of (countD d y) G2
      | none => .bad) (PQ X.K q Q) E := w1
    split at w1
    · rename_i l hl
      obtain ⟨a, vs, rfl, h1, h2⟩ := has_lst hl hv
      refine ⟨.inl ⟨rfl, vs, h1⟩, z1, ρ, rfl, ok1, rl.ext ok e1, (wp.bind w1).mono fun y z2 ok2 e2 w2 u hu => ?_⟩
      obtain ⟨c, hc, hp⟩ := wp.of w2
      unfold countD at hc
      split at hc
      · rename_i l' p hl' hy
        split at hc
        · rename_i ps hps
          split at hc <;> cases hc
          rename_i hs2
          simp only [Bool.and_eq_true] at hs2
          have hv2 := Has.ext ok1 e2 d _ hv
          have hd : toPy d = some (.list ps) := by
            cases d <;> simp only [lstOf, reduceCtorEq, Option.some.injEq] at hl'
            · subst hl'; simp only [toPy, hps, Option.map]
            · subst hl'; simp only [toPy, hps, Option.map]
          exact ⟨a, u, p, ps, rfl, rfl, has_dp d _ _ hd hv2, has_dp y p u hy hu, hs2.1.1, hs2.1.2, of_decide_eq_true hs2.2, hp _ rfl ok2 (Ext.refl _) _ Has.int⟩
        · cases hc
      · cases hc
    · exact w1.elim⟩
/-! ### dict(pairs) -/
/-- one more entry -/
theorem store_at {k : NestedKey} {dk dv : D} {b : Addr} {v : V} {u : Value} {ks vs : List D} {xs : List (NestedKey × Addr × Value)} {us : List V} (hk : keyT dk = some k) (hb : Has K q z dk (.ref b)) (hv : Has K q z dv v) (rv : RelV v u) (g3 : Keyed ks (xs.map (·.1))) (g4 : HasL K q z ks (xs.map fun x => V.ref x.2.1)) (g5 : Vals us (xs.map (·.2.2))) (g6 : HasL K q z vs us) :
    ∃ us', Keyed (storeK k dk dv ks vs).1 ((storedH xs k b u).map (·.1)) ∧ HasL K q z (storeK k dk dv ks vs).1 ((storedH xs k b u).map fun x => V.ref x.2.1) ∧ Vals us' ((storedH xs k b u).map (·.2.2)) ∧ HasL K q z (storeK k dk dv ks vs).2 us' := by
  obtain ⟨l1, l2⟩ := get_at (z := z) (q := q) (K := K) k ks vs xs us g3 g5 g6
  unfold storeK
  cases hg : getK k ks vs with
  | some d =>
    obtain ⟨p, x, a1, _⟩ := l1 d hg
    rw [storedH_old a1]
    obtain ⟨us', b1, b2⟩ := put_at (z := z) (q := q) (K := K) k dv ks vs xs us v u g3 g5 g6 rv hv
    refine ⟨us', ?_, ?_, b1, b2⟩
    · show Keyed ks _
      rw [(put_keys k u xs).1]; exact g3
    · show HasL K q z ks _
      rw [(put_keys k u xs).2]; exact g4
  | none =>
    rw [storedH_new (l2 hg)]
    refine ⟨us ++ [v], ?_, ?_, ?_, ?_⟩
    · show Keyed (ks ++ [dk]) _
      unfold Keyed at g3 ⊢
      rw [List.map_append, List.map_append, List.map_append, g3]
      simp [hk]
    · show HasL K q z (ks ++ [dk]) _
      rw [List.map_append]
      exact g4.app (HasL.cons hb HasL.nil)
    · rw [List.map_append]
      exact g5.append (.cons rv .nil)
    · show HasL K q z (vs ++ [dv]) _
      exact g6.app (HasL.cons hv HasL.nil)
abbrev dctF (acc : Option (List D × List D)) (p : D) : Option (List D × List D) := match acc, p with
    | some (ks, vs), .tup [k, v] => (keyT k).map fun x => storeK x k v ks vs
    | _, _ => none
theorem dctF_none : ∀ l : List D, l.foldl dctF none = none
  | [] => rfl
  | p :: l => dctF_none l
theorem dctF_cons {ks vs : List D} {p : D} {l : List D} {r : List D × List D} (h : (p :: l).foldl dctF (some (ks, vs)) = some r) : ∃ k v x, p = .tup [k, v] ∧ keyT k = some x ∧ l.foldl dctF (some (storeK x k v ks vs)) = some r := by
  rw [List.foldl_cons] at h
  cases hp : dctF (some (ks, vs)) p with
  | none => rw [hp, dctF_none] at h; cases h
  | some y =>
    rw [hp] at h
    unfold dctF at hp
    split at hp
    · rename_i ks' vs' k v e
      cases e
      simp only [Option.map_eq_some_iff] at hp
      obtain ⟨x, hx, rfl⟩ := hp
      exact ⟨k, v, x, rfl, hx, h⟩
    · cases hp
/-- the pairs of a list -/
theorem pairs_of {pins : List (Addr × Obj)} {σ : L2.St} {s : Shared} (I : L2.Inv X pins σ z.H s) : ∀ (l : List D) (vs : List V) (its : List Value) (ks ws : List D) (xs : List (NestedKey × Addr × Value)) (us : List V) (r : List D × List D), HasL X.K q z l vs → Vals vs its → l.foldl dctF (some (ks, ws)) = some r →
    Keyed ks (xs.map (·.1)) → HasL X.K q z ks (xs.map fun x => V.ref x.2.1) → Vals us (xs.map (·.2.2)) → HasL X.K q z ws us →
    ∃ (Ts : List Addr) (ps : List (NestedKey × Addr × Value)) (us' : List V), ps.length = l.length ∧ Ts.length = l.length ∧ its = Ts.map Value.ref ∧ (∀ (j : Nat) T p, Ts[j]? = some T → ps[j]? = some p → s.heap.IsTuple T #[.ref p.2.1, p.2.2]) ∧ (∀ p ∈ ps, NestedIs s.heap p.1 (.ref p.2.1) ∧ p.1.depth ≤ 8) ∧
      Keyed r.1 ((storedAllH xs ps).map (·.1)) ∧ HasL X.K q z r.1 ((storedAllH xs ps).map fun x => V.ref x.2.1) ∧ Vals us' ((storedAllH xs ps).map (·.2.2)) ∧ HasL X.K q z r.2 us'
  | [], vs, its, ks, ws, xs, us, r, hl, rv, hf, g3, g4, g5, g6 => by
    have := hl.nil_inv
    subst this
    cases rv
    have hf : some (ks, ws) = some r := hf
    cases hf
    exact ⟨[], [], us, rfl, rfl, rfl, (fun _ _ _ h => nomatch h), (fun _ h => nomatch h), g3, g4, g5, g6⟩
  | p :: l, vs, its, ks, ws, xs, us, r, hl, rv, hf, g3, g4, g5, g6 => by
    obtain ⟨k, v, x, rfl, hx, hf2⟩ := dctF_cons hf
    obtain ⟨pv, vr, rfl, h1, h2⟩ := hl.cons_inv
    cases rv with
    | @cons _ pu _ itr r1 r2 =>
      obtain ⟨T, tv, rfl, ht, hts⟩ := h1.ref_of_tup
      obtain ⟨kv, tr, rfl, hkv, ht2⟩ := hts.cons_inv
      obtain ⟨vv, tr2, rfl, hvv, ht3⟩ := ht2.cons_inv
      have := ht3.nil_inv
      subst this
      rw [show pu = Value.ref T from r1]
      obtain ⟨it2, rvt, pl, hz⟩ := I.tuple ht
      cases rvt with
      | @cons _ uk _ _ rk rr =>
        cases rr with
        | @cons _ uv _ _ ru rn =>
          cases rn
          obtain ⟨hk1, hk2, tl, rfl⟩ := keyT_tup hx
          obtain ⟨b, bv, rfl, _⟩ := hkv.ref_of_tup
          obtain rfl : uk = Value.ref b := rk
          obtain ⟨us2, n1, n2, n3, n4⟩ := store_at (dv := v) (ks := ks) (vs := ws) hx hkv hvv ru g3 g4 g5 g6
          obtain ⟨Ts, ps, us', a1, a2, a3, a4, a5, a6⟩ := pairs_of I l vr itr _ _ (storedH xs x b uv) us2 r h2 r2 hf2 n1 n2 n3 n4
          refine ⟨T :: Ts, (x, b, uv) :: ps, us', by simp [a1], by simp [a2], by simp [a3], fun j T' p' h1 h2 => ?_, fun p' hp => ?_, a6⟩
          · cases j with
            | zero =>
              simp at h1 h2
              subst h1 h2
              obtain ⟨o, ho, hc, n, hd⟩ := pl
              exact ⟨o, ho, hc, n, hd⟩
            | succ j =>
              simp at h1 h2
              exact a4 j T' p' h1 h2
          · rcases List.mem_cons.mp hp with rfl | hp
            · exact ⟨has_key I (.tup tl) x (.ref b) (.ref b) hk1 hkv rfl, hk2⟩
            · exact a5 p' hp
def rDctP (K : PySem.W.Frag) (q : Par) : List V → Hp → VK → Prop := fun vs H Q => ∃ (z : Z) (l : List D) (r : List D × List D), z.H = H ∧ Ok K q z ∧ HasL K q z [.lst l] vs ∧ dctP l = some r ∧ l.length ≤ sizeLine ∧ Post K q z Q (.dct r.1 r.2)
theorem call_dictP (hu : X.A.units + 64 < cLine) (hc : X.calm = true) (hP : q.P = X.prog) (hW : q.W = X.w) : CallR X (.type "dict") (rDctP X.K q) := by
  intro pins s σ H vs us Q I rv h
  obtain ⟨z, l, r, rfl, ok, hv, hd, hz, hp⟩ := h
  obtain ⟨v, vr, rfl, h1, h2⟩ := hv.cons_inv
  have := h2.nil_inv
  subst this
  obtain ⟨a, ws, rfl, ha, fa, hw⟩ := h1.of_lst
  cases rv with
  | @cons _ u _ _ r1 r2 =>
    cases r2
    rw [show u = Value.ref a from r1]
    obtain ⟨hz2, its, n, rvs, hob⟩ := I.hok a _ ha
    obtain ⟨Ts, ps, us', a1, a2, a3, a4, a5, a6, a7, a8, a9⟩ := pairs_of (q := q) I l ws its [] [] [] [] r hw rvs hd rfl HasL.nil .nil HasL.nil
    have hPI : PairItems s.heap its.toArray (fun j => Ts.getD j 0) (ps.map fun p => (Value.ref p.2.1, p.2.2)) := by
      refine ⟨by rw [a3, List.size_toArray, List.length_map, List.length_map, a1, a2], fun j k v hj => ?_⟩
      rw [List.getElem?_map, Option.map_eq_some_iff] at hj
      obtain ⟨p, hpj, e⟩ := hj
      cases e
      have hjl : j < Ts.length := by
        have := (List.getElem?_eq_some_iff.mp hpj).1
        omega
      have hT : Ts[j]? = some (Ts.getD j 0) := by
        rw [List.getD_eq_getElem?_getD, List.getElem?_eq_getElem hjl]; rfl
      refine ⟨?_, .inl (a4 j _ p hT hpj)⟩
      rw [List.getElem?_toArray, a3, List.getElem?_map, hT]; rfl
    have hkeys : ∀ h' : Heap, (∀ b o, s.heap.get? b = some o → h'.get? b = some o) → ∀ x ∈ ps, (nestedKind X.prog X.w).is h' x.1 x.2.1 := fun h' hk x hx => ⟨NestedIs.at (fun b o vs n e _ => hk b o e) _ _ (a5 x hx).1, (a5 x hx).2⟩
    refine call_dict_pairsH (knd := nestedKind X.prog X.w) (ps := ps) (PairArg.list a its.toArray (fun j => Ts.getD j 0) (ps.map fun p => (Value.ref p.2.1, p.2.2))) (I.ok.hd hc) ?_ ⟨⟨_, n, hob, rfl, rfl, rfl⟩, hPI⟩ ?_ ?_ ?_ ?_
    · show X.A.units + 1 + 1 + 8 < cLine
      omega
    · refine ⟨by rw [List.length_map], fun i key v hr => ?_⟩
      have hr : (ps.map fun p => (Value.ref p.2.1, p.2.2))[i]? = some (key, v) := hr
      rw [List.getElem?_map, Option.map_eq_some_iff] at hr
      obtain ⟨p, hpj, e⟩ := hr
      cases e
      exact ⟨p.1, p.2.1, hpj, rfl⟩
    · exact fun h' hk => hkeys h' fun b o e => hk b o (Nat.ne_of_lt (Heap.lt_size e)) (by simp) e
    · rw [List.length_map, a1]; exact hz
    · intro h' tk hD hk
      have hk : ∀ b o, s.heap.get? b = some o → h'.get? b = some o := fun b o e => hk b o (by simp) e
      obtain ⟨o, es, ep, f1, f2, f3, f4, f5, f6⟩ := hD
      have hpn := I.hok.fresh (H := z.H) (Nat.le_refl _)
      have hlen : (storedAllH [] ps).length ≤ sizeLine := by
        have := storedAllH_length ps []
        simp only [List.length_nil] at this
        omega
      have lo : (s.heap.objs.size == sysModules) = false := beq_eq_false_iff_ne.mpr (Ne.symm (Nat.ne_of_lt I.big))
      refine ⟨.ref s.heap.objs.size, upd z.H s.heap.objs.size (DictO s.heap.objs.size o), I.laid (a := s.heap.objs.size) (t' := tk) hk (Nat.le_refl _) ⟨f1, ⟨_, f1⟩, fun h1 h2 e1 e2 => e2 _ e1⟩, rfl, ?_⟩
      refine hp.put ok hpn ?_
      have okp := ok.put (o := DictO s.heap.objs.size o) hpn
      have ex : Ext z (z.put s.heap.objs.size (DictO s.heap.objs.size o)) := Ext.put hpn
      simp only [Has]
      exact ⟨s.heap.objs.size, o, _, us', rfl, upd_same, ⟨es, ep, f2, f3, by rw [f4, hP, hW], f6, hlen, lo⟩, a6, HasL.ext ok ex _ _ a7, a8, HasL.ext ok ex _ _ a9, ok.freeNew hpn⟩
theorem sd_dctP {x : Str} {pp pos : Pos} {e : Expr} {m : PV.E} (hu : X.A.units + 64 < cLine) (hc : X.calm = true) (hP : q.P = X.prog) (hW : q.W = X.w) (hg : Gl X x) (hm : X.mg x = none) (hv : bootBuiltins x = some (.type "dict")) (h : Sd X q S e m)
    (hn : x ≠ "__name__" := by decide) (hdb : (x == ("__debug__" : Str)) = false := by decide) (he : starEach [e] X.env = (false, eval e X.env) :: starEach [] X.env := by rfl) (hpl : (backTo pos (starEach [] X.env)).any (·.1) = false := by rfl) : Sd X q S (.Call (.Name x pp) [e] [] pos) (.dctP m) := fun E tk =>
  pe_imp (pe_callTy (call_dictP hu hc hP hW) hg hm hv (pa_cons (h E tk) pa_nil he) hn hdb he hpl) fun σ H Q ⟨z, ρ, hH, ok, rl, w⟩ => ⟨z, ρ, hH, ok, rl, (wp.bind w).mono fun d z1 ok1 e1 w1 v hv => by
    cases d with
    | lst l =>
      have w1 : wp X.K q z1 (match dctP l with
        | some p => if l.length ≤ sizeLine then PV.R.ok (PV.D.dct p.1 p.2) z1.G else .bad
        | none => .bad) (PQ X.K q Q) E := w1
      split at w1
      · rename_i p hp
        split at w1
        · rename_i hz
          exact ⟨z1, l, p, rfl, ok1, HasL.cons hv HasL.nil, hp, hz, w1⟩
        · exact w1.elim
      · exact w1.elim
    | _ => exact w1.elim⟩
end
end PV
end
/-! ## PVf -/
section
set_option Elab.async false
set_option linter.all false
set_option maxRecDepth 100000
set_option maxHeartbeats 4000000
/-! Objects: a field read. -/
namespace PV
open PySem L2 LamX PyProof.Rows RZ
section
variable {X : Cx} {q : Par} {S : PV.Sem} {K : PySem.W.Frag} {z : Z}
theorem fld_at : ∀ {fn : List Str} {ds : List D} {vs : List V} {f : Str} {d : D}, fldD fn ds f = some d → HasL K q z ds vs → ∃ v, (fn.zip vs).lookup f = some v ∧ Has K q z d v
  | [], ds, vs, f, d, h, _ => by cases ds <;> cases h
  | n :: fn, [], vs, f, d, h, _ => by cases h
  | n :: fn, e :: ds, vs, f, d, h, hv => by
    obtain ⟨v, vr, rfl, h1, h2⟩ := hv.cons_inv
    unfold fldD at h
    by_cases hf : (f == n) = true
    · rw [if_pos hf] at h
      cases h
      exact ⟨v, by show List.lookup f ((n, v) :: fn.zip vr) = _; simp only [List.lookup, hf], h1⟩
    · rw [if_neg hf] at h
      obtain ⟨w, hw, hd⟩ := fld_at h h2
      refine ⟨w, ?_, hd⟩
      show List.lookup f ((n, v) :: fn.zip vr) = _
      have hf : (f == n) = false := by simpa using hf
      simp only [List.lookup, hf]
      exact hw
/-- what stands where an object is -/
theorem obj_at {x : D} {v : V} {c : Nat} {fn : List Str} {fs : List D} (ok : Ok K q z) (h : objAt z.G x = some (c, fn, fs)) (hv : Has K q z x v) : ∃ a dx vs, v = .ref a ∧ z.H a = some (.ins (q.clA c) dx (fn.zip vs)) ∧ fn.length = fs.length ∧ HasL K q z fs vs := by
  cases x <;> simp only [objAt, reduceCtorEq] at h
  · rename_i n
    split at h <;> cases h
    rename_i hn
    obtain ⟨a, rfl, hua, dx, vs, h1, h2, h3⟩ := cell_at ok hv hn
    exact ⟨a, dx, vs, rfl, h1, h2, h3⟩
  · cases h
    simp only [Has] at hv
    obtain ⟨a, dx, vs, rfl, h1, h2, h3, _⟩ := hv
    exact ⟨a, dx, vs, rfl, h1, h2, h3⟩
/-- e.f -/
theorem sd_fld {e : Expr} {m : PV.E} {f : Str} {pos : Pos} (hf : ∀ c, S.flds c f = true → Cls X.K (q.clA c) ∧ NoAttr X.K (q.clA c) f) (h : Sd X q S e m) (hb : attributeBase e f X.env (eval e X.env) = eval e X.env := by rfl) : Sd X q S (.Attribute e f pos) (.fld m f) := fun E tk =>
  pe_imp (pe_fld (h E tk) hb) fun σ H Q ⟨z, ρ, hH, ok, rl, w⟩ => ⟨z, ρ, hH, ok, rl, (wp.bind w).mono fun d z1 ok1 e1 w1 v hv => by
    have w1 : wp X.K q z1 (match objAt z1.G d with
      | some (c, fn, fs) => if S.flds c f = true then PV.R.of (fldD fn fs f) z1.G else .bad
      | none => .bad) (PQ X.K q Q) E := w1
    split at w1
    · rename_i c fn fs ho
      split at w1
      · rename_i hc
        obtain ⟨a, dx, vs, rfl, h1, h2, h3⟩ := obj_at ok1 ho hv
        obtain ⟨d', hd', hp⟩ := wp.of w1
        obtain ⟨u, hu, hdu⟩ := fld_at hd' h3
        exact ⟨a, q.clA c, dx, _, u, rfl, h1, (hf c hc).1, (hf c hc).2, hu, hp z1 rfl ok1 (Ext.refl _) u hdu⟩
      · exact w1.elim
    · exact w1.elim⟩
theorem putF_new {f : Str} {y : V} : ∀ {fn : List Str} {vs : List V}, fn.contains f = false → fn.length = vs.length → putF f y (fn.zip vs) = (fn ++ [f]).zip (vs ++ [y])
  | [], [], _, _ => rfl
  | [], _ :: _, _, h => by cases h
  | _ :: _, [], _, h => by cases h
  | n :: fn, v :: vs, h, hl => by
    rw [List.contains_cons, Bool.or_eq_false_iff] at h
    have hne : ¬ n = f := fun e => by
      subst e
      have := h.1
      simp at this
    show (if n = f then (n, y) :: fn.zip vs else (n, v) :: putF f y (fn.zip vs)) = _
    rw [if_neg hne, putF_new h.2 (by simpa using hl)]
    rfl
/-- o.f = e, a new field -/
theorem ss_setfld {o e : Expr} {mo me : PV.E} {f : Str} {pos' pos : Pos} (hf : ∀ c, S.flds c f = true → Cls X.K (q.clA c) ∧ NoAttr X.K (q.clA c) f) (ho : Sd X q S o mo) (he : Sd X q S e me) (hs : swapsWith e (some (.Attribute o f pos')) pos.line X.env = pure false := by rfl) : SdS X q S (.Assign [.Attribute o f pos'] e pos) (.setfld mo f me) := fun E tk =>
  ps_imp (ps_fld (ho E tk) (he E tk) hs) fun D σ H ⟨z, ρ, hH, ok, rl, w⟩ => ⟨z, ρ, hH, ok, rl, (wpF.go w).mono fun d z1 ok1 e1 w1 v hv =>
    ⟨z1, ρ, rfl, ok1, rl.ext ok e1, (wpF.go w1).mono fun x z2 ok2 e2 w2 u hu => by
      cases x with
      | cell n =>
        have w2 : wpF X.K q z2 (match z2.G[n]? with
          | some (some (.rcd c fn fs)) => if S.flds c f = true ∧ fn.length < 1000 ∧ fn.contains f = false then F.next ρ (z2.G.set n (some (.rcd c (fn ++ [f]) (fs ++ [d])))) else .bad
          | _ => .bad) D E := w2
        split at w2
        · rename_i c fn fs hn
          split at w2
          · rename_i hc
            obtain ⟨a, rfl, hua, dx, vs, h1, h2, h3⟩ := cell_at ok2 hu hn
            have hl : fn.length = vs.length := by rw [h3.len]; exact h2
            have hv2 := Has.ext ok1 e2 d v hv
            refine ⟨a, q.clA c, dx, _, rfl, h1, (hf c hc.1).1, (hf c hc.1).2, by rw [List.length_zip]; omega, ?_⟩
            rw [putF_new hc.2.2 hl]
            refine w2 (z2.stC n a (.rcd c (fn ++ [f]) (fs ++ [d])) (.ins (q.clA c) dx ((fn ++ [f]).zip (vs ++ [v])))) σ rfl (ok_stC ok2 hn hua (fun _ x => nomatch x) fun z' m hp => ⟨dx, vs ++ [v], hp, by rw [List.length_append, List.length_append, h2]; rfl, HasL.mv m _ _ (h3.app (HasL.cons hv2 HasL.nil))⟩) (ext_stC ok2 hn hua (fun _ x => nomatch x)) ?_
            exact (((rl.ext ok e1).ext ok1 e2)).ext ok2 (ext_stC ok2 hn hua (fun _ x => nomatch x))
          · exact w2.elim
        · exact w2.elim
      | _ => exact w2.elim⟩⟩
/-! ### methods -/
structure MetAt (P : Program) (w : World) (K : PySem.W.Frag) (mg : Str → Option Value) (base : Heap) (q : Par) (S : PV.Sem) (k c g : Nat) (m : Str) : Prop where
  ex : ∃ f fd ps ds, FnOk P w K mg base (L2.CX P w) k f fd ps (spC K q S g ps.length) ∧ Meth K (q.clA c) m f ∧ Binds K fd ps ds ∧ Vals [] ds ∧ ∀ ds G, ds.length ≠ ps.length → S.cal g ds G = .bad
  cl : Cls K (q.clA c)
theorem lookup_no {m : Str} : ∀ {fn : List Str} {vs : List V}, fn.contains m = false → (fn.zip vs).lookup m = none
  | [], vs, _ => rfl
  | n :: fn, [], _ => rfl
  | n :: fn, v :: vs, h => by
    rw [List.contains_cons, Bool.or_eq_false_iff] at h
    show List.lookup m ((n, v) :: fn.zip vs) = _
    simp only [List.lookup, h.1]
    exact lookup_no h.2
theorem sd_mth {k c g : Nat} {m : Str} {apos pos : Pos} {o e : Expr} {es : List Expr} {mo : PV.E} {ms : List PV.E} {pl : PySem.Sem Bool} (M : MetAt X.prog X.w X.K X.mg X.base q S k c g m) (hr : Room k X.A) (ho : Sd X q S o mo) (ha : SdA X q S (e :: es) ms)
    (hst : starEach (e :: es) X.env = (false, eval e X.env) :: starEach es X.env := by rfl) (hpl : (backTo pos (starEach es X.env)).any (·.1) = false := by rfl)
    (ht : eval (.Call (.Attribute o m apos) (e :: es) [] pos) X.env = (do
      let ov ← eval o X.env
      standAt apos.atName
      let (f, first) ← holding [ov] (getMethod ov m pl)
      callWith pos f first (backTo pos (starEach (e :: es) X.env)) (backToKw pos (keywordEach [] X.env))) := by rfl) : Sd X q S (.Call (.Attribute o m apos) (e :: es) [] pos) (.mth c g m mo ms) := fun E tk => by
  obtain ⟨f, fd, ps, ds, F1, hm, hb, hv, ar⟩ := M.ex
  exact pe_imp (pe_meth (ho E tk) M.cl hm F1 hr hb hv (passes_tk tk) (ha E tk) hst hpl ht) fun σ H Q ⟨z, ρ, hH, ok, rl, w⟩ => ⟨z, ρ, hH, ok, rl, (wp.bind w).mono fun d z1 ok1 e1 w1 v hv => by
    have w1 : wp X.K q z1 (match objAt z1.G d with
      | some (c', fn, _) => if c' = c ∧ fn.contains m = false then (evEs S ρ ms z1.G).bind fun ds G2 => S.cal g (d :: ds) G2 else .bad
      | none => .bad) (PQ X.K q Q) E := w1
    split at w1
    · rename_i c' fn fs hob
      split at w1
      · rename_i hc
        obtain ⟨a, dx, vs, rfl, h1, h2, h3⟩ := obj_at ok1 hob hv
        refine ⟨a, dx, _, rfl, by rw [← hc.1]; exact h1, lookup_no hc.2, z1, ρ, rfl, ok1, rl.ext ok e1, (wp.bind w1).mono fun ds' z2 ok2 e2 w2 us hus => ?_⟩
        show spC X.K q S g ps.length (V.ref a :: (us ++ [])) z2.H Q E
        rw [List.append_nil]
        exact call_pre ar ok2 (HasL.cons (Has.ext ok1 e2 _ _ hv) hus) w2
      · exact w1.elim
    · exact w1.elim⟩
theorem sd_mth0 {k c g : Nat} {m : Str} {apos pos : Pos} {o : Expr} {mo : PV.E} {pl : PySem.Sem Bool} (M : MetAt X.prog X.w X.K X.mg X.base q S k c g m) (hr : Room k X.A) (ho : Sd X q S o mo)
    (ht : eval (.Call (.Attribute o m apos) [] [] pos) X.env = (do
      let ov ← eval o X.env
      standAt apos.atName
      let (f, first) ← holding [ov] (getMethod ov m pl)
      callWith pos f first (backTo pos (starEach [] X.env)) (backToKw pos (keywordEach [] X.env))) := by rfl) : Sd X q S (.Call (.Attribute o m apos) [] [] pos) (.mth c g m mo []) := fun E tk => by
  obtain ⟨f, fd, ps, ds, F1, hm, hb, hv, ar⟩ := M.ex
  exact pe_imp (pe_meth0 (ho E tk) M.cl hm F1 hr hb hv (passes_tk tk) ht) fun σ H Q ⟨z, ρ, hH, ok, rl, w⟩ => ⟨z, ρ, hH, ok, rl, (wp.bind w).mono fun d z1 ok1 e1 w1 v hv => by
    have w1 : wp X.K q z1 (match objAt z1.G d with
      | some (c', fn, _) => if c' = c ∧ fn.contains m = false then (evEs S ρ [] z1.G).bind fun ds G2 => S.cal g (d :: ds) G2 else .bad
      | none => .bad) (PQ X.K q Q) E := w1
    split at w1
    · rename_i c' fn fs hob
      split at w1
      · rename_i hc
        obtain ⟨a, dx, vs, rfl, h1, h2, h3⟩ := obj_at ok1 hob hv
        refine ⟨a, dx, _, rfl, by rw [← hc.1]; exact h1, lookup_no hc.2, ?_⟩
        exact call_pre ar ok1 (HasL.cons hv HasL.nil) w1
      · exact w1.elim
    · exact w1.elim⟩
/-! ### making -/
structure MakeAt (P : Program) (w : World) (K : PySem.W.Frag) (mg : Str → Option Value) (base : Heap) (q : Par) (S : PV.Sem) (k c g : Nat) (x : Str) : Prop where
  ex : ∃ f fd ps ds, FnOk P w K mg base (L2.CX P w) k f fd ps (spC K q S g ps.length) ∧ Mk K (q.clA c) f ∧ mg x = some (.ref (q.clA c)) ∧ Binds K fd ps ds ∧ Vals [] ds ∧ ∀ ds G, ds.length ≠ ps.length → S.cal g ds G = .bad
theorem make_imp {c g n : Nat} {z1 : Z} {ds : List D} {vs : List V} {Q : VK} {E : XK} (ar : ∀ ds G, ds.length ≠ n → S.cal g ds G = .bad) (ok1 : Ok X.K q z1) (hvs : HasL X.K q z1 ds vs)
    (w1 : wp X.K q z1 ((S.cal g (.cell z1.G.length :: ds) (z1.G ++ [some (.rcd c [] [])])).bind fun r G2 => match r with
      | .non => (match G2[z1.G.length]? with
        | some (some (.rcd c' fn fs)) => PV.R.ok (PV.D.obj c' fn fs) (G2.set z1.G.length none)
        | _ => .bad)
      | _ => .bad) (PQ X.K q Q) E) (x dx : Addr) (hx : z1.H x = none) (hdx : z1.H dx = none) (hne : dx ≠ x) :
    spC X.K q S g n (.ref x :: (vs ++ [])) (upd (upd z1.H dx (.own x)) x (.ins (q.clA c) dx [])) (fun v H2 => v = .non ∧ Q (.ref x) H2) E := by
  have okp := ok1.put (o := .own x) hdx
  have exp : Ext z1 (z1.put dx (.own x)) := Ext.put hdx
  have hx' : (z1.put dx (.own x)).H x = none := by
    show upd z1.H dx _ x = none
    rw [upd_ne (Ne.symm hne)]; exact hx
  have ok2 : Ok X.K q ((z1.put dx (.own x)).cell x (.rcd c [] []) (.ins (q.clA c) dx [])) := okp.cell hx' fun z' m hp => ⟨dx, [], hp, rfl, HasL.nil⟩
  have ex2 : Ext z1 ((z1.put dx (.own x)).cell x (.rcd c [] []) (.ins (q.clA c) dx [])) := exp.trans (Ext.cell okp hx')
  have hc : Has X.K q ((z1.put dx (.own x)).cell x (.rcd c [] []) (.ins (q.clA c) dx [])) (.cell z1.G.length) (.ref x) := has_cell (by
    show (z1.μ ++ [x])[z1.G.length]? = some x
    rw [← ok1.len]; simp)
  rw [List.append_nil]
  refine call_pre (z := (z1.put dx (.own x)).cell x (.rcd c [] []) (.ins (q.clA c) dx [])) (ds := .cell z1.G.length :: ds) ar ok2 (HasL.cons hc (HasL.ext ok1 ex2 _ _ hvs)) ?_
  have w2 := wp.ext ex2 w1
  refine (wp.bind w2).mono fun r z3 ok3 e3 w3 v hv => ?_
  cases r with
  | non =>
    refine ⟨hv.of_non, ?_⟩
    have w3 : wp X.K q z3 (match z3.G[z1.G.length]? with
        | some (some (.rcd c' fn fs)) => PV.R.ok (PV.D.obj c' fn fs) (z3.G.set z1.G.length none)
        | _ => .bad) (PQ X.K q Q) E := w3
    split at w3
    · rename_i c' fn fs hl
      obtain ⟨ok4, ex4, a, ea, ⟨dx', vs', k1, k2, k3⟩, fr⟩ := take_cell ok3 (Has.ext ok2 e3 _ _ hc) hl
      cases ea
      refine w3 _ rfl ok4 ex4 _ ?_
      simp only [Has]
      exact ⟨x, dx', vs', rfl, k1, k2, k3, fr⟩
    · exact w3.elim
  | _ => exact w3.elim
theorem sd_make {k c g : Nat} {x : Str} {p pos : Pos} {e : Expr} {es : List Expr} {ms : List PV.E} (M : MakeAt X.prog X.w X.K X.mg X.base q S k c g x) (hr : Room (k + 1) X.A) (hg : Gl X x) (ha : SdA X q S (e :: es) ms)
    (hdb : (x == ("__debug__" : Str)) = false := by decide) (he : starEach (e :: es) X.env = (false, eval e X.env) :: starEach es X.env := by rfl) (hpl : (backTo pos (starEach es X.env)).any (·.1) = false := by rfl) : Sd X q S (.Call (.Name x p) (e :: es) [] pos) (.make c g ms) := fun E tk => by
  obtain ⟨f, fd, ps, ds, F1, hm, hmg, hb, hv, ar⟩ := M.ex
  exact pe_imp (pe_make hm F1 hr hg hmg hb hv (passes_tk tk) (ha E tk) hdb he hpl) fun σ H Q ⟨z, ρ, hH, ok, rl, w⟩ => ⟨z, ρ, hH, ok, rl, (wp.bind w).mono fun ds' z1 ok1 e1 w1 vs hvs => fun y dx hy hdy hne => make_imp ar ok1 hvs w1 y dx hy hdy hne⟩
end
end PV
end
/-! ## PV8 -/
section
set_option Elab.async false
set_option linter.all false
set_option maxRecDepth 100000
set_option maxHeartbeats 4000000
/-! The rules: what is told of a call that may be refused; lambdas. -/
namespace PV
open PySem L2 LamX PyProof.Rows RZ
/-- what the clauses tell of an exception -/
def Wt (K : PySem.W.Frag) (Q : VK) (cls : Value) (H : Hp) : List (Value × Str) → Prop
  | [] => False
  | (c, r) :: l => ∃ b, PySem.W.exmOne K cls c = some b ∧ (b = true → Q (.str r) H) ∧ (b = false → Wt K Q cls H l)
def TTm (K : PySem.W.Frag) (hl : List (Value × Str)) : (XK → Hp → VK → Prop) → Hp → VK → Prop := fun tl H Q => tl (fun cls _ H' => Wt K Q cls H' hl) H Q
abbrev sayT (r : Str) : Addr → Value → Option Addr → TS := fun _ _ _ => tRet (tC (.str r))
theorem wMany_of {K : PySem.W.Frag} {D : Ends} {cls : Value} {d : Option Addr} {σ : L2.St} {H : Hp} : ∀ {hl : List (Value × Str)}, Wt K D.rt cls H hl → wMany K (fun _ _ _ _ => False) D (hl.map fun p => (p.1, sayT p.2)) cls d σ H
  | [], h => h
  | (c, r) :: l, ⟨b, h1, h2, h3⟩ => ⟨b, h1, fun hb a _ => h2 hb, fun hb => wMany_of (h3 hb)⟩
section
variable {X : Cx} {q : Par} {S : PV.Sem}
theorem gives_many {Ng : List Str} {x a qn : Str} {sg : Scope} {g : Addr} {cdg : Value} {p1 p2 p3 p8 : Pos} {h0 : ExceptHandler} {hds : List ExceptHandler} {hl : List (Value × Str)}
    (hh : ∀ s H, HdsOk (cxOf C8.CX0 X.prog X.w X.K X.mg X.base Ng x sg g cdg X.A X.stack s H C8.E0).nox (h0 :: hds) (hl.map fun p => (p.1, sayT p.2))) (hf0 : ∀ f : Addr, (L2.start Ng [V.ref f])[0]? = some (some (V.ref f))) :
    GivesTo X Ng x sg g cdg [.Try [.Return (some (.Call (.Name a p1) [] [] p2)) p3] (h0 :: hds) [] [] p8] a qn (TTm X.K hl) := by
  intro f c1 st H Q tl act hcode hq
  let tbody : WX → TS := fun W D σ H => ∃ Eo : XK, (∀ cls d σ1 H1, Eo cls d H1 → W cls d σ1 H1) ∧ σ[0]? = some (some (.ref f)) ∧ H c1 = some (CodeO c1 qn) ∧ tl Eo H D.rt
  refine ⟨_, pss_one (ps_try_many (tb := tbody) (Wout := fun _ _ _ _ => False) rfl rfl L2.takes0 (fun W pn xe tk _ => ⟨fun pins s1 σ1 H1 D1 I1 hw => ?_⟩) (hh st H)), ?_⟩
  · obtain ⟨Eo, w1, w2, w3, w4⟩ := hw
    exact (pss_one (ps_ret (pos := p3) (act W pn xe Eo p1 p2 tk w1))).run pins s1 σ1 H1 D1 I1 ⟨w2, w3, w4⟩
  · exact ⟨fun cls _ H1 => Wt X.K Q cls H1 hl, fun cls d σ1 H1 hw => wMany_of hw, hf0 f, hcode, hq⟩
theorem ok_extN {K : PySem.W.Frag} {z : Z} (ok : Ok K q z) {H1 : Hp} (e : ExtN z.H H1) (t : Tabs q.T H1) : Ok K q { z with H := H1 } ∧ Ext z { z with H := H1 } := by
  have ex : Ext z { z with H := H1 } := by
    refine ⟨List.prefix_refl _, rfl, fun a l => .inl l, fun b o hb nt nl => e b o hb nt, fun b hn o hb => ?_⟩
    by_cases ht : ∃ ps, o = .tbl ps
    · exact ht
    · exact absurd (hn o (e b o hb fun ps hps => ht ⟨ps, hps⟩)) ht
  refine ⟨⟨ok.len, fun n ds hn => ?_, ok.inj, fun b hb => ?_, t⟩, ex⟩
  · obtain ⟨a, h1, h2, h4⟩ := ok.cells n ds hn
    exact ⟨a, h1, h2.mvAt (ex.mv ok) (fun u hu hc => e a u hu (fun ps ep => by subst ep; rcases hc with ⟨_, e⟩ | ⟨_, e, _⟩ | ⟨_, _, _, e⟩ <;> cases e)), h4⟩
  · obtain ⟨vs, hv⟩ := ok.blk b hb
    exact ⟨vs, e b _ hv (fun _ x => (nomatch x))⟩
theorem told_imp {E : XK} {mb : PV.E} {hl : List (Value × Str)} (ht : ∀ c r, S.told c = some r → ∀ (Q : VK) (H : Hp), Q (.str r) H → Wt X.K Q (q.cls c) H hl) {σ : L2.St} {H : Hp} {Q : VK} (h : rdE X.K q S E (.told mb) σ H Q) :
    tLam q.T (TTm X.K hl) (fun E' => rdE X.K q S E' mb) σ H Q := by
  obtain ⟨z, ρ, hH, ok, rl, w⟩ := h
  subst hH
  refine ⟨ok.tabs, fun H1 e t => ?_⟩
  obtain ⟨ok1, e1⟩ := ok_extN ok e t
  refine ⟨{ z with H := H1 }, ρ, rfl, ok1, rl.ext ok e1, ?_⟩
  have w : wp X.K q z (toldR S (evE S ρ mb z.G)) (PQ X.K q Q) E := w
  have w1 := wp.ext e1 w
  show wp X.K q { z with H := H1 } (evE S ρ mb z.G) _ _
  cases hr : evE S ρ mb z.G with
  | bad => rw [hr] at w1; exact w1.elim
  | ok d G' => rw [hr] at w1; exact w1
  | exc c G' =>
    rw [hr] at w1
    intro z2 hG ok2 e2
    have w1 : wp X.K q { z with H := H1 } (match S.told c with
      | some r => R.ok (.str r) G'
      | none => .bad) (PQ X.K q Q) E := w1
    cases hc : S.told c with
    | none => rw [hc] at w1; exact w1.elim
    | some r =>
      rw [hc] at w1
      exact ht c r hc Q z2.H (w1 z2 hG ok2 e2 _ Has.str)
/-- what is known of the def that tells: x(what) -/
structure ToldAt (K : PySem.W.Frag) (mg : Str → Option Value) (q : Par) (x a : Str) (Ng : List Str) (hl : List (Value × Str)) : Prop where
  ex : ∃ (g : Addr) (pg : Arguments) (bg : List Stmt) (sg : Scope) (dV kV doc pm cdv ct oc : Value) (an od : Option Addr) (osl : Array (Option Value)) (p1 p2 p3 p8 : Pos) (h0 : ExceptHandler) (hds : List ExceptHandler),
    mg x = some (.ref g) ∧ PySem.W.keepIn K (.ref g) = true ∧ K.lookup g = some ⟨oc, od, .func (PySem.W.fnOf x x pg bg sg dV kV doc pm an cdv ct), osl⟩ ∧ PySem.W.codeIn K cdv x = true ∧ L2.Binds K (PySem.W.fnOf x x pg bg sg dV kV doc pm an cdv ct) [a] [] ∧ FnScope Ng [a] sg ∧
    bg = [.Try [.Return (some (.Call (.Name a p1) [] [] p2)) p3] (h0 :: hds) [] [] p8] ∧ Ng[0]? = some a ∧ Vis sg a ∧ (∀ f : Addr, (L2.start Ng [V.ref f])[0]? = some (some (V.ref f))) ∧
    ∀ (P : Program) (w : World) (base : Heap) (A : Around) (stack : List PySem.Env) (s : Shared) (H : Hp), HdsOk (cxOf C8.CX0 P w K mg base Ng x sg g cdv A stack s H C8.E0).nox (h0 :: hds) (hl.map fun p => (p.1, sayT p.2))
theorem sd_told {x a : Str} {Ng : List Str} {hl : List (Value × Str)} {c P : Addr} {k : Nat} {params : Arguments} {body : Expr} {scope : Scope} {mb : PV.E} {p lpos pos : Pos} (Td : ToldAt X.K X.mg q x a Ng hl) (ht : ∀ c r, S.told c = some r → ∀ (Q : VK) (H : Hp), Q (.str r) H → Wt X.K Q (q.cls c) H hl)
    (hg : Gl X x) (TB : TabB X.base X.mg c P) (hcode : X.env.code = .ref c) (hmT : (P, X.env.qual ++ "<lambda>") ∈ q.T) (hu : ∀ p ∈ q.T, p.1 = P → p.2 = X.env.qual ++ "<lambda>") (hr : Room (k + 2) X.A) (L : LamS X.env.scope scope)
    (hbody : ∀ (A : Around) (outer : List PySem.Env) (s : Shared) (H : Hp) (E : XK) (f c' : Addr), Room k (A.deeper (lamEnv X scope s.heap.objs.size f c')) → Sd (lamCx X A outer s H E scope f c') q S body mb) (hdef : defaultsOf params X.env = ([], []) := by rfl)
    (hbind : ∀ (q : Str) (cl : List (Str × Addr)) (pm cv ctv : Value), bindArgs (PySem.W.kla_fn "<lambda>" q params body scope cl pm cv ctv) ⟨[], []⟩ = pure [] := by intros; rfl)
    (hdb : (x == ("__debug__" : Str)) = false := by decide) (hd : (a == ("__debug__" : Str)) = false := by decide) (hcd : (a == ("__classdict__" : Str)) = false := by decide) : Sd X q S (.Call (.Name x p) [.Lambda params body scope lpos] [] pos) (.told mb) := fun E tk => by
  obtain ⟨g, pg, bg, sg, dV, kV, doc, pm, cdv, ct, oc, an, od, osl, p1, p2, p3, p8, h0, hds, hm, hk, lk, hcg, hb, Sg, rfl, hNg, hva, hf0, hh⟩ := Td.ex
  exact pe_imp (pe_lamcall (t := fun E' => rdE X.K q S E' mb) hg hm hk lk hcg hb Sg hNg hva (gives_many (hl := hl) (fun s H => hh _ _ _ _ _ s H) hf0) TB hcode hmT hu hr L hdef hbind (fun A outer s H E' f c' hr' => hbody A outer s H E' f c' hr' E' (takes_of rfl rfl rfl rfl)) hdb hd hcd)
    fun σ H Q h => told_imp ht h
end
end PV
end
/-! ## PV9 -/
section
set_option Elab.async false
set_option linter.all false
set_option maxRecDepth 100000
set_option maxHeartbeats 4000000
/-! Lambdas that are kept: made, handed on, called by the def that tells. -/
namespace PV
open PySem L2 LamX PyProof.Rows RZ
section
variable {X : Cx} {pins : List (Addr × Obj)} {σ : L2.St} {H : Hp} {s : Shared}
theorem lamO_ok {P : Program} {w : World} {H : Hp} {h : Heap} {l : LamD} {f c : Addr} {pm ctv : Value} (e : h.get? f = some (PySem.W.kla_obj "<lambda>" l.qual l.params l.body l.scope [] pm c ctv)) : ObjOk P w H h f (lamO l f c) :=
  ⟨⟨pm, ctv, e⟩, ⟨_, e⟩, fun h1 h2 ⟨p1, c1, g⟩ st => ⟨p1, c1, st _ g⟩⟩
/-- a lambda is made and known -/
theorem lam_kept {T : List (Addr × Str)} {c P : Addr} {l : LamD} {pos : Pos} {E : Value → Shared → Prop} {Q : Value → Shared → Prop} (I : Inv X pins σ H s) (TB : TabB X.base X.mg c P) (hcode : X.env.code = .ref c) (hq : l.qual = X.env.qual ++ "<lambda>")
    (hm : (P, l.qual) ∈ T) (hu : ∀ p ∈ T, p.1 = P → p.2 = l.qual) (hT : Tabs T H) (hdef : defaultsOf l.params X.env = ([], [])) (hfree : ∀ y ∈ l.scope.names, y.2 = .free → ∃ c, X.env.cells.lookup y.1 = some c) (hclo : cloFrom X.env.cells l.scope.names [] = [])
    (h : ∀ (f c1 : Addr) (H2 : Hp) (s2 : Shared), Inv X pins σ H2 s2 → ExtN H H2 → Tabs T H2 → H2 f = some (lamO l f c1) → H2 c1 = some (CodeO c1 l.qual) → Q (.ref f) s2) :
    wpAny (model X.prog X.w) X.A (eval (.Lambda l.params l.body l.scope pos) X.env) Q E s := by
  obtain ⟨tab, hP, htri, hnames⟩ := hT _ hm
  have gP : s.heap.get? P = some { cls := .none, data := .fields tab } := I.hok P _ hP
  have bP := TB.bm.keeps I.bk
  have hclo2 : closureFor l.scope X.env = pure [] := by rw [closure_ok hfree, hclo]
  -- the last step of both ways: the function object is laid and known
  have last : ∀ {H1 : Hp} {h1 : Heap} {t1 t2 : Nat} {c1 : Addr} {pm ctv : Value}, Inv X pins σ H1 { s with heap := h1, toks := t1 } → ExtN H H1 → Tabs T H1 → H1 c1 = some (CodeO c1 l.qual) →
      Q (.ref h1.objs.size) { s with heap := h1.push (PySem.W.kla_obj "<lambda>" l.qual l.params l.body l.scope [] pm c1 ctv), toks := t2 } := fun {H1 h1 t1 t2 c1 pm ctv} J en tb hc1 => by
    have nF : H1 h1.objs.size = none := J.hok.fresh (Nat.le_refl _)
    have J2 := J.laid (a := h1.objs.size) (o := lamO l h1.objs.size c1) (t' := t2) (h' := h1.push (PySem.W.kla_obj "<lambda>" l.qual l.params l.body l.scope [] pm c1 ctv)) (fun b u e => Heap.get?_push_of_some _ e) (Nat.le_refl _) (lamO_ok (Heap.get?_push_size _ rfl))
    exact h h1.objs.size c1 _ _ J2 (en.trans (ExtN.of fun b o e => by rw [upd_ne (ne_of_none e nF)]; exact e)) (tb.ext fun b o e => by rw [upd_ne (ne_of_none e nF)]; exact e) upd_same (by rw [upd_ne (ne_of_none hc1 nF)]; exact hc1)
  refine PySem.W.kla_eval hdef ?_
  rw [← hq]
  cases hfind : codeAmong pos tab.toList with
  | some cv =>
    obtain ⟨c1, rfl, hc1⟩ := hnames pos cv hfind
    exact PySem.W.kla_makeFunctionHit (mg := X.mg) hclo2 I.ok.glob (I.mod.glob.keeps I.bk) hcode (TB.code.keeps I.bk) gP htri hfind bP fun ctv h1 t2 keep _ => last (I.kept (t' := s.toks) keep) (ExtN.refl H) hT hc1
  | none =>
    refine PySem.W.kla_makeFunction (mg := X.mg) hclo2 I.ok.glob (I.mod.glob.keeps I.bk) hcode (TB.code.keeps I.bk) gP htri hfind TB.gP bP fun c1 ctv h1 t2 but low lt rec tabP => ?_
    obtain ⟨c2, oc, vs, tk, e2, g1, g2, g3⟩ := rec
    cases e2
    have nC : H c1 = none := I.hok.fresh low
    have J := inv_table (t' := s.toks) (more := #[rawInt pos.line, rawInt pos.col, .ref c1]) (q := l.qual) I hP (fun b o hb e => but b o hb e) tabP low ⟨oc, vs, tk, g1, g2, g3⟩
    have en : ExtN H (upd (upd H P (.tbl (tab ++ #[rawInt pos.line, rawInt pos.col, .ref c1]))) c1 (CodeO c1 l.qual)) := fun b o e nt => by
      rw [upd_ne (ne_of_none e nC), upd_ne (fun e' => nt tab (Option.some.inj (e.symm.trans (by rw [e']; exact hP))))]
      exact e
    refine last J en (fun p hp => ?_) upd_same
    by_cases hb : p.1 = P
    · rw [hu p hp hb, hb]
      refine ⟨tab ++ #[rawInt pos.line, rawInt pos.col, .ref c1], by rw [upd_ne (ne_of_none hP nC), upd_same], ?_, fun p1 cv hcv => ?_⟩
      · rw [Array.toList_append]
        exact PySem.TriplesOk_snoc _ _ _ _ htri
      · rw [Array.toList_append] at hcv
        rcases among_app _ htri hcv with hcv | hcv
        · obtain ⟨c0, k1, k2⟩ := hnames p1 cv hcv
          exact ⟨c0, k1, en _ _ k2 codeO_ne⟩
        · exact ⟨c1, hcv, upd_same⟩
    · obtain ⟨ps1, a1, a2, a3⟩ := hT p hp
      refine ⟨ps1, by rw [upd_ne (ne_of_none a1 nC), upd_ne hb]; exact a1, a2, fun p1 cv hcv => ?_⟩
      obtain ⟨c0, k1, k2⟩ := a3 p1 cv hcv
      exact ⟨c0, k1, en _ _ k2 codeO_ne⟩
end
section
variable {X : Cx} {q : Par} {S : PV.Sem}
theorem sd_lam {k : Nat} {c P : Addr} {params : Arguments} {body : Expr} {scope : Scope} {pos : Pos} (hl : q.lamD k = ⟨X.env.qual ++ "<lambda>", params, body, scope⟩) (TB : TabB X.base X.mg c P) (hcode : X.env.code = .ref c) (hm : (P, X.env.qual ++ "<lambda>") ∈ q.T) (hu : ∀ p ∈ q.T, p.1 = P → p.2 = X.env.qual ++ "<lambda>")
    (hfree : ∀ y ∈ scope.names, y.2 = .free → False) (hclo : cloFrom X.env.cells scope.names [] = [] := by rfl) (hdef : defaultsOf params X.env = ([], []) := by rfl) : Sd X q S (.Lambda params body scope pos) (.lam k) := fun E tk => ⟨fun pins s σ H Q I ⟨z, ρ, hH, ok, rl, w⟩ => by
  subst hH
  refine lam_kept (l := ⟨X.env.qual ++ "<lambda>", params, body, scope⟩) I TB hcode rfl hm hu ok.tabs hdef (fun y hy e => (hfree y hy e).elim) hclo fun f c1 H2 s2 I2 en tb h1 h2 => ?_
  obtain ⟨ok2, e2⟩ := ok_extN ok en tb
  refine ⟨.ref f, H2, I2, rfl, w { z with H := H2 } rfl ok2 e2 _ ?_⟩
  simp only [Has]
  exact ⟨f, c1, rfl, by rw [hl]; exact h1, by rw [hl]; exact h2⟩⟩
end
end PV
end
/-! ## PVq -/
section
set_option Elab.async false
set_option linter.all false
set_option maxRecDepth 100000
set_option maxHeartbeats 4000000
/-! sorted(x, key=lambda r: r[0] * (c // r[1])) -/
namespace PV
open PySem L2 LamX PyProof.Rows RZ
theorem dle_int (x y : D × Int) : PySem.W.dataLe false (fun b : D × Int => PyData.int b.2) x y = decide (x.2 ≤ y.2) := by
  show (!PyProof.Rows.lexLt PyProof.Rows.itemOrd (PySem.W.keyToks (.int y.2)) (PySem.W.keyToks (.int x.2))) = _
  simp only [PySem.W.keyToks, PyProof.Rows.lexLt, Bool.and_false, Bool.or_false]
  show (!decide (y.2 < x.2)) = _
  by_cases h : y.2 < x.2
  · rw [decide_eq_true h, decide_eq_false (by omega)]; rfl
  · rw [decide_eq_false h, decide_eq_true (by omega)]; rfl
theorem insQ_eq (x : D × Int) : ∀ l, PySem.W.insB (PySem.W.dataLe false fun b : D × Int => PyData.int b.2) x l = insQ x l
  | [] => rfl
  | y :: r => by
    show (if PySem.W.dataLe false (fun b : D × Int => PyData.int b.2) x y = true then x :: y :: r else y :: PySem.W.insB _ x r) = if x.2 ≤ y.2 then x :: y :: r else y :: insQ x r
    rw [dle_int, insQ_eq x r]
    by_cases h : x.2 ≤ y.2
    · rw [if_pos h, if_pos (decide_eq_true h)]
    · rw [if_neg h, if_neg (by simpa using h)]
theorem srtQ_eq : ∀ l, PySem.W.isortB (PySem.W.dataLe false fun b : D × Int => PyData.int b.2) l = srtQ l
  | [] => rfl
  | x :: r => by
    show PySem.W.insB _ x (PySem.W.isortB _ r) = insQ x (srtQ r)
    rw [srtQ_eq r, insQ_eq]

open PySem.W PyProof.Rows in
theorem keysQ_at {K : PySem.W.Frag} {q : Par} {z : Z} {c : Int} : ∀ {l : List D} {ks : List Int} {vs : List V} {us : List Value}, keysQ c l = some ks → HasL K q z l vs → Vals vs us → l.length = ks.length ∧ EachIs (fun u (b : D × Int) => ∃ x, RelV x u ∧ Has K q z b.1 x ∧ ∃ n d, b.1 = .tup [.int n, .int d] ∧ b.2 = n * c.fdiv d ∧ d ≠ 0 ∧ d.natAbs < 1073741824 ∧ n.natAbs.log2 + (c.fdiv d).natAbs.log2 < 1000000) us (l.zip ks)
  | [], ks, vs, us, h, hv, r => by
    simp only [keysQ, Option.some.injEq] at h
    subst h
    have e := hv.nil_inv
    subst e
    cases r
    exact ⟨rfl, .nil⟩
  | e :: l, ks, vs, us, h, hv, r => by
    unfold keysQ at h
    split at h
    · rename_i hh; cases hh
    · rename_i n d r' hh
      cases hh
      split at h
      · rename_i hc
        simp only [Option.map_eq_some_iff] at h
        obtain ⟨ks', hk, rfl⟩ := h
        obtain ⟨v, vr, rfl, g1, g2⟩ := hv.cons_inv
        cases r with
        | cons r1 r2 =>
          obtain ⟨h1, h2⟩ := keysQ_at hk g2 r2
          exact ⟨by rw [List.length_cons, List.length_cons, h1], .cons ⟨v, r1, g1, n, d, rfl, rfl, hc⟩ h2⟩
      · cases h
    · cases h
section
variable {X : Cx} {q : Par} {S : PV.Sem} {E : XK}
/-- sorted(x, key=f) of a value v and a lambda's object f -/
def rSQ (K : PySem.W.Frag) (q : Par) (k : Nat) (c : Int) : List V → List V → Hp → VK → Prop := fun vs zs H Q => ∃ (z : Z) (x r : D) (v : V) (f c1 : Addr), z.H = H ∧ Ok K q z ∧ vs = [v] ∧ Has K q z x v ∧ zs = [.ref f] ∧ z.H f = some (lamO (q.lamD k) f c1) ∧ z.H c1 = some (CodeO c1 (q.lamD k).qual) ∧ sortQD z.G c x = some r ∧ Post K q z Q r
open PySem.W PyProof.Rows in
theorem cr_sortQ (hcm : X.calm = true) {k : Nat} {c : Int} {y : Str} {p0 p1 p2 p3 p4 p5 p6 p7 p8 : Pos} {j0 j1 j2 : Nat} {j : Nat} (hr : Room (j + 2) X.A) (KL : KeyL (q.lamD k) y) (hb : (q.lamD k).body = keyBody y c p0 p1 p2 p3 p4 p5 p6 p7 p8 j0 j1 j2) : CallRK X (.builtin "sorted") [Str.ofString "key"] (rSQ X.K q k c) := by
  intro pins s σ H vs zs us ws Q I r rz h
  obtain ⟨z, x, d, v, f, c1, rfl, ok, rfl, hx, rfl, hf, hc1, hs, hp⟩ := h
  obtain ⟨w1, rfl, e1⟩ := vals1 rz
  obtain rfl : w1 = Value.ref f := e1
  unfold sortQD at hs
  simp only [Option.bind_eq_some_iff] at hs
  obtain ⟨l, hl, ks, hks, hs⟩ := hs
  split at hs <;> cases hs
  rename_i hlz
  obtain ⟨a, ws, rfl, h2, hg⟩ := src_gathers ok hl hx
  obtain ⟨us', rv, hz, G⟩ := hg X pins σ s rfl hcm I
  rw [Vals.ref1 r]
  obtain ⟨hlen, each⟩ := keysQ_at hks h2 rv
  obtain ⟨⟨pm, ctv, of1⟩, _, _⟩ := I.hok f _ hf
  obtain ⟨⟨oc, ov, ot, g1, g2, g3⟩, _, _⟩ := I.hok c1 _ hc1
  have lim := I.nolimit
  refine sorted_gathersK (bs := l.zip ks) (k := fun b => .int b.2) G each (fun a ha b hb => ?_) (.inr fun d hd => ?_) hz (fun b hb => ?_) (fun u b hR hbm h tk kp => ?_) fun hp1 h' tk ep out k1 k2 hat ho holen => ?_
  · obtain ⟨_, _, rfl⟩ := List.mem_map.mp ha
    obtain ⟨_, _, rfl⟩ := List.mem_map.mp hb
    rfl
  · obtain ⟨_, _, rfl⟩ := List.mem_map.mp hd
    exact ⟨fun e => (nomatch e), fun xs e => (nomatch e)⟩
  · have := hr.un
    have e : (PyData.int b.2).depth ≤ 1 := by simp [PyData.depth]
    omega
  · obtain ⟨x, rx, hx, n, d, e1, e2, h0, hz, hmul⟩ := hR
    rw [e1] at hx
    simp only [Has] at hx
    obtain ⟨ta, tvs, rfl, st, hl2⟩ := hx
    obtain ⟨v1, vr, rfl, hv1, hl3⟩ := hl2.cons_inv
    obtain ⟨v2, vr2, rfl, hv2, hl4⟩ := hl3.cons_inv
    have e := hl4.nil_inv
    subst e
    obtain ⟨its, ri, pl, _⟩ := I.tuple st
    cases ri with
    | cons r1 ri =>
      cases ri with
      | cons r2 ri =>
        cases ri
        rw [hv1.of_int] at r1
        rw [hv2.of_int] at r2
        obtain ⟨t1, rfl⟩ := r1
        obtain ⟨t2, rfl⟩ := r2
        cases rx
        rw [e2]
        have lim2 : h.NoLimit := lim.keeps kp
        obtain ⟨o, po, pr⟩ := pl
        exact turn_key (s := { s with heap := h, toks := tk }) KL hb (kp _ _ of1) ⟨oc, ov, ot, kp _ _ g1, g2, g3⟩ lim2 (by have := hr.depth; exact this) ⟨o, kp _ _ po, pr⟩ h0 hz hmul
  · obtain ⟨ys, rys, hys⟩ : ∃ ys, Vals ys out ∧ HasL X.K q z ((srtQ (l.zip ks)).map (·.1)) ys := by
      rw [srtQ_eq] at ho
      have gen : ∀ {out : List Value} {bs : List (D × Int)}, EachIs (fun u (b : D × Int) => ∃ x, RelV x u ∧ Has X.K q z b.1 x ∧ ∃ n d, b.1 = .tup [.int n, .int d] ∧ b.2 = n * c.fdiv d ∧ d ≠ 0 ∧ d.natAbs < 1073741824 ∧ n.natAbs.log2 + (c.fdiv d).natAbs.log2 < 1000000) out bs → ∃ ys, Vals ys out ∧ HasL X.K q z (bs.map (·.1)) ys := by
        intro out bs h
        induction h with
        | nil => exact ⟨[], .nil, HasL.nil⟩
        | cons h1 t ih =>
          obtain ⟨ys, g1, g2⟩ := ih
          obtain ⟨x, e1, e2, _⟩ := h1
          exact ⟨x :: ys, .cons e1 g1, HasL.cons e2 g2⟩
      exact gen ho
    have I1 : L2.Inv X pins σ z.H { s with heap := hp1, toks := tk } := I.kept k1
    refine ⟨.ref hp1.objs.size, upd z.H hp1.objs.size (.lst ys), I1.laid (t' := tk) k2 (Nat.le_refl _) (show ObjOk X.prog X.w _ _ _ (.lst ys) from ⟨?_, out, ep, rys, hat⟩), rfl, ?_⟩
    · rw [rys.length, holen]; exact hz
    · exact hp.put ok (I1.hok.fresh (Nat.le_refl _)) (put_lst ok (I1.hok.fresh (Nat.le_refl _)) hys)
theorem sd_sortQ {k : Nat} {c0 P : Addr} {params : Arguments} {body : Expr} {scope : Scope} {lp pp pos kp : Pos} {y : Str} {c : Int} {j : Nat} {e : Expr} {m : PV.E} (hcm : X.calm = true) (hr : Room (j + 2) X.A) (hg : Gl X "sorted") (hm : X.mg "sorted" = none)
    (hl : q.lamD k = ⟨X.env.qual ++ "<lambda>", params, body, scope⟩) (TB : TabB X.base X.mg c0 P) (hcode : X.env.code = .ref c0) (hmT : (P, X.env.qual ++ "<lambda>") ∈ q.T) (hu : ∀ p ∈ q.T, p.1 = P → p.2 = X.env.qual ++ "<lambda>")
    (hfree : ∀ y ∈ scope.names, y.2 = .free → False) (KL : KeyL (q.lamD k) y) (hb : ∃ (p0 p1 p2 p3 p4 p5 p6 p7 p8 : Pos) (j0 j1 j2 : Nat), (q.lamD k).body = keyBody y c p0 p1 p2 p3 p4 p5 p6 p7 p8 j0 j1 j2) (he : Sd X q S e m) (hclo : cloFrom X.env.cells scope.names [] = [] := by rfl) (hdef : defaultsOf params X.env = ([], []) := by rfl)
    (hv : bootBuiltins "sorted" = some (.builtin "sorted") := by decide +kernel) (hs0 : starEach [e] X.env = (false, eval e X.env) :: starEach [] X.env := by rfl)
    (hse : backTo pos (starEach [e] X.env) = (false, eval e X.env) :: backTo pos (starEach [] X.env) := by rfl) (hpl : (backTo pos (starEach [e] X.env)).any (·.1) = false := by rfl) :
    Sd X q S (.Call (.Name "sorted" pp) [e] [⟨some "key", .Lambda params body scope lp, kp⟩] pos) (.sortQ m k c) := fun E tk => by
  obtain ⟨p0, p1, p2, p3, p4, p5, p6, p7, p8, j0, j1, j2, hb⟩ := hb
  exact pe_imp (pe_callBK (cr_sortQ hcm hr KL hb) hg hm hv (pa_cons (he E tk) pa_nil hs0) (pk_cons (sd_lam (S := S) hl TB hcode hmT hu hfree hclo hdef E tk) pk_nil) (by decide) (by decide) hse hpl) fun σ H Q ⟨z, ρ, hH, ok, rl, w⟩ => by
    refine ⟨z, ρ, hH, ok, rl, (wp.bind w).mono fun x z1 ok1 e1 w1 v hv => ?_⟩
    obtain ⟨d, hd, hp⟩ := wp.of w1
    refine ⟨z1, ρ, rfl, ok1, rl.ext ok e1, fun z2 hG ok2 e2 u hu => ?_⟩
    simp only [Has] at hu
    obtain ⟨f, c1, rfl, h1, h2⟩ := hu
    refine ⟨z2, x, d, v, f, c1, rfl, ok2, rfl, Has.ext ok1 e2 _ _ hv, rfl, h1, h2, by rw [hG]; exact hd, ?_⟩
    intro z3 hG3 ok3 e3 r hr'
    exact hp z3 (hG3.trans hG) ok3 (e2.trans e3) r hr'
end
end PV
end
/-! ## PVa -/
section
set_option Elab.async false
set_option linter.all false
set_option maxRecDepth 100000
set_option maxHeartbeats 4000000
/-! A kept lambda called; the def that tells, by values. -/
namespace PV
open PySem L2 LamX PyProof.Rows RZ
structure CloS (l : LamD) : Prop where
  kind : l.scope.kind = .function
  co : l.scope.isCoroutine = false
  gen : l.scope.isGenerator = false
  own : ∀ y ∈ l.scope.names, y.2 ≠ .local ∧ y.2 ≠ .cell ∧ y.2 ≠ .free
  bind : ∀ (qn : Str) (cl : List (Str × Addr)) (pm cv ctv : Value), bindArgs (PySem.W.kla_fn "<lambda>" qn l.params l.body l.scope cl pm cv ctv) ⟨[], []⟩ = pure []
abbrev cloEnv (l : LamD) (L f c : Addr) : PySem.Env := PySem.W.envX l.qual l.scope L f (.ref c) []
def cloCx (P : Program) (w : World) (K : PySem.W.Frag) (mg : Str → Option Value) (base : Heap) (A : Around) (outer : List PySem.Env) (s : Shared) (H : Hp) (E : XK) (l : LamD) (f c : Addr) : Cx where
  prog := P
  w := w
  K := K
  mg := mg
  base := base
  A := A.deeper (cloEnv l s.heap.objs.size f c)
  N := []
  s_0 := s
  H_0 := H
  env := cloEnv l s.heap.objs.size f c
  outer := outer
  stack := cloEnv l s.heap.objs.size f c :: outer
  ex := []
  fn := fun _ => false
  calm := true
  pn := []
  xe := fun e s' => wpAny (model P w) (A.deeper (cloEnv l s.heap.objs.size f c)) (leaving (cloEnv l s.heap.objs.size f c) e) (fun _ s'' => L2.CX P w outer H s E e s'') (fun e' s'' => L2.CX P w outer H s E e' s'') s'
section
variable {P : Program} {w : World} {K : PySem.W.Frag} {mg : Str → Option Value} {base : Heap} {A : Around} {outer : List PySem.Env} {s : Shared} {H : Hp} {E : XK} {l : LamD} {f c : Addr}
theorem clo_start {h1 : Heap} {tk : Nat} (e0 : Env0 P w K mg base A outer s H) (hd : A.handled = none) (C : CloS l) (hns : h1.Ns s.heap.objs.size fun y => ([] : List (Str × Value)).reverse.lookup y) (kp : ∀ b o, s.heap.get? b = some o → h1.get? b = some o) :
    Inv (cloCx P w K mg base A outer s H E l f c) [] [] H { s with heap := h1, toks := tk } := by
  have nn : ∀ b : Addr, b ∉ (cloCx P w K mg base A outer s H E l f c).ex := fun b hb => nomatch (show b ∈ ([] : List Addr) from hb)
  have nc : ∀ (y : Str) (a : Addr), (cloCx P w K mg base A outer s H E l f c).env.cells.lookup y = some a → False := fun y a e => nomatch (show (none : Option Addr) = some a from e)
  have okc : (cloCx P w K mg base A outer s H E l f c).Ok := by
    refine ⟨e0.mod, C.kind, rfl, rfl, Nat.le_refl _, fun x y a e _ => (nc x a e).elim, fun x hx => ?_, fun x a _ e => (nc x a e).elim, fun _ => hd, Around.frames_deeper e0.frames, .inr ⟨rfl, rfl⟩, fun b hb => (nn b hb).elim, e0.bs, e0.bsz, fun b _ _ => nn b, fun b hb => (nn b hb).elim, e0.funs, e0.frf⟩
    have hx : l.scope.names.lookup x = some .cell ∨ l.scope.names.lookup x = some .free := hx
    rcases hx with hx | hx
    · exact absurd rfl (C.own _ (PySem.mem_of_lookup hx)).2.1
    · exact absurd rfl (C.own _ (PySem.mem_of_lookup hx)).2.2
  refine ⟨okc, rfl, e0.bare, Un.kept kp, ⟨_, hns, fun i x v e1 _ _ => ?_⟩, fun x a e => (nc x a e).elim, e0.hok.fresh (Nat.le_refl _), fun x a e => (nc x a e).elim, fun p hp => ?_, e0.hok.kept kp, rfl⟩
  · exact nomatch (show ([] : List Str)[i]? = some x from e1)
  · exact nomatch (show p ∈ ([] : List (Addr × Obj)) from hp)
theorem run_closed {k : Nat} {pm ctv : Value} {tb : TE} {Q : VK} (hf : s.heap.get? f = some (PySem.W.kla_obj "<lambda>" l.qual l.params l.body l.scope [] pm c ctv)) (hc : ∃ (oc : Obj) (vs : Array Value) (t : Tok), s.heap.get? c = some oc ∧ oc.data = .fields vs ∧ vs[1]? = some (.str l.qual t)) (hr : Room (k + 1) A)
    (e0 : Env0 P w K mg base A outer s H) (C : CloS l) (hbody : Room k (A.deeper (cloEnv l s.heap.objs.size f c)) → PE (cloCx P w K mg base A outer s H E l f c) l.body tb) (h : tb [] H Q) :
    codeAny (model P w) A (.call (.ref f) ⟨[], []⟩) (CR (L2.CX P w) outer P w H s Q E) s := by
  have lim : s.heap.NoLimit := e0.mod.nolimit.keeps fun b o e => (e0.bs b o e).1
  obtain ⟨oc, vs, t, g1, g2, g3⟩ := hc
  refine PySem.W.kla_callFunE hr.depth hf rfl C.co C.gen rfl ⟨c, oc, vs, t, rfl, g1, g2, g3⟩ ?_
  rw [C.bind]
  refine wpAny_pure (wpAny_newFunctionEnv (fun y hy => (C.own y hy).2.1) (fun y hy => nomatch hy) (fun h1 hns sb => ⟨lim.fresh _ sb, ?_⟩) C.kind)
  have kp : ∀ b o, s.heap.get? b = some o → h1.get? b = some o := fun b o e => sb.extBut b o (Nat.ne_of_lt (Heap.lt_size e)) (Heap.get?_push_of_some _ e)
  have J : Inv (cloCx P w K mg base A outer s H E l f c) [] [] H { s with heap := h1, toks := s.toks + ([] : List (Str × Value)).length } := clo_start e0 hr.hd C hns kp
  refine PySem.W.kla_codeExpr (wpAny_mono ((hbody (hr.deeper _)).run [] _ _ H Q J h) (fun v s1 hq => ?_) fun _ _ hq => hq)
  obtain ⟨u, H1, J1, rv, hq⟩ := hq
  exact ⟨u, H1, J1.os, J1.bare, J1.base, J1.hok, rv, hq⟩
end
section
variable {X : Cx} {q : Par} {S0 : PV.Sem}
/-- x(), x a local that holds a kept lambda -/
def tAct (K : PySem.W.Frag) (q : Par) (L : Nat → Gs → R D) (E : XK) (i : Nat) : TE := fun σ H Q => ∃ (z : Z) (k : Nat) (v : V), z.H = H ∧ Ok K q z ∧ σ[i]? = some (some v) ∧ Has K q z (.lam k) v ∧ wp K q z (L k z.G) (PQ K q Q) E
theorem pe_actv {i k0 : Nat} {L : Nat → Gs → R D} {a : Str} {E : XK} {p1 p2 : Pos} (tk : Tk X E) (hr : Room (k0 + 1) X.A)
    (hL : ∀ (k : Nat), (∃ m : PV.E, (∀ G, L k G = evE S0 [] m G) ∧ CloS (q.lamD k) ∧ ∀ (A : Around) (outer : List PySem.Env) (s : Shared) (H : Hp) (E : XK) (f c : Addr), Room k0 (A.deeper (cloEnv (q.lamD k) s.heap.objs.size f c)) → Sd (cloCx X.prog X.w X.K X.mg X.base A outer s H E (q.lamD k) f c) q S0 (q.lamD k).body m) ∨ ∀ G, L k G = .bad)
    (hN : X.N[i]? = some a) (hv : Vis X.env.scope a) (hd : (a == ("__debug__" : Str)) = false := by decide) (hcd : (a == ("__classdict__" : Str)) = false := by decide) : PE X (.Call (.Name a p1) [] [] p2) (tAct X.K q L E i) := by
  refine ⟨fun pins s σ H Q I hw => ?_⟩
  obtain ⟨z, k, v, hz, ok, hs, hv', w⟩ := hw
  simp only [Has] at hv'
  obtain ⟨f, c, rfl, h1, h2⟩ := hv'
  rw [hz] at h1 h2
  refine wpAny_Call_Name_kw (thn ((pe_var (pos := p1) (i := i) hN hv hd hcd).run pins s σ H (fun u H1 => u = .ref f ∧ H1 = H) I ⟨.ref f, hs, rfl, rfl⟩) fun u s1 ⟨v1, H1, I1, r1, ev, eH⟩ => ?_)
  subst ev
  rw [eH] at I1
  obtain rfl : u = Value.ref f := r1
  obtain ⟨⟨pm, ctv, of1⟩, _, _⟩ := I1.hok f _ h1
  obtain ⟨oc1, _, _⟩ := I1.hok c _ h2
  refine PySem.W.callWith_F0 ⟨_, _, _, _, of1⟩ ?_
  rcases hL k with ⟨m, hm, C, hb⟩ | hbad
  · have rc := run_closed (P := X.prog) (w := X.w) (E := E) (Q := Q) (tb := rdE X.K q S0 E m) of1 oc1 hr I1.env0 C (fun hr' => hb _ _ _ _ E _ _ hr' E (takes_of rfl rfl rfl rfl)) (by
      refine ⟨z, [], hz, ok, ⟨rfl, fun j d e => nomatch (show ([] : List (Option D))[j]? = some (some d) from e)⟩, ?_⟩
      rw [hm] at w
      exact w)
    have hx := passes_tk tk
    refine wpAny_call (codeAny_mono rc fun r s2 hq => ?_)
    cases r with
    | error e => exact hx pins σ H s1 e s2 I1 hq
    | ok fl =>
      cases fl with
      | ret u => exact I1.after hq
      | next => exact False.elim hq
      | brk => exact False.elim hq
      | cont => exact False.elim hq
  · rw [hbad] at w
    exact w.elim
end
theorem toldR_wp {K : PySem.W.Frag} {q : Par} {S : PV.Sem} {hl : List (Value × Str)} (ht : ∀ c r, S.told c = some r → ∀ (Q : VK) (H : Hp), Q (.str r) H → Wt K Q (q.cls c) H hl) {z : Z} {r : R D} {Q : VK} {E : XK} (w1 : wp K q z (toldR S r) (PQ K q Q) E) : wp K q z r (PQ K q Q) (fun cls _ H' => Wt K Q cls H' hl) := by
  cases r with
  | bad => exact w1.elim
  | ok d G' => exact w1
  | exc c G' =>
    intro z2 hG ok2 e2
    have w1 : wp K q z (match S.told c with
      | some r => R.ok (.str r) G'
      | none => .bad) (PQ K q Q) E := w1
    cases hc : S.told c with
    | none => rw [hc] at w1; exact w1.elim
    | some r =>
      rw [hc] at w1
      exact ht c r hc Q z2.H (w1 z2 hG ok2 e2 _ Has.str)
section
variable {P : Program} {w : World} {K : PySem.W.Frag} {mg : Str → Option Value} {base : Heap} {q : Par}
theorem fn_told {S S' S0 : PV.Sem} {L : Nat → Gs → R D} {gi k0 : Nat} {x a qual : Str} {params : Arguments} {scope : Scope} {dvs : List V} {kws : List (Str × V)} {f : Addr} {fd : FuncData} {N : List Str} {hl : List (Value × Str)} {p1 p2 p3 p8 : Pos} {h0 : ExceptHandler} {hds : List ExceptHandler}
    (F : FunD K x qual params [.Try [.Return (some (.Call (.Name a p1) [] [] p2)) p3] (h0 :: hds) [] [] p8] scope dvs kws f fd) (Sc : FnScope N [a] scope)
    (hS : ∀ ds G, S'.cal gi ds G = toldCal S L ds G) (ht : ∀ c r, S.told c = some r → ∀ (Q : VK) (H : Hp), Q (.str r) H → Wt K Q (q.cls c) H hl)
    (hL : ∀ (k : Nat), (∃ m : PV.E, (∀ G, L k G = evE S0 [] m G) ∧ CloS (q.lamD k) ∧ ∀ (A : Around) (outer : List PySem.Env) (s : Shared) (H : Hp) (E : XK) (f c : Addr), Room k0 (A.deeper (cloEnv (q.lamD k) s.heap.objs.size f c)) → Sd (cloCx P w K mg base A outer s H E (q.lamD k) f c) q S0 (q.lamD k).body m) ∨ ∀ G, L k G = .bad)
    (hh : ∀ (cdv : Value) (A : Around) (outer : List PySem.Env) (s : Shared) (H : Hp) (E : XK), HdsOk (cxOf (L2.CX P w) P w K mg base N qual scope f cdv A outer s H E) (h0 :: hds) (hl.map fun p => (p.1, sayT p.2)))
    (hN : N[0]? = some a) (hv : Vis scope a) (hf0 : ∀ v : V, (L2.start N [v])[0]? = some (some v)) (hd : (a == ("__debug__" : Str)) = false := by decide) (hcd : (a == ("__classdict__" : Str)) = false := by decide) :
    FnOk P w K mg base (L2.CX P w) (k0 + 2) f fd [a] (spC K q S' gi [a].length) := by
  refine F.ok Sc (fun vs H Q E h => ?_) (fun cdv A outer s H vs Q E hr h => ?_)
  · obtain ⟨_, _, _, _, _, h, _⟩ := h
    exact h
  · obtain ⟨z, ds, rfl, ok, hvs, hlen, hw⟩ := h
    rw [hS] at hw
    unfold toldCal at hw
    split at hw
    · rename_i k
      obtain ⟨v, rfl, h1⟩ := hvs.one
      let tbody : WX → TS := fun W D σ H => ∃ Eo : XK, (∀ cls d σ1 H1, Eo cls d H1 → W cls d σ1 H1) ∧ tAct K q L Eo 0 σ H D.rt
      refine ⟨_, pss_one (ps_try_many (tb := tbody) (Wout := fun _ _ _ _ => False) rfl rfl L2.takes0 (fun W pn xe tk _ => ⟨fun pins s1 σ1 H1 D1 I1 hw => ?_⟩) (hh cdv A outer s z.H E)), ?_⟩
      · obtain ⟨Eo, w1, w2⟩ := hw
        exact (pss_one (ps_ret (pos := p3) (pe_actv (i := 0) (E := Eo) (Takes.imp tk fun c d σ H h => w1 c d σ H h) hr hL hN hv hd hcd))).run pins s1 σ1 H1 D1 I1 w2
      · exact ⟨fun cls _ H1 => Wt K Q cls H1 hl, fun cls d σ1 H1 h => wMany_of h, z, k, v, rfl, ok, hf0 v, h1, toldR_wp ht hw⟩
    · exact hw.elim
end
end PV
namespace PV
open PySem L2 LamX PyProof.Rows RZ
section
variable {P : Program} {w : World} {K : PySem.W.Frag} {mg : Str → Option Value} {base : Heap} {q : Par}
/-- where a def's code stands -/
def CodeAt (K : PySem.W.Frag) (f : Addr) (qual : Str) (cdv : Value) : Prop := ∃ (oc : Value) (od : Option Addr) (osl : Array (Option Value)) (fd : FuncData), K.lookup f = some ⟨oc, od, .func fd, osl⟩ ∧ fd.code = cdv ∧ PySem.W.codeIn K cdv qual = true
theorem fn_stepC {S S' : PV.Sem} {g k : Nat} {x qual : Str} {params : Arguments} {body : List Stmt} {scope : Scope} {dvs : List V} {kws : List (Str × V)} {f : Addr} {fd : FuncData} {N ps : List Str} {fn : Fn} (F : FunD K x qual params body scope dvs kws f fd) (Sc : FnScope N ps scope)
    (hS : ∀ ds G, S'.cal g ds G = runFn S fn ds G) (hns : N.length = fn.ns) (hnp : ps.length = fn.np) (hle : fn.np ≤ fn.ns)
    (hbody : ∀ (cdv : Value) (A : Around) (outer : List PySem.Env) (s : Shared) (H : Hp) (E : XK), CodeAt K f qual cdv → Room k (A.deeper (envOfC qual scope s.heap.objs.size f cdv)) → SdB (cxOf (L2.CX P w) P w K mg base N qual scope f cdv A outer s H E) q S body fn.body) :
    FnOk P w K mg base (L2.CX P w) (k + 1) f fd ps (spC K q S' g ps.length) := by
  have hex := F.ex
  obtain ⟨oc, od, dV, kV, doc, pm, an, cdv, ct, osl, e, lk, hcd, _, _⟩ := hex
  have hc : CodeAt K f qual cdv := ⟨oc, od, osl, fd, lk, by rw [e], hcd⟩
  subst e
  refine fn_of lk hcd Sc (fun vs H Q E h => ?_) fun A outer s H vs Q E hr h => ?_
  · obtain ⟨_, _, _, _, _, h, _⟩ := h
    exact h
  · obtain ⟨z, ds, rfl, ok, hv, hlen, hw⟩ := h
    refine ⟨_, hbody cdv A outer s z.H E hc hr E (takes_of rfl rfl rfl rfl), z, _, rfl, ok, rels_start hv (by rw [← hv.len, hlen, hnp, hns]; exact hle), ?_⟩
    rw [hS] at hw
    unfold runFn at hw
    replace hw := gc_wp ok hw
    have hdl : ds.length = fn.np := by rw [← hv.len, hlen, hnp]
    rw [if_pos hdl] at hw
    rw [hns, hdl]
    cases hr : evB S fn.body (ds.map some ++ List.replicate (fn.ns - fn.np) none) z.G with
    | next ρ' G' =>
      rw [hr] at hw
      exact fun z' σ' hG ok' e' _ => hw z' hG ok' e' _ Has.non
    | ret d G' =>
      rw [hr] at hw
      exact fun z' v hG ok' e' hd => hw z' hG ok' e' v hd
    | exc c G' =>
      rw [hr] at hw
      exact hw
    | brk ρ' G' => rw [hr] at hw; exact hw.elim
    | cont ρ' G' => rw [hr] at hw; exact hw.elim
    | bad => rw [hr] at hw; exact hw.elim
theorem told_ar {S : PV.Sem} {L : Nat → Gs → R D} : ∀ (ds : List D) (G : Gs), ds.length ≠ 1 → toldCal S L ds G = .bad := fun ds G hn => by
  match ds, hn with
  | [], _ => rfl
  | [d], hn => exact absurd rfl hn
  | d :: _ :: _, _ => cases d <;> rfl
/-- a law's call: the script as the evaluator has it -/
theorem law_start {S : PV.Sem} {g : Nat} {H : Hp} {a : Addr} {ns : List Int} {Gz : Gs} (ht : Tabs q.T H) (hS : SqL K H a (ns.map V.int)) (h : S.cal g [.frz (ns.map .int)] [] = .ok (.bl true) Gz) {E : XK} : spC K q S g 1 [.ref a] H (fun v _ => v = .bl true) E := by
  have hi : ∀ ms : List Int, HasL K q ⟨[], [], [], H⟩ (ms.map .int) (ms.map V.int) := fun ms => by
    induction ms with
    | nil => exact HasL.nil
    | cons m ms ih => exact HasL.cons Has.int ih
  refine ⟨⟨[], [], [], H⟩, [.frz (ns.map .int)], rfl, ⟨rfl, fun n ds hn => ?_, fun n m ds es a h1 => ?_, fun b hb => ?_, ht⟩, HasL.cons ?_ HasL.nil, rfl, ?_⟩
  · exact nomatch (show ([] : Gs)[n]? = some (some ds) from hn)
  · exact nomatch (show ([] : Gs)[n]? = some (some ds) from h1)
  · exact nomatch (show b ∈ ([] : List Addr) from hb)
  · simp only [Has]
    refine ⟨a, _, rfl, ?_, hi ns⟩
    rcases hS with hS | hS
    · exact .inl ⟨hS, (fun hb => (nomatch (show a ∈ ([] : List Addr) from hb))), fun ⟨n, ds, h1, _⟩ => (nomatch (show ([] : Gs)[n]? = some (some ds) from h1))⟩
    · exact .inr hS
  · show wp K q _ (S.cal g [.frz (ns.map .int)] []) _ _
    rw [h]
    exact fun z' hG ok e v hv => hv.of_bl
end
end PV
end
/-! ## PVs -/
section
set_option Elab.async false
set_option linter.all false
set_option maxRecDepth 200000
set_option maxHeartbeats 8000000
/-! steps of the evaluator, and the dice of the laws -/
namespace PV
open PySem L2
/-! how the evaluator steps -/
theorem rb {α β : Type} (a : α) (G : Gs) (f : α → Gs → R β) : R.bind (.ok a G) f = f a G := rfl
theorem rof {α : Type} (a : α) (G : Gs) : R.of (some a) G = .ok a G := rfl
theorem rgo {α : Type} (a : α) (G : Gs) (f : α → Gs → F) : R.go (.ok a G) f = f a G := rfl
theorem rth (ρ : PV.Env) (G : Gs) (f : PV.Env → Gs → F) : F.then (.next ρ G) f = f ρ G := rfl
theorem rtr (d : D) (G : Gs) (f : PV.Env → Gs → F) : F.then (.ret d G) f = .ret d G := rfl
theorem ba (i j : Int) : binD .add (.int i) (.int j) = some (.int (i + j)) := rfl
theorem bs (i j : Int) : binD .sub (.int i) (.int j) = some (.int (i - j)) := rfl
theorem bm (i j : Int) (h : okMul i j = true) : binD .mul (.int i) (.int j) = some (.int (i * j)) := if_pos h
theorem bd (i j : Int) (h : okDiv j = true) : binD .fdiv (.int i) (.int j) = some (.int (i.fdiv j)) := if_pos h
theorem bmo (i j : Int) (h : j ≠ 0) : binD .mod (.int i) (.int j) = some (.int (i.fmod j)) := if_pos h
theorem clt (i j : Int) : cmpD .lt (.int i) (.int j) = some (decide (i < j)) := rfl
theorem cle (i j : Int) : cmpD .le (.int i) (.int j) = some (decide (i ≤ j)) := rfl
theorem cgt (i j : Int) : cmpD .gt (.int i) (.int j) = some (decide (j < i)) := rfl
theorem cge (i j : Int) : cmpD .ge (.int i) (.int j) = some (decide (j ≤ i)) := rfl
theorem ceq (a b : D) : cmpD .eq a b = eqD a b := rfl
theorem cne (a b : D) : cmpD .ne a b = (eqD a b).map (!·) := rfl
theorem szl : sizeLine = 16777216 := rfl
theorem ok_of (b : Bool) : Option.map D.bl (some b) = some (.bl b) := rfl
theorem ite_t {α : Sort _} (a b : α) : (if True then a else b) = a := if_pos trivial
theorem ite_f {α : Sort _} (a b : α) : (if False then a else b) = b := if_neg id
theorem eqD_int (a b : Int) : eqD (.int a) (.int b) = some (decide (a = b)) := rfl
theorem okDiv_small {j : Int} (h0 : j ≠ 0) (h : j.natAbs < 1073741824) : okDiv j = true := by
  simp [okDiv]
  right
  omega
theorem log_lt {n m : Nat} (h : n < 2 ^ m) (h0 : 0 < m) : n.log2 < m := by
  by_cases hn : n = 0
  · subst hn
    simpa using h0
  · exact (Nat.log2_lt hn).mpr h
theorem ok_mul {a b : Int} {m k : Nat} (ha : a.natAbs < 2 ^ m) (hb : b.natAbs < 2 ^ k) (hm : m + k < 90000000) : okMul a b = true := by
  have h1 : a.natAbs.log2 ≤ m := by
    by_cases h0 : 0 < m
    · exact Nat.le_of_lt (log_lt ha h0)
    · have : m = 0 := by omega
      subst this
      have : a.natAbs = 0 := by omega
      rw [this]
      simp
  have h2 : b.natAbs.log2 ≤ k := by
    by_cases h0 : 0 < k
    · exact Nat.le_of_lt (log_lt hb h0)
    · have : k = 0 := by omega
      subst this
      have : b.natAbs = 0 := by omega
      rw [this]
      simp
  exact decide_eq_true (by omega)
/-! steps -/
section
variable {S : PV.Sem} {ρ ρ1 ρ2 : PV.Env} {G G1 G2 : Gs}
theorem x_v {i : Nat} {d : D} (h : ρ[i]? = some (some d) := by rfl) : evE S ρ (.var i) G = .ok d G := by simp only [evE, h]
theorem x_c {d : D} : evE S ρ (.con d) G = .ok d G := rfl
theorem x_bin {o : Bop} {a b : PV.E} {x y d : D} (h1 : evE S ρ a G = .ok x G1) (h2 : evE S ρ b G1 = .ok y G2) (h3 : binD o x y = some d) : evE S ρ (.bin o a b) G = .ok d G2 := by simp only [evE, h1, h2, rb, h3, rof]
theorem x_cmp {o : Cop} {a b : PV.E} {x y : D} {c : Bool} (h1 : evE S ρ a G = .ok x G1) (h2 : evE S ρ b G1 = .ok y G2) (h3 : cmpD o x y = some c) : evE S ρ (.cmp o a b) G = .ok (.bl c) G2 := by simp only [evE, h1, h2, rb, h3, rof, Option.map]
theorem x_orf {a b : PV.E} {r : R D} (h1 : evE S ρ a G = .ok (.bl false) G1) (h2 : evE S ρ b G1 = r) : evE S ρ (.or a b) G = r := by simp only [evE, h1, h2, rb]
theorem x_andt {a b : PV.E} {r : R D} (h1 : evE S ρ a G = .ok (.bl true) G1) (h2 : evE S ρ b G1 = r) : evE S ρ (.and a b) G = r := by simp only [evE, h1, h2, rb]
theorem x_itet {c a b : PV.E} {r : R D} (h1 : evE S ρ c G = .ok (.bl true) G1) (h2 : evE S ρ a G1 = r) : evE S ρ (.ite c a b) G = r := by simp only [evE, h1, h2, rb]
theorem x_itef {c a b : PV.E} {r : R D} (h1 : evE S ρ c G = .ok (.bl false) G1) (h2 : evE S ρ b G1 = r) : evE S ρ (.ite c a b) G = r := by simp only [evE, h1, h2, rb]
theorem x_es0 : evEs S ρ [] G = .ok [] G := rfl
theorem x_es {e : PV.E} {es : List PV.E} {d : D} {ds : List D} (h1 : evE S ρ e G = .ok d G1) (h2 : evEs S ρ es G1 = .ok ds G2) : evEs S ρ (e :: es) G = .ok (d :: ds) G2 := by simp only [evEs, h1, h2, rb]
theorem x_call {f : Nat} {es : List PV.E} {ds : List D} {r : R D} (h1 : evEs S ρ es G = .ok ds G1) (h2 : S.cal f ds G1 = r) : evE S ρ (.call f es) G = r := by simp only [evE, h1, h2, rb]
theorem x_prim {p : Pr} {es : List PV.E} {ds : List D} {d : D} (h1 : evEs S ρ es G = .ok ds G1) (h2 : prim G1 p ds = some d) : evE S ρ (.prim p es) G = .ok d G1 := by simp only [evE, h1, h2, rb, rof]
theorem x_meth {m : Mt} {a : PV.E} {es : List PV.E} {s : Str} {ds : List D} {d : D} (h0 : evE S ρ a G = .ok (.str s) G1) (h1 : evEs S ρ es G1 = .ok ds G2) (h2 : meth m s ds = some d) : evE S ρ (.meth m a es) G = .ok d G2 := by simp only [evE, h0, h1, h2, rb, rof]
theorem x_tup {es : List PV.E} {ds : List D} (h1 : evEs S ρ es G = .ok ds G1) (h2 : ds.length ≤ sizeLine := by exact Nat.le_of_ble_eq_true rfl) : evE S ρ (.tup es) G = .ok (.tup ds) G1 := by simp only [evE, h1, rb, if_pos h2]
theorem x_lst {es : List PV.E} {ds : List D} (h1 : evEs S ρ es G = .ok ds G1) (h2 : ds.length ≤ sizeLine := by exact Nat.le_of_ble_eq_true rfl) : evE S ρ (.lst es) G = .ok (.lst ds) G1 := by simp only [evE, h1, rb, if_pos h2]
theorem x_lstC {es : List PV.E} {ds : List D} (h1 : evEs S ρ es G = .ok ds G1) (h2 : ds.length ≤ sizeLine := by exact Nat.le_of_ble_eq_true rfl) : evE S ρ (.lstC es) G = .ok (.cell G1.length) (G1 ++ [some (.lst ds)]) := by simp only [evE, h1, rb, if_pos h2]
theorem x_ix {a b : PV.E} {x y d : D} (h1 : evE S ρ a G = .ok x G1) (h2 : evE S ρ b G1 = .ok y G2) (h3 : ixD G2 x y = some d) : evE S ρ (.ix a b) G = .ok d G2 := by simp only [evE, h1, h2, rb, h3, rof]
theorem s_set {t : Tg} {e : PV.E} {d : D} (h1 : evE S ρ e G = .ok d G1) (h2 : PV.assign ρ t d = some ρ1 := by rfl) : evS S (.set t e) ρ G = .next ρ1 G1 := by simp only [evS, h1, rgo, h2]
theorem s_ex {e : PV.E} {d : D} (h1 : evE S ρ e G = .ok d G1) : evS S (.ex e) ρ G = .next ρ G1 := by simp only [evS, h1, rgo]
theorem s_ret {e : PV.E} {d : D} (h1 : evE S ρ e G = .ok d G1) : evS S (.ret e) ρ G = .ret d G1 := by simp only [evS, h1, rgo]
theorem s_itef {c : PV.E} {a b : List St} {r : F} (h1 : evE S ρ c G = .ok (.bl false) G1) (h2 : evB S b ρ G1 = r) : evS S (.ite c a b) ρ G = r := by simp only [evS, h1, rgo, h2]
theorem s_itet {c : PV.E} {a b : List St} {r : F} (h1 : evE S ρ c G = .ok (.bl true) G1) (h2 : evB S a ρ G1 = r) : evS S (.ite c a b) ρ G = r := by simp only [evS, h1, rgo, h2]
theorem s_if0 {c : PV.E} {a : List St} (h1 : evE S ρ c G = .ok (.bl false) G1) : evS S (.ite c a []) ρ G = .next ρ G1 := s_itef h1 rfl
theorem s_for {t : Tg} {it : It} {b : List St} {ds : List D} {r : F} (h1 : evI S ρ it G = .ok ds G1) (h2 : forL (fun d ρ1 G2 => match PV.assign ρ1 t d with | some ρ2 => evB S b ρ2 G2 | none => .bad) ds ρ G1 = r) : evS S (.for_ t it b) ρ G = r := by
  simp only [evS, h1, rgo]
  exact h2
theorem b_next {s : St} {r : List St} {x : F} (h1 : evS S s ρ G = .next ρ1 G1) (h2 : evB S r ρ1 G1 = x) : evB S (s :: r) ρ G = x := by simp only [evB, h1, rth, h2]
theorem b_ret {s : St} {r : List St} {d : D} (h1 : evS S s ρ G = .ret d G1) : evB S (s :: r) ρ G = .ret d G1 := by simp only [evB, h1, rtr]
theorem i_seq {a : PV.E} {x : D} {ds : List D} (h1 : evE S ρ a G = .ok x G1) (h2 : walkOf x = some ds := by rfl) : evI S ρ (.seq a) G = .ok ds G1 := by simp only [evI, h1, rb, h2, rof]
theorem i_rng {a : PV.E} {j : Int} (h1 : evE S ρ a G = .ok (.int j) G1) (h2 : -(2 ^ 62) ≤ j ∧ j < 2 ^ 62) : evI S ρ (.rng1 a) G = .ok (rangeD 0 j) G1 := by simp only [evI, h1, rb, if_pos h2]
theorem run_d (f : Fn) {args : List D} {d : D} (h : args.length = f.np) (hρ : args.map some ++ List.replicate (f.ns - f.np) none = ρ) (hb : evB S f.body ρ G = .ret d G1) : runFn S f args G = gcR G.length (.ok d G1) := by
  subst hρ
  unfold runFn
  rw [if_pos h, hb]
end
/-! comprehensions -/
theorem compL_map {α : Type} (f : D → Gs → R (Option D)) (a g : α → D) (G : Gs) : ∀ xs : List α, (∀ x ∈ xs, f (a x) G = .ok (some (g x)) G) → compL f (xs.map a) G = .ok (xs.map g) G
  | [], _ => rfl
  | x :: xs, h => by
    show (f (a x) G).bind _ = _
    rw [h x (List.mem_cons_self ..), rb]
    show (compL f (xs.map a) G).bind _ = _
    rw [compL_map f a g G xs fun y hy => h y (List.mem_cons_of_mem _ hy), rb]
    rfl
theorem comp_map {α : Type} {S : PV.Sem} {ρ : PV.Env} {own : List Nat} {el : PV.E} {tg : Tg} {it : It} {G : Gs} (xs : List α) (a g : α → D) (ρx : α → PV.Env) (h1 : evI S ρ it G = .ok (xs.map a) G) (h2 : ∀ x ∈ xs, PV.assign (wipeE ρ own) tg (a x) = some (ρx x)) (h3 : ∀ x ∈ xs, evE S (ρx x) el G = .ok (g x) G) (h4 : xs.length < sizeLine) : evE S ρ (.comp own el tg it []) G = .ok (.lst (xs.map g)) G := by
  simp only [evE, h1, rb]
  rw [compL_map _ a g G xs fun x hx => by
    rw [h2 x hx]
    simp only [evT, rb, if_true]
    rw [h3 x hx, rb]]
  simp only [R.calm, rb, List.length_map]
  rw [if_pos h4]
def fDice : Fn := ⟨1, 1, [.ite (.chain .lt .lt (.bin .sub (.con (.int 0)) (.con (.int 10))) (.var 0) (.con (.int 10))) [.ret (.lstC [.prim .abs [.var 0], .con (.int 0), .con (.int 2)])] [],
    .ret (.lstC [.var 0, .bin .add (.con (.int 1)) (.bin .mod (.prim .int [.var 0]) (.con (.int 1009))), .prim .int [.cmp .ge (.var 0) (.bin .pow (.con (.int 10)) (.con (.int 18)))]])]⟩
def fRoll : Fn := ⟨2, 3, [.ite (.or (.cmp .eq (.ix (.var 0) (.con (.int 2))) (.con (.int 2))) (.and (.cmp .eq (.ix (.var 0) (.con (.int 2))) (.con (.int 1))) (.cmp .gt (.ix (.var 0) (.con (.int 0))) (.con (.int 0))))) [.set (.nm 2) (.bin .mod (.prim .int [.ix (.var 0) (.con (.int 0))]) (.var 1)),
    .setix (.var 0) (.con (.int 0)) (.bin .fdiv (.ix (.var 0) (.con (.int 0))) (.var 1)),
    .ret (.var 2)] [],
    .setix (.var 0) (.con (.int 2)) (.con (.int 0)),
    .setix (.var 0) (.con (.int 0)) (.bin .mod (.prim .int [.bin .add (.bin .add (.bin .mul (.ix (.var 0) (.con (.int 0))) (.con (.int 48271))) (.bin .mul (.ix (.var 0) (.con (.int 1))) (.con (.int 69621)))) (.con (.int 11))]) (.con (.int 2147483647))),
    .setix (.var 0) (.con (.int 1)) (.bin .add (.ix (.var 0) (.con (.int 1))) (.con (.int 1))),
    .ret (.bin .mod (.prim .int [.bin .add (.bin .fdiv (.ix (.var 0) (.con (.int 0))) (.con (.int 7))) (.ix (.var 0) (.con (.int 0)))]) (.var 1))]⟩
def fRounds (di : Nat) : Fn := ⟨2, 4, [.set (.nm 2) (.sl (.var 0) none (some (.var 1))),
    .ite (.cmp .eq (.var 2) (.lst [])) [.set (.nm 2) (.lst [.con (.int 0)])] [],
    .ret (.comp [3] (.call di [.var 3]) (.nm 3) (.seq (.var 2)) [])]⟩
section
variable {S : PV.Sem} {ρ ρ1 ρ2 : PV.Env} {G G1 G2 G3 G4 : Gs}
theorem s_setix {o i e : PV.E} {v x y : D} (h1 : evE S ρ e G = .ok v G1) (h2 : evE S ρ o G1 = .ok x G2) (h3 : evE S ρ i G2 = .ok y G3) (h4 : setD G3 x y v = some G4) : evS S (.setix o i e) ρ G = .next ρ G4 := by simp only [evS, h1, h2, h3, rgo, h4]
theorem x_ort {a b : PV.E} (h1 : evE S ρ a G = .ok (.bl true) G1) : evE S ρ (.or a b) G = .ok (.bl true) G1 := by simp only [evE, h1, rb]
theorem x_andf {a b : PV.E} (h1 : evE S ρ a G = .ok (.bl false) G1) : evE S ρ (.and a b) G = .ok (.bl false) G1 := by simp only [evE, h1, rb]
theorem x_cht {o1 o2 : Cop} {a b c : PV.E} {x y z : D} {r : Bool} (h1 : evE S ρ a G = .ok x G1) (h2 : evE S ρ b G1 = .ok y G2) (h3 : cmpD o1 x y = some true) (h4 : evE S ρ c G2 = .ok z G3) (h5 : cmpD o2 y z = some r) : evE S ρ (.chain o1 o2 a b c) G = .ok (.bl r) G3 := by simp only [evE, h1, h2, rb, h3, h4, h5, rof, Option.map]
theorem x_chf {o1 o2 : Cop} {a b c : PV.E} {x y : D} (h1 : evE S ρ a G = .ok x G1) (h2 : evE S ρ b G1 = .ok y G2) (h3 : cmpD o1 x y = some false) : evE S ρ (.chain o1 o2 a b c) G = .ok (.bl false) G2 := by simp only [evE, h1, h2, rb, h3]
theorem x_sl1 {a hi : PV.E} {x d : D} {j : Int} (h1 : evE S ρ a G = .ok x G1) (h2 : evE S ρ hi G1 = .ok (.int j) G2) (h3 : slD x none (some j) = some d) : evE S ρ (.sl a none (some hi)) G = .ok d G2 := by simp only [evE, evO, h1, h2, rb, h3, rof]
end
section
variable {S : PV.Sem} {ρ : PV.Env} {G G1 : Gs}
/-- a run whose value holds no cell, the dice alone stand -/
theorem run_d1 (f : Fn) {args : List D} {i x y z x' y' z' : Int} (h : args.length = f.np) (hρ : args.map some ++ List.replicate (f.ns - f.np) none = ρ) (hb : evB S f.body ρ [some (.lst [.int x, .int y, .int z])] = .ret (.int i) [some (.lst [.int x', .int y', .int z'])]) : runFn S f args [some (.lst [.int x, .int y, .int z])] = .ok (.int i) [some (.lst [.int x', .int y', .int z'])] := (run_d f h hρ hb).trans rfl
theorem run_dc (f : Fn) {args : List D} {n : Nat} (h : args.length = f.np) (hρ : args.map some ++ List.replicate (f.ns - f.np) none = ρ) (hb : evB S f.body ρ G = .ret (.cell n) G1) : runFn S f args G = .ok (.cell n) G1 := (run_d f h hρ hb).trans rfl
theorem run_dl (f : Fn) {args : List D} {n : Nat} (h : args.length = f.np) (hρ : args.map some ++ List.replicate (f.ns - f.np) none = ρ) (hb : evB S f.body ρ G = .ret (.lst [.cell n]) G1) : runFn S f args G = .ok (.lst [.cell n]) G1 := (run_d f h hρ hb).trans rfl
end
def BB : Nat := 1048580
/-- the dice: k rolls are left -/
def Dice (k : Nat) (G : Gs) : Prop := ∃ x y z : Int, G = [some (.lst [.int x, .int y, .int z])] ∧ x.natAbs < 2 ^ BB ∧ y.natAbs + k ≤ 10000
theorem Dice.mono {k j : Nat} {G : Gs} (h : Dice k G) (hj : j ≤ k) : Dice j G := by
  obtain ⟨x, y, z, e, h1, h2⟩ := h
  exact ⟨x, y, z, e, h1, by omega⟩
def CC (i : Int) : Prop := 0 < i ∧ i < 1000000000
theorem big31 : 2 ^ 31 ≤ 2 ^ BB := Nat.pow_le_pow_right (by decide) (by decide)
theorem fmod_in (a : Int) {m : Int} (h : 0 < m) : 0 ≤ a.fmod m ∧ a.fmod m < m := by
  rw [Int.fmod_eq_emod_of_nonneg a (by omega)]
  exact ⟨Int.emod_nonneg _ (by omega), Int.emod_lt_of_pos _ h⟩
theorem fdiv_le (a : Int) {m : Int} (h : CC m) : (a.fdiv m).natAbs ≤ a.natAbs := by
  obtain ⟨h0, _⟩ := h
  rw [Int.fdiv_eq_ediv_of_nonneg a (by omega)]
  by_cases ha : a < 0
  · have h1 : a / m < 0 := Int.ediv_neg_of_neg_of_pos ha h0
    have h2 : a ≤ a / m := by
      apply Int.le_ediv_of_mul_le h0
      have h3 : a * m ≤ a * 1 := Int.mul_le_mul_of_nonpos_left (by omega) (by omega)
      omega
    omega
  · have h1 : 0 ≤ a / m := Int.ediv_nonneg (by omega) (by omega)
    have h2 : a / m ≤ a := Int.ediv_le_self m (by omega)
    omega
theorem CC.pos {m : Int} (h : CC m) : 0 < m := h.1
theorem CC.div {m : Int} (h : CC m) : okDiv m = true := okDiv_small (by have := h.1; omega) (by have := h.1; have := h.2; omega)
/-- a roll -/
theorem roll_ok (S : PV.Sem) (k : Nat) {G : Gs} {m : Int} (hm : CC m) (h : Dice (k + 1) G) : ∃ r G', runFn S fRoll [.cell 0, .int m] G = .ok (.int r) G' ∧ 0 ≤ r ∧ r < m ∧ Dice k G' := by
  obtain ⟨x, y, z, rfl, hx, hy⟩ := h
  have m0 : m ≠ 0 := by have := hm.pos; omega
  have A : ∀ (c : evE S [some (.cell 0), some (.int m), none] (.or (.cmp .eq (.ix (.var 0) (.con (.int 2))) (.con (.int 2))) (.and (.cmp .eq (.ix (.var 0) (.con (.int 2))) (.con (.int 1))) (.cmp .gt (.ix (.var 0) (.con (.int 0))) (.con (.int 0))))) [some (.lst [.int x, .int y, .int z])] = .ok (.bl true) [some (.lst [.int x, .int y, .int z])]), ∃ r G', runFn S fRoll [.cell 0, .int m] [some (.lst [.int x, .int y, .int z])] = .ok (.int r) G' ∧ 0 ≤ r ∧ r < m ∧ Dice k G' := fun c =>
    ⟨x.fmod m, [some (.lst [.int (x.fdiv m), .int y, .int z])], run_d1 fRoll (args := [.cell 0, .int m]) (S := S) (ρ := [some (.cell 0), some (.int m), none]) rfl rfl
      (b_ret (s_itet c (b_next (s_set (x_bin (x_prim (x_es (x_ix x_v x_c rfl) x_es0) rfl) x_v (bmo _ _ m0))) (b_next (s_setix (x_bin (x_ix x_v x_c rfl) x_v (bd _ _ hm.div)) x_v x_c rfl) (b_ret (s_ret x_v)))))),
      (fmod_in x hm.pos).1, (fmod_in x hm.pos).2, _, _, _, rfl, Nat.lt_of_le_of_lt (fdiv_le x hm) hx, by omega⟩
  have B : ∀ (c : evE S [some (.cell 0), some (.int m), none] (.or (.cmp .eq (.ix (.var 0) (.con (.int 2))) (.con (.int 2))) (.and (.cmp .eq (.ix (.var 0) (.con (.int 2))) (.con (.int 1))) (.cmp .gt (.ix (.var 0) (.con (.int 0))) (.con (.int 0))))) [some (.lst [.int x, .int y, .int z])] = .ok (.bl false) [some (.lst [.int x, .int y, .int z])]), ∃ r G', runFn S fRoll [.cell 0, .int m] [some (.lst [.int x, .int y, .int z])] = .ok (.int r) G' ∧ 0 ≤ r ∧ r < m ∧ Dice k G' := fun c => by
    have o1 : okMul x 48271 = true := ok_mul (m := BB) (k := 16) hx (by decide) (by decide)
    have o2 : okMul y 69621 = true := ok_mul (m := 14) (k := 17) (by omega) (by decide) (by decide)
    have hf := fmod_in (x * 48271 + y * 69621 + 11) (m := 2147483647) (by decide)
    exact ⟨_, [some (.lst [.int ((x * 48271 + y * 69621 + 11).fmod 2147483647), .int (y + 1), .int 0])], run_d1 fRoll (args := [.cell 0, .int m]) (S := S) (ρ := [some (.cell 0), some (.int m), none]) rfl rfl
      (b_next (s_if0 c) (b_next (s_setix x_c x_v x_c rfl) (b_next (s_setix (x_bin (x_prim (x_es (x_bin (x_bin (x_bin (x_ix x_v x_c rfl) x_c (bm _ _ o1)) (x_bin (x_ix x_v x_c rfl) x_c (bm _ _ o2)) rfl) x_c rfl) x_es0) rfl) x_c (bmo _ _ (by decide))) x_v x_c rfl)
        (b_next (s_setix (x_bin (x_ix x_v x_c rfl) x_c rfl) x_v x_c rfl) (b_ret (s_ret (x_bin (x_prim (x_es (x_bin (x_bin (x_ix x_v x_c rfl) x_c (bd _ _ (by decide))) (x_ix x_v x_c rfl) rfl) x_es0) rfl) x_v (bmo _ _ m0)))))))),
      (fmod_in _ hm.pos).1, (fmod_in _ hm.pos).2, _, _, _, rfl, Nat.lt_of_lt_of_le (by omega) big31, by omega⟩
  by_cases h2 : z = 2
  · exact A (x_ort (x_cmp (x_ix x_v x_c rfl) x_c (by rw [ceq, eqD_int, decide_eq_true h2])))
  · by_cases h1 : z = 1
    · by_cases h0 : 0 < x
      · exact A (x_orf (x_cmp (x_ix x_v x_c rfl) x_c (by rw [ceq, eqD_int, decide_eq_false h2])) (x_andt (x_cmp (x_ix x_v x_c rfl) x_c (by rw [ceq, eqD_int, decide_eq_true h1])) (x_cmp (x_ix x_v x_c rfl) x_c (by rw [cgt, decide_eq_true h0]))))
      · exact B (x_orf (x_cmp (x_ix x_v x_c rfl) x_c (by rw [ceq, eqD_int, decide_eq_false h2])) (x_andt (x_cmp (x_ix x_v x_c rfl) x_c (by rw [ceq, eqD_int, decide_eq_true h1])) (x_cmp (x_ix x_v x_c rfl) x_c (by rw [cgt, decide_eq_false h0]))))
    · exact B (x_orf (x_cmp (x_ix x_v x_c rfl) x_c (by rw [ceq, eqD_int, decide_eq_false h2])) (x_andf (x_cmp (x_ix x_v x_c rfl) x_c (by rw [ceq, eqD_int, decide_eq_false h1]))))
theorem dice_ok (S : PV.Sem) (c : Int) (hc : c.natAbs < 2 ^ BB) : ∃ G', runFn S fDice [.int c] [] = .ok (.cell 0) G' ∧ Dice 8000 G' := by
  have S1 : ∀ (h : evE S [some (.int c)] (.chain .lt .lt (.bin .sub (.con (.int 0)) (.con (.int 10))) (.var 0) (.con (.int 10))) [] = .ok (.bl true) []), ∃ G', runFn S fDice [.int c] [] = .ok (.cell 0) G' ∧ Dice 8000 G' := fun h =>
    ⟨_, run_dc fDice (args := [.int c]) (S := S) (ρ := [some (.int c)]) rfl rfl (b_ret (s_itet h (b_ret (s_ret (x_lstC (x_es (x_prim (x_es x_v x_es0) rfl) (x_es x_c (x_es x_c x_es0)))))))), _, _, _, rfl, (by split <;> omega), by decide⟩
  have S2 : ∀ (h : evE S [some (.int c)] (.chain .lt .lt (.bin .sub (.con (.int 0)) (.con (.int 10))) (.var 0) (.con (.int 10))) [] = .ok (.bl false) []), ∃ G', runFn S fDice [.int c] [] = .ok (.cell 0) G' ∧ Dice 8000 G' := fun h => by
    have hf := fmod_in c (m := 1009) (by decide)
    exact ⟨_, run_dc fDice (args := [.int c]) (S := S) (ρ := [some (.int c)]) rfl rfl (b_next (s_if0 h) (b_ret (s_ret (x_lstC (x_es x_v (x_es (x_bin x_c (x_bin (x_prim (x_es x_v x_es0) rfl) x_c (bmo _ _ (by decide))) rfl) (x_es (x_prim (x_es (x_cmp x_v (x_bin x_c x_c (d := .int (10 ^ 18)) rfl) (cge _ _)) x_es0) rfl) x_es0))))))), _, _, _, rfl, hc, by omega⟩
  by_cases h1 : (0 - 10 : Int) < c
  · by_cases h2 : c < 10
    · exact S1 (x_cht (x_bin x_c x_c rfl) x_v (by rw [clt, decide_eq_true h1]) x_c (by rw [clt, decide_eq_true h2]))
    · exact S2 (x_cht (x_bin x_c x_c rfl) x_v (by rw [clt, decide_eq_true h1]) x_c (by rw [clt, decide_eq_false h2]))
  · exact S2 (x_chf (x_bin x_c x_c rfl) x_v (by rw [clt, decide_eq_false h1]))
theorem comp_one {S : PV.Sem} {ρ ρ' : PV.Env} {own : List Nat} {el : PV.E} {tg : Tg} {it : It} {G G1 G2 : Gs} {d y : D} (h1 : evI S ρ it G = .ok [d] G1) (h2 : PV.assign (wipeE ρ own) tg d = some ρ') (h3 : evE S ρ' el G1 = .ok y G2) : evE S ρ (.comp own el tg it []) G = .ok (.lst [y]) G2 := by
  simp only [evE, h1, rb, compL, h2, evT, if_true, h3, R.calm, List.length_cons, List.length_nil]
  rw [if_pos (by decide)]
theorem rounds_ok {S : PV.Sem} {di : Nat} (hd : ∀ c : Int, c.natAbs < 2 ^ BB → ∃ G', S.cal di [.int c] [] = .ok (.cell 0) G' ∧ Dice 8000 G') (ns : List Int) (h : ∀ z ∈ ns, z.natAbs < 2 ^ BB) : ∃ G', runFn S (fRounds di) [.frz (ns.map .int), .int 1] [] = .ok (.lst [.cell 0]) G' ∧ Dice 8000 G' := by
  cases ns with
  | nil =>
    obtain ⟨G', e, hG⟩ := hd 0 (by show 0 < _; exact Nat.pos_of_ne_zero (by simp))
    exact ⟨G', run_dl (fRounds di) (args := [.frz [], .int 1]) (S := S) (ρ := [some (.frz []), some (.int 1), none, none]) rfl rfl
      (b_next (s_set (x_sl1 x_v x_v (d := .lst []) rfl)) (b_next (s_itet (x_cmp x_v (x_lst x_es0) (c := true) rfl) (b_next (s_set (x_lst (x_es x_c x_es0))) rfl)) (b_ret (s_ret (comp_one (i_seq x_v) rfl (x_call (x_es x_v x_es0) e)))))), hG⟩
  | cons c r =>
    obtain ⟨G', e, hG⟩ := hd c (h c (List.mem_cons_self ..))
    have hs : slD (.frz ((c :: r).map .int)) none (some 1) = some (.lst [.int c]) := by
      have : cutD ((c :: r).map D.int) none (some 1) = [.int c] := by
        show ((D.int c :: r.map D.int).drop 0).take (min 1 (r.map D.int).length.succ - 0) = _
        rw [show min 1 (r.map D.int).length.succ - 0 = 1 by omega]
        rfl
      show some (D.lst (cutD ((c :: r).map D.int) none (some 1))) = _
      rw [this]
    exact ⟨G', run_dl (fRounds di) (args := [.frz ((c :: r).map .int), .int 1]) (S := S) (ρ := [some (.frz ((c :: r).map .int)), some (.int 1), none, none]) rfl rfl
      (b_next (s_set (x_sl1 x_v x_v hs)) (b_next (s_if0 (x_cmp x_v (x_lst x_es0) (c := false) rfl)) (b_ret (s_ret (comp_one (i_seq x_v) rfl (x_call (x_es x_v x_es0) e)))))), hG⟩
/-- a comprehension that rolls -/
theorem compL_ex (f : D → Gs → R (Option D)) (P : D → Prop) (c k : Nat) : ∀ (ds : List D) (G : Gs), Dice (k + c * ds.length) G → (∀ d ∈ ds, ∀ (i : Nat) (G : Gs), Dice (i + c) G → ∃ y G', f d G = .ok (some y) G' ∧ P y ∧ Dice i G') → ∃ ys G', compL f ds G = .ok ys G' ∧ ys.length = ds.length ∧ (∀ y ∈ ys, P y) ∧ Dice k G'
  | [], G, hG, _ => ⟨[], G, rfl, rfl, (fun y hy => nomatch hy), hG⟩
  | d :: ds, G, hG, h => by
    obtain ⟨y, G1, e1, p1, g1⟩ := h d (List.mem_cons_self ..) (k + c * ds.length) G (by rw [List.length_cons, Nat.mul_succ, ← Nat.add_assoc] at hG; exact hG)
    obtain ⟨ys, G2, e2, l2, p2, g2⟩ := compL_ex f P c k ds G1 g1 fun d hd => h d (List.mem_cons_of_mem _ hd)
    refine ⟨y :: ys, G2, ?_, by rw [List.length_cons, l2, List.length_cons], fun z hz => ?_, g2⟩
    · show (f d G).bind _ = _
      rw [e1, rb, e2, rb]
    · rcases List.mem_cons.mp hz with rfl | hz
      · exact p1
      · exact p2 z hz
theorem compL_end (f : D → Gs → R (Option D)) {ds ys : List D} {G G' : Gs} (e : compL f ds G = .ok ys G') (h : ys.length < sizeLine) : ((compL f ds G).calm.bind fun ys G5 => if ys.length < sizeLine then .ok (D.lst ys) G5 else .bad) = .ok (.lst ys) G' := by
  rw [e]
  exact if_pos h
theorem comp_ex {S : PV.Sem} {ρ : PV.Env} {own : List Nat} {el : PV.E} {tg : Tg} {it : It} {G G1 : Gs} {ds : List D} (P : D → Prop) (c k : Nat) (h1 : evI S ρ it G = .ok ds G1) (hG : Dice (k + c * ds.length) G1) (hl : ds.length < 1000) (h : ∀ d ∈ ds, ∃ ρ', PV.assign (wipeE ρ own) tg d = some ρ' ∧ ∀ (i : Nat) (G : Gs), Dice (i + c) G → ∃ y G', evE S ρ' el G = .ok y G' ∧ P y ∧ Dice i G') : ∃ ys G', evE S ρ (.comp own el tg it []) G = .ok (.lst ys) G' ∧ ys.length = ds.length ∧ (∀ y ∈ ys, P y) ∧ Dice k G' := by
  obtain ⟨ys, G', e, l, p, g⟩ := compL_ex (fun d G2 => match PV.assign (wipeE ρ own) tg d with
        | some ρ' => (evT S ρ' [] G2).bind fun b G3 => if b then (evE S ρ' el G3).bind fun y G4 => .ok (some y) G4 else .ok none G3
        | none => .bad) P c k ds G1 hG fun d hd i G hi => by
    obtain ⟨ρ', e1, h2⟩ := h d hd
    obtain ⟨y, G', e2, p, g⟩ := h2 i G hi
    exact ⟨y, G', by simp only [e1, evT, rb, if_true, e2], p, g⟩
  refine ⟨ys, G', ?_, l, p, g⟩
  simp only [evE, h1, rb]
  exact compL_end _ e (by rw [szl, l]; omega)
theorem list_str {L : List Str} : ∀ {ys : List D}, (∀ y ∈ ys, ∃ s ∈ L, y = .str s) → ∃ ss : List Str, ys = ss.map .str ∧ ∀ s ∈ ss, s ∈ L
  | [], _ => ⟨[], rfl, fun p hp => nomatch hp⟩
  | y :: ys, h => by
    obtain ⟨p, hp, rfl⟩ := h y (List.mem_cons_self ..)
    obtain ⟨ps, rfl, hs⟩ := list_str fun z hz => h z (List.mem_cons_of_mem _ hz)
    exact ⟨p :: ps, rfl, fun q hq => (List.mem_cons.mp hq).elim (fun e => e ▸ hp) (hs q)⟩
/-! tables -/
theorem tab {α β : Type} {f g : α → β} : ∀ {l : List α}, l.map f = l.map g → ∀ x ∈ l, f x = g x
  | [], _, x, hx => nomatch hx
  | y :: l, h, x, hx => by
    injection h with h1 h2
    rcases List.mem_cons.mp hx with rfl | hx
    · exact h1
    · exact tab h2 x hx
def upto (lo : Int) (n : Nat) : List Int := (List.range n).map fun (k : Nat) => lo + (k : Int)
theorem mem_upto {lo x : Int} {n : Nat} (h1 : lo ≤ x) (h2 : x < lo + n) : x ∈ upto lo n := List.mem_map.mpr ⟨(x - lo).toNat, List.mem_range.mpr (by omega), by omega⟩
def pairs (xs ys : List Int) : List (Int × Int) := xs.flatMap fun x => ys.map fun y => (x, y)
theorem mem_pairs {xs ys : List Int} {x y : Int} (h1 : x ∈ xs) (h2 : y ∈ ys) : (x, y) ∈ pairs xs ys := List.mem_flatMap.mpr ⟨x, h1, List.mem_map.mpr ⟨y, h2, rfl⟩⟩
def lists (L : List Str) : Nat → List (List Str)
  | 0 => [[]]
  | k + 1 => [] :: L.flatMap fun l => (lists L k).map (l :: ·)
theorem mem_lists {L : List Str} : ∀ {k : Nat} {ss : List Str}, ss.length ≤ k → (∀ s ∈ ss, s ∈ L) → ss ∈ lists L k
  | 0, [], _, _ => List.mem_cons_self ..
  | k + 1, [], _, _ => List.mem_cons_self ..
  | k + 1, s :: ss, hl, h => List.mem_cons_of_mem _ (List.mem_flatMap.mpr ⟨s, h s (List.mem_cons_self ..), List.mem_map.mpr ⟨ss, mem_lists (Nat.le_of_succ_le_succ hl) (fun t ht => h t (List.mem_cons_of_mem _ ht)), rfl⟩⟩)
theorem ne_int (i : Int) : cmpD .ne (.int i) (.int i) = some false := by
  rw [cne, eqD_int, decide_eq_true rfl]
  rfl
theorem ne_bl {x y : Bool} (h : x = y) : cmpD .ne (.bl x) (.bl y) = some false := by
  subst h
  cases x <;> rfl
section
variable {S : PV.Sem} {ρ : PV.Env} {G G1 : Gs}
theorem x_told {b : PV.E} {d : D} (h : evE S ρ b G = .ok d G1) : evE S ρ (.told b) G = .ok d G1 := by simp only [evE, h, toldR]
theorem x_toldx {b : PV.E} {c : Nat} {r : Str} (h : evE S ρ b G = .exc c G1) (h2 : S.told c = some r) : evE S ρ (.told b) G = .ok (.str r) G1 := by simp only [evE, h, toldR, h2]
theorem forL_next {f : D → PV.Env → Gs → F} {d : D} {ds : List D} {ρ1 : PV.Env} {x : F} (h : f d ρ G = .next ρ1 G1) (h2 : forL f ds ρ1 G1 = x) : forL f (d :: ds) ρ G = x := by simp only [forL, h, h2]
end
theorem rangeD_nat (n : Nat) : rangeD 0 (n : Int) = (List.range n).map fun (k : Nat) => D.int (0 + (k : Int)) := by
  unfold rangeD
  rw [show ((n : Int) - 0).toNat = n by omega]
theorem len_rng (r : Int) : (rangeD 0 r).length = r.toNat := by simp [rangeD]
theorem bits_lt {ns : List Int} (h2 : ∀ z ∈ ns, Builtin.Int.intBits z ≤ 1048576) : ∀ z ∈ ns, z.natAbs < 2 ^ BB := fun z hz => by
  have h := h2 z hz
  unfold Builtin.Int.intBits at h
  have k : z.natAbs < 2 ^ 1048576 := by
    by_cases h0 : z = 0
    · subst h0
      exact Nat.pow_pos (by decide)
    · rw [if_neg (by simpa using h0)] at h
      exact (Nat.log2_lt (by omega)).mp (by omega)
  exact Nat.lt_of_lt_of_le k (Nat.pow_le_pow_right (by decide) (by decide))
theorem evB_app (S : PV.Sem) : ∀ (a b : List St) (ρ : PV.Env) (G : Gs), evB S (a ++ b) ρ G = (evB S a ρ G).then (evB S b)
  | [], b, ρ, G => rfl
  | s :: a, b, ρ, G => by
    show (evS S s ρ G).then (evB S (a ++ b)) = ((evS S s ρ G).then (evB S a)).then (evB S b)
    cases evS S s ρ G with
    | next ρ' G' => exact evB_app S a b ρ' G'
    | _ => rfl
theorem app_next {S : PV.Sem} {a b : List St} {ρ ρ1 : PV.Env} {G G1 : Gs} {x : F} (h1 : evB S a ρ G = .next ρ1 G1) (h2 : evB S b ρ1 G1 = x) : evB S (a ++ b) ρ G = x := by
  rw [evB_app, h1]
  exact h2
end PV
end
/-! ## K06a -/
section
set_option Elab.async false
set_option linter.all false
set_option maxRecDepth 100000
set_option maxHeartbeats 4000000
namespace LK
open PySem L2 LamX PyProof.Rows RZ PV
/-! the text by places -/
def top (i : Nat) : Stmt := PySem.Challenge.pw_stepwright_k06_roots_counted.main.body.getD i (.Pass ⟨0, 0, 0, 0⟩)
abbrev s_shared : Stmt := top 13
abbrev s_part : Stmt := top 14
abbrev s_plus : Stmt := top 15
abbrev s_minus : Stmt := top 16
abbrev s_times : Stmt := top 17
abbrev s_over : Stmt := top 18
abbrev s_is_less : Stmt := top 19
abbrev s_size_of : Stmt := top 20
abbrev s_small_row : Stmt := top 21
abbrev s_halfway : Stmt := top 22
abbrev s_greatest : Stmt := top 23
abbrev s_curve : Stmt := top 25
abbrev s_power_of : Stmt := top 26
abbrev s_part_at : Stmt := top 27
abbrev s_scaled_curve : Stmt := top 28
abbrev s_multiplied : Stmt := top 29
abbrev s_divided : Stmt := top 30
abbrev s_worth : Stmt := top 31
abbrev s_slope : Stmt := top 32
abbrev s_shared_curve : Stmt := top 33
abbrev s_rests : Stmt := top 35
abbrev s_changes : Stmt := top 36
abbrev s_plain : Stmt := top 37
abbrev s_how_many : Stmt := top 38
abbrev s_bound : Stmt := top 39
abbrev s_all_of : Stmt := top 40
abbrev s_narrowed : Stmt := top 41
abbrev s_apart : Stmt := top 42
abbrev s_split : Stmt := top 43
abbrev s_never_below : Stmt := top 44
abbrev s_samples : Stmt := top 45
abbrev s_sign_at : Stmt := top 46
abbrev s_inside_circle : Stmt := top 47
abbrev s_law_dice : Stmt := top 49
abbrev s_law_roll : Stmt := top 50
abbrev s_law_rounds : Stmt := top 51
abbrev s_law_told : Stmt := top 52
abbrev s_law_cases1 : Stmt := top 53
abbrev s_law : Stmt := top 54
/-! the program as the evaluator has it -/
def m_shared : Fn := ⟨2, 2, [.ret (.prim .gcd [.var 0, .var 1])]⟩
def m_part : Fn := ⟨2, 3, [.ite (.cmp .eq (.var 1) (.con (.int 0))) [.raise 0 (.con (.str "a part by nought"))] [],
    .set (.nm 2) (.call 0 [.var 0, .var 1]),
    .ite (.cmp .lt (.var 1) (.con (.int 0))) [.set (.nm 2) (.neg (.var 2))] [],
    .ret (.tup [.bin .fdiv (.var 0) (.var 2), .bin .fdiv (.var 1) (.var 2)])]⟩
def m_plus : Fn := ⟨2, 2, [.ret (.call 1 [.bin .add (.bin .mul (.ix (.var 0) (.con (.int 0))) (.ix (.var 1) (.con (.int 1)))) (.bin .mul (.ix (.var 1) (.con (.int 0))) (.ix (.var 0) (.con (.int 1)))), .bin .mul (.ix (.var 0) (.con (.int 1))) (.ix (.var 1) (.con (.int 1)))])]⟩
def m_minus : Fn := ⟨2, 2, [.ret (.call 1 [.bin .sub (.bin .mul (.ix (.var 0) (.con (.int 0))) (.ix (.var 1) (.con (.int 1)))) (.bin .mul (.ix (.var 1) (.con (.int 0))) (.ix (.var 0) (.con (.int 1)))), .bin .mul (.ix (.var 0) (.con (.int 1))) (.ix (.var 1) (.con (.int 1)))])]⟩
def m_times : Fn := ⟨2, 2, [.ret (.call 1 [.bin .mul (.ix (.var 0) (.con (.int 0))) (.ix (.var 1) (.con (.int 0))), .bin .mul (.ix (.var 0) (.con (.int 1))) (.ix (.var 1) (.con (.int 1)))])]⟩
def m_over : Fn := ⟨2, 2, [.ret (.call 1 [.bin .mul (.ix (.var 0) (.con (.int 0))) (.ix (.var 1) (.con (.int 1))), .bin .mul (.ix (.var 0) (.con (.int 1))) (.ix (.var 1) (.con (.int 0)))])]⟩
def m_is_less : Fn := ⟨2, 2, [.ret (.cmp .lt (.bin .mul (.ix (.var 0) (.con (.int 0))) (.ix (.var 1) (.con (.int 1)))) (.bin .mul (.ix (.var 1) (.con (.int 0))) (.ix (.var 0) (.con (.int 1)))))]⟩
def m_size_of : Fn := ⟨1, 1, [.ret (.tup [.prim .abs [.ix (.var 0) (.con (.int 0))], .ix (.var 0) (.con (.int 1))])]⟩
def m_small_row : Fn := ⟨1, 2, [.ret (.prim .tuple [.comp [1] (.call 1 [.ix (.var 1) (.con (.int 0)), .ix (.var 1) (.con (.int 1))]) (.nm 1) (.seq (.var 0)) []])]⟩
def m_halfway : Fn := ⟨2, 2, [.ret (.call 5 [.call 2 [.var 0, .var 1], .tup [.con (.int 2), .con (.int 1)]])]⟩
def m_greatest : Fn := ⟨1, 3, [.set (.nm 1) (.tup [.con (.int 0), .con (.int 1)]),
    .for_ (.nm 2) (.seq (.var 0)) [.ite (.call 6 [.var 1, .var 2]) [.set (.nm 1) (.var 2)] []],
    .ret (.var 1)]⟩
def m_curve : Fn := ⟨1, 3, [.set (.nm 1) (.call 8 [.var 0]),
    .set (.nm 2) (.prim .len [.var 1]),
    .while_ (.and (.cmp .gt (.var 2) (.con (.int 0))) (.cmp .eq (.ix (.ix (.var 1) (.bin .sub (.var 2) (.con (.int 1)))) (.con (.int 0))) (.con (.int 0)))) [.aug 2 .sub (.con (.int 1))],
    .ret (.sl (.var 1) none (some (.var 2)))]⟩
def m_power_of : Fn := ⟨1, 1, [.ret (.bin .sub (.prim .len [.var 0]) (.con (.int 1)))]⟩
def m_part_at : Fn := ⟨2, 2, [.ite (.chain .le .lt (.con (.int 0)) (.var 1) (.prim .len [.var 0])) [.ret (.ix (.var 0) (.var 1))] [],
    .ret (.tup [.con (.int 0), .con (.int 1)])]⟩
def m_scaled_curve : Fn := ⟨2, 3, [.ret (.call 11 [.comp [2] (.call 4 [.var 2, .var 1]) (.nm 2) (.seq (.var 0)) []])]⟩
def m_multiplied : Fn := ⟨2, 7, [.set (.nm 2) (.mulC (.lst [.tup [.con (.int 0), .con (.int 1)]]) (.bin .add (.prim .len [.var 0]) (.prim .len [.var 1]))),
    .for_ (.tp [.nm 3, .nm 4]) (.enum (.var 0)) [.for_ (.tp [.nm 5, .nm 6]) (.enum (.var 1)) [.setix (.var 2) (.bin .add (.var 3) (.var 5)) (.call 2 [.ix (.var 2) (.bin .add (.var 3) (.var 5)), .call 4 [.var 4, .var 6]])]],
    .ret (.call 11 [.take (.var 2)])]⟩
def m_divided : Fn := ⟨2, 9, [.set (.nm 2) (.call 5 [.tup [.con (.int 1), .con (.int 1)], .call 13 [.var 1, .call 12 [.var 1]]]),
    .set (.nm 3) (.listC (.var 0)),
    .set (.nm 4) (.lstC []),
    .while_ (.cmp .ge (.prim .len [.var 3]) (.prim .len [.var 1])) [.set (.nm 5) (.call 4 [.ix (.var 3) (.neg (.con (.int 1))), .var 2]),
    .set (.nm 6) (.bin .sub (.prim .len [.var 3]) (.prim .len [.var 1])),
    .for_ (.tp [.nm 7, .nm 8]) (.enum (.var 1)) [.setix (.var 3) (.bin .add (.var 6) (.var 7)) (.call 3 [.ix (.var 3) (.bin .add (.var 6) (.var 7)), .call 4 [.var 5, .var 8]])],
    .ex (.pop (.var 3)),
    .ex (.app (.var 4) (.var 5))],
    .ret (.tup [.call 11 [.rev (.take (.var 4))], .call 11 [.take (.var 3)]])]⟩
def m_worth : Fn := ⟨2, 4, [.set (.nm 2) (.tup [.con (.int 0), .con (.int 1)]),
    .for_ (.nm 3) (.revI (.var 0)) [.set (.nm 2) (.call 2 [.call 4 [.var 2, .var 1], .var 3])],
    .ret (.var 2)]⟩
def m_slope : Fn := ⟨1, 2, [.ret (.call 11 [.comp [1] (.call 4 [.ix (.var 0) (.var 1), .tup [.var 1, .con (.int 1)]]) (.nm 1) (.rng2 (.con (.int 1)) (.prim .len [.var 0])) []])]⟩
def m_shared_curve : Fn := ⟨2, 2, [.while_ (.cmp .gt (.prim .len [.var 1]) (.con (.int 0))) [.set (.tp [.nm 0, .nm 1]) (.tup [.var 1, .ix (.call 16 [.var 0, .var 1]) (.con (.int 1))])],
    .ite (.cmp .eq (.prim .len [.var 0]) (.con (.int 0))) [.ret (.tup [])] [],
    .ret (.call 14 [.var 0, .call 5 [.tup [.con (.int 1), .con (.int 1)], .ix (.var 0) (.neg (.con (.int 1)))]])]⟩
def m_rests : Fn := ⟨1, 4, [.set (.nm 1) (.lstC []),
    .set (.tp [.nm 2, .nm 3]) (.tup [.prim .tuple [.var 0], .call 18 [.var 0]]),
    .while_ (.cmp .gt (.prim .len [.var 2]) (.con (.int 0))) [.ex (.app (.var 1) (.var 2)),
    .ite (.cmp .eq (.prim .len [.var 3]) (.con (.int 0))) [.brk] [],
    .set (.tp [.nm 2, .nm 3]) (.tup [.var 3, .call 14 [.ix (.call 16 [.var 2, .var 3]) (.con (.int 1)), .tup [.neg (.con (.int 1)), .con (.int 1)]]])],
    .ret (.prim .tuple [.take (.var 1)])]⟩
def m_changes : Fn := ⟨2, 6, [.set (.nm 2) (.comp [3] (.var 3) (.nm 3) (.seq (.comp [5] (.call 31 [.var 5, .var 1]) (.nm 5) (.seq (.var 0)) [])) [.cmp .ne (.var 3) (.con (.int 0))]),
    .ret (.prim .len [.comp [3, 4] (.con (.int 1)) (.tp [.nm 3, .nm 4]) (.zip2 (.var 2) (.sl (.var 2) (some (.con (.int 1))) none)) [.cmp .ne (.var 3) (.var 4)]])]⟩
def m_plain : Fn := ⟨1, 1, [.ite (.cmp .eq (.prim .len [.var 0]) (.con (.int 0))) [.raise 5 (.con (.str "a bare polynomial is nought everywhere"))] [],
    .ret (.ix (.call 16 [.var 0, .call 19 [.var 0, .call 18 [.var 0]]]) (.con (.int 0)))]⟩
def m_how_many : Fn := ⟨3, 4, [.ite (.call 6 [.var 2, .var 1]) [.raise 5 (.con (.str "the high is below the low"))] [],
    .set (.nm 3) (.call 20 [.call 22 [.var 0]]),
    .ret (.bin .sub (.call 21 [.var 3, .var 1]) (.call 21 [.var 3, .var 2]))]⟩
def m_bound : Fn := ⟨1, 2, [.ite (.cmp .eq (.prim .len [.var 0]) (.con (.int 0))) [.raise 5 (.con (.str "a bare polynomial is nought everywhere"))] [],
    .ret (.call 2 [.call 10 [.comp [1] (.call 7 [.call 5 [.var 1, .ix (.var 0) (.neg (.con (.int 1)))]]) (.nm 1) (.seq (.sl (.var 0) none (some (.neg (.con (.int 1)))))) []], .tup [.con (.int 1), .con (.int 1)]])]⟩
def m_all_of : Fn := ⟨1, 2, [.set (.nm 1) (.call 24 [.var 0]),
    .ret (.call 23 [.var 0, .call 3 [.tup [.con (.int 0), .con (.int 1)], .var 1], .var 1])]⟩
def m_narrowed : Fn := ⟨4, 6, [.ite (.or (.cmp .lt (.var 3) (.con (.int 0))) (.cmp .ne (.call 23 [.var 0, .var 1, .var 2]) (.con (.int 1)))) [.raise 5 (.con (.str "not one root"))] [],
    .for_ (.nm 4) (.rng1 (.var 3)) [.set (.nm 5) (.call 9 [.var 1, .var 2]),
    .ite (.cmp .eq (.call 23 [.var 0, .var 1, .var 5]) (.con (.int 1))) [.set (.nm 2) (.var 5)] [.set (.nm 1) (.var 5)]],
    .ret (.tup [.var 1, .var 2])]⟩
def m_apart : Fn := ⟨1, 2, [.set (.nm 1) (.call 24 [.var 0]),
    .ret (.prim .tuple [.call 28 [.var 0, .call 3 [.tup [.con (.int 0), .con (.int 1)], .var 1], .var 1]])]⟩
def m_split : Fn := ⟨3, 9, [.set (.nm 3) (.lstC []),
    .set (.nm 4) (.lstC [.tup [.var 1, .var 2]]),
    .while_ (.cmp .gt (.prim .len [.var 4]) (.con (.int 0))) [.set (.tp [.nm 5, .nm 6]) (.pop (.var 4)),
    .set (.nm 7) (.call 23 [.var 0, .var 5, .var 6]),
    .ite (.cmp .eq (.var 7) (.con (.int 1))) [.ex (.app (.var 3) (.tup [.var 5, .var 6]))] [],
    .ite (.cmp .gt (.var 7) (.con (.int 1))) [.set (.nm 8) (.call 9 [.var 5, .var 6]),
    .ex (.app (.var 4) (.tup [.var 8, .var 6])),
    .ex (.app (.var 4) (.tup [.var 5, .var 8]))] []],
    .ret (.take (.var 3))]⟩
def m_never_below : Fn := ⟨3, 4, [.ite (.call 6 [.var 2, .var 1]) [.raise 5 (.con (.str "the high is below the low"))] [],
    .ite (.cmp .eq (.prim .len [.var 0]) (.con (.int 0))) [.ret (.con (.bl true))] [],
    .ret (.prim .all1 [.comp [3] (.cmp .ge (.call 31 [.var 0, .var 3]) (.con (.int 0))) (.nm 3) (.seq (.call 30 [.var 0, .var 1, .var 2])) []])]⟩
def m_samples : Fn := ⟨3, 8, [.set (.nm 3) (.call 22 [.var 0]),
    .set (.nm 4) (.lstC [.var 1, .var 2]),
    .for_ (.tp [.nm 5, .nm 6]) (.seq (.call 28 [.var 0, .var 1, .var 2])) [.set (.nm 7) (.var 5),
    .ite (.cmp .eq (.call 31 [.var 3, .var 5]) (.con (.int 0))) [.set (.nm 7) (.call 9 [.var 5, .var 6]),
    .while_ (.cmp .ne (.call 23 [.var 0, .var 5, .var 7]) (.con (.int 0))) [.set (.nm 7) (.call 9 [.var 5, .var 7])]] [],
    .ex (.app (.var 4) (.var 7))],
    .ret (.prim .tuple [.take (.var 4)])]⟩
def m_sign_at : Fn := ⟨2, 3, [.set (.nm 2) (.ix (.call 17 [.var 0, .var 1]) (.con (.int 0))),
    .ite (.cmp .eq (.var 2) (.con (.int 0))) [.ret (.con (.int 0))] [],
    .ret (.ite (.cmp .gt (.var 2) (.con (.int 0))) (.con (.int 1)) (.neg (.con (.int 1))))]⟩
def m_inside_circle : Fn := ⟨1, 5, [.ite (.cmp .eq (.prim .len [.var 0]) (.con (.int 0))) [.raise 5 (.con (.str "a bare polynomial is nought everywhere"))] [],
    .while_ (.cmp .gt (.prim .len [.var 0]) (.con (.int 1))) [.set (.nm 1) (.call 5 [.ix (.var 0) (.con (.int 0)), .ix (.var 0) (.neg (.con (.int 1)))]),
    .ite (.not (.call 6 [.call 7 [.var 1], .tup [.con (.int 1), .con (.int 1)]])) [.ret (.con (.bl false))] [],
    .set (.nm 2) (.rev (.var 0)),
    .set (.nm 0) (.call 11 [.comp [3, 4] (.call 3 [.var 3, .call 4 [.var 1, .var 4]]) (.tp [.nm 3, .nm 4]) (.zip2 (.sl (.var 0) (some (.con (.int 1))) none) (.sl (.var 2) (some (.con (.int 1))) none)) []])],
    .ret (.con (.bl true))]⟩
def m_law_dice : Fn := ⟨1, 1, [.ite (.chain .lt .lt (.bin .sub (.con (.int 0)) (.con (.int 10))) (.var 0) (.con (.int 10))) [.ret (.lstC [.prim .abs [.var 0], .con (.int 0), .con (.int 2)])] [],
    .ret (.lstC [.var 0, .bin .add (.con (.int 1)) (.bin .mod (.prim .int [.var 0]) (.con (.int 1009))), .prim .int [.cmp .ge (.var 0) (.bin .pow (.con (.int 10)) (.con (.int 18)))]])]⟩
def m_law_roll : Fn := ⟨2, 3, [.ite (.or (.cmp .eq (.ix (.var 0) (.con (.int 2))) (.con (.int 2))) (.and (.cmp .eq (.ix (.var 0) (.con (.int 2))) (.con (.int 1))) (.cmp .gt (.ix (.var 0) (.con (.int 0))) (.con (.int 0))))) [.set (.nm 2) (.bin .mod (.prim .int [.ix (.var 0) (.con (.int 0))]) (.var 1)),
    .setix (.var 0) (.con (.int 0)) (.bin .fdiv (.ix (.var 0) (.con (.int 0))) (.var 1)),
    .ret (.var 2)] [],
    .setix (.var 0) (.con (.int 2)) (.con (.int 0)),
    .setix (.var 0) (.con (.int 0)) (.bin .mod (.prim .int [.bin .add (.bin .add (.bin .mul (.ix (.var 0) (.con (.int 0))) (.con (.int 48271))) (.bin .mul (.ix (.var 0) (.con (.int 1))) (.con (.int 69621)))) (.con (.int 11))]) (.con (.int 2147483647))),
    .setix (.var 0) (.con (.int 1)) (.bin .add (.ix (.var 0) (.con (.int 1))) (.con (.int 1))),
    .ret (.bin .mod (.prim .int [.bin .add (.bin .fdiv (.ix (.var 0) (.con (.int 0))) (.con (.int 7))) (.ix (.var 0) (.con (.int 0)))]) (.var 1))]⟩
def m_law_rounds : Fn := ⟨2, 4, [.set (.nm 2) (.sl (.var 0) none (some (.var 1))),
    .ite (.cmp .eq (.var 2) (.lst [])) [.set (.nm 2) (.lst [.con (.int 0)])] [],
    .ret (.comp [3] (.call 33 [.var 3]) (.nm 3) (.seq (.var 2)) [])]⟩
def m_law_told : Fn := ⟨1, 1, []⟩
def m_law_cases1 : Fn := ⟨0, 2, [.set (.nm 0) (.lst [.tup [.lam 0, .con (.str "size")], .tup [.lam 1, .con (.str "size")], .tup [.lam 2, .con (.str "size")], .tup [.lam 3, .con (.str "size")], .tup [.lam 4, .con (.str "size")], .tup [.lam 5, .con (.str "size")], .tup [.lam 6, .con (.str "size")], .tup [.lam 7, .con (.str "size")], .tup [.lam 8, .con (.str "size")]]),
    .ret (.and (.cmp .eq (.comp [1] (.var 1) (.nm 1) (.seq (.var 0)) [.cmp .ne (.call 36 [.ix (.var 1) (.con (.int 0))]) (.ix (.var 1) (.con (.int 1)))]) (.lst [])) (.and (.call 29 [.tup [], .tup [.con (.int 0), .con (.int 1)], .tup [.con (.int 0), .con (.int 1)]]) (.call 32 [.tup [.tup [.con (.int 5), .con (.int 1)]]])))]⟩
def m_law : Fn := ⟨1, 25, [.for_ (.nm 1) (.seq (.call 35 [.var 0, .con (.int 1)])) [.set (.nm 2) (.comp [12] (.call 1 [.bin .sub (.call 34 [.var 1, .con (.int 9)]) (.con (.int 4)), .bin .add (.con (.int 1)) (.call 34 [.var 1, .con (.int 2)])]) (.nm 12) (.rng1 (.call 34 [.var 1, .con (.int 5)])) []),
    .set (.nm 3) (.call 14 [.tup [.tup [.con (.int 1), .con (.int 1)]], .ix (.lst [.tup [.con (.int 2), .con (.int 1)], .tup [.bin .sub (.con (.int 0)) (.con (.int 1)), .con (.int 1)]]) (.call 34 [.var 1, .con (.int 2)])]),
    .for_ (.nm 4) (.seq (.var 2)) [.set (.nm 3) (.call 15 [.var 3, .call 11 [.lst [.call 3 [.tup [.con (.int 0), .con (.int 1)], .var 4], .tup [.con (.int 1), .con (.int 1)]]]])],
    .ite (.cmp .eq (.call 34 [.var 1, .con (.int 2)]) (.con (.int 0))) [.set (.nm 3) (.call 15 [.var 3, .call 11 [.lst [.tup [.bin .add (.con (.int 1)) (.call 34 [.var 1, .con (.int 3)]), .con (.int 1)], .tup [.con (.int 0), .con (.int 1)], .tup [.con (.int 1), .con (.int 1)]]]])] [],
    .set (.nm 5) (.sortQ (.dctP (.comp [4] (.tup [.var 4, .con (.int 1)]) (.nm 4) (.seq (.var 2)) [])) 9 (2)),
    .set (.tp [.nm 6, .nm 7]) (.tup [.call 1 [.bin .sub (.call 34 [.var 1, .con (.int 13)]) (.con (.int 6)), .con (.int 2)], .call 1 [.bin .sub (.call 34 [.var 1, .con (.int 13)]) (.con (.int 6)), .con (.int 2)]]),
    .set (.nm 8) (.comp [4] (.var 4) (.nm 4) (.seq (.var 5)) [.and (.call 6 [.var 6, .var 4]) (.not (.call 6 [.var 7, .var 4]))]),
    .ite (.or (.cmp .ne (.told (.call 23 [.var 3, .var 6, .var 7])) (.ite (.call 6 [.var 7, .var 6]) (.con (.str "size")) (.prim .len [.var 8]))) (.cmp .ne (.call 25 [.var 3]) (.prim .len [.var 5]))) [.ret (.con (.bl false))] [],
    .set (.nm 9) (.call 24 [.var 3]),
    .ite (.or (.cmp .ne (.comp [4] (.var 4) (.nm 4) (.seq (.var 5)) [.not (.call 6 [.call 7 [.var 4], .var 9])]) (.lst [])) (.or (.cmp .ne (.bin .sub (.prim .len [.call 22 [.var 3]]) (.con (.int 1))) (.bin .sub (.bin .sub (.bin .add (.prim .len [.var 5]) (.prim .len [.var 3])) (.con (.int 1))) (.prim .len [.var 2]))) (.cmp .ne (.comp [4] (.var 4) (.nm 4) (.seq (.var 5)) [.cmp .ne (.ix (.call 17 [.call 22 [.var 3], .var 4]) (.con (.int 0))) (.con (.int 0))]) (.lst [])))) [.ret (.con (.bl false))] [],
    .set (.nm 10) (.call 27 [.var 3]),
    .ite (.or (.cmp .ne (.prim .len [.var 10]) (.prim .len [.var 5])) (.or (.cmp .ne (.comp [12] (.var 12) (.nm 12) (.rng1 (.prim .len [.var 10])) [.or (.not (.call 6 [.ix (.ix (.var 10) (.var 12)) (.con (.int 0)), .ix (.var 5) (.var 12)])) (.call 6 [.ix (.ix (.var 10) (.var 12)) (.con (.int 1)), .ix (.var 5) (.var 12)])]) (.lst [])) (.cmp .ne (.prim .list [.call 28 [.var 3, .call 3 [.tup [.con (.int 0), .con (.int 1)], .var 9], .var 9]]) (.prim .list [.var 10])))) [.ret (.con (.bl false))] [],
    .set (.nm 11) (.call 20 [.call 22 [.var 3]]),
    .ite (.or (.cmp .ne (.bin .sub (.call 21 [.var 11, .call 3 [.tup [.con (.int 0), .con (.int 1)], .var 9]]) (.call 21 [.var 11, .var 9])) (.prim .len [.var 5])) (.cmp .ne (.ix (.var 11) (.con (.int 0))) (.call 22 [.var 3]))) [.ret (.con (.bl false))] [],
    .for_ (.nm 12) (.rng1 (.prim .len [.var 10])) [.set (.tp [.nm 13, .nm 14]) (.call 26 [.var 3, .ix (.ix (.var 10) (.var 12)) (.con (.int 0)), .ix (.ix (.var 10) (.var 12)) (.con (.int 1)), .con (.int 3)]),
    .ite (.or (.not (.call 6 [.var 13, .ix (.var 5) (.var 12)])) (.or (.call 6 [.var 14, .ix (.var 5) (.var 12)]) (.cmp .ne (.call 4 [.call 3 [.var 14, .var 13], .tup [.con (.int 8), .con (.int 1)]]) (.call 3 [.ix (.ix (.var 10) (.var 12)) (.con (.int 1)), .ix (.ix (.var 10) (.var 12)) (.con (.int 0))])))) [.ret (.con (.bl false))] []],
    .ite (.not (.call 6 [.var 7, .var 6])) [.set (.nm 15) (.sortQ (.dctP (.comp [24] (.tup [.var 24, .con (.int 1)]) (.nm 24) (.seq (.bin .add (.lst [.var 6, .var 7]) (.var 8))) [])) 10 (2)),
    .set (.nm 16) (.bin .add (.var 15) (.comp [12] (.call 5 [.call 2 [.ix (.var 15) (.var 12), .ix (.var 15) (.bin .add (.var 12) (.con (.int 1)))], .tup [.con (.int 2), .con (.int 1)]]) (.nm 12) (.rng1 (.bin .sub (.prim .len [.var 15]) (.con (.int 1)))) [])),
    .ite (.cmp .ne (.call 29 [.var 3, .var 6, .var 7]) (.cmp .eq (.comp [24] (.var 24) (.nm 24) (.seq (.var 16)) [.cmp .lt (.ix (.call 17 [.var 3, .var 24]) (.con (.int 0))) (.con (.int 0))]) (.lst []))) [.ret (.con (.bl false))] [],
    .set (.nm 17) (.call 30 [.var 3, .var 6, .var 7]),
    .ite (.or (.cmp .ne (.sl (.var 17) none (some (.con (.int 2)))) (.tup [.var 6, .var 7])) (.or (.cmp .ne (.prim .len [.var 17]) (.bin .add (.con (.int 2)) (.prim .len [.var 8]))) (.cmp .ne (.comp [12] (.var 12) (.nm 12) (.rng1 (.prim .len [.var 8])) [.or (.not (.call 6 [.ix (.var 17) (.bin .add (.var 12) (.con (.int 2))), .ix (.var 8) (.var 12)])) (.or (.and (.cmp .gt (.var 12) (.con (.int 0))) (.not (.call 6 [.ix (.var 8) (.bin .sub (.var 12) (.con (.int 1))), .ix (.var 17) (.bin .add (.var 12) (.con (.int 2)))]))) (.and (.cmp .eq (.var 12) (.con (.int 0))) (.call 6 [.ix (.var 17) (.con (.int 2)), .var 6])))]) (.lst [])))) [.ret (.con (.bl false))] []] [],
    .set (.nm 18) (.call 1 [.bin .sub (.call 34 [.var 1, .con (.int 9)]) (.con (.int 4)), .con (.int 2)]),
    .set (.nm 19) (.ix (.call 17 [.var 3, .var 18]) (.con (.int 0))),
    .ite (.cmp .ne (.call 31 [.var 3, .var 18]) (.ite (.cmp .eq (.var 19) (.con (.int 0))) (.con (.int 0)) (.ite (.cmp .gt (.var 19) (.con (.int 0))) (.con (.int 1)) (.bin .sub (.con (.int 0)) (.con (.int 1)))))) [.ret (.con (.bl false))] [],
    .set (.tp [.nm 20, .nm 21]) (.tup [.tup [.tup [.con (.int 3), .con (.int 1)]], .lst []]),
    .for_ (.nm 22) (.rng1 (.bin .add (.con (.int 1)) (.call 34 [.var 1, .con (.int 3)]))) [.ite (.cmp .eq (.call 34 [.var 1, .con (.int 2)]) (.con (.int 0))) [.set (.nm 4) (.call 1 [.bin .sub (.call 34 [.var 1, .con (.int 9)]) (.con (.int 4)), .con (.int 3)]),
    .set (.tp [.nm 21, .nm 20]) (.tup [.bin .add (.var 21) (.lst [.call 4 [.var 4, .var 4]]), .call 15 [.var 20, .call 11 [.lst [.call 3 [.tup [.con (.int 0), .con (.int 1)], .var 4], .tup [.con (.int 1), .con (.int 1)]]]]])] [.set (.tp [.nm 13, .nm 14]) (.tup [.call 1 [.bin .sub (.call 34 [.var 1, .con (.int 5)]) (.con (.int 2)), .con (.int 2)], .call 1 [.bin .add (.con (.int 1)) (.call 34 [.var 1, .con (.int 3)]), .con (.int 2)]]),
    .set (.nm 23) (.call 2 [.call 4 [.var 13, .var 13], .call 4 [.var 14, .var 14]]),
    .set (.tp [.nm 21, .nm 20]) (.tup [.bin .add (.var 21) (.lst [.var 23]), .call 15 [.var 20, .call 11 [.lst [.var 23, .call 4 [.tup [.bin .sub (.con (.int 0)) (.con (.int 2)), .con (.int 1)], .var 13], .tup [.con (.int 1), .con (.int 1)]]]]])]],
    .ite (.cmp .ne (.call 32 [.var 20]) (.cmp .eq (.comp [23] (.var 23) (.nm 23) (.seq (.var 21)) [.not (.call 6 [.var 23, .tup [.con (.int 1), .con (.int 1)]])]) (.lst []))) [.ret (.con (.bl false))] []],
    .ret (.call 37 [])]⟩
def l_0 : PV.E := .call 22 [.tup []]
def l_1 : PV.E := .call 23 [.tup [], .tup [.con (.int 0), .con (.int 1)], .tup [.con (.int 1), .con (.int 1)]]
def l_2 : PV.E := .call 24 [.tup []]
def l_3 : PV.E := .call 25 [.tup []]
def l_4 : PV.E := .call 27 [.tup []]
def l_5 : PV.E := .call 26 [.tup [.tup [.con (.int 0), .con (.int 1)], .tup [.con (.int 1), .con (.int 1)]], .tup [.con (.int 1), .con (.int 1)], .tup [.con (.int 2), .con (.int 1)], .con (.int 1)]
def l_6 : PV.E := .call 26 [.tup [.tup [.con (.int 0), .con (.int 1)], .tup [.con (.int 1), .con (.int 1)]], .tup [.bin .sub (.con (.int 0)) (.con (.int 1)), .con (.int 1)], .tup [.con (.int 2), .con (.int 1)], .bin .sub (.con (.int 0)) (.con (.int 1))]
def l_7 : PV.E := .call 29 [.tup [.tup [.con (.int 1), .con (.int 1)]], .tup [.con (.int 1), .con (.int 1)], .tup [.con (.int 0), .con (.int 1)]]
def l_8 : PV.E := .call 32 [.tup []]
def l_9 : PV.E := .bad
def l_10 : PV.E := .bad
def tolds : Nat → Option Str
  | 0 => some "part"
  | 5 => some "size"
  | _ => none
def prog : Prog := { fns := [m_shared, m_part, m_plus, m_minus, m_times, m_over, m_is_less, m_size_of, m_small_row, m_halfway, m_greatest, m_curve, m_power_of, m_part_at, m_scaled_curve, m_multiplied, m_divided, m_worth, m_slope, m_shared_curve, m_rests, m_changes, m_plain, m_how_many, m_bound, m_all_of, m_narrowed, m_apart, m_split, m_never_below, m_samples, m_sign_at, m_inside_circle, m_law_dice, m_law_roll, m_law_rounds, m_law_told, m_law_cases1, m_law], lams := [l_0, l_1, l_2, l_3, l_4, l_5, l_6, l_7, l_8, l_9, l_10], told := tolds, toldI := 36 }
def assignVal : Stmt → Expr
  | .Assign _ v _ => v
  | _ => .Constant .none 0 ⟨0, 0, 0, 0⟩
def elAt (e : Expr) (k : Nat) : Expr := match e with
  | .List es _ => es.getD k (.Constant .none 0 ⟨0, 0, 0, 0⟩)
  | .Tuple es _ _ => es.getD k (.Constant .none 0 ⟨0, 0, 0, 0⟩)
  | _ => .Constant .none 0 ⟨0, 0, 0, 0⟩
def lamOf (qual : Str) (e : Expr) : LamD := match e with
  | .Lambda a b sc _ => ⟨qual, a, b, sc⟩
  | _ => ⟨qual, { posonlyargs := [], args := [], vararg := none, kwonlyargs := [], kw_defaults := [], kwarg := none, defaults := [] }, .Constant .none 0 ⟨0, 0, 0, 0⟩, { kind := .function, names := [], isGenerator := false, isCoroutine := false }⟩
def forBody : Stmt → List Stmt
  | .For _ _ b _ _ => b
  | .If _ b _ _ => b
  | _ => []
def kwLam : Expr → Expr
  | .Call _ _ (k :: _) _ => k.value
  | e => e
def lamDs : Nat → LamD
  | 0 => lamOf "_law_cases1.<locals>.<lambda>" (elAt (elAt (assignVal ((defBody s_law_cases1).getD 0 (.Pass ⟨0, 0, 0, 0⟩))) 0) 0)
  | 1 => lamOf "_law_cases1.<locals>.<lambda>" (elAt (elAt (assignVal ((defBody s_law_cases1).getD 0 (.Pass ⟨0, 0, 0, 0⟩))) 1) 0)
  | 2 => lamOf "_law_cases1.<locals>.<lambda>" (elAt (elAt (assignVal ((defBody s_law_cases1).getD 0 (.Pass ⟨0, 0, 0, 0⟩))) 2) 0)
  | 3 => lamOf "_law_cases1.<locals>.<lambda>" (elAt (elAt (assignVal ((defBody s_law_cases1).getD 0 (.Pass ⟨0, 0, 0, 0⟩))) 3) 0)
  | 4 => lamOf "_law_cases1.<locals>.<lambda>" (elAt (elAt (assignVal ((defBody s_law_cases1).getD 0 (.Pass ⟨0, 0, 0, 0⟩))) 4) 0)
  | 5 => lamOf "_law_cases1.<locals>.<lambda>" (elAt (elAt (assignVal ((defBody s_law_cases1).getD 0 (.Pass ⟨0, 0, 0, 0⟩))) 5) 0)
  | 6 => lamOf "_law_cases1.<locals>.<lambda>" (elAt (elAt (assignVal ((defBody s_law_cases1).getD 0 (.Pass ⟨0, 0, 0, 0⟩))) 6) 0)
  | 7 => lamOf "_law_cases1.<locals>.<lambda>" (elAt (elAt (assignVal ((defBody s_law_cases1).getD 0 (.Pass ⟨0, 0, 0, 0⟩))) 7) 0)
  | 8 => lamOf "_law_cases1.<locals>.<lambda>" (elAt (elAt (assignVal ((defBody s_law_cases1).getD 0 (.Pass ⟨0, 0, 0, 0⟩))) 8) 0)
  | 9 => lamOf "law.<locals>.<lambda>" (kwLam (assignVal ((forBody ((defBody s_law).getD 0 (.Pass ⟨0, 0, 0, 0⟩))).getD 4 (.Pass ⟨0, 0, 0, 0⟩))))
  | 10 => lamOf "law.<locals>.<lambda>" (kwLam (assignVal ((forBody ((forBody ((defBody s_law).getD 0 (.Pass ⟨0, 0, 0, 0⟩))).getD 15 (.Pass ⟨0, 0, 0, 0⟩))).getD 0 (.Pass ⟨0, 0, 0, 0⟩))))
  | _ => lamOf "" (.Constant .none 0 ⟨0, 0, 0, 0⟩)
theorem kl_9 : KeyL (lamDs 9) "root" := ⟨rfl, rfl, rfl, by decide +kernel, by decide +kernel, fun _ _ _ _ _ _ => rfl, by decide +kernel⟩
theorem kb_9 : ∃ (p0 p1 p2 p3 p4 p5 p6 p7 p8 : Pos) (j0 j1 j2 : Nat), (lamDs 9).body = keyBody "root" 2 p0 p1 p2 p3 p4 p5 p6 p7 p8 j0 j1 j2 := ⟨_, _, _, _, _, _, _, _, _, _, _, _, rfl⟩
theorem kl_10 : KeyL (lamDs 10) "mark" := ⟨rfl, rfl, rfl, by decide +kernel, by decide +kernel, fun _ _ _ _ _ _ => rfl, by decide +kernel⟩
theorem kb_10 : ∃ (p0 p1 p2 p3 p4 p5 p6 p7 p8 : Pos) (j0 j1 j2 : Nat), (lamDs 10).body = keyBody "mark" 2 p0 p1 p2 p3 p4 p5 p6 p7 p8 j0 j1 j2 := ⟨_, _, _, _, _, _, _, _, _, _, _, _, rfl⟩
/-! scopes -/
abbrev N_shared : List Str := ["one", "other"]
theorem sc_shared : FnScope N_shared ["one", "other"] (defScope s_shared) := ⟨rfl, rfl, rfl, by decide +kernel, rfl, by decide +kernel, by decide +kernel⟩
abbrev N_part : List Str := ["top", "low", "by"]
theorem sc_part : FnScope N_part ["top", "low"] (defScope s_part) := ⟨rfl, rfl, rfl, by decide +kernel, rfl, by decide +kernel, by decide +kernel⟩
abbrev N_plus : List Str := ["one", "other"]
theorem sc_plus : FnScope N_plus ["one", "other"] (defScope s_plus) := ⟨rfl, rfl, rfl, by decide +kernel, rfl, by decide +kernel, by decide +kernel⟩
abbrev N_minus : List Str := ["one", "other"]
theorem sc_minus : FnScope N_minus ["one", "other"] (defScope s_minus) := ⟨rfl, rfl, rfl, by decide +kernel, rfl, by decide +kernel, by decide +kernel⟩
abbrev N_times : List Str := ["one", "other"]
theorem sc_times : FnScope N_times ["one", "other"] (defScope s_times) := ⟨rfl, rfl, rfl, by decide +kernel, rfl, by decide +kernel, by decide +kernel⟩
abbrev N_over : List Str := ["one", "other"]
theorem sc_over : FnScope N_over ["one", "other"] (defScope s_over) := ⟨rfl, rfl, rfl, by decide +kernel, rfl, by decide +kernel, by decide +kernel⟩
abbrev N_is_less : List Str := ["one", "other"]
theorem sc_is_less : FnScope N_is_less ["one", "other"] (defScope s_is_less) := ⟨rfl, rfl, rfl, by decide +kernel, rfl, by decide +kernel, by decide +kernel⟩
abbrev N_size_of : List Str := ["one"]
theorem sc_size_of : FnScope N_size_of ["one"] (defScope s_size_of) := ⟨rfl, rfl, rfl, by decide +kernel, rfl, by decide +kernel, by decide +kernel⟩
abbrev N_small_row : List Str := ["row", "one"]
theorem sc_small_row : FnScope N_small_row ["row"] (defScope s_small_row) := ⟨rfl, rfl, rfl, by decide +kernel, rfl, by decide +kernel, by decide +kernel⟩
abbrev N_halfway : List Str := ["one", "other"]
theorem sc_halfway : FnScope N_halfway ["one", "other"] (defScope s_halfway) := ⟨rfl, rfl, rfl, by decide +kernel, rfl, by decide +kernel, by decide +kernel⟩
abbrev N_greatest : List Str := ["parts", "most", "one"]
theorem sc_greatest : FnScope N_greatest ["parts"] (defScope s_greatest) := ⟨rfl, rfl, rfl, by decide +kernel, rfl, by decide +kernel, by decide +kernel⟩
abbrev N_curve : List Str := ["parts", "row", "size"]
theorem sc_curve : FnScope N_curve ["parts"] (defScope s_curve) := ⟨rfl, rfl, rfl, by decide +kernel, rfl, by decide +kernel, by decide +kernel⟩
abbrev N_power_of : List Str := ["one"]
theorem sc_power_of : FnScope N_power_of ["one"] (defScope s_power_of) := ⟨rfl, rfl, rfl, by decide +kernel, rfl, by decide +kernel, by decide +kernel⟩
abbrev N_part_at : List Str := ["one", "power"]
theorem sc_part_at : FnScope N_part_at ["one", "power"] (defScope s_part_at) := ⟨rfl, rfl, rfl, by decide +kernel, rfl, by decide +kernel, by decide +kernel⟩
abbrev N_scaled_curve : List Str := ["one", "by", "mine"]
theorem sc_scaled_curve : FnScope N_scaled_curve ["one", "by"] (defScope s_scaled_curve) := ⟨rfl, rfl, rfl, by decide +kernel, rfl, by decide +kernel, by decide +kernel⟩
abbrev N_multiplied : List Str := ["one", "other", "found", "low", "mine", "high", "its"]
theorem sc_multiplied : FnScope N_multiplied ["one", "other"] (defScope s_multiplied) := ⟨rfl, rfl, rfl, by decide +kernel, rfl, by decide +kernel, by decide +kernel⟩
abbrev N_divided : List Str := ["one", "other", "back", "rest", "whole", "by", "ahead", "power", "its"]
theorem sc_divided : FnScope N_divided ["one", "other"] (defScope s_divided) := ⟨rfl, rfl, rfl, by decide +kernel, rfl, by decide +kernel, by decide +kernel⟩
abbrev N_worth : List Str := ["one", "at", "found", "mine"]
theorem sc_worth : FnScope N_worth ["one", "at"] (defScope s_worth) := ⟨rfl, rfl, rfl, by decide +kernel, rfl, by decide +kernel, by decide +kernel⟩
abbrev N_slope : List Str := ["one", "power"]
theorem sc_slope : FnScope N_slope ["one"] (defScope s_slope) := ⟨rfl, rfl, rfl, by decide +kernel, rfl, by decide +kernel, by decide +kernel⟩
abbrev N_shared_curve : List Str := ["one", "other"]
theorem sc_shared_curve : FnScope N_shared_curve ["one", "other"] (defScope s_shared_curve) := ⟨rfl, rfl, rfl, by decide +kernel, rfl, by decide +kernel, by decide +kernel⟩
abbrev N_rests : List Str := ["one", "row", "ahead", "last"]
theorem sc_rests : FnScope N_rests ["one"] (defScope s_rests) := ⟨rfl, rfl, rfl, by decide +kernel, rfl, by decide +kernel, by decide +kernel⟩
abbrev N_changes : List Str := ["row", "at", "signs", "sign", "after", "one"]
theorem sc_changes : FnScope N_changes ["row", "at"] (defScope s_changes) := ⟨rfl, rfl, rfl, by decide +kernel, rfl, by decide +kernel, by decide +kernel⟩
abbrev N_plain : List Str := ["one"]
theorem sc_plain : FnScope N_plain ["one"] (defScope s_plain) := ⟨rfl, rfl, rfl, by decide +kernel, rfl, by decide +kernel, by decide +kernel⟩
abbrev N_how_many : List Str := ["one", "low", "high", "row"]
theorem sc_how_many : FnScope N_how_many ["one", "low", "high"] (defScope s_how_many) := ⟨rfl, rfl, rfl, by decide +kernel, rfl, by decide +kernel, by decide +kernel⟩
abbrev N_bound : List Str := ["one", "other"]
theorem sc_bound : FnScope N_bound ["one"] (defScope s_bound) := ⟨rfl, rfl, rfl, by decide +kernel, rfl, by decide +kernel, by decide +kernel⟩
abbrev N_all_of : List Str := ["one", "end"]
theorem sc_all_of : FnScope N_all_of ["one"] (defScope s_all_of) := ⟨rfl, rfl, rfl, by decide +kernel, rfl, by decide +kernel, by decide +kernel⟩
abbrev N_narrowed : List Str := ["one", "low", "high", "turns", "_", "middle"]
theorem sc_narrowed : FnScope N_narrowed ["one", "low", "high", "turns"] (defScope s_narrowed) := ⟨rfl, rfl, rfl, by decide +kernel, rfl, by decide +kernel, by decide +kernel⟩
abbrev N_apart : List Str := ["one", "end"]
theorem sc_apart : FnScope N_apart ["one"] (defScope s_apart) := ⟨rfl, rfl, rfl, by decide +kernel, rfl, by decide +kernel, by decide +kernel⟩
abbrev N_split : List Str := ["one", "low", "high", "found", "waiting", "below", "above", "count", "middle"]
theorem sc_split : FnScope N_split ["one", "low", "high"] (defScope s_split) := ⟨rfl, rfl, rfl, by decide +kernel, rfl, by decide +kernel, by decide +kernel⟩
abbrev N_never_below : List Str := ["one", "low", "high", "at"]
theorem sc_never_below : FnScope N_never_below ["one", "low", "high"] (defScope s_never_below) := ⟨rfl, rfl, rfl, by decide +kernel, rfl, by decide +kernel, by decide +kernel⟩
abbrev N_samples : List Str := ["one", "low", "high", "each_once", "found", "below", "above", "at"]
theorem sc_samples : FnScope N_samples ["one", "low", "high"] (defScope s_samples) := ⟨rfl, rfl, rfl, by decide +kernel, rfl, by decide +kernel, by decide +kernel⟩
abbrev N_sign_at : List Str := ["one", "at", "top"]
theorem sc_sign_at : FnScope N_sign_at ["one", "at"] (defScope s_sign_at) := ⟨rfl, rfl, rfl, by decide +kernel, rfl, by decide +kernel, by decide +kernel⟩
abbrev N_inside_circle : List Str := ["one", "share", "turned", "mine", "its"]
theorem sc_inside_circle : FnScope N_inside_circle ["one"] (defScope s_inside_circle) := ⟨rfl, rfl, rfl, by decide +kernel, rfl, by decide +kernel, by decide +kernel⟩
abbrev N_law_dice : List Str := ["cell"]
theorem sc_law_dice : FnScope N_law_dice ["cell"] (defScope s_law_dice) := ⟨rfl, rfl, rfl, by decide +kernel, rfl, by decide +kernel, by decide +kernel⟩
abbrev N_law_roll : List Str := ["dice", "many", "found"]
theorem sc_law_roll : FnScope N_law_roll ["dice", "many"] (defScope s_law_roll) := ⟨rfl, rfl, rfl, by decide +kernel, rfl, by decide +kernel, by decide +kernel⟩
abbrev N_law_rounds : List Str := ["script", "most", "cells", "cell"]
theorem sc_law_rounds : FnScope N_law_rounds ["script", "most"] (defScope s_law_rounds) := ⟨rfl, rfl, rfl, by decide +kernel, rfl, by decide +kernel, by decide +kernel⟩
abbrev N_law_told : List Str := ["what"]
theorem sc_law_told : FnScope N_law_told ["what"] (defScope s_law_told) := ⟨rfl, rfl, rfl, by decide +kernel, rfl, by decide +kernel, by decide +kernel⟩
abbrev N_law_cases1 : List Str := ["wrong", "pair"]
theorem sc_law_cases1 : FnScope N_law_cases1 [] (defScope s_law_cases1) := ⟨rfl, rfl, rfl, by decide +kernel, rfl, by decide +kernel, by decide +kernel⟩
abbrev N_law : List Str := ["script", "dice", "roots", "one", "root", "each", "low", "high", "inside", "most", "rows", "row", "k", "a", "b", "marks", "tests", "points", "at", "here", "small", "parts", "turn", "size", "mark"]
theorem sc_law : FnScope N_law ["script"] (defScope s_law) := ⟨rfl, rfl, rfl, by decide +kernel, rfl, by decide +kernel, by decide +kernel⟩
/-! what the top has written -/
structure ExcAt (K : PySem.W.Frag) (mg : Str → Option Value) (q : Par) (x : Str) (c : Nat) (C : Addr) : Prop where
  xq : PySem.W.excIn K C [.type "ValueError", .type "Exception", .type "BaseException", .type "object"] "ValueError.__new__" = true
  xg : mg x = some (.ref C)
  xk : PySem.W.keepIn K (.ref C) = true
  r1 : PySem.W.subIn K (.ref C) (.type "BaseException") = some true
  r2 : PySem.W.typeIn K (.ref C) = some (.type "type")
  xc : q.cls c = .ref C
/-- the facts that the defs lean on -/
structure Txt (K : PySem.W.Frag) (mg : Str → Option Value) (q : Par) : Prop where
  b_abs : mg "abs" = none
  b_all : mg "all" = none
  b_dict : mg "dict" = none
  b_enumerate : mg "enumerate" = none
  b_int : mg "int" = none
  b_len : mg "len" = none
  b_list : mg "list" = none
  b_range : mg "range" = none
  b_reversed : mg "reversed" = none
  b_sorted : mg "sorted" = none
  b_tuple : mg "tuple" = none
  b_zip : mg "zip" = none
  g_gcd : mg "gcd" = some (.builtin "math.gcd")
  x_BadPart : ∃ C, ExcAt K mg q "BadPart" 0 C
  x_BadSize : ∃ C, ExcAt K mg q "BadSize" 5 C
  told : ∃ hl, ToldAt K mg q "_law_told" "what" ["what"] hl ∧ ∀ c r, tolds c = some r → ∀ (Q : VK) (H : Hp), Q (.str r) H → Wt K Q (q.cls c) H hl
structure Fns (P : Program) (w : World) (K : PySem.W.Frag) (mg : Str → Option Value) (base : Heap) (q : Par) (S : PV.Sem) (k : Nat) : Prop where
  f_shared : FnAt P w K mg base q S k 0 "shared" []
  f_part : FnAt P w K mg base q S k 1 "part" []
  d_part : FnAt P w K mg base q S k 1 "part" [.int 1]
  f_plus : FnAt P w K mg base q S k 2 "plus" []
  f_minus : FnAt P w K mg base q S k 3 "minus" []
  f_times : FnAt P w K mg base q S k 4 "times" []
  f_over : FnAt P w K mg base q S k 5 "over" []
  f_is_less : FnAt P w K mg base q S k 6 "is_less" []
  f_size_of : FnAt P w K mg base q S k 7 "size_of" []
  f_small_row : FnAt P w K mg base q S k 8 "small_row" []
  f_halfway : FnAt P w K mg base q S k 9 "halfway" []
  f_greatest : FnAt P w K mg base q S k 10 "greatest" []
  f_curve : FnAt P w K mg base q S k 11 "curve" []
  f_power_of : FnAt P w K mg base q S k 12 "power_of" []
  f_part_at : FnAt P w K mg base q S k 13 "part_at" []
  f_scaled_curve : FnAt P w K mg base q S k 14 "scaled_curve" []
  f_multiplied : FnAt P w K mg base q S k 15 "multiplied" []
  f_divided : FnAt P w K mg base q S k 16 "divided" []
  f_worth : FnAt P w K mg base q S k 17 "worth" []
  f_slope : FnAt P w K mg base q S k 18 "slope" []
  f_shared_curve : FnAt P w K mg base q S k 19 "shared_curve" []
  f_rests : FnAt P w K mg base q S k 20 "rests" []
  f_changes : FnAt P w K mg base q S k 21 "changes" []
  f_plain : FnAt P w K mg base q S k 22 "plain" []
  f_how_many : FnAt P w K mg base q S k 23 "how_many" []
  f_bound : FnAt P w K mg base q S k 24 "bound" []
  f_all_of : FnAt P w K mg base q S k 25 "all_of" []
  f_narrowed : FnAt P w K mg base q S k 26 "narrowed" []
  f_apart : FnAt P w K mg base q S k 27 "apart" []
  f_split : FnAt P w K mg base q S k 28 "split" []
  f_never_below : FnAt P w K mg base q S k 29 "never_below" []
  f_samples : FnAt P w K mg base q S k 30 "samples" []
  f_sign_at : FnAt P w K mg base q S k 31 "sign_at" []
  f_inside_circle : FnAt P w K mg base q S k 32 "inside_circle" []
  f_law_dice : FnAt P w K mg base q S k 33 "_law_dice" []
  f_law_roll : FnAt P w K mg base q S k 34 "_law_roll" []
  f_law_rounds : FnAt P w K mg base q S k 35 "_law_rounds" []
  f_law_told : FnAt P w K mg base q S k 36 "_law_told" []
  f_law_cases1 : FnAt P w K mg base q S k 37 "_law_cases1" []
  f_law : FnAt P w K mg base q S k 38 "law" []
/-! the bodies -/
section
variable {P : Program} {w : World} {K : PySem.W.Frag} {mg : Str → Option Value} {base : Heap} {q : Par} {S : PV.Sem} {k : Nat} {f : Addr} {cdv : Value} {A : Around} {outer : List PySem.Env} {s : Shared} {H : Hp} {E : XK}
set_option maxRecDepth 200000 in
theorem b_shared (T : Txt K mg q) (hqP : q.P = P) (hqW : q.W = w) (Fs : Fns P w K mg base q S k) (hr : Room (k + 2) (A.deeper (envOfC "shared" (defScope s_shared) s.heap.objs.size f cdv))) :
    SdB (cxOf (L2.CX P w) P w K mg base N_shared "shared" (defScope s_shared) f cdv A outer s H E) q S (defBody s_shared) m_shared.body :=
  (sb_cons (ss_ret (sd_callF pr_gcd rfl T.g_gcd (sda_cons (sd_var 0) (sda_cons (sd_var 1) sda_nil))))
    sb_nil)
set_option maxRecDepth 200000 in
theorem b_part (T : Txt K mg q) (hqP : q.P = P) (hqW : q.W = w) (Fs : Fns P w K mg base q S k) (hr : Room (k + 2) (A.deeper (envOfC "part" (defScope s_part) s.heap.objs.size f cdv))) :
    SdB (cxOf (L2.CX P w) P w K mg base N_part "part" (defScope s_part) f cdv A outer s H E) q S (defBody s_part) m_part.body := by
  obtain ⟨_, X_BadPart⟩ := T.x_BadPart
  exact (sb_cons (ss_if (td_cmp (od_eq hr.units) (sd_var 1) sd_int (nomark _)) (sb_cons (ss_raise rfl PySem.F.excBase_ValueError X_BadPart.xq X_BadPart.xg X_BadPart.xk (raises_own X_BadPart.r1 X_BadPart.r2) rfl X_BadPart.xc sd_str)
    sb_nil) sb_nil)
    (sb_cons (ss_set (sdg_name 2 sc_part.nd) (sd_call Fs.f_shared (hr.mono (by omega)) rfl (sda_cons (sd_var 0) (sda_cons (sd_var 1) sda_nil))))
    (sb_cons (ss_if (td_cmp od_lt (sd_var 1) sd_int (nomark _)) (sb_cons (ss_set (sdg_name 2 sc_part.nd) (sd_neg (sd_var 2)))
    sb_nil) sb_nil)
    (sb_cons (ss_ret (sd_tup (sda_cons (sd_bin od_fdiv (sd_var 0) (sd_var 2)) (sda_cons (sd_bin od_fdiv (sd_var 1) (sd_var 2)) sda_nil))))
    sb_nil))))
set_option maxRecDepth 200000 in
theorem b_plus (T : Txt K mg q) (hqP : q.P = P) (hqW : q.W = w) (Fs : Fns P w K mg base q S k) (hr : Room (k + 2) (A.deeper (envOfC "plus" (defScope s_plus) s.heap.objs.size f cdv))) :
    SdB (cxOf (L2.CX P w) P w K mg base N_plus "plus" (defScope s_plus) f cdv A outer s H E) q S (defBody s_plus) m_plus.body :=
  (sb_cons (ss_ret (sd_call Fs.f_part (hr.mono (by omega)) rfl (sda_cons (sd_bin od_add (sd_bin od_mul (sd_ix (ix_all (hr.units) hqP hqW) (sd_var 0) sd_int) (sd_ix (ix_all (hr.units) hqP hqW) (sd_var 1) sd_int)) (sd_bin od_mul (sd_ix (ix_all (hr.units) hqP hqW) (sd_var 1) sd_int) (sd_ix (ix_all (hr.units) hqP hqW) (sd_var 0) sd_int))) (sda_cons (sd_bin od_mul (sd_ix (ix_all (hr.units) hqP hqW) (sd_var 0) sd_int) (sd_ix (ix_all (hr.units) hqP hqW) (sd_var 1) sd_int)) sda_nil))))
    sb_nil)
set_option maxRecDepth 200000 in
theorem b_minus (T : Txt K mg q) (hqP : q.P = P) (hqW : q.W = w) (Fs : Fns P w K mg base q S k) (hr : Room (k + 2) (A.deeper (envOfC "minus" (defScope s_minus) s.heap.objs.size f cdv))) :
    SdB (cxOf (L2.CX P w) P w K mg base N_minus "minus" (defScope s_minus) f cdv A outer s H E) q S (defBody s_minus) m_minus.body :=
  (sb_cons (ss_ret (sd_call Fs.f_part (hr.mono (by omega)) rfl (sda_cons (sd_bin od_sub (sd_bin od_mul (sd_ix (ix_all (hr.units) hqP hqW) (sd_var 0) sd_int) (sd_ix (ix_all (hr.units) hqP hqW) (sd_var 1) sd_int)) (sd_bin od_mul (sd_ix (ix_all (hr.units) hqP hqW) (sd_var 1) sd_int) (sd_ix (ix_all (hr.units) hqP hqW) (sd_var 0) sd_int))) (sda_cons (sd_bin od_mul (sd_ix (ix_all (hr.units) hqP hqW) (sd_var 0) sd_int) (sd_ix (ix_all (hr.units) hqP hqW) (sd_var 1) sd_int)) sda_nil))))
    sb_nil)
set_option maxRecDepth 200000 in
theorem b_times (T : Txt K mg q) (hqP : q.P = P) (hqW : q.W = w) (Fs : Fns P w K mg base q S k) (hr : Room (k + 2) (A.deeper (envOfC "times" (defScope s_times) s.heap.objs.size f cdv))) :
    SdB (cxOf (L2.CX P w) P w K mg base N_times "times" (defScope s_times) f cdv A outer s H E) q S (defBody s_times) m_times.body :=
  (sb_cons (ss_ret (sd_call Fs.f_part (hr.mono (by omega)) rfl (sda_cons (sd_bin od_mul (sd_ix (ix_all (hr.units) hqP hqW) (sd_var 0) sd_int) (sd_ix (ix_all (hr.units) hqP hqW) (sd_var 1) sd_int)) (sda_cons (sd_bin od_mul (sd_ix (ix_all (hr.units) hqP hqW) (sd_var 0) sd_int) (sd_ix (ix_all (hr.units) hqP hqW) (sd_var 1) sd_int)) sda_nil))))
    sb_nil)
set_option maxRecDepth 200000 in
theorem b_over (T : Txt K mg q) (hqP : q.P = P) (hqW : q.W = w) (Fs : Fns P w K mg base q S k) (hr : Room (k + 2) (A.deeper (envOfC "over" (defScope s_over) s.heap.objs.size f cdv))) :
    SdB (cxOf (L2.CX P w) P w K mg base N_over "over" (defScope s_over) f cdv A outer s H E) q S (defBody s_over) m_over.body :=
  (sb_cons (ss_ret (sd_call Fs.f_part (hr.mono (by omega)) rfl (sda_cons (sd_bin od_mul (sd_ix (ix_all (hr.units) hqP hqW) (sd_var 0) sd_int) (sd_ix (ix_all (hr.units) hqP hqW) (sd_var 1) sd_int)) (sda_cons (sd_bin od_mul (sd_ix (ix_all (hr.units) hqP hqW) (sd_var 0) sd_int) (sd_ix (ix_all (hr.units) hqP hqW) (sd_var 1) sd_int)) sda_nil))))
    sb_nil)
set_option maxRecDepth 200000 in
theorem b_is_less (T : Txt K mg q) (hqP : q.P = P) (hqW : q.W = w) (Fs : Fns P w K mg base q S k) (hr : Room (k + 2) (A.deeper (envOfC "is_less" (defScope s_is_less) s.heap.objs.size f cdv))) :
    SdB (cxOf (L2.CX P w) P w K mg base N_is_less "is_less" (defScope s_is_less) f cdv A outer s H E) q S (defBody s_is_less) m_is_less.body :=
  (sb_cons (ss_ret (sd_cmp od_lt (sd_bin od_mul (sd_ix (ix_all (hr.units) hqP hqW) (sd_var 0) sd_int) (sd_ix (ix_all (hr.units) hqP hqW) (sd_var 1) sd_int)) (sd_bin od_mul (sd_ix (ix_all (hr.units) hqP hqW) (sd_var 1) sd_int) (sd_ix (ix_all (hr.units) hqP hqW) (sd_var 0) sd_int)) (nomark _)))
    sb_nil)
set_option maxRecDepth 200000 in
theorem b_size_of (T : Txt K mg q) (hqP : q.P = P) (hqW : q.W = w) (Fs : Fns P w K mg base q S k) (hr : Room (k + 2) (A.deeper (envOfC "size_of" (defScope s_size_of) s.heap.objs.size f cdv))) :
    SdB (cxOf (L2.CX P w) P w K mg base N_size_of "size_of" (defScope s_size_of) f cdv A outer s H E) q S (defBody s_size_of) m_size_of.body :=
  (sb_cons (ss_ret (sd_tup (sda_cons (sd_callB pr_abs rfl T.b_abs (by decide +kernel) (sda_cons (sd_ix (ix_all (hr.units) hqP hqW) (sd_var 0) sd_int) sda_nil)) (sda_cons (sd_ix (ix_all (hr.units) hqP hqW) (sd_var 0) sd_int) sda_nil))))
    sb_nil)
set_option maxRecDepth 200000 in
theorem b_small_row (T : Txt K mg q) (hqP : q.P = P) (hqW : q.W = w) (Fs : Fns P w K mg base q S k) (hr : Room (k + 2) (A.deeper (envOfC "small_row" (defScope s_small_row) s.heap.objs.size f cdv))) :
    SdB (cxOf (L2.CX P w) P w K mg base N_small_row "small_row" (defScope s_small_row) f cdv A outer s H E) q S (defBody s_small_row) m_small_row.body :=
  (sb_cons (ss_ret (sd_callTy pr_tuple rfl T.b_tuple (by decide +kernel) (sda_cons (sd_lc [("one", 1)] rfl sc_small_row.nd (sdi_seq (sd_var 0)) (blkOk_by (by kernel_rfl)) (fun _ _ _ _ _ => (sdg_name 1 sc_small_row.nd)) (fun _ _ _ _ _ => sdts_nil) (fun _ _ _ _ _ => (sd_call Fs.f_part (hr.mono (by omega)) rfl (sda_cons (sd_ix (ix_all (hr.units) hqP hqW) (sd_var 1) sd_int) (sda_cons (sd_ix (ix_all (hr.units) hqP hqW) (sd_var 1) sd_int) sda_nil))))) sda_nil)))
    sb_nil)
set_option maxRecDepth 200000 in
theorem b_halfway (T : Txt K mg q) (hqP : q.P = P) (hqW : q.W = w) (Fs : Fns P w K mg base q S k) (hr : Room (k + 2) (A.deeper (envOfC "halfway" (defScope s_halfway) s.heap.objs.size f cdv))) :
    SdB (cxOf (L2.CX P w) P w K mg base N_halfway "halfway" (defScope s_halfway) f cdv A outer s H E) q S (defBody s_halfway) m_halfway.body :=
  (sb_cons (ss_ret (sd_call Fs.f_over (hr.mono (by omega)) rfl (sda_cons (sd_call Fs.f_plus (hr.mono (by omega)) rfl (sda_cons (sd_var 0) (sda_cons (sd_var 1) sda_nil))) (sda_cons (sd_tup (sda_cons sd_int (sda_cons sd_int sda_nil))) sda_nil))))
    sb_nil)
set_option maxRecDepth 200000 in
theorem b_greatest (T : Txt K mg q) (hqP : q.P = P) (hqW : q.W = w) (Fs : Fns P w K mg base q S k) (hr : Room (k + 2) (A.deeper (envOfC "greatest" (defScope s_greatest) s.heap.objs.size f cdv))) :
    SdB (cxOf (L2.CX P w) P w K mg base N_greatest "greatest" (defScope s_greatest) f cdv A outer s H E) q S (defBody s_greatest) m_greatest.body :=
  (sb_cons (ss_set (sdg_name 1 sc_greatest.nd) (sd_tup (sda_cons sd_int (sda_cons sd_int sda_nil))))
    (sb_cons (ss_for (passes_of rfl) rfl (sdi_seq (sd_var 0)) (sdg_name 2 sc_greatest.nd) (sb_cons (ss_if (td_val (sd_call Fs.f_is_less (hr.mono (by omega)) rfl (sda_cons (sd_var 1) (sda_cons (sd_var 2) sda_nil)))) (sb_cons (ss_set (sdg_name 1 sc_greatest.nd) (sd_var 2))
    sb_nil) sb_nil)
    sb_nil))
    (sb_cons (ss_ret (sd_var 1))
    sb_nil)))
set_option maxRecDepth 200000 in
theorem b_curve (T : Txt K mg q) (hqP : q.P = P) (hqW : q.W = w) (Fs : Fns P w K mg base q S k) (hr : Room (k + 2) (A.deeper (envOfC "curve" (defScope s_curve) s.heap.objs.size f cdv))) :
    SdB (cxOf (L2.CX P w) P w K mg base N_curve "curve" (defScope s_curve) f cdv A outer s H E) q S (defBody s_curve) m_curve.body :=
  (sb_cons (ss_set (sdg_name 1 sc_curve.nd) (sd_call Fs.f_small_row (hr.mono (by omega)) rfl (sda_cons (sd_var 0) sda_nil)))
    (sb_cons (ss_set (sdg_name 2 sc_curve.nd) (sd_callB pr_len rfl T.b_len (by decide +kernel) (sda_cons (sd_var 1) sda_nil)))
    (sb_cons (ss_while (passes_of rfl) (TdW.td (tw_and (td_cmp od_gt (sd_var 2) sd_int (nomark _)) (tw_and1 (td_cmp (od_eq hr.units) (sd_ix (ix_all (hr.units) hqP hqW) (sd_ix (ix_all (hr.units) hqP hqW) (sd_var 1) (sd_bin od_sub (sd_var 2) sd_int)) sd_int) sd_int (nomark _))))) (sb_cons (ss_augsub (i := 2) sc_curve.nd sd_int)
    sb_nil))
    (sb_cons (ss_ret (sd_sl (sd_var 1) sdo_none (sdo_some (sd_var 2))))
    sb_nil))))
set_option maxRecDepth 200000 in
theorem b_power_of (T : Txt K mg q) (hqP : q.P = P) (hqW : q.W = w) (Fs : Fns P w K mg base q S k) (hr : Room (k + 2) (A.deeper (envOfC "power_of" (defScope s_power_of) s.heap.objs.size f cdv))) :
    SdB (cxOf (L2.CX P w) P w K mg base N_power_of "power_of" (defScope s_power_of) f cdv A outer s H E) q S (defBody s_power_of) m_power_of.body :=
  (sb_cons (ss_ret (sd_bin od_sub (sd_callB pr_len rfl T.b_len (by decide +kernel) (sda_cons (sd_var 0) sda_nil)) sd_int))
    sb_nil)
set_option maxRecDepth 200000 in
theorem b_part_at (T : Txt K mg q) (hqP : q.P = P) (hqW : q.W = w) (Fs : Fns P w K mg base q S k) (hr : Room (k + 2) (A.deeper (envOfC "part_at" (defScope s_part_at) s.heap.objs.size f cdv))) :
    SdB (cxOf (L2.CX P w) P w K mg base N_part_at "part_at" (defScope s_part_at) f cdv A outer s H E) q S (defBody s_part_at) m_part_at.body :=
  (sb_cons (ss_if (td_chain od_le od_lt sd_int (sd_var 1) (sd_callB pr_len rfl T.b_len (by decide +kernel) (sda_cons (sd_var 0) sda_nil))) (sb_cons (ss_ret (sd_ix (ix_all (hr.units) hqP hqW) (sd_var 0) (sd_var 1)))
    sb_nil) sb_nil)
    (sb_cons (ss_ret (sd_tup (sda_cons sd_int (sda_cons sd_int sda_nil))))
    sb_nil))
set_option maxRecDepth 200000 in
theorem b_scaled_curve (T : Txt K mg q) (hqP : q.P = P) (hqW : q.W = w) (Fs : Fns P w K mg base q S k) (hr : Room (k + 2) (A.deeper (envOfC "scaled_curve" (defScope s_scaled_curve) s.heap.objs.size f cdv))) :
    SdB (cxOf (L2.CX P w) P w K mg base N_scaled_curve "scaled_curve" (defScope s_scaled_curve) f cdv A outer s H E) q S (defBody s_scaled_curve) m_scaled_curve.body :=
  (sb_cons (ss_ret (sd_call Fs.f_curve (hr.mono (by omega)) rfl (sda_cons (sd_lc [("mine", 2)] rfl sc_scaled_curve.nd (sdi_seq (sd_var 0)) (blkOk_by (by kernel_rfl)) (fun _ _ _ _ _ => (sdg_name 2 sc_scaled_curve.nd)) (fun _ _ _ _ _ => sdts_nil) (fun _ _ _ _ _ => (sd_call Fs.f_times (hr.mono (by omega)) rfl (sda_cons (sd_var 2) (sda_cons (sd_var 1) sda_nil))))) sda_nil)))
    sb_nil)
set_option maxRecDepth 200000 in
theorem b_multiplied (T : Txt K mg q) (hqP : q.P = P) (hqW : q.W = w) (Fs : Fns P w K mg base q S k) (hr : Room (k + 2) (A.deeper (envOfC "multiplied" (defScope s_multiplied) s.heap.objs.size f cdv))) :
    SdB (cxOf (L2.CX P w) P w K mg base N_multiplied "multiplied" (defScope s_multiplied) f cdv A outer s H E) q S (defBody s_multiplied) m_multiplied.body :=
  (sb_cons (ss_set (sdg_name 2 sc_multiplied.nd) (sd_mulC (sd_lst (sda_cons (sd_tup (sda_cons sd_int (sda_cons sd_int sda_nil))) sda_nil)) (sd_bin od_add (sd_callB pr_len rfl T.b_len (by decide +kernel) (sda_cons (sd_var 0) sda_nil)) (sd_callB pr_len rfl T.b_len (by decide +kernel) (sda_cons (sd_var 1) sda_nil)))))
    (sb_cons (ss_for (passes_of rfl) rfl (sdi_enum rfl T.b_enumerate (sd_var 0)) (sdg_tup rfl (sdgs_cons (sdg_name 3 sc_multiplied.nd) (sdgs_cons (sdg_name 4 sc_multiplied.nd) sdgs_nil)) rfl) (sb_cons (ss_for (passes_of rfl) rfl (sdi_enum rfl T.b_enumerate (sd_var 1)) (sdg_tup rfl (sdgs_cons (sdg_name 5 sc_multiplied.nd) (sdgs_cons (sdg_name 6 sc_multiplied.nd) sdgs_nil)) rfl) (sb_cons (ss_setix (set_C (hr.units) hqP hqW) (sd_var 2) (sd_bin od_add (sd_var 3) (sd_var 5)) (sd_call Fs.f_plus (hr.mono (by omega)) rfl (sda_cons (sd_ix (ix_all (hr.units) hqP hqW) (sd_var 2) (sd_bin od_add (sd_var 3) (sd_var 5))) (sda_cons (sd_call Fs.f_times (hr.mono (by omega)) rfl (sda_cons (sd_var 4) (sda_cons (sd_var 6) sda_nil))) sda_nil))))
    sb_nil))
    sb_nil))
    (sb_cons (ss_ret (sd_call Fs.f_curve (hr.mono (by omega)) rfl (sda_cons (sd_take (sd_var 2)) sda_nil)))
    sb_nil)))
set_option maxRecDepth 200000 in
theorem b_divided (T : Txt K mg q) (hqP : q.P = P) (hqW : q.W = w) (Fs : Fns P w K mg base q S k) (hr : Room (k + 2) (A.deeper (envOfC "divided" (defScope s_divided) s.heap.objs.size f cdv))) :
    SdB (cxOf (L2.CX P w) P w K mg base N_divided "divided" (defScope s_divided) f cdv A outer s H E) q S (defBody s_divided) m_divided.body :=
  (sb_cons (ss_set (sdg_name 2 sc_divided.nd) (sd_call Fs.f_over (hr.mono (by omega)) rfl (sda_cons (sd_tup (sda_cons sd_int (sda_cons sd_int sda_nil))) (sda_cons (sd_call Fs.f_part_at (hr.mono (by omega)) rfl (sda_cons (sd_var 1) (sda_cons (sd_call Fs.f_power_of (hr.mono (by omega)) rfl (sda_cons (sd_var 1) sda_nil)) sda_nil))) sda_nil))))
    (sb_cons (ss_set (sdg_name 3 sc_divided.nd) (sd_listC rfl T.b_list (by decide +kernel) (sd_var 0)))
    (sb_cons (ss_set (sdg_name 4 sc_divided.nd) (sd_lstC sda_nil))
    (sb_cons (ss_while (passes_of rfl) (td_cmp od_ge (sd_callB pr_len rfl T.b_len (by decide +kernel) (sda_cons (sd_var 3) sda_nil)) (sd_callB pr_len rfl T.b_len (by decide +kernel) (sda_cons (sd_var 1) sda_nil)) (nomark _)) (sb_cons (ss_set (sdg_name 5 sc_divided.nd) (sd_call Fs.f_times (hr.mono (by omega)) rfl (sda_cons (sd_ix (ix_all (hr.units) hqP hqW) (sd_var 3) (sd_neg sd_int)) (sda_cons (sd_var 2) sda_nil))))
    (sb_cons (ss_set (sdg_name 6 sc_divided.nd) (sd_bin od_sub (sd_callB pr_len rfl T.b_len (by decide +kernel) (sda_cons (sd_var 3) sda_nil)) (sd_callB pr_len rfl T.b_len (by decide +kernel) (sda_cons (sd_var 1) sda_nil))))
    (sb_cons (ss_for (passes_of rfl) rfl (sdi_enum rfl T.b_enumerate (sd_var 1)) (sdg_tup rfl (sdgs_cons (sdg_name 7 sc_divided.nd) (sdgs_cons (sdg_name 8 sc_divided.nd) sdgs_nil)) rfl) (sb_cons (ss_setix (set_C (hr.units) hqP hqW) (sd_var 3) (sd_bin od_add (sd_var 6) (sd_var 7)) (sd_call Fs.f_minus (hr.mono (by omega)) rfl (sda_cons (sd_ix (ix_all (hr.units) hqP hqW) (sd_var 3) (sd_bin od_add (sd_var 6) (sd_var 7))) (sda_cons (sd_call Fs.f_times (hr.mono (by omega)) rfl (sda_cons (sd_var 5) (sda_cons (sd_var 8) sda_nil))) sda_nil))))
    sb_nil))
    (sb_cons (ss_ex (sd_pop (sd_var 3)))
    (sb_cons (ss_ex (sd_app (sd_var 4) (sd_var 5)))
    sb_nil))))))
    (sb_cons (ss_ret (sd_tup (sda_cons (sd_call Fs.f_curve (hr.mono (by omega)) rfl (sda_cons (sd_rev (sd_take (sd_var 4))) sda_nil)) (sda_cons (sd_call Fs.f_curve (hr.mono (by omega)) rfl (sda_cons (sd_take (sd_var 3)) sda_nil)) sda_nil))))
    sb_nil)))))
set_option maxRecDepth 200000 in
theorem b_worth (T : Txt K mg q) (hqP : q.P = P) (hqW : q.W = w) (Fs : Fns P w K mg base q S k) (hr : Room (k + 2) (A.deeper (envOfC "worth" (defScope s_worth) s.heap.objs.size f cdv))) :
    SdB (cxOf (L2.CX P w) P w K mg base N_worth "worth" (defScope s_worth) f cdv A outer s H E) q S (defBody s_worth) m_worth.body :=
  (sb_cons (ss_set (sdg_name 2 sc_worth.nd) (sd_tup (sda_cons sd_int (sda_cons sd_int sda_nil))))
    (sb_cons (ss_for (passes_of rfl) rfl (sdi_rev rfl T.b_reversed (sd_var 0)) (sdg_name 3 sc_worth.nd) (sb_cons (ss_set (sdg_name 2 sc_worth.nd) (sd_call Fs.f_plus (hr.mono (by omega)) rfl (sda_cons (sd_call Fs.f_times (hr.mono (by omega)) rfl (sda_cons (sd_var 2) (sda_cons (sd_var 1) sda_nil))) (sda_cons (sd_var 3) sda_nil))))
    sb_nil))
    (sb_cons (ss_ret (sd_var 2))
    sb_nil)))
set_option maxRecDepth 200000 in
theorem b_slope (T : Txt K mg q) (hqP : q.P = P) (hqW : q.W = w) (Fs : Fns P w K mg base q S k) (hr : Room (k + 2) (A.deeper (envOfC "slope" (defScope s_slope) s.heap.objs.size f cdv))) :
    SdB (cxOf (L2.CX P w) P w K mg base N_slope "slope" (defScope s_slope) f cdv A outer s H E) q S (defBody s_slope) m_slope.body :=
  (sb_cons (ss_ret (sd_call Fs.f_curve (hr.mono (by omega)) rfl (sda_cons (sd_lc [("power", 1)] rfl sc_slope.nd (sdi_rng2 rfl T.b_range sd_int (sd_callB pr_len rfl T.b_len (by decide +kernel) (sda_cons (sd_var 0) sda_nil))) (blkOk_by (by kernel_rfl)) (fun _ _ _ _ _ => (sdg_name 1 sc_slope.nd)) (fun _ _ _ _ _ => sdts_nil) (fun _ _ _ _ _ => (sd_call Fs.f_times (hr.mono (by omega)) rfl (sda_cons (sd_ix (ix_all (hr.units) hqP hqW) (sd_var 0) (sd_var 1)) (sda_cons (sd_tup (sda_cons (sd_var 1) (sda_cons sd_int sda_nil))) sda_nil))))) sda_nil)))
    sb_nil)
set_option maxRecDepth 200000 in
theorem b_shared_curve (T : Txt K mg q) (hqP : q.P = P) (hqW : q.W = w) (Fs : Fns P w K mg base q S k) (hr : Room (k + 2) (A.deeper (envOfC "shared_curve" (defScope s_shared_curve) s.heap.objs.size f cdv))) :
    SdB (cxOf (L2.CX P w) P w K mg base N_shared_curve "shared_curve" (defScope s_shared_curve) f cdv A outer s H E) q S (defBody s_shared_curve) m_shared_curve.body :=
  (sb_cons (ss_while (passes_of rfl) (td_cmp od_gt (sd_callB pr_len rfl T.b_len (by decide +kernel) (sda_cons (sd_var 1) sda_nil)) sd_int (nomark _)) (sb_cons (ss_par (i := 0) (j := 1) rfl sc_shared_curve.nd (sd_var 1) (sd_ix (ix_all (hr.units) hqP hqW) (sd_call Fs.f_divided (hr.mono (by omega)) rfl (sda_cons (sd_var 0) (sda_cons (sd_var 1) sda_nil))) sd_int))
    sb_nil))
    (sb_cons (ss_if (td_cmp (od_eq hr.units) (sd_callB pr_len rfl T.b_len (by decide +kernel) (sda_cons (sd_var 0) sda_nil)) sd_int (nomark _)) (sb_cons (ss_ret (sd_tup sda_nil))
    sb_nil) sb_nil)
    (sb_cons (ss_ret (sd_call Fs.f_scaled_curve (hr.mono (by omega)) rfl (sda_cons (sd_var 0) (sda_cons (sd_call Fs.f_over (hr.mono (by omega)) rfl (sda_cons (sd_tup (sda_cons sd_int (sda_cons sd_int sda_nil))) (sda_cons (sd_ix (ix_all (hr.units) hqP hqW) (sd_var 0) (sd_neg sd_int)) sda_nil))) sda_nil))))
    sb_nil)))
set_option maxRecDepth 200000 in
theorem b_rests (T : Txt K mg q) (hqP : q.P = P) (hqW : q.W = w) (Fs : Fns P w K mg base q S k) (hr : Room (k + 2) (A.deeper (envOfC "rests" (defScope s_rests) s.heap.objs.size f cdv))) :
    SdB (cxOf (L2.CX P w) P w K mg base N_rests "rests" (defScope s_rests) f cdv A outer s H E) q S (defBody s_rests) m_rests.body :=
  (sb_cons (ss_set (sdg_name 1 sc_rests.nd) (sd_lstC sda_nil))
    (sb_cons (ss_par (i := 2) (j := 3) rfl sc_rests.nd (sd_callTy pr_tuple rfl T.b_tuple (by decide +kernel) (sda_cons (sd_var 0) sda_nil)) (sd_call Fs.f_slope (hr.mono (by omega)) rfl (sda_cons (sd_var 0) sda_nil)))
    (sb_cons (ss_while (passes_of rfl) (td_cmp od_gt (sd_callB pr_len rfl T.b_len (by decide +kernel) (sda_cons (sd_var 2) sda_nil)) sd_int (nomark _)) (sb_cons (ss_ex (sd_app (sd_var 1) (sd_var 2)))
    (sb_cons (ss_if (td_cmp (od_eq hr.units) (sd_callB pr_len rfl T.b_len (by decide +kernel) (sda_cons (sd_var 3) sda_nil)) sd_int (nomark _)) (sb_cons ss_break
    sb_nil) sb_nil)
    (sb_cons (ss_par (i := 2) (j := 3) rfl sc_rests.nd (sd_var 3) (sd_call Fs.f_scaled_curve (hr.mono (by omega)) rfl (sda_cons (sd_ix (ix_all (hr.units) hqP hqW) (sd_call Fs.f_divided (hr.mono (by omega)) rfl (sda_cons (sd_var 2) (sda_cons (sd_var 3) sda_nil))) sd_int) (sda_cons (sd_tup (sda_cons (sd_neg sd_int) (sda_cons sd_int sda_nil))) sda_nil))))
    sb_nil))))
    (sb_cons (ss_ret (sd_callTy pr_tuple rfl T.b_tuple (by decide +kernel) (sda_cons (sd_take (sd_var 1)) sda_nil)))
    sb_nil))))
set_option maxRecDepth 200000 in
theorem b_changes (T : Txt K mg q) (hqP : q.P = P) (hqW : q.W = w) (Fs : Fns P w K mg base q S k) (hr : Room (k + 2) (A.deeper (envOfC "changes" (defScope s_changes) s.heap.objs.size f cdv))) :
    SdB (cxOf (L2.CX P w) P w K mg base N_changes "changes" (defScope s_changes) f cdv A outer s H E) q S (defBody s_changes) m_changes.body :=
  (sb_cons (ss_setLc (i := 2) [("sign", 3)] rfl sc_changes.nd (sdi_seq (sd_lc [("one", 5)] rfl sc_changes.nd (sdi_seq (sd_var 0)) (blkOk_by (by kernel_rfl)) (fun _ _ _ _ _ => (sdg_name 5 sc_changes.nd)) (fun _ _ _ _ _ => sdts_nil) (fun _ _ _ _ _ => (sd_call Fs.f_sign_at (hr.mono (by omega)) rfl (sda_cons (sd_var 5) (sda_cons (sd_var 1) sda_nil)))))) (blkOk_by (by kernel_rfl)) (fun _ _ _ _ _ => (sdg_name 3 sc_changes.nd)) (fun _ _ _ _ _ => (sdts_one (td_cmp (od_ne hr.units) (sd_var 3) sd_int (nomark _)))) (fun _ _ _ _ _ => (sd_var 3)) (sw_true rfl rfl rfl (by kernel_rfl)))
    (sb_cons (ss_ret (sd_callB pr_len rfl T.b_len (by decide +kernel) (sda_cons (sd_lc [("sign", 3), ("after", 4)] rfl sc_changes.nd (sdi_zip rfl T.b_zip (sd_var 2) (sd_sl (sd_var 2) (sdo_some sd_int) sdo_none)) (blkOk_by (by kernel_rfl)) (fun _ _ _ _ _ => (sdg_tup rfl (sdgs_cons (sdg_name 3 sc_changes.nd) (sdgs_cons (sdg_name 4 sc_changes.nd) sdgs_nil)) rfl)) (fun _ _ _ _ _ => (sdts_one (td_cmp (od_ne hr.units) (sd_var 3) (sd_var 4) (nomark _)))) (fun _ _ _ _ _ => sd_int)) sda_nil)))
    sb_nil))
set_option maxRecDepth 200000 in
theorem b_plain (T : Txt K mg q) (hqP : q.P = P) (hqW : q.W = w) (Fs : Fns P w K mg base q S k) (hr : Room (k + 2) (A.deeper (envOfC "plain" (defScope s_plain) s.heap.objs.size f cdv))) :
    SdB (cxOf (L2.CX P w) P w K mg base N_plain "plain" (defScope s_plain) f cdv A outer s H E) q S (defBody s_plain) m_plain.body := by
  obtain ⟨_, X_BadSize⟩ := T.x_BadSize
  exact (sb_cons (ss_if (td_cmp (od_eq hr.units) (sd_callB pr_len rfl T.b_len (by decide +kernel) (sda_cons (sd_var 0) sda_nil)) sd_int (nomark _)) (sb_cons (ss_raise rfl PySem.F.excBase_ValueError X_BadSize.xq X_BadSize.xg X_BadSize.xk (raises_own X_BadSize.r1 X_BadSize.r2) rfl X_BadSize.xc sd_str)
    sb_nil) sb_nil)
    (sb_cons (ss_ret (sd_ix (ix_all (hr.units) hqP hqW) (sd_call Fs.f_divided (hr.mono (by omega)) rfl (sda_cons (sd_var 0) (sda_cons (sd_call Fs.f_shared_curve (hr.mono (by omega)) rfl (sda_cons (sd_var 0) (sda_cons (sd_call Fs.f_slope (hr.mono (by omega)) rfl (sda_cons (sd_var 0) sda_nil)) sda_nil))) sda_nil))) sd_int))
    sb_nil))
set_option maxRecDepth 200000 in
theorem b_how_many (T : Txt K mg q) (hqP : q.P = P) (hqW : q.W = w) (Fs : Fns P w K mg base q S k) (hr : Room (k + 2) (A.deeper (envOfC "how_many" (defScope s_how_many) s.heap.objs.size f cdv))) :
    SdB (cxOf (L2.CX P w) P w K mg base N_how_many "how_many" (defScope s_how_many) f cdv A outer s H E) q S (defBody s_how_many) m_how_many.body := by
  obtain ⟨_, X_BadSize⟩ := T.x_BadSize
  exact (sb_cons (ss_if (td_val (sd_call Fs.f_is_less (hr.mono (by omega)) rfl (sda_cons (sd_var 2) (sda_cons (sd_var 1) sda_nil)))) (sb_cons (ss_raise rfl PySem.F.excBase_ValueError X_BadSize.xq X_BadSize.xg X_BadSize.xk (raises_own X_BadSize.r1 X_BadSize.r2) rfl X_BadSize.xc sd_str)
    sb_nil) sb_nil)
    (sb_cons (ss_set (sdg_name 3 sc_how_many.nd) (sd_call Fs.f_rests (hr.mono (by omega)) rfl (sda_cons (sd_call Fs.f_plain (hr.mono (by omega)) rfl (sda_cons (sd_var 0) sda_nil)) sda_nil)))
    (sb_cons (ss_ret (sd_bin od_sub (sd_call Fs.f_changes (hr.mono (by omega)) rfl (sda_cons (sd_var 3) (sda_cons (sd_var 1) sda_nil))) (sd_call Fs.f_changes (hr.mono (by omega)) rfl (sda_cons (sd_var 3) (sda_cons (sd_var 2) sda_nil)))))
    sb_nil)))
set_option maxRecDepth 200000 in
theorem b_bound (T : Txt K mg q) (hqP : q.P = P) (hqW : q.W = w) (Fs : Fns P w K mg base q S k) (hr : Room (k + 2) (A.deeper (envOfC "bound" (defScope s_bound) s.heap.objs.size f cdv))) :
    SdB (cxOf (L2.CX P w) P w K mg base N_bound "bound" (defScope s_bound) f cdv A outer s H E) q S (defBody s_bound) m_bound.body := by
  obtain ⟨_, X_BadSize⟩ := T.x_BadSize
  exact (sb_cons (ss_if (td_cmp (od_eq hr.units) (sd_callB pr_len rfl T.b_len (by decide +kernel) (sda_cons (sd_var 0) sda_nil)) sd_int (nomark _)) (sb_cons (ss_raise rfl PySem.F.excBase_ValueError X_BadSize.xq X_BadSize.xg X_BadSize.xk (raises_own X_BadSize.r1 X_BadSize.r2) rfl X_BadSize.xc sd_str)
    sb_nil) sb_nil)
    (sb_cons (ss_ret (sd_call Fs.f_plus (hr.mono (by omega)) rfl (sda_cons (sd_call Fs.f_greatest (hr.mono (by omega)) rfl (sda_cons (sd_lc [("other", 1)] rfl sc_bound.nd (sdi_seq (sd_sl (sd_var 0) sdo_none (sdo_some (sd_neg sd_int)))) (blkOk_by (by kernel_rfl)) (fun _ _ _ _ _ => (sdg_name 1 sc_bound.nd)) (fun _ _ _ _ _ => sdts_nil) (fun _ _ _ _ _ => (sd_call Fs.f_size_of (hr.mono (by omega)) rfl (sda_cons (sd_call Fs.f_over (hr.mono (by omega)) rfl (sda_cons (sd_var 1) (sda_cons (sd_ix (ix_all (hr.units) hqP hqW) (sd_var 0) (sd_neg sd_int)) sda_nil))) sda_nil)))) sda_nil)) (sda_cons (sd_tup (sda_cons sd_int (sda_cons sd_int sda_nil))) sda_nil))))
    sb_nil))
set_option maxRecDepth 200000 in
theorem b_all_of (T : Txt K mg q) (hqP : q.P = P) (hqW : q.W = w) (Fs : Fns P w K mg base q S k) (hr : Room (k + 2) (A.deeper (envOfC "all_of" (defScope s_all_of) s.heap.objs.size f cdv))) :
    SdB (cxOf (L2.CX P w) P w K mg base N_all_of "all_of" (defScope s_all_of) f cdv A outer s H E) q S (defBody s_all_of) m_all_of.body :=
  (sb_cons (ss_set (sdg_name 1 sc_all_of.nd) (sd_call Fs.f_bound (hr.mono (by omega)) rfl (sda_cons (sd_var 0) sda_nil)))
    (sb_cons (ss_ret (sd_call Fs.f_how_many (hr.mono (by omega)) rfl (sda_cons (sd_var 0) (sda_cons (sd_call Fs.f_minus (hr.mono (by omega)) rfl (sda_cons (sd_tup (sda_cons sd_int (sda_cons sd_int sda_nil))) (sda_cons (sd_var 1) sda_nil))) (sda_cons (sd_var 1) sda_nil)))))
    sb_nil))
set_option maxRecDepth 200000 in
theorem b_narrowed (T : Txt K mg q) (hqP : q.P = P) (hqW : q.W = w) (Fs : Fns P w K mg base q S k) (hr : Room (k + 2) (A.deeper (envOfC "narrowed" (defScope s_narrowed) s.heap.objs.size f cdv))) :
    SdB (cxOf (L2.CX P w) P w K mg base N_narrowed "narrowed" (defScope s_narrowed) f cdv A outer s H E) q S (defBody s_narrowed) m_narrowed.body := by
  obtain ⟨_, X_BadSize⟩ := T.x_BadSize
  exact (sb_cons (ss_if (TdW.td (tw_or (td_cmp od_lt (sd_var 3) sd_int (nomark _)) (tw_or1 (td_cmp (od_ne hr.units) (sd_call Fs.f_how_many (hr.mono (by omega)) rfl (sda_cons (sd_var 0) (sda_cons (sd_var 1) (sda_cons (sd_var 2) sda_nil)))) sd_int (nomark _))))) (sb_cons (ss_raise rfl PySem.F.excBase_ValueError X_BadSize.xq X_BadSize.xg X_BadSize.xk (raises_own X_BadSize.r1 X_BadSize.r2) rfl X_BadSize.xc sd_str)
    sb_nil) sb_nil)
    (sb_cons (ss_for (passes_of rfl) rfl (sdi_rng1 rfl T.b_range (sd_var 3)) (sdg_name 4 sc_narrowed.nd) (sb_cons (ss_set (sdg_name 5 sc_narrowed.nd) (sd_call Fs.f_halfway (hr.mono (by omega)) rfl (sda_cons (sd_var 1) (sda_cons (sd_var 2) sda_nil))))
    (sb_cons (ss_if (td_cmp (od_eq hr.units) (sd_call Fs.f_how_many (hr.mono (by omega)) rfl (sda_cons (sd_var 0) (sda_cons (sd_var 1) (sda_cons (sd_var 5) sda_nil)))) sd_int (nomark _)) (sb_cons (ss_set (sdg_name 2 sc_narrowed.nd) (sd_var 5))
    sb_nil) (sb_cons (ss_set (sdg_name 1 sc_narrowed.nd) (sd_var 5))
    sb_nil))
    sb_nil)))
    (sb_cons (ss_ret (sd_tup (sda_cons (sd_var 1) (sda_cons (sd_var 2) sda_nil))))
    sb_nil)))
set_option maxRecDepth 200000 in
theorem b_apart (T : Txt K mg q) (hqP : q.P = P) (hqW : q.W = w) (Fs : Fns P w K mg base q S k) (hr : Room (k + 2) (A.deeper (envOfC "apart" (defScope s_apart) s.heap.objs.size f cdv))) :
    SdB (cxOf (L2.CX P w) P w K mg base N_apart "apart" (defScope s_apart) f cdv A outer s H E) q S (defBody s_apart) m_apart.body :=
  (sb_cons (ss_set (sdg_name 1 sc_apart.nd) (sd_call Fs.f_bound (hr.mono (by omega)) rfl (sda_cons (sd_var 0) sda_nil)))
    (sb_cons (ss_ret (sd_callTy pr_tuple rfl T.b_tuple (by decide +kernel) (sda_cons (sd_call Fs.f_split (hr.mono (by omega)) rfl (sda_cons (sd_var 0) (sda_cons (sd_call Fs.f_minus (hr.mono (by omega)) rfl (sda_cons (sd_tup (sda_cons sd_int (sda_cons sd_int sda_nil))) (sda_cons (sd_var 1) sda_nil))) (sda_cons (sd_var 1) sda_nil)))) sda_nil)))
    sb_nil))
set_option maxRecDepth 200000 in
theorem b_split (T : Txt K mg q) (hqP : q.P = P) (hqW : q.W = w) (Fs : Fns P w K mg base q S k) (hr : Room (k + 2) (A.deeper (envOfC "split" (defScope s_split) s.heap.objs.size f cdv))) :
    SdB (cxOf (L2.CX P w) P w K mg base N_split "split" (defScope s_split) f cdv A outer s H E) q S (defBody s_split) m_split.body :=
  (sb_cons (ss_set (sdg_name 3 sc_split.nd) (sd_lstC sda_nil))
    (sb_cons (ss_set (sdg_name 4 sc_split.nd) (sd_lstC (sda_cons (sd_tup (sda_cons (sd_var 1) (sda_cons (sd_var 2) sda_nil))) sda_nil)))
    (sb_cons (ss_while (passes_of rfl) (td_cmp od_gt (sd_callB pr_len rfl T.b_len (by decide +kernel) (sda_cons (sd_var 4) sda_nil)) sd_int (nomark _)) (sb_cons (ss_set (sdg_tup rfl (sdgs_cons (sdg_name 5 sc_split.nd) (sdgs_cons (sdg_name 6 sc_split.nd) sdgs_nil)) rfl) (sd_pop (sd_var 4)))
    (sb_cons (ss_set (sdg_name 7 sc_split.nd) (sd_call Fs.f_how_many (hr.mono (by omega)) rfl (sda_cons (sd_var 0) (sda_cons (sd_var 5) (sda_cons (sd_var 6) sda_nil)))))
    (sb_cons (ss_if (td_cmp (od_eq hr.units) (sd_var 7) sd_int (nomark _)) (sb_cons (ss_ex (sd_app (sd_var 3) (sd_tup (sda_cons (sd_var 5) (sda_cons (sd_var 6) sda_nil)))))
    sb_nil) sb_nil)
    (sb_cons (ss_if (td_cmp od_gt (sd_var 7) sd_int (nomark _)) (sb_cons (ss_set (sdg_name 8 sc_split.nd) (sd_call Fs.f_halfway (hr.mono (by omega)) rfl (sda_cons (sd_var 5) (sda_cons (sd_var 6) sda_nil))))
    (sb_cons (ss_ex (sd_app (sd_var 4) (sd_tup (sda_cons (sd_var 8) (sda_cons (sd_var 6) sda_nil)))))
    (sb_cons (ss_ex (sd_app (sd_var 4) (sd_tup (sda_cons (sd_var 5) (sda_cons (sd_var 8) sda_nil)))))
    sb_nil))) sb_nil)
    sb_nil)))))
    (sb_cons (ss_ret (sd_take (sd_var 3)))
    sb_nil))))
set_option maxRecDepth 200000 in
theorem b_never_below (T : Txt K mg q) (hqP : q.P = P) (hqW : q.W = w) (Fs : Fns P w K mg base q S k) (hr : Room (k + 2) (A.deeper (envOfC "never_below" (defScope s_never_below) s.heap.objs.size f cdv))) :
    SdB (cxOf (L2.CX P w) P w K mg base N_never_below "never_below" (defScope s_never_below) f cdv A outer s H E) q S (defBody s_never_below) m_never_below.body := by
  obtain ⟨_, X_BadSize⟩ := T.x_BadSize
  exact (sb_cons (ss_if (td_val (sd_call Fs.f_is_less (hr.mono (by omega)) rfl (sda_cons (sd_var 2) (sda_cons (sd_var 1) sda_nil)))) (sb_cons (ss_raise rfl PySem.F.excBase_ValueError X_BadSize.xq X_BadSize.xg X_BadSize.xk (raises_own X_BadSize.r1 X_BadSize.r2) rfl X_BadSize.xc sd_str)
    sb_nil) sb_nil)
    (sb_cons (ss_if (td_cmp (od_eq hr.units) (sd_callB pr_len rfl T.b_len (by decide +kernel) (sda_cons (sd_var 0) sda_nil)) sd_int (nomark _)) (sb_cons (ss_ret sd_bl)
    sb_nil) sb_nil)
    (sb_cons (ss_ret (sd_callB (pr_all1 rfl) rfl T.b_all (by decide +kernel) (sda_cons (sd_lc [("at", 3)] rfl sc_never_below.nd (sdi_seq (sd_call Fs.f_samples (hr.mono (by omega)) rfl (sda_cons (sd_var 0) (sda_cons (sd_var 1) (sda_cons (sd_var 2) sda_nil))))) (blkOk_by (by kernel_rfl)) (fun _ _ _ _ _ => (sdg_name 3 sc_never_below.nd)) (fun _ _ _ _ _ => sdts_nil) (fun _ _ _ _ _ => (sd_cmp od_ge (sd_call Fs.f_sign_at (hr.mono (by omega)) rfl (sda_cons (sd_var 0) (sda_cons (sd_var 3) sda_nil))) sd_int (nomark _)))) sda_nil)))
    sb_nil)))
set_option maxRecDepth 200000 in
theorem b_samples (T : Txt K mg q) (hqP : q.P = P) (hqW : q.W = w) (Fs : Fns P w K mg base q S k) (hr : Room (k + 2) (A.deeper (envOfC "samples" (defScope s_samples) s.heap.objs.size f cdv))) :
    SdB (cxOf (L2.CX P w) P w K mg base N_samples "samples" (defScope s_samples) f cdv A outer s H E) q S (defBody s_samples) m_samples.body :=
  (sb_cons (ss_set (sdg_name 3 sc_samples.nd) (sd_call Fs.f_plain (hr.mono (by omega)) rfl (sda_cons (sd_var 0) sda_nil)))
    (sb_cons (ss_set (sdg_name 4 sc_samples.nd) (sd_lstC (sda_cons (sd_var 1) (sda_cons (sd_var 2) sda_nil))))
    (sb_cons (ss_for (passes_of rfl) rfl (sdi_seq (sd_call Fs.f_split (hr.mono (by omega)) rfl (sda_cons (sd_var 0) (sda_cons (sd_var 1) (sda_cons (sd_var 2) sda_nil))))) (sdg_tup rfl (sdgs_cons (sdg_name 5 sc_samples.nd) (sdgs_cons (sdg_name 6 sc_samples.nd) sdgs_nil)) rfl) (sb_cons (ss_set (sdg_name 7 sc_samples.nd) (sd_var 5))
    (sb_cons (ss_if (td_cmp (od_eq hr.units) (sd_call Fs.f_sign_at (hr.mono (by omega)) rfl (sda_cons (sd_var 3) (sda_cons (sd_var 5) sda_nil))) sd_int (nomark _)) (sb_cons (ss_set (sdg_name 7 sc_samples.nd) (sd_call Fs.f_halfway (hr.mono (by omega)) rfl (sda_cons (sd_var 5) (sda_cons (sd_var 6) sda_nil))))
    (sb_cons (ss_while (passes_of rfl) (td_cmp (od_ne hr.units) (sd_call Fs.f_how_many (hr.mono (by omega)) rfl (sda_cons (sd_var 0) (sda_cons (sd_var 5) (sda_cons (sd_var 7) sda_nil)))) sd_int (nomark _)) (sb_cons (ss_set (sdg_name 7 sc_samples.nd) (sd_call Fs.f_halfway (hr.mono (by omega)) rfl (sda_cons (sd_var 5) (sda_cons (sd_var 7) sda_nil))))
    sb_nil))
    sb_nil)) sb_nil)
    (sb_cons (ss_ex (sd_app (sd_var 4) (sd_var 7)))
    sb_nil))))
    (sb_cons (ss_ret (sd_callTy pr_tuple rfl T.b_tuple (by decide +kernel) (sda_cons (sd_take (sd_var 4)) sda_nil)))
    sb_nil))))
set_option maxRecDepth 200000 in
theorem b_sign_at (T : Txt K mg q) (hqP : q.P = P) (hqW : q.W = w) (Fs : Fns P w K mg base q S k) (hr : Room (k + 2) (A.deeper (envOfC "sign_at" (defScope s_sign_at) s.heap.objs.size f cdv))) :
    SdB (cxOf (L2.CX P w) P w K mg base N_sign_at "sign_at" (defScope s_sign_at) f cdv A outer s H E) q S (defBody s_sign_at) m_sign_at.body :=
  (sb_cons (ss_set (sdg_name 2 sc_sign_at.nd) (sd_ix (ix_all (hr.units) hqP hqW) (sd_call Fs.f_worth (hr.mono (by omega)) rfl (sda_cons (sd_var 0) (sda_cons (sd_var 1) sda_nil))) sd_int))
    (sb_cons (ss_if (td_cmp (od_eq hr.units) (sd_var 2) sd_int (nomark _)) (sb_cons (ss_ret sd_int)
    sb_nil) sb_nil)
    (sb_cons (ss_ret (sd_if (td_cmp od_gt (sd_var 2) sd_int (nomark _)) sd_int (sd_neg sd_int)))
    sb_nil)))
set_option maxRecDepth 200000 in
theorem b_inside_circle (T : Txt K mg q) (hqP : q.P = P) (hqW : q.W = w) (Fs : Fns P w K mg base q S k) (hr : Room (k + 2) (A.deeper (envOfC "inside_circle" (defScope s_inside_circle) s.heap.objs.size f cdv))) :
    SdB (cxOf (L2.CX P w) P w K mg base N_inside_circle "inside_circle" (defScope s_inside_circle) f cdv A outer s H E) q S (defBody s_inside_circle) m_inside_circle.body := by
  obtain ⟨_, X_BadSize⟩ := T.x_BadSize
  exact (sb_cons (ss_if (td_cmp (od_eq hr.units) (sd_callB pr_len rfl T.b_len (by decide +kernel) (sda_cons (sd_var 0) sda_nil)) sd_int (nomark _)) (sb_cons (ss_raise rfl PySem.F.excBase_ValueError X_BadSize.xq X_BadSize.xg X_BadSize.xk (raises_own X_BadSize.r1 X_BadSize.r2) rfl X_BadSize.xc sd_str)
    sb_nil) sb_nil)
    (sb_cons (ss_while (passes_of rfl) (td_cmp od_gt (sd_callB pr_len rfl T.b_len (by decide +kernel) (sda_cons (sd_var 0) sda_nil)) sd_int (nomark _)) (sb_cons (ss_set (sdg_name 1 sc_inside_circle.nd) (sd_call Fs.f_over (hr.mono (by omega)) rfl (sda_cons (sd_ix (ix_all (hr.units) hqP hqW) (sd_var 0) sd_int) (sda_cons (sd_ix (ix_all (hr.units) hqP hqW) (sd_var 0) (sd_neg sd_int)) sda_nil))))
    (sb_cons (ss_if (td_not (td_val (sd_call Fs.f_is_less (hr.mono (by omega)) rfl (sda_cons (sd_call Fs.f_size_of (hr.mono (by omega)) rfl (sda_cons (sd_var 1) sda_nil)) (sda_cons (sd_tup (sda_cons sd_int (sda_cons sd_int sda_nil))) sda_nil))))) (sb_cons (ss_ret sd_bl)
    sb_nil) sb_nil)
    (sb_cons (ss_set (sdg_name 2 sc_inside_circle.nd) (sd_rev (sd_var 0)))
    (sb_cons (ss_set (sdg_name 0 sc_inside_circle.nd) (sd_call Fs.f_curve (hr.mono (by omega)) rfl (sda_cons (sd_lc [("mine", 3), ("its", 4)] rfl sc_inside_circle.nd (sdi_zip rfl T.b_zip (sd_sl (sd_var 0) (sdo_some sd_int) sdo_none) (sd_sl (sd_var 2) (sdo_some sd_int) sdo_none)) (blkOk_by (by kernel_rfl)) (fun _ _ _ _ _ => (sdg_tup rfl (sdgs_cons (sdg_name 3 sc_inside_circle.nd) (sdgs_cons (sdg_name 4 sc_inside_circle.nd) sdgs_nil)) rfl)) (fun _ _ _ _ _ => sdts_nil) (fun _ _ _ _ _ => (sd_call Fs.f_minus (hr.mono (by omega)) rfl (sda_cons (sd_var 3) (sda_cons (sd_call Fs.f_times (hr.mono (by omega)) rfl (sda_cons (sd_var 1) (sda_cons (sd_var 4) sda_nil))) sda_nil))))) sda_nil)))
    sb_nil)))))
    (sb_cons (ss_ret sd_bl)
    sb_nil)))
set_option maxRecDepth 200000 in
theorem b_law_dice (T : Txt K mg q) (hqP : q.P = P) (hqW : q.W = w) (Fs : Fns P w K mg base q S k) (hr : Room (k + 2) (A.deeper (envOfC "_law_dice" (defScope s_law_dice) s.heap.objs.size f cdv))) :
    SdB (cxOf (L2.CX P w) P w K mg base N_law_dice "_law_dice" (defScope s_law_dice) f cdv A outer s H E) q S (defBody s_law_dice) m_law_dice.body :=
  (sb_cons (ss_if (td_chain od_lt od_lt (sd_bin od_sub sd_int sd_int) (sd_var 0) sd_int) (sb_cons (ss_ret (sd_lstC (sda_cons (sd_callB pr_abs rfl T.b_abs (by decide +kernel) (sda_cons (sd_var 0) sda_nil)) (sda_cons sd_int (sda_cons sd_int sda_nil)))))
    sb_nil) sb_nil)
    (sb_cons (ss_ret (sd_lstC (sda_cons (sd_var 0) (sda_cons (sd_bin od_add sd_int (sd_bin od_mod (sd_callTy pr_int rfl T.b_int (by decide +kernel) (sda_cons (sd_var 0) sda_nil)) sd_int)) (sda_cons (sd_callTy pr_int rfl T.b_int (by decide +kernel) (sda_cons (sd_cmp od_ge (sd_var 0) (sd_bin od_pow sd_int sd_int) (nomark _)) sda_nil)) sda_nil)))))
    sb_nil))
set_option maxRecDepth 200000 in
theorem b_law_roll (T : Txt K mg q) (hqP : q.P = P) (hqW : q.W = w) (Fs : Fns P w K mg base q S k) (hr : Room (k + 2) (A.deeper (envOfC "_law_roll" (defScope s_law_roll) s.heap.objs.size f cdv))) :
    SdB (cxOf (L2.CX P w) P w K mg base N_law_roll "_law_roll" (defScope s_law_roll) f cdv A outer s H E) q S (defBody s_law_roll) m_law_roll.body :=
  (sb_cons (ss_if (TdW.td (tw_or (td_cmp (od_eq hr.units) (sd_ix (ix_all (hr.units) hqP hqW) (sd_var 0) sd_int) sd_int (nomark _)) (tw_or1 (TdW.td (tw_and (td_cmp (od_eq hr.units) (sd_ix (ix_all (hr.units) hqP hqW) (sd_var 0) sd_int) sd_int (nomark _)) (tw_and1 (td_cmp od_gt (sd_ix (ix_all (hr.units) hqP hqW) (sd_var 0) sd_int) sd_int (nomark _)))))))) (sb_cons (ss_set (sdg_name 2 sc_law_roll.nd) (sd_bin od_mod (sd_callTy pr_int rfl T.b_int (by decide +kernel) (sda_cons (sd_ix (ix_all (hr.units) hqP hqW) (sd_var 0) sd_int) sda_nil)) (sd_var 1)))
    (sb_cons (ss_setix (set_C (hr.units) hqP hqW) (sd_var 0) sd_int (sd_bin od_fdiv (sd_ix (ix_all (hr.units) hqP hqW) (sd_var 0) sd_int) (sd_var 1)))
    (sb_cons (ss_ret (sd_var 2))
    sb_nil))) sb_nil)
    (sb_cons (ss_setix (set_C (hr.units) hqP hqW) (sd_var 0) sd_int sd_int)
    (sb_cons (ss_setix (set_C (hr.units) hqP hqW) (sd_var 0) sd_int (sd_bin od_mod (sd_callTy pr_int rfl T.b_int (by decide +kernel) (sda_cons (sd_bin od_add (sd_bin od_add (sd_bin od_mul (sd_ix (ix_all (hr.units) hqP hqW) (sd_var 0) sd_int) sd_int) (sd_bin od_mul (sd_ix (ix_all (hr.units) hqP hqW) (sd_var 0) sd_int) sd_int)) sd_int) sda_nil)) sd_int))
    (sb_cons (ss_setix (set_C (hr.units) hqP hqW) (sd_var 0) sd_int (sd_bin od_add (sd_ix (ix_all (hr.units) hqP hqW) (sd_var 0) sd_int) sd_int))
    (sb_cons (ss_ret (sd_bin od_mod (sd_callTy pr_int rfl T.b_int (by decide +kernel) (sda_cons (sd_bin od_add (sd_bin od_fdiv (sd_ix (ix_all (hr.units) hqP hqW) (sd_var 0) sd_int) sd_int) (sd_ix (ix_all (hr.units) hqP hqW) (sd_var 0) sd_int)) sda_nil)) (sd_var 1)))
    sb_nil)))))
set_option maxRecDepth 200000 in
theorem b_law_rounds (T : Txt K mg q) (hqP : q.P = P) (hqW : q.W = w) (Fs : Fns P w K mg base q S k) (hr : Room (k + 2) (A.deeper (envOfC "_law_rounds" (defScope s_law_rounds) s.heap.objs.size f cdv))) :
    SdB (cxOf (L2.CX P w) P w K mg base N_law_rounds "_law_rounds" (defScope s_law_rounds) f cdv A outer s H E) q S (defBody s_law_rounds) m_law_rounds.body :=
  (sb_cons (ss_set (sdg_name 2 sc_law_rounds.nd) (sd_sl (sd_var 0) sdo_none (sdo_some (sd_var 1))))
    (sb_cons (ss_if (td_cmp (od_eq hr.units) (sd_var 2) (sd_lst sda_nil) (nomark _)) (sb_cons (ss_set (sdg_name 2 sc_law_rounds.nd) (sd_lst (sda_cons sd_int sda_nil)))
    sb_nil) sb_nil)
    (sb_cons (ss_ret (sd_lc [("cell", 3)] rfl sc_law_rounds.nd (sdi_seq (sd_var 2)) (blkOk_by (by kernel_rfl)) (fun _ _ _ _ _ => (sdg_name 3 sc_law_rounds.nd)) (fun _ _ _ _ _ => sdts_nil) (fun _ _ _ _ _ => (sd_call Fs.f_law_dice (hr.mono (by omega)) rfl (sda_cons (sd_var 3) sda_nil)))))
    sb_nil)))
set_option maxRecDepth 200000 in
theorem b_law_cases1 (T : Txt K mg q) (hqP : q.P = P) (hqW : q.W = w) (Fs : Fns P w K mg base q S k) (hr : Room (k + 2) (A.deeper (envOfC "_law_cases1" (defScope s_law_cases1) s.heap.objs.size f cdv))) {c Pt : Addr} (TB : TabB base mg c Pt) (hcode : cdv = .ref c) (hmT : (Pt, ("_law_cases1.<locals>.<lambda>" : Str)) ∈ q.T) (huT : ∀ p ∈ q.T, p.1 = Pt → p.2 = ("_law_cases1.<locals>.<lambda>" : Str)) (hS : S.told = tolds) (hLD : q.lamD = lamDs) :
    SdB (cxOf (L2.CX P w) P w K mg base N_law_cases1 "_law_cases1" (defScope s_law_cases1) f cdv A outer s H E) q S (defBody s_law_cases1) m_law_cases1.body :=
  (sb_cons (ss_set (sdg_name 0 sc_law_cases1.nd) (sd_lst (sda_cons (sd_tup (sda_cons (sd_lam (k := 0) (by rw [hLD]; rfl) TB hcode hmT huT (by decide +kernel)) (sda_cons sd_str sda_nil))) (sda_cons (sd_tup (sda_cons (sd_lam (k := 1) (by rw [hLD]; rfl) TB hcode hmT huT (by decide +kernel)) (sda_cons sd_str sda_nil))) (sda_cons (sd_tup (sda_cons (sd_lam (k := 2) (by rw [hLD]; rfl) TB hcode hmT huT (by decide +kernel)) (sda_cons sd_str sda_nil))) (sda_cons (sd_tup (sda_cons (sd_lam (k := 3) (by rw [hLD]; rfl) TB hcode hmT huT (by decide +kernel)) (sda_cons sd_str sda_nil))) (sda_cons (sd_tup (sda_cons (sd_lam (k := 4) (by rw [hLD]; rfl) TB hcode hmT huT (by decide +kernel)) (sda_cons sd_str sda_nil))) (sda_cons (sd_tup (sda_cons (sd_lam (k := 5) (by rw [hLD]; rfl) TB hcode hmT huT (by decide +kernel)) (sda_cons sd_str sda_nil))) (sda_cons (sd_tup (sda_cons (sd_lam (k := 6) (by rw [hLD]; rfl) TB hcode hmT huT (by decide +kernel)) (sda_cons sd_str sda_nil))) (sda_cons (sd_tup (sda_cons (sd_lam (k := 7) (by rw [hLD]; rfl) TB hcode hmT huT (by decide +kernel)) (sda_cons sd_str sda_nil))) (sda_cons (sd_tup (sda_cons (sd_lam (k := 8) (by rw [hLD]; rfl) TB hcode hmT huT (by decide +kernel)) (sda_cons sd_str sda_nil))) sda_nil)))))))))))
    (sb_cons (ss_ret (sd_and (sd_cmp (od_eq hr.units) (sd_lc [("pair", 1)] rfl sc_law_cases1.nd (sdi_seq (sd_var 0)) (blkOk_by (by kernel_rfl)) (fun _ _ _ _ _ => (sdg_name 1 sc_law_cases1.nd)) (fun _ _ _ _ _ => (sdts_one (td_cmp (od_ne hr.units) (sd_call Fs.f_law_told (hr.mono (by omega)) rfl (sda_cons (sd_ix (ix_all (hr.units) hqP hqW) (sd_var 1) sd_int) sda_nil)) (sd_ix (ix_all (hr.units) hqP hqW) (sd_var 1) sd_int) (nomark _)))) (fun _ _ _ _ _ => (sd_var 1))) (sd_lst sda_nil) (nomark _)) (sd_and (sd_call Fs.f_never_below (hr.mono (by omega)) rfl (sda_cons (sd_tup sda_nil) (sda_cons (sd_tup (sda_cons sd_int (sda_cons sd_int sda_nil))) (sda_cons (sd_tup (sda_cons sd_int (sda_cons sd_int sda_nil))) sda_nil)))) (sd_one (sd_call Fs.f_inside_circle (hr.mono (by omega)) rfl (sda_cons (sd_tup (sda_cons (sd_tup (sda_cons sd_int (sda_cons sd_int sda_nil))) sda_nil)) sda_nil))))))
    sb_nil))
set_option maxRecDepth 200000 in
theorem b_law (T : Txt K mg q) (hqP : q.P = P) (hqW : q.W = w) (Fs : Fns P w K mg base q S k) (hr : Room (k + 2) (A.deeper (envOfC "law" (defScope s_law) s.heap.objs.size f cdv))) {c Pt : Addr} (TB : TabB base mg c Pt) (hcode : cdv = .ref c) (hmT : (Pt, ("law.<locals>.<lambda>" : Str)) ∈ q.T) (huT : ∀ p ∈ q.T, p.1 = Pt → p.2 = ("law.<locals>.<lambda>" : Str)) (hS : S.told = tolds) (hLD : q.lamD = lamDs) :
    SdB (cxOf (L2.CX P w) P w K mg base N_law "law" (defScope s_law) f cdv A outer s H E) q S (defBody s_law) m_law.body := by
  obtain ⟨hl, TO, TH⟩ := T.told
  rw [← hS] at TH
  exact (sb_cons (ss_for (passes_of rfl) rfl (sdi_seq (sd_call Fs.f_law_rounds (hr.mono (by omega)) rfl (sda_cons (sd_var 0) (sda_cons sd_int sda_nil)))) (sdg_name 1 sc_law.nd) (sb_cons (ss_setLc (i := 2) [("k", 12)] rfl sc_law.nd (sdi_rng1 rfl T.b_range (sd_call Fs.f_law_roll (hr.mono (by omega)) rfl (sda_cons (sd_var 1) (sda_cons sd_int sda_nil)))) (blkOk_by (by kernel_rfl)) (fun _ _ _ _ _ => (sdg_name 12 sc_law.nd)) (fun _ _ _ _ _ => sdts_nil) (fun _ _ _ _ _ => (sd_call Fs.f_part (hr.mono (by omega)) rfl (sda_cons (sd_bin od_sub (sd_call Fs.f_law_roll (hr.mono (by omega)) rfl (sda_cons (sd_var 1) (sda_cons sd_int sda_nil))) sd_int) (sda_cons (sd_bin od_add sd_int (sd_call Fs.f_law_roll (hr.mono (by omega)) rfl (sda_cons (sd_var 1) (sda_cons sd_int sda_nil)))) sda_nil)))) (sw_true rfl rfl rfl (by kernel_rfl)))
    (sb_cons (ss_set (sdg_name 3 sc_law.nd) (sd_call Fs.f_scaled_curve (hr.mono (by omega)) rfl (sda_cons (sd_tup (sda_cons (sd_tup (sda_cons sd_int (sda_cons sd_int sda_nil))) sda_nil)) (sda_cons (sd_ix (ix_all (hr.units) hqP hqW) (sd_lst (sda_cons (sd_tup (sda_cons sd_int (sda_cons sd_int sda_nil))) (sda_cons (sd_tup (sda_cons (sd_bin od_sub sd_int sd_int) (sda_cons sd_int sda_nil))) sda_nil))) (sd_call Fs.f_law_roll (hr.mono (by omega)) rfl (sda_cons (sd_var 1) (sda_cons sd_int sda_nil)))) sda_nil))))
    (sb_cons (ss_for (passes_of rfl) rfl (sdi_seq (sd_var 2)) (sdg_name 4 sc_law.nd) (sb_cons (ss_set (sdg_name 3 sc_law.nd) (sd_call Fs.f_multiplied (hr.mono (by omega)) rfl (sda_cons (sd_var 3) (sda_cons (sd_call Fs.f_curve (hr.mono (by omega)) rfl (sda_cons (sd_lst (sda_cons (sd_call Fs.f_minus (hr.mono (by omega)) rfl (sda_cons (sd_tup (sda_cons sd_int (sda_cons sd_int sda_nil))) (sda_cons (sd_var 4) sda_nil))) (sda_cons (sd_tup (sda_cons sd_int (sda_cons sd_int sda_nil))) sda_nil))) sda_nil)) sda_nil))))
    sb_nil))
    (sb_cons (ss_if (td_cmp (od_eq hr.units) (sd_call Fs.f_law_roll (hr.mono (by omega)) rfl (sda_cons (sd_var 1) (sda_cons sd_int sda_nil))) sd_int (nomark _)) (sb_cons (ss_set (sdg_name 3 sc_law.nd) (sd_call Fs.f_multiplied (hr.mono (by omega)) rfl (sda_cons (sd_var 3) (sda_cons (sd_call Fs.f_curve (hr.mono (by omega)) rfl (sda_cons (sd_lst (sda_cons (sd_tup (sda_cons (sd_bin od_add sd_int (sd_call Fs.f_law_roll (hr.mono (by omega)) rfl (sda_cons (sd_var 1) (sda_cons sd_int sda_nil)))) (sda_cons sd_int sda_nil))) (sda_cons (sd_tup (sda_cons sd_int (sda_cons sd_int sda_nil))) (sda_cons (sd_tup (sda_cons sd_int (sda_cons sd_int sda_nil))) sda_nil)))) sda_nil)) sda_nil))))
    sb_nil) sb_nil)
    (sb_cons (ss_set (sdg_name 5 sc_law.nd) (sd_sortQ (k := 9) (c := 2) rfl (j := 0) (hr.mono (by omega)) rfl T.b_sorted (by rw [hLD]; rfl) TB hcode hmT huT (by decide +kernel) (by rw [hLD]; exact kl_9) (by rw [hLD]; exact kb_9) (sd_dctP (hr.units) rfl hqP hqW rfl T.b_dict (by decide +kernel) (sd_lc [("root", 4)] rfl sc_law.nd (sdi_seq (sd_var 2)) (blkOk_by (by kernel_rfl)) (fun _ _ _ _ _ => (sdg_name 4 sc_law.nd)) (fun _ _ _ _ _ => sdts_nil) (fun _ _ _ _ _ => (sd_tup (sda_cons (sd_var 4) (sda_cons sd_int sda_nil))))))))
    (sb_cons (ss_set (sdg_tup rfl (sdgs_cons (sdg_name 6 sc_law.nd) (sdgs_cons (sdg_name 7 sc_law.nd) sdgs_nil)) rfl) (sd_tup (sda_cons (sd_call Fs.f_part (hr.mono (by omega)) rfl (sda_cons (sd_bin od_sub (sd_call Fs.f_law_roll (hr.mono (by omega)) rfl (sda_cons (sd_var 1) (sda_cons sd_int sda_nil))) sd_int) (sda_cons sd_int sda_nil))) (sda_cons (sd_call Fs.f_part (hr.mono (by omega)) rfl (sda_cons (sd_bin od_sub (sd_call Fs.f_law_roll (hr.mono (by omega)) rfl (sda_cons (sd_var 1) (sda_cons sd_int sda_nil))) sd_int) (sda_cons sd_int sda_nil))) sda_nil))))
    (sb_cons (ss_set (sdg_name 8 sc_law.nd) (sd_lc [("root", 4)] rfl sc_law.nd (sdi_seq (sd_var 5)) (blkOk_by (by kernel_rfl)) (fun _ _ _ _ _ => (sdg_name 4 sc_law.nd)) (fun _ _ _ _ _ => (sdts_one (TdW.td (tw_and (td_val (sd_call Fs.f_is_less (hr.mono (by omega)) rfl (sda_cons (sd_var 6) (sda_cons (sd_var 4) sda_nil)))) (tw_and1 (td_not (td_val (sd_call Fs.f_is_less (hr.mono (by omega)) rfl (sda_cons (sd_var 7) (sda_cons (sd_var 4) sda_nil)))))))))) (fun _ _ _ _ _ => (sd_var 4))))
    (sb_cons (ss_if (TdW.td (tw_or (td_cmp (od_ne hr.units) (sd_told TO TH rfl TB hcode hmT huT hr (lamS_by (by kernel_rfl)) (fun A2 o2 s2 H2 E2 f2 c2 hr2 => (sd_call Fs.f_how_many (hr2) rfl (sda_cons (sd_var 3) (sda_cons (sd_var 6) (sda_cons (sd_var 7) sda_nil)))))) (sd_if (td_val (sd_call Fs.f_is_less (hr.mono (by omega)) rfl (sda_cons (sd_var 7) (sda_cons (sd_var 6) sda_nil)))) sd_str (sd_callB pr_len rfl T.b_len (by decide +kernel) (sda_cons (sd_var 8) sda_nil))) (nomark _)) (tw_or1 (td_cmp (od_ne hr.units) (sd_call Fs.f_all_of (hr.mono (by omega)) rfl (sda_cons (sd_var 3) sda_nil)) (sd_callB pr_len rfl T.b_len (by decide +kernel) (sda_cons (sd_var 5) sda_nil)) (nomark _))))) (sb_cons (ss_ret sd_bl)
    sb_nil) sb_nil)
    (sb_cons (ss_set (sdg_name 9 sc_law.nd) (sd_call Fs.f_bound (hr.mono (by omega)) rfl (sda_cons (sd_var 3) sda_nil)))
    (sb_cons (ss_if (TdW.td (tw_or (td_cmp (od_ne hr.units) (sd_lc [("root", 4)] rfl sc_law.nd (sdi_seq (sd_var 5)) (blkOk_by (by kernel_rfl)) (fun _ _ _ _ _ => (sdg_name 4 sc_law.nd)) (fun _ _ _ _ _ => (sdts_one (td_not (td_val (sd_call Fs.f_is_less (hr.mono (by omega)) rfl (sda_cons (sd_call Fs.f_size_of (hr.mono (by omega)) rfl (sda_cons (sd_var 4) sda_nil)) (sda_cons (sd_var 9) sda_nil))))))) (fun _ _ _ _ _ => (sd_var 4))) (sd_lst sda_nil) (nomark _)) (tw_or (td_cmp (od_ne hr.units) (sd_bin od_sub (sd_callB pr_len rfl T.b_len (by decide +kernel) (sda_cons (sd_call Fs.f_plain (hr.mono (by omega)) rfl (sda_cons (sd_var 3) sda_nil)) sda_nil)) sd_int) (sd_bin od_sub (sd_bin od_sub (sd_bin od_add (sd_callB pr_len rfl T.b_len (by decide +kernel) (sda_cons (sd_var 5) sda_nil)) (sd_callB pr_len rfl T.b_len (by decide +kernel) (sda_cons (sd_var 3) sda_nil))) sd_int) (sd_callB pr_len rfl T.b_len (by decide +kernel) (sda_cons (sd_var 2) sda_nil))) (nomark _)) (tw_or1 (td_cmp (od_ne hr.units) (sd_lc [("root", 4)] rfl sc_law.nd (sdi_seq (sd_var 5)) (blkOk_by (by kernel_rfl)) (fun _ _ _ _ _ => (sdg_name 4 sc_law.nd)) (fun _ _ _ _ _ => (sdts_one (td_cmp (od_ne hr.units) (sd_ix (ix_all (hr.units) hqP hqW) (sd_call Fs.f_worth (hr.mono (by omega)) rfl (sda_cons (sd_call Fs.f_plain (hr.mono (by omega)) rfl (sda_cons (sd_var 3) sda_nil)) (sda_cons (sd_var 4) sda_nil))) sd_int) sd_int (nomark _)))) (fun _ _ _ _ _ => (sd_var 4))) (sd_lst sda_nil) (nomark _)))))) (sb_cons (ss_ret sd_bl)
    sb_nil) sb_nil)
    (sb_cons (ss_set (sdg_name 10 sc_law.nd) (sd_call Fs.f_apart (hr.mono (by omega)) rfl (sda_cons (sd_var 3) sda_nil)))
    (sb_cons (ss_if (TdW.td (tw_or (td_cmp (od_ne hr.units) (sd_callB pr_len rfl T.b_len (by decide +kernel) (sda_cons (sd_var 10) sda_nil)) (sd_callB pr_len rfl T.b_len (by decide +kernel) (sda_cons (sd_var 5) sda_nil)) (nomark _)) (tw_or (td_cmp (od_ne hr.units) (sd_lc [("k", 12)] rfl sc_law.nd (sdi_rng1 rfl T.b_range (sd_callB pr_len rfl T.b_len (by decide +kernel) (sda_cons (sd_var 10) sda_nil))) (blkOk_by (by kernel_rfl)) (fun _ _ _ _ _ => (sdg_name 12 sc_law.nd)) (fun _ _ _ _ _ => (sdts_one (TdW.td (tw_or (td_not (td_val (sd_call Fs.f_is_less (hr.mono (by omega)) rfl (sda_cons (sd_ix (ix_all (hr.units) hqP hqW) (sd_ix (ix_all (hr.units) hqP hqW) (sd_var 10) (sd_var 12)) sd_int) (sda_cons (sd_ix (ix_all (hr.units) hqP hqW) (sd_var 5) (sd_var 12)) sda_nil))))) (tw_or1 (td_val (sd_call Fs.f_is_less (hr.mono (by omega)) rfl (sda_cons (sd_ix (ix_all (hr.units) hqP hqW) (sd_ix (ix_all (hr.units) hqP hqW) (sd_var 10) (sd_var 12)) sd_int) (sda_cons (sd_ix (ix_all (hr.units) hqP hqW) (sd_var 5) (sd_var 12)) sda_nil))))))))) (fun _ _ _ _ _ => (sd_var 12))) (sd_lst sda_nil) (nomark _)) (tw_or1 (td_cmp (od_ne hr.units) (sd_callTy pr_list rfl T.b_list (by decide +kernel) (sda_cons (sd_call Fs.f_split (hr.mono (by omega)) rfl (sda_cons (sd_var 3) (sda_cons (sd_call Fs.f_minus (hr.mono (by omega)) rfl (sda_cons (sd_tup (sda_cons sd_int (sda_cons sd_int sda_nil))) (sda_cons (sd_var 9) sda_nil))) (sda_cons (sd_var 9) sda_nil)))) sda_nil)) (sd_callTy pr_list rfl T.b_list (by decide +kernel) (sda_cons (sd_var 10) sda_nil)) (nomark _)))))) (sb_cons (ss_ret sd_bl)
    sb_nil) sb_nil)
    (sb_cons (ss_set (sdg_name 11 sc_law.nd) (sd_call Fs.f_rests (hr.mono (by omega)) rfl (sda_cons (sd_call Fs.f_plain (hr.mono (by omega)) rfl (sda_cons (sd_var 3) sda_nil)) sda_nil)))
    (sb_cons (ss_if (TdW.td (tw_or (td_cmp (od_ne hr.units) (sd_bin od_sub (sd_call Fs.f_changes (hr.mono (by omega)) rfl (sda_cons (sd_var 11) (sda_cons (sd_call Fs.f_minus (hr.mono (by omega)) rfl (sda_cons (sd_tup (sda_cons sd_int (sda_cons sd_int sda_nil))) (sda_cons (sd_var 9) sda_nil))) sda_nil))) (sd_call Fs.f_changes (hr.mono (by omega)) rfl (sda_cons (sd_var 11) (sda_cons (sd_var 9) sda_nil)))) (sd_callB pr_len rfl T.b_len (by decide +kernel) (sda_cons (sd_var 5) sda_nil)) (nomark _)) (tw_or1 (td_cmp (od_ne hr.units) (sd_ix (ix_all (hr.units) hqP hqW) (sd_var 11) sd_int) (sd_call Fs.f_plain (hr.mono (by omega)) rfl (sda_cons (sd_var 3) sda_nil)) (nomark _))))) (sb_cons (ss_ret sd_bl)
    sb_nil) sb_nil)
    (sb_cons (ss_for (passes_of rfl) rfl (sdi_rng1 rfl T.b_range (sd_callB pr_len rfl T.b_len (by decide +kernel) (sda_cons (sd_var 10) sda_nil))) (sdg_name 12 sc_law.nd) (sb_cons (ss_set (sdg_tup rfl (sdgs_cons (sdg_name 13 sc_law.nd) (sdgs_cons (sdg_name 14 sc_law.nd) sdgs_nil)) rfl) (sd_call Fs.f_narrowed (hr.mono (by omega)) rfl (sda_cons (sd_var 3) (sda_cons (sd_ix (ix_all (hr.units) hqP hqW) (sd_ix (ix_all (hr.units) hqP hqW) (sd_var 10) (sd_var 12)) sd_int) (sda_cons (sd_ix (ix_all (hr.units) hqP hqW) (sd_ix (ix_all (hr.units) hqP hqW) (sd_var 10) (sd_var 12)) sd_int) (sda_cons sd_int sda_nil))))))
    (sb_cons (ss_if (TdW.td (tw_or (td_not (td_val (sd_call Fs.f_is_less (hr.mono (by omega)) rfl (sda_cons (sd_var 13) (sda_cons (sd_ix (ix_all (hr.units) hqP hqW) (sd_var 5) (sd_var 12)) sda_nil))))) (tw_or (td_val (sd_call Fs.f_is_less (hr.mono (by omega)) rfl (sda_cons (sd_var 14) (sda_cons (sd_ix (ix_all (hr.units) hqP hqW) (sd_var 5) (sd_var 12)) sda_nil)))) (tw_or1 (td_cmp (od_ne hr.units) (sd_call Fs.f_times (hr.mono (by omega)) rfl (sda_cons (sd_call Fs.f_minus (hr.mono (by omega)) rfl (sda_cons (sd_var 14) (sda_cons (sd_var 13) sda_nil))) (sda_cons (sd_tup (sda_cons sd_int (sda_cons sd_int sda_nil))) sda_nil))) (sd_call Fs.f_minus (hr.mono (by omega)) rfl (sda_cons (sd_ix (ix_all (hr.units) hqP hqW) (sd_ix (ix_all (hr.units) hqP hqW) (sd_var 10) (sd_var 12)) sd_int) (sda_cons (sd_ix (ix_all (hr.units) hqP hqW) (sd_ix (ix_all (hr.units) hqP hqW) (sd_var 10) (sd_var 12)) sd_int) sda_nil))) (nomark _)))))) (sb_cons (ss_ret sd_bl)
    sb_nil) sb_nil)
    sb_nil)))
    (sb_cons (ss_if (td_not (td_val (sd_call Fs.f_is_less (hr.mono (by omega)) rfl (sda_cons (sd_var 7) (sda_cons (sd_var 6) sda_nil))))) (sb_cons (ss_set (sdg_name 15 sc_law.nd) (sd_sortQ (k := 10) (c := 2) rfl (j := 0) (hr.mono (by omega)) rfl T.b_sorted (by rw [hLD]; rfl) TB hcode hmT huT (by decide +kernel) (by rw [hLD]; exact kl_10) (by rw [hLD]; exact kb_10) (sd_dctP (hr.units) rfl hqP hqW rfl T.b_dict (by decide +kernel) (sd_lc [("mark", 24)] rfl sc_law.nd (sdi_seq (sd_bin od_add (sd_lst (sda_cons (sd_var 6) (sda_cons (sd_var 7) sda_nil))) (sd_var 8))) (blkOk_by (by kernel_rfl)) (fun _ _ _ _ _ => (sdg_name 24 sc_law.nd)) (fun _ _ _ _ _ => sdts_nil) (fun _ _ _ _ _ => (sd_tup (sda_cons (sd_var 24) (sda_cons sd_int sda_nil))))))))
    (sb_cons (ss_set (sdg_name 16 sc_law.nd) (sd_bin od_add (sd_var 15) (sd_lc [("k", 12)] rfl sc_law.nd (sdi_rng1 rfl T.b_range (sd_bin od_sub (sd_callB pr_len rfl T.b_len (by decide +kernel) (sda_cons (sd_var 15) sda_nil)) sd_int)) (blkOk_by (by kernel_rfl)) (fun _ _ _ _ _ => (sdg_name 12 sc_law.nd)) (fun _ _ _ _ _ => sdts_nil) (fun _ _ _ _ _ => (sd_call Fs.f_over (hr.mono (by omega)) rfl (sda_cons (sd_call Fs.f_plus (hr.mono (by omega)) rfl (sda_cons (sd_ix (ix_all (hr.units) hqP hqW) (sd_var 15) (sd_var 12)) (sda_cons (sd_ix (ix_all (hr.units) hqP hqW) (sd_var 15) (sd_bin od_add (sd_var 12) sd_int)) sda_nil))) (sda_cons (sd_tup (sda_cons sd_int (sda_cons sd_int sda_nil))) sda_nil)))))))
    (sb_cons (ss_if (td_cmp (od_ne hr.units) (sd_call Fs.f_never_below (hr.mono (by omega)) rfl (sda_cons (sd_var 3) (sda_cons (sd_var 6) (sda_cons (sd_var 7) sda_nil)))) (sd_cmp (od_eq hr.units) (sd_lc [("mark", 24)] rfl sc_law.nd (sdi_seq (sd_var 16)) (blkOk_by (by kernel_rfl)) (fun _ _ _ _ _ => (sdg_name 24 sc_law.nd)) (fun _ _ _ _ _ => (sdts_one (td_cmp od_lt (sd_ix (ix_all (hr.units) hqP hqW) (sd_call Fs.f_worth (hr.mono (by omega)) rfl (sda_cons (sd_var 3) (sda_cons (sd_var 24) sda_nil))) sd_int) sd_int (nomark _)))) (fun _ _ _ _ _ => (sd_var 24))) (sd_lst sda_nil) (nomark _)) (nomark _)) (sb_cons (ss_ret sd_bl)
    sb_nil) sb_nil)
    (sb_cons (ss_set (sdg_name 17 sc_law.nd) (sd_call Fs.f_samples (hr.mono (by omega)) rfl (sda_cons (sd_var 3) (sda_cons (sd_var 6) (sda_cons (sd_var 7) sda_nil)))))
    (sb_cons (ss_if (TdW.td (tw_or (td_cmp (od_ne hr.units) (sd_sl (sd_var 17) sdo_none (sdo_some sd_int)) (sd_tup (sda_cons (sd_var 6) (sda_cons (sd_var 7) sda_nil))) (nomark _)) (tw_or (td_cmp (od_ne hr.units) (sd_callB pr_len rfl T.b_len (by decide +kernel) (sda_cons (sd_var 17) sda_nil)) (sd_bin od_add sd_int (sd_callB pr_len rfl T.b_len (by decide +kernel) (sda_cons (sd_var 8) sda_nil))) (nomark _)) (tw_or1 (td_cmp (od_ne hr.units) (sd_lc [("k", 12)] rfl sc_law.nd (sdi_rng1 rfl T.b_range (sd_callB pr_len rfl T.b_len (by decide +kernel) (sda_cons (sd_var 8) sda_nil))) (blkOk_by (by kernel_rfl)) (fun _ _ _ _ _ => (sdg_name 12 sc_law.nd)) (fun _ _ _ _ _ => (sdts_one (TdW.td (tw_or (td_not (td_val (sd_call Fs.f_is_less (hr.mono (by omega)) rfl (sda_cons (sd_ix (ix_all (hr.units) hqP hqW) (sd_var 17) (sd_bin od_add (sd_var 12) sd_int)) (sda_cons (sd_ix (ix_all (hr.units) hqP hqW) (sd_var 8) (sd_var 12)) sda_nil))))) (tw_or (TdW.td (tw_and (td_cmp od_gt (sd_var 12) sd_int (nomark _)) (tw_and1 (td_not (td_val (sd_call Fs.f_is_less (hr.mono (by omega)) rfl (sda_cons (sd_ix (ix_all (hr.units) hqP hqW) (sd_var 8) (sd_bin od_sub (sd_var 12) sd_int)) (sda_cons (sd_ix (ix_all (hr.units) hqP hqW) (sd_var 17) (sd_bin od_add (sd_var 12) sd_int)) sda_nil)))))))) (tw_or1 (TdW.td (tw_and (td_cmp (od_eq hr.units) (sd_var 12) sd_int (nomark _)) (tw_and1 (td_val (sd_call Fs.f_is_less (hr.mono (by omega)) rfl (sda_cons (sd_ix (ix_all (hr.units) hqP hqW) (sd_var 17) sd_int) (sda_cons (sd_var 6) sda_nil))))))))))))) (fun _ _ _ _ _ => (sd_var 12))) (sd_lst sda_nil) (nomark _)))))) (sb_cons (ss_ret sd_bl)
    sb_nil) sb_nil)
    sb_nil))))) sb_nil)
    (sb_cons (ss_set (sdg_name 18 sc_law.nd) (sd_call Fs.f_part (hr.mono (by omega)) rfl (sda_cons (sd_bin od_sub (sd_call Fs.f_law_roll (hr.mono (by omega)) rfl (sda_cons (sd_var 1) (sda_cons sd_int sda_nil))) sd_int) (sda_cons sd_int sda_nil))))
    (sb_cons (ss_set (sdg_name 19 sc_law.nd) (sd_ix (ix_all (hr.units) hqP hqW) (sd_call Fs.f_worth (hr.mono (by omega)) rfl (sda_cons (sd_var 3) (sda_cons (sd_var 18) sda_nil))) sd_int))
    (sb_cons (ss_if (td_cmp (od_ne hr.units) (sd_call Fs.f_sign_at (hr.mono (by omega)) rfl (sda_cons (sd_var 3) (sda_cons (sd_var 18) sda_nil))) (sd_if (td_cmp (od_eq hr.units) (sd_var 19) sd_int (nomark _)) sd_int (sd_if (td_cmp od_gt (sd_var 19) sd_int (nomark _)) sd_int (sd_bin od_sub sd_int sd_int))) (nomark _)) (sb_cons (ss_ret sd_bl)
    sb_nil) sb_nil)
    (sb_cons (ss_par (i := 20) (j := 21) rfl sc_law.nd (sd_tup (sda_cons (sd_tup (sda_cons sd_int (sda_cons sd_int sda_nil))) sda_nil)) (sd_lst sda_nil))
    (sb_cons (ss_for (passes_of rfl) rfl (sdi_rng1 rfl T.b_range (sd_bin od_add sd_int (sd_call Fs.f_law_roll (hr.mono (by omega)) rfl (sda_cons (sd_var 1) (sda_cons sd_int sda_nil))))) (sdg_name 22 sc_law.nd) (sb_cons (ss_if (td_cmp (od_eq hr.units) (sd_call Fs.f_law_roll (hr.mono (by omega)) rfl (sda_cons (sd_var 1) (sda_cons sd_int sda_nil))) sd_int (nomark _)) (sb_cons (ss_set (sdg_name 4 sc_law.nd) (sd_call Fs.f_part (hr.mono (by omega)) rfl (sda_cons (sd_bin od_sub (sd_call Fs.f_law_roll (hr.mono (by omega)) rfl (sda_cons (sd_var 1) (sda_cons sd_int sda_nil))) sd_int) (sda_cons sd_int sda_nil))))
    (sb_cons (ss_par (i := 21) (j := 20) rfl sc_law.nd (sd_bin od_add (sd_var 21) (sd_lst (sda_cons (sd_call Fs.f_times (hr.mono (by omega)) rfl (sda_cons (sd_var 4) (sda_cons (sd_var 4) sda_nil))) sda_nil))) (sd_call Fs.f_multiplied (hr.mono (by omega)) rfl (sda_cons (sd_var 20) (sda_cons (sd_call Fs.f_curve (hr.mono (by omega)) rfl (sda_cons (sd_lst (sda_cons (sd_call Fs.f_minus (hr.mono (by omega)) rfl (sda_cons (sd_tup (sda_cons sd_int (sda_cons sd_int sda_nil))) (sda_cons (sd_var 4) sda_nil))) (sda_cons (sd_tup (sda_cons sd_int (sda_cons sd_int sda_nil))) sda_nil))) sda_nil)) sda_nil))))
    sb_nil)) (sb_cons (ss_par (i := 13) (j := 14) rfl sc_law.nd (sd_call Fs.f_part (hr.mono (by omega)) rfl (sda_cons (sd_bin od_sub (sd_call Fs.f_law_roll (hr.mono (by omega)) rfl (sda_cons (sd_var 1) (sda_cons sd_int sda_nil))) sd_int) (sda_cons sd_int sda_nil))) (sd_call Fs.f_part (hr.mono (by omega)) rfl (sda_cons (sd_bin od_add sd_int (sd_call Fs.f_law_roll (hr.mono (by omega)) rfl (sda_cons (sd_var 1) (sda_cons sd_int sda_nil)))) (sda_cons sd_int sda_nil))))
    (sb_cons (ss_set (sdg_name 23 sc_law.nd) (sd_call Fs.f_plus (hr.mono (by omega)) rfl (sda_cons (sd_call Fs.f_times (hr.mono (by omega)) rfl (sda_cons (sd_var 13) (sda_cons (sd_var 13) sda_nil))) (sda_cons (sd_call Fs.f_times (hr.mono (by omega)) rfl (sda_cons (sd_var 14) (sda_cons (sd_var 14) sda_nil))) sda_nil))))
    (sb_cons (ss_par (i := 21) (j := 20) rfl sc_law.nd (sd_bin od_add (sd_var 21) (sd_lst (sda_cons (sd_var 23) sda_nil))) (sd_call Fs.f_multiplied (hr.mono (by omega)) rfl (sda_cons (sd_var 20) (sda_cons (sd_call Fs.f_curve (hr.mono (by omega)) rfl (sda_cons (sd_lst (sda_cons (sd_var 23) (sda_cons (sd_call Fs.f_times (hr.mono (by omega)) rfl (sda_cons (sd_tup (sda_cons (sd_bin od_sub sd_int sd_int) (sda_cons sd_int sda_nil))) (sda_cons (sd_var 13) sda_nil))) (sda_cons (sd_tup (sda_cons sd_int (sda_cons sd_int sda_nil))) sda_nil)))) sda_nil)) sda_nil))))
    sb_nil))))
    sb_nil))
    (sb_cons (ss_if (td_cmp (od_ne hr.units) (sd_call Fs.f_inside_circle (hr.mono (by omega)) rfl (sda_cons (sd_var 20) sda_nil)) (sd_cmp (od_eq hr.units) (sd_lc [("size", 23)] rfl sc_law.nd (sdi_seq (sd_var 21)) (blkOk_by (by kernel_rfl)) (fun _ _ _ _ _ => (sdg_name 23 sc_law.nd)) (fun _ _ _ _ _ => (sdts_one (td_not (td_val (sd_call Fs.f_is_less (hr.mono (by omega)) rfl (sda_cons (sd_var 23) (sda_cons (sd_tup (sda_cons sd_int (sda_cons sd_int sda_nil))) sda_nil))))))) (fun _ _ _ _ _ => (sd_var 23))) (sd_lst sda_nil) (nomark _)) (nomark _)) (sb_cons (ss_ret sd_bl)
    sb_nil) sb_nil)
    sb_nil)))))))))))))))))))))))
    (sb_cons (ss_ret (sd_call0 Fs.f_law_cases1 (hr.mono (by omega)) rfl))
    sb_nil))
end
end LK
end
/-! ## K06b -/
section
set_option Elab.async false
set_option linter.all false
set_option maxRecDepth 200000
set_option maxHeartbeats 8000000
namespace LK
open PySem L2 LamX PyProof.Rows RZ PV
/-! what the head tells -/
def dd_shared : He.DefD := ⟨("shared", none), "shared", "shared", defArgs s_shared, defBody s_shared, defScope s_shared, [], []⟩
def dd_part : He.DefD := ⟨("part", none), "part", "part", defArgs s_part, defBody s_part, defScope s_part, [.int 1], []⟩
def dd_plus : He.DefD := ⟨("plus", none), "plus", "plus", defArgs s_plus, defBody s_plus, defScope s_plus, [], []⟩
def dd_minus : He.DefD := ⟨("minus", none), "minus", "minus", defArgs s_minus, defBody s_minus, defScope s_minus, [], []⟩
def dd_times : He.DefD := ⟨("times", none), "times", "times", defArgs s_times, defBody s_times, defScope s_times, [], []⟩
def dd_over : He.DefD := ⟨("over", none), "over", "over", defArgs s_over, defBody s_over, defScope s_over, [], []⟩
def dd_is_less : He.DefD := ⟨("is_less", none), "is_less", "is_less", defArgs s_is_less, defBody s_is_less, defScope s_is_less, [], []⟩
def dd_size_of : He.DefD := ⟨("size_of", none), "size_of", "size_of", defArgs s_size_of, defBody s_size_of, defScope s_size_of, [], []⟩
def dd_small_row : He.DefD := ⟨("small_row", none), "small_row", "small_row", defArgs s_small_row, defBody s_small_row, defScope s_small_row, [], []⟩
def dd_halfway : He.DefD := ⟨("halfway", none), "halfway", "halfway", defArgs s_halfway, defBody s_halfway, defScope s_halfway, [], []⟩
def dd_greatest : He.DefD := ⟨("greatest", none), "greatest", "greatest", defArgs s_greatest, defBody s_greatest, defScope s_greatest, [], []⟩
def dd_curve : He.DefD := ⟨("curve", none), "curve", "curve", defArgs s_curve, defBody s_curve, defScope s_curve, [], []⟩
def dd_power_of : He.DefD := ⟨("power_of", none), "power_of", "power_of", defArgs s_power_of, defBody s_power_of, defScope s_power_of, [], []⟩
def dd_part_at : He.DefD := ⟨("part_at", none), "part_at", "part_at", defArgs s_part_at, defBody s_part_at, defScope s_part_at, [], []⟩
def dd_scaled_curve : He.DefD := ⟨("scaled_curve", none), "scaled_curve", "scaled_curve", defArgs s_scaled_curve, defBody s_scaled_curve, defScope s_scaled_curve, [], []⟩
def dd_multiplied : He.DefD := ⟨("multiplied", none), "multiplied", "multiplied", defArgs s_multiplied, defBody s_multiplied, defScope s_multiplied, [], []⟩
def dd_divided : He.DefD := ⟨("divided", none), "divided", "divided", defArgs s_divided, defBody s_divided, defScope s_divided, [], []⟩
def dd_worth : He.DefD := ⟨("worth", none), "worth", "worth", defArgs s_worth, defBody s_worth, defScope s_worth, [], []⟩
def dd_slope : He.DefD := ⟨("slope", none), "slope", "slope", defArgs s_slope, defBody s_slope, defScope s_slope, [], []⟩
def dd_shared_curve : He.DefD := ⟨("shared_curve", none), "shared_curve", "shared_curve", defArgs s_shared_curve, defBody s_shared_curve, defScope s_shared_curve, [], []⟩
def dd_rests : He.DefD := ⟨("rests", none), "rests", "rests", defArgs s_rests, defBody s_rests, defScope s_rests, [], []⟩
def dd_changes : He.DefD := ⟨("changes", none), "changes", "changes", defArgs s_changes, defBody s_changes, defScope s_changes, [], []⟩
def dd_plain : He.DefD := ⟨("plain", none), "plain", "plain", defArgs s_plain, defBody s_plain, defScope s_plain, [], []⟩
def dd_how_many : He.DefD := ⟨("how_many", none), "how_many", "how_many", defArgs s_how_many, defBody s_how_many, defScope s_how_many, [], []⟩
def dd_bound : He.DefD := ⟨("bound", none), "bound", "bound", defArgs s_bound, defBody s_bound, defScope s_bound, [], []⟩
def dd_all_of : He.DefD := ⟨("all_of", none), "all_of", "all_of", defArgs s_all_of, defBody s_all_of, defScope s_all_of, [], []⟩
def dd_narrowed : He.DefD := ⟨("narrowed", none), "narrowed", "narrowed", defArgs s_narrowed, defBody s_narrowed, defScope s_narrowed, [], []⟩
def dd_apart : He.DefD := ⟨("apart", none), "apart", "apart", defArgs s_apart, defBody s_apart, defScope s_apart, [], []⟩
def dd_split : He.DefD := ⟨("split", none), "split", "split", defArgs s_split, defBody s_split, defScope s_split, [], []⟩
def dd_never_below : He.DefD := ⟨("never_below", none), "never_below", "never_below", defArgs s_never_below, defBody s_never_below, defScope s_never_below, [], []⟩
def dd_samples : He.DefD := ⟨("samples", none), "samples", "samples", defArgs s_samples, defBody s_samples, defScope s_samples, [], []⟩
def dd_sign_at : He.DefD := ⟨("sign_at", none), "sign_at", "sign_at", defArgs s_sign_at, defBody s_sign_at, defScope s_sign_at, [], []⟩
def dd_inside_circle : He.DefD := ⟨("inside_circle", none), "inside_circle", "inside_circle", defArgs s_inside_circle, defBody s_inside_circle, defScope s_inside_circle, [], []⟩
def dd_law_dice : He.DefD := ⟨("_law_dice", none), "_law_dice", "_law_dice", defArgs s_law_dice, defBody s_law_dice, defScope s_law_dice, [], []⟩
def dd_law_roll : He.DefD := ⟨("_law_roll", none), "_law_roll", "_law_roll", defArgs s_law_roll, defBody s_law_roll, defScope s_law_roll, [], []⟩
def dd_law_rounds : He.DefD := ⟨("_law_rounds", none), "_law_rounds", "_law_rounds", defArgs s_law_rounds, defBody s_law_rounds, defScope s_law_rounds, [], []⟩
def dd_law_told : He.DefD := ⟨("_law_told", none), "_law_told", "_law_told", defArgs s_law_told, defBody s_law_told, defScope s_law_told, [], []⟩
def dd_law_cases1 : He.DefD := ⟨("_law_cases1", none), "_law_cases1", "_law_cases1", defArgs s_law_cases1, defBody s_law_cases1, defScope s_law_cases1, [], []⟩
def dd_law : He.DefD := ⟨("law", none), "law", "law", defArgs s_law, defBody s_law, defScope s_law, [], []⟩
def fnl : List He.DefD := [dd_shared, dd_part, dd_plus, dd_minus, dd_times, dd_over, dd_is_less, dd_size_of, dd_small_row, dd_halfway, dd_greatest, dd_curve, dd_power_of, dd_part_at, dd_scaled_curve, dd_multiplied, dd_divided, dd_worth, dd_slope, dd_shared_curve, dd_rests, dd_changes, dd_plain, dd_how_many, dd_bound, dd_all_of, dd_narrowed, dd_apart, dd_split, dd_never_below, dd_samples, dd_sign_at, dd_inside_circle, dd_law_dice, dd_law_roll, dd_law_rounds, dd_law_told, dd_law_cases1, dd_law]
def fal : List He.Fa := [.glo "shared", .glo "part", .glo "plus", .glo "minus", .glo "times", .glo "over", .glo "is_less", .glo "size_of", .glo "small_row", .glo "halfway", .glo "greatest", .glo "curve", .glo "power_of", .glo "part_at", .glo "scaled_curve", .glo "multiplied", .glo "divided", .glo "worth", .glo "slope", .glo "shared_curve", .glo "rests", .glo "changes", .glo "plain", .glo "how_many", .glo "bound", .glo "all_of", .glo "narrowed", .glo "apart", .glo "split", .glo "never_below", .glo "samples", .glo "sign_at", .glo "inside_circle", .glo "_law_dice", .glo "_law_roll", .glo "_law_rounds", .glo "_law_told", .glo "_law_cases1", .glo "law", .free "abs", .free "all", .free "dict", .free "enumerate", .free "int", .free "len", .free "list", .free "range", .free "reversed", .free "sorted", .free "tuple", .free "zip", .glo "BadPart", .glo "BadTree", .glo "BadTable", .glo "BadField", .glo "BadPaper", .glo "BadSize", .glo "BadText", .glo "BadStore", .glo "NoSuch", .exc "BadPart", .exc "BadSize", .exm "BadPart" "BadPart" true, .exm "BadSize" "BadPart" false, .exm "BadSize" "BadTree" false, .exm "BadSize" "BadTable" false, .exm "BadSize" "BadField" false, .exm "BadSize" "BadPaper" false, .exm "BadSize" "BadSize" true]
def exl (K : PySem.W.Frag) : Bool := [decide (PySem.W.nsIn K mainGlobals "gcd" = some (some (.builtin "math.gcd"))), decide ((He.cT K ("law", none)).2 ≠ (He.cT K ("_law_cases1", none)).2), decide ((He.cT K ("_law_cases1", none)).2 ≠ (He.cT K ("law", none)).2)].all id
def tfl : List He.Defn := [("law", none), ("_law_cases1", none)]
def qq (P : Program) (w : World) (K : PySem.W.Frag) : Par := ⟨lamDs, [((He.cT K ("law", none)).2, "law.<locals>.<lambda>"), ((He.cT K ("_law_cases1", none)).2, "_law_cases1.<locals>.<lambda>")], (fun c => match c with
  | 0 => .ref (He.ga K "BadPart")
  | 1 => .ref (He.ga K "BadTree")
  | 2 => .ref (He.ga K "BadTable")
  | 3 => .ref (He.ga K "BadField")
  | 4 => .ref (He.ga K "BadPaper")
  | 5 => .ref (He.ga K "BadSize")
  | 6 => .ref (He.ga K "BadText")
  | 7 => .ref (He.ga K "BadStore")
  | 8 => .ref (He.ga K "NoSuch")
  | _ => .none), P, w, fun _ => 0⟩
def hlK (K : PySem.W.Frag) : List (Value × Str) := [(.ref (He.ga K "BadPart"), "part"), (.ref (He.ga K "BadTree"), "tree"), (.ref (He.ga K "BadTable"), "table"), (.ref (He.ga K "BadField"), "field"), (.ref (He.ga K "BadPaper"), "paper"), (.ref (He.ga K "BadSize"), "size"), (.ref (He.ga K "BadText"), "text"), (.ref (He.ga K "BadStore"), "store"), (.ref (He.ga K "NoSuch"), "no such")]
section
variable {P : Program} {w : World} {K : PySem.W.Frag} {mg : Str → Option Value} {base h : Heap}
abbrev Says (w : World) (h : Heap) (K : PySem.W.Frag) : Prop := He.SaysX fal fnl [] tfl exl w h K
theorem glo (X : K.In h) (G : h.Ns mainGlobals mg) (c : Says w h K) (i : Nat) (x : Str) (e : fal[i]? = some (.glo x) := by rfl) : mg x = some (.ref (He.ga K x)) := He.glo_ok X G (c.t.d.fact i (f := .glo x) e)
theorem fre (X : K.In h) (G : h.Ns mainGlobals mg) (c : Says w h K) (i : Nat) (x : Str) (e : fal[i]? = some (.free x) := by rfl) : mg x = none := He.free_ok X G (c.t.d.fact i (f := .free x) e)
theorem exmf (c : Says w h K) (i : Nat) (x y : Str) (b : Bool) (e : fal[i]? = some (.exm x y b) := by rfl) : PySem.W.exmOne K (.ref (He.ga K x)) (.ref (He.ga K y)) = some b := He.exm_ok (c.t.d.fact i (f := .exm x y b) e)
theorem excf (X : K.In h) (G : h.Ns mainGlobals mg) (c : Says w h K) (i j : Nat) (x : Str) (n : Nat) (hq : (qq P w K).cls n = .ref (He.ga K x)) (e : fal[i]? = some (.exc x) := by rfl) (e2 : fal[j]? = some (.glo x) := by rfl) : ExcAt K mg (qq P w K) x n (He.ga K x) := by
  obtain ⟨h1, h2, h3, h4⟩ := He.exc_ok (c.t.d.fact i (f := .exc x) e)
  exact ⟨h1, glo X G c j x e2, h2, h3, h4, hq⟩
theorem hds_told (X : K.In h) (G : h.Ns mainGlobals mg) (c : Says w h K) (Y : Cx) (hmg : Y.mg = mg) (hK : Y.K = K) (hsc : Y.env.scope = defScope s_law_told) : ∃ p1 p2 p3 p8 h0 hds, defBody s_law_told = [.Try [.Return (some (.Call (.Name "what" p1) [] [] p2)) p3] (h0 :: hds) [] [] p8] ∧ HdsOk Y (h0 :: hds) ((hlK K).map fun p => (p.1, sayT p.2)) := by
  subst hmg
  have nm : ∀ (x : Str) (hx : (defScope s_law_told).names.lookup x = some .globalImplicit) (hd : (x == ("__debug__" : Str)) = false) (i : Nat) (e : fal[i]? = some (.glo x)), Names Y x (.ref (He.ga K x)) := fun x hx hd i e => ⟨by show Y.env.scope.names.lookup x = _; rw [hsc]; exact hx, hd, .inl (glo X G c i x e)⟩
  refine ⟨_, _, _, _, _, _, rfl, ?_⟩
  exact (HdsOk.cons (nm "BadPart" rfl (by decide) 51 rfl) (fun a oe cls d pn _ _ => pss_one (ps_ret pe_str)) (HdsOk.cons (nm "BadTree" rfl (by decide) 52 rfl) (fun a oe cls d pn _ _ => pss_one (ps_ret pe_str)) (HdsOk.cons (nm "BadTable" rfl (by decide) 53 rfl) (fun a oe cls d pn _ _ => pss_one (ps_ret pe_str)) (HdsOk.cons (nm "BadField" rfl (by decide) 54 rfl) (fun a oe cls d pn _ _ => pss_one (ps_ret pe_str)) (HdsOk.cons (nm "BadPaper" rfl (by decide) 55 rfl) (fun a oe cls d pn _ _ => pss_one (ps_ret pe_str)) (HdsOk.cons (nm "BadSize" rfl (by decide) 56 rfl) (fun a oe cls d pn _ _ => pss_one (ps_ret pe_str)) (HdsOk.cons (nm "BadText" rfl (by decide) 57 rfl) (fun a oe cls d pn _ _ => pss_one (ps_ret pe_str)) (HdsOk.cons (nm "BadStore" rfl (by decide) 58 rfl) (fun a oe cls d pn _ _ => pss_one (ps_ret pe_str)) (HdsOk.cons (nm "NoSuch" rfl (by decide) 59 rfl) (fun a oe cls d pn _ _ => pss_one (ps_ret pe_str)) HdsOk.nil)))))))))
theorem wt_told (c : Says w h K) : ∀ n r, tolds n = some r → ∀ (Q : VK) (H : Hp), Q (.str r) H → Wt K Q ((qq P w K).cls n) H (hlK K)
  | 0, r, hr, Q, H, hq => by cases hr; exact ⟨true, exmf c 62 "BadPart" "BadPart" true, (fun _ => hq), (fun hf => nomatch hf)⟩
  | 5, r, hr, Q, H, hq => by cases hr; exact ⟨false, exmf c 63 "BadSize" "BadPart" false, (fun hf => nomatch hf), (fun _ => ⟨false, exmf c 64 "BadSize" "BadTree" false, (fun hf => nomatch hf), (fun _ => ⟨false, exmf c 65 "BadSize" "BadTable" false, (fun hf => nomatch hf), (fun _ => ⟨false, exmf c 66 "BadSize" "BadField" false, (fun hf => nomatch hf), (fun _ => ⟨false, exmf c 67 "BadSize" "BadPaper" false, (fun hf => nomatch hf), (fun _ => ⟨true, exmf c 68 "BadSize" "BadSize" true, (fun _ => hq), (fun hf => nomatch hf)⟩)⟩)⟩)⟩)⟩)⟩
  | 1, r, hr, Q, H, hq => nomatch hr
  | 2, r, hr, Q, H, hq => nomatch hr
  | 3, r, hr, Q, H, hq => nomatch hr
  | 4, r, hr, Q, H, hq => nomatch hr
  | n + 6, r, hr, Q, H, hq => nomatch hr
theorem txt (X : K.In h) (G : h.Ns mainGlobals mg) (c : Says w h K) : Txt K mg (qq P w K) where
  b_abs := fre X G c 39 "abs"
  b_all := fre X G c 40 "all"
  b_dict := fre X G c 41 "dict"
  b_enumerate := fre X G c 42 "enumerate"
  b_int := fre X G c 43 "int"
  b_len := fre X G c 44 "len"
  b_list := fre X G c 45 "list"
  b_range := fre X G c 46 "range"
  b_reversed := fre X G c 47 "reversed"
  b_sorted := fre X G c 48 "sorted"
  b_tuple := fre X G c 49 "tuple"
  b_zip := fre X G c 50 "zip"
  g_gcd := PySem.W.mg_of X G (of_decide_eq_true (show (decide (PySem.W.nsIn K mainGlobals "gcd" = some (some (.builtin "math.gcd")))) = true from List.all_eq_true.mp (show ([decide (PySem.W.nsIn K mainGlobals "gcd" = some (some (.builtin "math.gcd"))), decide ((He.cT K ("law", none)).2 ≠ (He.cT K ("_law_cases1", none)).2), decide ((He.cT K ("_law_cases1", none)).2 ≠ (He.cT K ("law", none)).2)] : List Bool).all id = true from c.more) _ (List.mem_cons_self ..)))
  x_BadPart := ⟨_, excf X G c 60 51 "BadPart" 0 rfl⟩
  x_BadSize := ⟨_, excf X G c 61 56 "BadSize" 5 rfl⟩
  told := by
    refine ⟨hlK K, ⟨?_⟩, wt_told c⟩
    obtain ⟨fd, F⟩ := c.t.d.def_ 36 (d := dd_law_told)
    have b := F.bindsN (ps := ["what"]) fun _ _ _ _ _ _ us hl => match us, hl with | [_], _ => rfl
    have hex := F.ex
    obtain ⟨oc, od, dV, kV, doc, pm, an, cdv, ct, osl, e, lk, hcd, _, _⟩ := hex
    subst e
    exact ⟨_, _, _, _, _, _, _, _, _, _, _, _, _, _, _, _, _, _, _, _, glo X G c 36 "_law_told", F.kp, lk, hcd, b, sc_law_told, rfl, rfl, Or.inl rfl, fun f => rfl, fun P w base A stack s H => (by
      obtain ⟨_, _, _, _, _, _, e, hh⟩ := hds_told X G c (cxOf C8.CX0 P w K mg base ["what"] "_law_told" (defScope s_law_told) (He.fAd K ("_law_told", none)) cdv A stack s H C8.E0).nox rfl rfl rfl
      cases e
      exact hh)⟩
theorem code_law (c : Says w h K) {cdv : Value} (hc : CodeAt K (He.fAd K ("law", none)) "law" cdv) : cdv = .ref (He.cT K ("law", none)).1 := by
  obtain ⟨oc, od, osl, fd, lk, e, hcd⟩ := hc
  obtain ⟨a, ea⟩ := He.codeIn_ref hcd
  rw [ea] at e
  have := He.codeOf_eq (p := ("law", none)) lk e
  rw [ea]
  show Value.ref a = Value.ref (He.codeOf K ("law", none))
  rw [this]
theorem code_law_cases1 (c : Says w h K) {cdv : Value} (hc : CodeAt K (He.fAd K ("_law_cases1", none)) "_law_cases1" cdv) : cdv = .ref (He.cT K ("_law_cases1", none)).1 := by
  obtain ⟨oc, od, osl, fd, lk, e, hcd⟩ := hc
  obtain ⟨a, ea⟩ := He.codeIn_ref hcd
  rw [ea] at e
  have := He.codeOf_eq (p := ("_law_cases1", none)) lk e
  rw [ea]
  show Value.ref a = Value.ref (He.codeOf K ("_law_cases1", none))
  rw [this]
theorem uni_law (c : Says w h K) : ∀ p ∈ (qq P w K).T, p.1 = (He.cT K ("law", none)).2 → p.2 = ("law.<locals>.<lambda>" : Str) := by
  intro p hp e
  rcases List.mem_cons.mp hp with rfl | hp
  · rfl
  rcases List.mem_cons.mp hp with rfl | hp
  · exact absurd e (of_decide_eq_true (show (decide ((He.cT K ("_law_cases1", none)).2 ≠ (He.cT K ("law", none)).2)) = true from List.all_eq_true.mp (show ([decide (PySem.W.nsIn K mainGlobals "gcd" = some (some (.builtin "math.gcd"))), decide ((He.cT K ("law", none)).2 ≠ (He.cT K ("_law_cases1", none)).2), decide ((He.cT K ("_law_cases1", none)).2 ≠ (He.cT K ("law", none)).2)] : List Bool).all id = true from c.more) _ (List.mem_cons_of_mem _ (List.mem_cons_of_mem _ (List.mem_cons_self ..)))))
  cases hp
theorem uni_law_cases1 (c : Says w h K) : ∀ p ∈ (qq P w K).T, p.1 = (He.cT K ("_law_cases1", none)).2 → p.2 = ("_law_cases1.<locals>.<lambda>" : Str) := by
  intro p hp e
  rcases List.mem_cons.mp hp with rfl | hp
  · exact absurd e (of_decide_eq_true (show (decide ((He.cT K ("law", none)).2 ≠ (He.cT K ("_law_cases1", none)).2)) = true from List.all_eq_true.mp (show ([decide (PySem.W.nsIn K mainGlobals "gcd" = some (some (.builtin "math.gcd"))), decide ((He.cT K ("law", none)).2 ≠ (He.cT K ("_law_cases1", none)).2), decide ((He.cT K ("_law_cases1", none)).2 ≠ (He.cT K ("law", none)).2)] : List Bool).all id = true from c.more) _ (List.mem_cons_of_mem _ (List.mem_cons_self ..))))
  rcases List.mem_cons.mp hp with rfl | hp
  · rfl
  cases hp
/-- the lambdas that are kept -/
theorem clo_0 : CloS (lamDs 0) := ⟨rfl, rfl, rfl, by decide +kernel, fun _ _ _ _ _ => rfl⟩
theorem clo_1 : CloS (lamDs 1) := ⟨rfl, rfl, rfl, by decide +kernel, fun _ _ _ _ _ => rfl⟩
theorem clo_2 : CloS (lamDs 2) := ⟨rfl, rfl, rfl, by decide +kernel, fun _ _ _ _ _ => rfl⟩
theorem clo_3 : CloS (lamDs 3) := ⟨rfl, rfl, rfl, by decide +kernel, fun _ _ _ _ _ => rfl⟩
theorem clo_4 : CloS (lamDs 4) := ⟨rfl, rfl, rfl, by decide +kernel, fun _ _ _ _ _ => rfl⟩
theorem clo_5 : CloS (lamDs 5) := ⟨rfl, rfl, rfl, by decide +kernel, fun _ _ _ _ _ => rfl⟩
theorem clo_6 : CloS (lamDs 6) := ⟨rfl, rfl, rfl, by decide +kernel, fun _ _ _ _ _ => rfl⟩
theorem clo_7 : CloS (lamDs 7) := ⟨rfl, rfl, rfl, by decide +kernel, fun _ _ _ _ _ => rfl⟩
theorem clo_8 : CloS (lamDs 8) := ⟨rfl, rfl, rfl, by decide +kernel, fun _ _ _ _ _ => rfl⟩
theorem told_at : ∀ n, (semAt prog n).told = tolds
  | 0 => rfl
  | _ + 1 => rfl
theorem lams_ok (T : Txt K mg (qq P w K)) {S : PV.Sem} {k : Nat} (Fs : Fns P w K mg base (qq P w K) S k) : ∀ n : Nat, (∃ m : PV.E, (∀ G, lamAt S prog n G = evE S [] m G) ∧ CloS ((qq P w K).lamD n) ∧ ∀ (A : Around) (outer : List PySem.Env) (s : Shared) (H : Hp) (E : XK) (f c : Addr), Room k (A.deeper (cloEnv ((qq P w K).lamD n) s.heap.objs.size f c)) → Sd (cloCx P w K mg base A outer s H E ((qq P w K).lamD n) f c) (qq P w K) S ((qq P w K).lamD n).body m) ∨ ∀ G, lamAt S prog n G = .bad
  | 0 => .inl ⟨l_0, fun _ => rfl, clo_0, fun A outer s H E f c hr => (sd_call Fs.f_plain (hr) rfl (sda_cons (sd_tup sda_nil) sda_nil))⟩
  | 1 => .inl ⟨l_1, fun _ => rfl, clo_1, fun A outer s H E f c hr => (sd_call Fs.f_how_many (hr) rfl (sda_cons (sd_tup sda_nil) (sda_cons (sd_tup (sda_cons sd_int (sda_cons sd_int sda_nil))) (sda_cons (sd_tup (sda_cons sd_int (sda_cons sd_int sda_nil))) sda_nil))))⟩
  | 2 => .inl ⟨l_2, fun _ => rfl, clo_2, fun A outer s H E f c hr => (sd_call Fs.f_bound (hr) rfl (sda_cons (sd_tup sda_nil) sda_nil))⟩
  | 3 => .inl ⟨l_3, fun _ => rfl, clo_3, fun A outer s H E f c hr => (sd_call Fs.f_all_of (hr) rfl (sda_cons (sd_tup sda_nil) sda_nil))⟩
  | 4 => .inl ⟨l_4, fun _ => rfl, clo_4, fun A outer s H E f c hr => (sd_call Fs.f_apart (hr) rfl (sda_cons (sd_tup sda_nil) sda_nil))⟩
  | 5 => .inl ⟨l_5, fun _ => rfl, clo_5, fun A outer s H E f c hr => (sd_call Fs.f_narrowed (hr) rfl (sda_cons (sd_tup (sda_cons (sd_tup (sda_cons sd_int (sda_cons sd_int sda_nil))) (sda_cons (sd_tup (sda_cons sd_int (sda_cons sd_int sda_nil))) sda_nil))) (sda_cons (sd_tup (sda_cons sd_int (sda_cons sd_int sda_nil))) (sda_cons (sd_tup (sda_cons sd_int (sda_cons sd_int sda_nil))) (sda_cons sd_int sda_nil)))))⟩
  | 6 => .inl ⟨l_6, fun _ => rfl, clo_6, fun A outer s H E f c hr => (sd_call Fs.f_narrowed (hr) rfl (sda_cons (sd_tup (sda_cons (sd_tup (sda_cons sd_int (sda_cons sd_int sda_nil))) (sda_cons (sd_tup (sda_cons sd_int (sda_cons sd_int sda_nil))) sda_nil))) (sda_cons (sd_tup (sda_cons (sd_bin od_sub sd_int sd_int) (sda_cons sd_int sda_nil))) (sda_cons (sd_tup (sda_cons sd_int (sda_cons sd_int sda_nil))) (sda_cons (sd_bin od_sub sd_int sd_int) sda_nil)))))⟩
  | 7 => .inl ⟨l_7, fun _ => rfl, clo_7, fun A outer s H E f c hr => (sd_call Fs.f_never_below (hr) rfl (sda_cons (sd_tup (sda_cons (sd_tup (sda_cons sd_int (sda_cons sd_int sda_nil))) sda_nil)) (sda_cons (sd_tup (sda_cons sd_int (sda_cons sd_int sda_nil))) (sda_cons (sd_tup (sda_cons sd_int (sda_cons sd_int sda_nil))) sda_nil))))⟩
  | 8 => .inl ⟨l_8, fun _ => rfl, clo_8, fun A outer s H E f c hr => (sd_call Fs.f_inside_circle (hr) rfl (sda_cons (sd_tup sda_nil) sda_nil))⟩
  | 9 => .inr fun _ => rfl
  | 10 => .inr fun _ => rfl
  | n + 11 => .inr fun _ => rfl
theorem at_f_shared (X : K.In h) (G : h.Ns mainGlobals mg) (c : Says w h K) (S' : PV.Sem) (k : Nat) (hok : ∀ fd, FunD K "shared" "shared" (defArgs s_shared) (defBody s_shared) (defScope s_shared) (He.DefD.dvs K dd_shared) (He.DefD.kws K dd_shared) (He.fAd K ("shared", none)) fd → FnOk P w K mg base (L2.CX P w) k (He.fAd K ("shared", none)) fd ["one", "other"] (spC K (qq P w K) S' 0 2)) (ar : ∀ ds G, ds.length ≠ 2 → S'.cal 0 ds G = .bad) : FnAt P w K mg base (qq P w K) S' k 0 "shared" [] := by
  obtain ⟨fd, F⟩ := c.t.d.def_ 0 (d := dd_shared)
  exact ⟨_, fd, ["one", "other"], [], [], hok fd F, glo X G c 0 "shared", F.kp, F.bindsN (fun _ _ _ _ _ _ us hl => match us, hl with | [_, _], _ => rfl), .nil, fun z => HasL.nil, ar⟩
theorem at_f_part (X : K.In h) (G : h.Ns mainGlobals mg) (c : Says w h K) (S' : PV.Sem) (k : Nat) (hok : ∀ fd, FunD K "part" "part" (defArgs s_part) (defBody s_part) (defScope s_part) (He.DefD.dvs K dd_part) (He.DefD.kws K dd_part) (He.fAd K ("part", none)) fd → FnOk P w K mg base (L2.CX P w) k (He.fAd K ("part", none)) fd ["top", "low"] (spC K (qq P w K) S' 1 2)) (ar : ∀ ds G, ds.length ≠ 2 → S'.cal 1 ds G = .bad) : FnAt P w K mg base (qq P w K) S' k 1 "part" [] := by
  obtain ⟨fd, F⟩ := c.t.d.def_ 1 (d := dd_part)
  obtain ⟨ds, hv, hb⟩ := F.binds1 (ps := ["top", "low"]) 2 1 (by simp [He.DefD.dvs, dd_part]) rfl (fun T kV doc pm an cdv ct us its h1 h2 => match us, its, h1, h2 with | [_, _], [_], _, _ => ⟨_, rfl, rfl⟩)
  have e : ds = [] := by cases hv; rfl
  subst e
  exact ⟨_, fd, ["top", "low"], [], [], hok fd F, glo X G c 1 "part", F.kp, hb, .nil, fun z => HasL.nil, ar⟩
theorem at_d_part (X : K.In h) (G : h.Ns mainGlobals mg) (c : Says w h K) (S' : PV.Sem) (k : Nat) (hok : ∀ fd, FunD K "part" "part" (defArgs s_part) (defBody s_part) (defScope s_part) (He.DefD.dvs K dd_part) (He.DefD.kws K dd_part) (He.fAd K ("part", none)) fd → FnOk P w K mg base (L2.CX P w) k (He.fAd K ("part", none)) fd ["top", "low"] (spC K (qq P w K) S' 1 2)) (ar : ∀ ds G, ds.length ≠ 2 → S'.cal 1 ds G = .bad) : FnAt P w K mg base (qq P w K) S' k 1 "part" [.int 1] := by
  obtain ⟨fd, F⟩ := c.t.d.def_ 1 (d := dd_part)
  obtain ⟨ds, hv, hb⟩ := F.binds1 (ps := ["top", "low"]) 1 0 (by simp [He.DefD.dvs, dd_part]) rfl (fun T kV doc pm an cdv ct us its h1 h2 => match us, its, h1, h2 with | [_], [_], _, _ => ⟨_, rfl, rfl⟩)
  exact ⟨_, fd, ["top", "low"], ds, _, hok fd F, glo X G c 1 "part", F.kp, hb, hv, fun z => HasL.cons Has.int (HasL.nil), ar⟩
theorem at_f_plus (X : K.In h) (G : h.Ns mainGlobals mg) (c : Says w h K) (S' : PV.Sem) (k : Nat) (hok : ∀ fd, FunD K "plus" "plus" (defArgs s_plus) (defBody s_plus) (defScope s_plus) (He.DefD.dvs K dd_plus) (He.DefD.kws K dd_plus) (He.fAd K ("plus", none)) fd → FnOk P w K mg base (L2.CX P w) k (He.fAd K ("plus", none)) fd ["one", "other"] (spC K (qq P w K) S' 2 2)) (ar : ∀ ds G, ds.length ≠ 2 → S'.cal 2 ds G = .bad) : FnAt P w K mg base (qq P w K) S' k 2 "plus" [] := by
  obtain ⟨fd, F⟩ := c.t.d.def_ 2 (d := dd_plus)
  exact ⟨_, fd, ["one", "other"], [], [], hok fd F, glo X G c 2 "plus", F.kp, F.bindsN (fun _ _ _ _ _ _ us hl => match us, hl with | [_, _], _ => rfl), .nil, fun z => HasL.nil, ar⟩
theorem at_f_minus (X : K.In h) (G : h.Ns mainGlobals mg) (c : Says w h K) (S' : PV.Sem) (k : Nat) (hok : ∀ fd, FunD K "minus" "minus" (defArgs s_minus) (defBody s_minus) (defScope s_minus) (He.DefD.dvs K dd_minus) (He.DefD.kws K dd_minus) (He.fAd K ("minus", none)) fd → FnOk P w K mg base (L2.CX P w) k (He.fAd K ("minus", none)) fd ["one", "other"] (spC K (qq P w K) S' 3 2)) (ar : ∀ ds G, ds.length ≠ 2 → S'.cal 3 ds G = .bad) : FnAt P w K mg base (qq P w K) S' k 3 "minus" [] := by
  obtain ⟨fd, F⟩ := c.t.d.def_ 3 (d := dd_minus)
  exact ⟨_, fd, ["one", "other"], [], [], hok fd F, glo X G c 3 "minus", F.kp, F.bindsN (fun _ _ _ _ _ _ us hl => match us, hl with | [_, _], _ => rfl), .nil, fun z => HasL.nil, ar⟩
theorem at_f_times (X : K.In h) (G : h.Ns mainGlobals mg) (c : Says w h K) (S' : PV.Sem) (k : Nat) (hok : ∀ fd, FunD K "times" "times" (defArgs s_times) (defBody s_times) (defScope s_times) (He.DefD.dvs K dd_times) (He.DefD.kws K dd_times) (He.fAd K ("times", none)) fd → FnOk P w K mg base (L2.CX P w) k (He.fAd K ("times", none)) fd ["one", "other"] (spC K (qq P w K) S' 4 2)) (ar : ∀ ds G, ds.length ≠ 2 → S'.cal 4 ds G = .bad) : FnAt P w K mg base (qq P w K) S' k 4 "times" [] := by
  obtain ⟨fd, F⟩ := c.t.d.def_ 4 (d := dd_times)
  exact ⟨_, fd, ["one", "other"], [], [], hok fd F, glo X G c 4 "times", F.kp, F.bindsN (fun _ _ _ _ _ _ us hl => match us, hl with | [_, _], _ => rfl), .nil, fun z => HasL.nil, ar⟩
theorem at_f_over (X : K.In h) (G : h.Ns mainGlobals mg) (c : Says w h K) (S' : PV.Sem) (k : Nat) (hok : ∀ fd, FunD K "over" "over" (defArgs s_over) (defBody s_over) (defScope s_over) (He.DefD.dvs K dd_over) (He.DefD.kws K dd_over) (He.fAd K ("over", none)) fd → FnOk P w K mg base (L2.CX P w) k (He.fAd K ("over", none)) fd ["one", "other"] (spC K (qq P w K) S' 5 2)) (ar : ∀ ds G, ds.length ≠ 2 → S'.cal 5 ds G = .bad) : FnAt P w K mg base (qq P w K) S' k 5 "over" [] := by
  obtain ⟨fd, F⟩ := c.t.d.def_ 5 (d := dd_over)
  exact ⟨_, fd, ["one", "other"], [], [], hok fd F, glo X G c 5 "over", F.kp, F.bindsN (fun _ _ _ _ _ _ us hl => match us, hl with | [_, _], _ => rfl), .nil, fun z => HasL.nil, ar⟩
theorem at_f_is_less (X : K.In h) (G : h.Ns mainGlobals mg) (c : Says w h K) (S' : PV.Sem) (k : Nat) (hok : ∀ fd, FunD K "is_less" "is_less" (defArgs s_is_less) (defBody s_is_less) (defScope s_is_less) (He.DefD.dvs K dd_is_less) (He.DefD.kws K dd_is_less) (He.fAd K ("is_less", none)) fd → FnOk P w K mg base (L2.CX P w) k (He.fAd K ("is_less", none)) fd ["one", "other"] (spC K (qq P w K) S' 6 2)) (ar : ∀ ds G, ds.length ≠ 2 → S'.cal 6 ds G = .bad) : FnAt P w K mg base (qq P w K) S' k 6 "is_less" [] := by
  obtain ⟨fd, F⟩ := c.t.d.def_ 6 (d := dd_is_less)
  exact ⟨_, fd, ["one", "other"], [], [], hok fd F, glo X G c 6 "is_less", F.kp, F.bindsN (fun _ _ _ _ _ _ us hl => match us, hl with | [_, _], _ => rfl), .nil, fun z => HasL.nil, ar⟩
theorem at_f_size_of (X : K.In h) (G : h.Ns mainGlobals mg) (c : Says w h K) (S' : PV.Sem) (k : Nat) (hok : ∀ fd, FunD K "size_of" "size_of" (defArgs s_size_of) (defBody s_size_of) (defScope s_size_of) (He.DefD.dvs K dd_size_of) (He.DefD.kws K dd_size_of) (He.fAd K ("size_of", none)) fd → FnOk P w K mg base (L2.CX P w) k (He.fAd K ("size_of", none)) fd ["one"] (spC K (qq P w K) S' 7 1)) (ar : ∀ ds G, ds.length ≠ 1 → S'.cal 7 ds G = .bad) : FnAt P w K mg base (qq P w K) S' k 7 "size_of" [] := by
  obtain ⟨fd, F⟩ := c.t.d.def_ 7 (d := dd_size_of)
  exact ⟨_, fd, ["one"], [], [], hok fd F, glo X G c 7 "size_of", F.kp, F.bindsN (fun _ _ _ _ _ _ us hl => match us, hl with | [_], _ => rfl), .nil, fun z => HasL.nil, ar⟩
theorem at_f_small_row (X : K.In h) (G : h.Ns mainGlobals mg) (c : Says w h K) (S' : PV.Sem) (k : Nat) (hok : ∀ fd, FunD K "small_row" "small_row" (defArgs s_small_row) (defBody s_small_row) (defScope s_small_row) (He.DefD.dvs K dd_small_row) (He.DefD.kws K dd_small_row) (He.fAd K ("small_row", none)) fd → FnOk P w K mg base (L2.CX P w) k (He.fAd K ("small_row", none)) fd ["row"] (spC K (qq P w K) S' 8 1)) (ar : ∀ ds G, ds.length ≠ 1 → S'.cal 8 ds G = .bad) : FnAt P w K mg base (qq P w K) S' k 8 "small_row" [] := by
  obtain ⟨fd, F⟩ := c.t.d.def_ 8 (d := dd_small_row)
  exact ⟨_, fd, ["row"], [], [], hok fd F, glo X G c 8 "small_row", F.kp, F.bindsN (fun _ _ _ _ _ _ us hl => match us, hl with | [_], _ => rfl), .nil, fun z => HasL.nil, ar⟩
theorem at_f_halfway (X : K.In h) (G : h.Ns mainGlobals mg) (c : Says w h K) (S' : PV.Sem) (k : Nat) (hok : ∀ fd, FunD K "halfway" "halfway" (defArgs s_halfway) (defBody s_halfway) (defScope s_halfway) (He.DefD.dvs K dd_halfway) (He.DefD.kws K dd_halfway) (He.fAd K ("halfway", none)) fd → FnOk P w K mg base (L2.CX P w) k (He.fAd K ("halfway", none)) fd ["one", "other"] (spC K (qq P w K) S' 9 2)) (ar : ∀ ds G, ds.length ≠ 2 → S'.cal 9 ds G = .bad) : FnAt P w K mg base (qq P w K) S' k 9 "halfway" [] := by
  obtain ⟨fd, F⟩ := c.t.d.def_ 9 (d := dd_halfway)
  exact ⟨_, fd, ["one", "other"], [], [], hok fd F, glo X G c 9 "halfway", F.kp, F.bindsN (fun _ _ _ _ _ _ us hl => match us, hl with | [_, _], _ => rfl), .nil, fun z => HasL.nil, ar⟩
theorem at_f_greatest (X : K.In h) (G : h.Ns mainGlobals mg) (c : Says w h K) (S' : PV.Sem) (k : Nat) (hok : ∀ fd, FunD K "greatest" "greatest" (defArgs s_greatest) (defBody s_greatest) (defScope s_greatest) (He.DefD.dvs K dd_greatest) (He.DefD.kws K dd_greatest) (He.fAd K ("greatest", none)) fd → FnOk P w K mg base (L2.CX P w) k (He.fAd K ("greatest", none)) fd ["parts"] (spC K (qq P w K) S' 10 1)) (ar : ∀ ds G, ds.length ≠ 1 → S'.cal 10 ds G = .bad) : FnAt P w K mg base (qq P w K) S' k 10 "greatest" [] := by
  obtain ⟨fd, F⟩ := c.t.d.def_ 10 (d := dd_greatest)
  exact ⟨_, fd, ["parts"], [], [], hok fd F, glo X G c 10 "greatest", F.kp, F.bindsN (fun _ _ _ _ _ _ us hl => match us, hl with | [_], _ => rfl), .nil, fun z => HasL.nil, ar⟩
theorem at_f_curve (X : K.In h) (G : h.Ns mainGlobals mg) (c : Says w h K) (S' : PV.Sem) (k : Nat) (hok : ∀ fd, FunD K "curve" "curve" (defArgs s_curve) (defBody s_curve) (defScope s_curve) (He.DefD.dvs K dd_curve) (He.DefD.kws K dd_curve) (He.fAd K ("curve", none)) fd → FnOk P w K mg base (L2.CX P w) k (He.fAd K ("curve", none)) fd ["parts"] (spC K (qq P w K) S' 11 1)) (ar : ∀ ds G, ds.length ≠ 1 → S'.cal 11 ds G = .bad) : FnAt P w K mg base (qq P w K) S' k 11 "curve" [] := by
  obtain ⟨fd, F⟩ := c.t.d.def_ 11 (d := dd_curve)
  exact ⟨_, fd, ["parts"], [], [], hok fd F, glo X G c 11 "curve", F.kp, F.bindsN (fun _ _ _ _ _ _ us hl => match us, hl with | [_], _ => rfl), .nil, fun z => HasL.nil, ar⟩
theorem at_f_power_of (X : K.In h) (G : h.Ns mainGlobals mg) (c : Says w h K) (S' : PV.Sem) (k : Nat) (hok : ∀ fd, FunD K "power_of" "power_of" (defArgs s_power_of) (defBody s_power_of) (defScope s_power_of) (He.DefD.dvs K dd_power_of) (He.DefD.kws K dd_power_of) (He.fAd K ("power_of", none)) fd → FnOk P w K mg base (L2.CX P w) k (He.fAd K ("power_of", none)) fd ["one"] (spC K (qq P w K) S' 12 1)) (ar : ∀ ds G, ds.length ≠ 1 → S'.cal 12 ds G = .bad) : FnAt P w K mg base (qq P w K) S' k 12 "power_of" [] := by
  obtain ⟨fd, F⟩ := c.t.d.def_ 12 (d := dd_power_of)
  exact ⟨_, fd, ["one"], [], [], hok fd F, glo X G c 12 "power_of", F.kp, F.bindsN (fun _ _ _ _ _ _ us hl => match us, hl with | [_], _ => rfl), .nil, fun z => HasL.nil, ar⟩
theorem at_f_part_at (X : K.In h) (G : h.Ns mainGlobals mg) (c : Says w h K) (S' : PV.Sem) (k : Nat) (hok : ∀ fd, FunD K "part_at" "part_at" (defArgs s_part_at) (defBody s_part_at) (defScope s_part_at) (He.DefD.dvs K dd_part_at) (He.DefD.kws K dd_part_at) (He.fAd K ("part_at", none)) fd → FnOk P w K mg base (L2.CX P w) k (He.fAd K ("part_at", none)) fd ["one", "power"] (spC K (qq P w K) S' 13 2)) (ar : ∀ ds G, ds.length ≠ 2 → S'.cal 13 ds G = .bad) : FnAt P w K mg base (qq P w K) S' k 13 "part_at" [] := by
  obtain ⟨fd, F⟩ := c.t.d.def_ 13 (d := dd_part_at)
  exact ⟨_, fd, ["one", "power"], [], [], hok fd F, glo X G c 13 "part_at", F.kp, F.bindsN (fun _ _ _ _ _ _ us hl => match us, hl with | [_, _], _ => rfl), .nil, fun z => HasL.nil, ar⟩
theorem at_f_scaled_curve (X : K.In h) (G : h.Ns mainGlobals mg) (c : Says w h K) (S' : PV.Sem) (k : Nat) (hok : ∀ fd, FunD K "scaled_curve" "scaled_curve" (defArgs s_scaled_curve) (defBody s_scaled_curve) (defScope s_scaled_curve) (He.DefD.dvs K dd_scaled_curve) (He.DefD.kws K dd_scaled_curve) (He.fAd K ("scaled_curve", none)) fd → FnOk P w K mg base (L2.CX P w) k (He.fAd K ("scaled_curve", none)) fd ["one", "by"] (spC K (qq P w K) S' 14 2)) (ar : ∀ ds G, ds.length ≠ 2 → S'.cal 14 ds G = .bad) : FnAt P w K mg base (qq P w K) S' k 14 "scaled_curve" [] := by
  obtain ⟨fd, F⟩ := c.t.d.def_ 14 (d := dd_scaled_curve)
  exact ⟨_, fd, ["one", "by"], [], [], hok fd F, glo X G c 14 "scaled_curve", F.kp, F.bindsN (fun _ _ _ _ _ _ us hl => match us, hl with | [_, _], _ => rfl), .nil, fun z => HasL.nil, ar⟩
theorem at_f_multiplied (X : K.In h) (G : h.Ns mainGlobals mg) (c : Says w h K) (S' : PV.Sem) (k : Nat) (hok : ∀ fd, FunD K "multiplied" "multiplied" (defArgs s_multiplied) (defBody s_multiplied) (defScope s_multiplied) (He.DefD.dvs K dd_multiplied) (He.DefD.kws K dd_multiplied) (He.fAd K ("multiplied", none)) fd → FnOk P w K mg base (L2.CX P w) k (He.fAd K ("multiplied", none)) fd ["one", "other"] (spC K (qq P w K) S' 15 2)) (ar : ∀ ds G, ds.length ≠ 2 → S'.cal 15 ds G = .bad) : FnAt P w K mg base (qq P w K) S' k 15 "multiplied" [] := by
  obtain ⟨fd, F⟩ := c.t.d.def_ 15 (d := dd_multiplied)
  exact ⟨_, fd, ["one", "other"], [], [], hok fd F, glo X G c 15 "multiplied", F.kp, F.bindsN (fun _ _ _ _ _ _ us hl => match us, hl with | [_, _], _ => rfl), .nil, fun z => HasL.nil, ar⟩
theorem at_f_divided (X : K.In h) (G : h.Ns mainGlobals mg) (c : Says w h K) (S' : PV.Sem) (k : Nat) (hok : ∀ fd, FunD K "divided" "divided" (defArgs s_divided) (defBody s_divided) (defScope s_divided) (He.DefD.dvs K dd_divided) (He.DefD.kws K dd_divided) (He.fAd K ("divided", none)) fd → FnOk P w K mg base (L2.CX P w) k (He.fAd K ("divided", none)) fd ["one", "other"] (spC K (qq P w K) S' 16 2)) (ar : ∀ ds G, ds.length ≠ 2 → S'.cal 16 ds G = .bad) : FnAt P w K mg base (qq P w K) S' k 16 "divided" [] := by
  obtain ⟨fd, F⟩ := c.t.d.def_ 16 (d := dd_divided)
  exact ⟨_, fd, ["one", "other"], [], [], hok fd F, glo X G c 16 "divided", F.kp, F.bindsN (fun _ _ _ _ _ _ us hl => match us, hl with | [_, _], _ => rfl), .nil, fun z => HasL.nil, ar⟩
theorem at_f_worth (X : K.In h) (G : h.Ns mainGlobals mg) (c : Says w h K) (S' : PV.Sem) (k : Nat) (hok : ∀ fd, FunD K "worth" "worth" (defArgs s_worth) (defBody s_worth) (defScope s_worth) (He.DefD.dvs K dd_worth) (He.DefD.kws K dd_worth) (He.fAd K ("worth", none)) fd → FnOk P w K mg base (L2.CX P w) k (He.fAd K ("worth", none)) fd ["one", "at"] (spC K (qq P w K) S' 17 2)) (ar : ∀ ds G, ds.length ≠ 2 → S'.cal 17 ds G = .bad) : FnAt P w K mg base (qq P w K) S' k 17 "worth" [] := by
  obtain ⟨fd, F⟩ := c.t.d.def_ 17 (d := dd_worth)
  exact ⟨_, fd, ["one", "at"], [], [], hok fd F, glo X G c 17 "worth", F.kp, F.bindsN (fun _ _ _ _ _ _ us hl => match us, hl with | [_, _], _ => rfl), .nil, fun z => HasL.nil, ar⟩
theorem at_f_slope (X : K.In h) (G : h.Ns mainGlobals mg) (c : Says w h K) (S' : PV.Sem) (k : Nat) (hok : ∀ fd, FunD K "slope" "slope" (defArgs s_slope) (defBody s_slope) (defScope s_slope) (He.DefD.dvs K dd_slope) (He.DefD.kws K dd_slope) (He.fAd K ("slope", none)) fd → FnOk P w K mg base (L2.CX P w) k (He.fAd K ("slope", none)) fd ["one"] (spC K (qq P w K) S' 18 1)) (ar : ∀ ds G, ds.length ≠ 1 → S'.cal 18 ds G = .bad) : FnAt P w K mg base (qq P w K) S' k 18 "slope" [] := by
  obtain ⟨fd, F⟩ := c.t.d.def_ 18 (d := dd_slope)
  exact ⟨_, fd, ["one"], [], [], hok fd F, glo X G c 18 "slope", F.kp, F.bindsN (fun _ _ _ _ _ _ us hl => match us, hl with | [_], _ => rfl), .nil, fun z => HasL.nil, ar⟩
theorem at_f_shared_curve (X : K.In h) (G : h.Ns mainGlobals mg) (c : Says w h K) (S' : PV.Sem) (k : Nat) (hok : ∀ fd, FunD K "shared_curve" "shared_curve" (defArgs s_shared_curve) (defBody s_shared_curve) (defScope s_shared_curve) (He.DefD.dvs K dd_shared_curve) (He.DefD.kws K dd_shared_curve) (He.fAd K ("shared_curve", none)) fd → FnOk P w K mg base (L2.CX P w) k (He.fAd K ("shared_curve", none)) fd ["one", "other"] (spC K (qq P w K) S' 19 2)) (ar : ∀ ds G, ds.length ≠ 2 → S'.cal 19 ds G = .bad) : FnAt P w K mg base (qq P w K) S' k 19 "shared_curve" [] := by
  obtain ⟨fd, F⟩ := c.t.d.def_ 19 (d := dd_shared_curve)
  exact ⟨_, fd, ["one", "other"], [], [], hok fd F, glo X G c 19 "shared_curve", F.kp, F.bindsN (fun _ _ _ _ _ _ us hl => match us, hl with | [_, _], _ => rfl), .nil, fun z => HasL.nil, ar⟩
theorem at_f_rests (X : K.In h) (G : h.Ns mainGlobals mg) (c : Says w h K) (S' : PV.Sem) (k : Nat) (hok : ∀ fd, FunD K "rests" "rests" (defArgs s_rests) (defBody s_rests) (defScope s_rests) (He.DefD.dvs K dd_rests) (He.DefD.kws K dd_rests) (He.fAd K ("rests", none)) fd → FnOk P w K mg base (L2.CX P w) k (He.fAd K ("rests", none)) fd ["one"] (spC K (qq P w K) S' 20 1)) (ar : ∀ ds G, ds.length ≠ 1 → S'.cal 20 ds G = .bad) : FnAt P w K mg base (qq P w K) S' k 20 "rests" [] := by
  obtain ⟨fd, F⟩ := c.t.d.def_ 20 (d := dd_rests)
  exact ⟨_, fd, ["one"], [], [], hok fd F, glo X G c 20 "rests", F.kp, F.bindsN (fun _ _ _ _ _ _ us hl => match us, hl with | [_], _ => rfl), .nil, fun z => HasL.nil, ar⟩
theorem at_f_changes (X : K.In h) (G : h.Ns mainGlobals mg) (c : Says w h K) (S' : PV.Sem) (k : Nat) (hok : ∀ fd, FunD K "changes" "changes" (defArgs s_changes) (defBody s_changes) (defScope s_changes) (He.DefD.dvs K dd_changes) (He.DefD.kws K dd_changes) (He.fAd K ("changes", none)) fd → FnOk P w K mg base (L2.CX P w) k (He.fAd K ("changes", none)) fd ["row", "at"] (spC K (qq P w K) S' 21 2)) (ar : ∀ ds G, ds.length ≠ 2 → S'.cal 21 ds G = .bad) : FnAt P w K mg base (qq P w K) S' k 21 "changes" [] := by
  obtain ⟨fd, F⟩ := c.t.d.def_ 21 (d := dd_changes)
  exact ⟨_, fd, ["row", "at"], [], [], hok fd F, glo X G c 21 "changes", F.kp, F.bindsN (fun _ _ _ _ _ _ us hl => match us, hl with | [_, _], _ => rfl), .nil, fun z => HasL.nil, ar⟩
theorem at_f_plain (X : K.In h) (G : h.Ns mainGlobals mg) (c : Says w h K) (S' : PV.Sem) (k : Nat) (hok : ∀ fd, FunD K "plain" "plain" (defArgs s_plain) (defBody s_plain) (defScope s_plain) (He.DefD.dvs K dd_plain) (He.DefD.kws K dd_plain) (He.fAd K ("plain", none)) fd → FnOk P w K mg base (L2.CX P w) k (He.fAd K ("plain", none)) fd ["one"] (spC K (qq P w K) S' 22 1)) (ar : ∀ ds G, ds.length ≠ 1 → S'.cal 22 ds G = .bad) : FnAt P w K mg base (qq P w K) S' k 22 "plain" [] := by
  obtain ⟨fd, F⟩ := c.t.d.def_ 22 (d := dd_plain)
  exact ⟨_, fd, ["one"], [], [], hok fd F, glo X G c 22 "plain", F.kp, F.bindsN (fun _ _ _ _ _ _ us hl => match us, hl with | [_], _ => rfl), .nil, fun z => HasL.nil, ar⟩
theorem at_f_how_many (X : K.In h) (G : h.Ns mainGlobals mg) (c : Says w h K) (S' : PV.Sem) (k : Nat) (hok : ∀ fd, FunD K "how_many" "how_many" (defArgs s_how_many) (defBody s_how_many) (defScope s_how_many) (He.DefD.dvs K dd_how_many) (He.DefD.kws K dd_how_many) (He.fAd K ("how_many", none)) fd → FnOk P w K mg base (L2.CX P w) k (He.fAd K ("how_many", none)) fd ["one", "low", "high"] (spC K (qq P w K) S' 23 3)) (ar : ∀ ds G, ds.length ≠ 3 → S'.cal 23 ds G = .bad) : FnAt P w K mg base (qq P w K) S' k 23 "how_many" [] := by
  obtain ⟨fd, F⟩ := c.t.d.def_ 23 (d := dd_how_many)
  exact ⟨_, fd, ["one", "low", "high"], [], [], hok fd F, glo X G c 23 "how_many", F.kp, F.bindsN (fun _ _ _ _ _ _ us hl => match us, hl with | [_, _, _], _ => rfl), .nil, fun z => HasL.nil, ar⟩
theorem at_f_bound (X : K.In h) (G : h.Ns mainGlobals mg) (c : Says w h K) (S' : PV.Sem) (k : Nat) (hok : ∀ fd, FunD K "bound" "bound" (defArgs s_bound) (defBody s_bound) (defScope s_bound) (He.DefD.dvs K dd_bound) (He.DefD.kws K dd_bound) (He.fAd K ("bound", none)) fd → FnOk P w K mg base (L2.CX P w) k (He.fAd K ("bound", none)) fd ["one"] (spC K (qq P w K) S' 24 1)) (ar : ∀ ds G, ds.length ≠ 1 → S'.cal 24 ds G = .bad) : FnAt P w K mg base (qq P w K) S' k 24 "bound" [] := by
  obtain ⟨fd, F⟩ := c.t.d.def_ 24 (d := dd_bound)
  exact ⟨_, fd, ["one"], [], [], hok fd F, glo X G c 24 "bound", F.kp, F.bindsN (fun _ _ _ _ _ _ us hl => match us, hl with | [_], _ => rfl), .nil, fun z => HasL.nil, ar⟩
theorem at_f_all_of (X : K.In h) (G : h.Ns mainGlobals mg) (c : Says w h K) (S' : PV.Sem) (k : Nat) (hok : ∀ fd, FunD K "all_of" "all_of" (defArgs s_all_of) (defBody s_all_of) (defScope s_all_of) (He.DefD.dvs K dd_all_of) (He.DefD.kws K dd_all_of) (He.fAd K ("all_of", none)) fd → FnOk P w K mg base (L2.CX P w) k (He.fAd K ("all_of", none)) fd ["one"] (spC K (qq P w K) S' 25 1)) (ar : ∀ ds G, ds.length ≠ 1 → S'.cal 25 ds G = .bad) : FnAt P w K mg base (qq P w K) S' k 25 "all_of" [] := by
  obtain ⟨fd, F⟩ := c.t.d.def_ 25 (d := dd_all_of)
  exact ⟨_, fd, ["one"], [], [], hok fd F, glo X G c 25 "all_of", F.kp, F.bindsN (fun _ _ _ _ _ _ us hl => match us, hl with | [_], _ => rfl), .nil, fun z => HasL.nil, ar⟩
theorem at_f_narrowed (X : K.In h) (G : h.Ns mainGlobals mg) (c : Says w h K) (S' : PV.Sem) (k : Nat) (hok : ∀ fd, FunD K "narrowed" "narrowed" (defArgs s_narrowed) (defBody s_narrowed) (defScope s_narrowed) (He.DefD.dvs K dd_narrowed) (He.DefD.kws K dd_narrowed) (He.fAd K ("narrowed", none)) fd → FnOk P w K mg base (L2.CX P w) k (He.fAd K ("narrowed", none)) fd ["one", "low", "high", "turns"] (spC K (qq P w K) S' 26 4)) (ar : ∀ ds G, ds.length ≠ 4 → S'.cal 26 ds G = .bad) : FnAt P w K mg base (qq P w K) S' k 26 "narrowed" [] := by
  obtain ⟨fd, F⟩ := c.t.d.def_ 26 (d := dd_narrowed)
  exact ⟨_, fd, ["one", "low", "high", "turns"], [], [], hok fd F, glo X G c 26 "narrowed", F.kp, F.bindsN (fun _ _ _ _ _ _ us hl => match us, hl with | [_, _, _, _], _ => rfl), .nil, fun z => HasL.nil, ar⟩
theorem at_f_apart (X : K.In h) (G : h.Ns mainGlobals mg) (c : Says w h K) (S' : PV.Sem) (k : Nat) (hok : ∀ fd, FunD K "apart" "apart" (defArgs s_apart) (defBody s_apart) (defScope s_apart) (He.DefD.dvs K dd_apart) (He.DefD.kws K dd_apart) (He.fAd K ("apart", none)) fd → FnOk P w K mg base (L2.CX P w) k (He.fAd K ("apart", none)) fd ["one"] (spC K (qq P w K) S' 27 1)) (ar : ∀ ds G, ds.length ≠ 1 → S'.cal 27 ds G = .bad) : FnAt P w K mg base (qq P w K) S' k 27 "apart" [] := by
  obtain ⟨fd, F⟩ := c.t.d.def_ 27 (d := dd_apart)
  exact ⟨_, fd, ["one"], [], [], hok fd F, glo X G c 27 "apart", F.kp, F.bindsN (fun _ _ _ _ _ _ us hl => match us, hl with | [_], _ => rfl), .nil, fun z => HasL.nil, ar⟩
theorem at_f_split (X : K.In h) (G : h.Ns mainGlobals mg) (c : Says w h K) (S' : PV.Sem) (k : Nat) (hok : ∀ fd, FunD K "split" "split" (defArgs s_split) (defBody s_split) (defScope s_split) (He.DefD.dvs K dd_split) (He.DefD.kws K dd_split) (He.fAd K ("split", none)) fd → FnOk P w K mg base (L2.CX P w) k (He.fAd K ("split", none)) fd ["one", "low", "high"] (spC K (qq P w K) S' 28 3)) (ar : ∀ ds G, ds.length ≠ 3 → S'.cal 28 ds G = .bad) : FnAt P w K mg base (qq P w K) S' k 28 "split" [] := by
  obtain ⟨fd, F⟩ := c.t.d.def_ 28 (d := dd_split)
  exact ⟨_, fd, ["one", "low", "high"], [], [], hok fd F, glo X G c 28 "split", F.kp, F.bindsN (fun _ _ _ _ _ _ us hl => match us, hl with | [_, _, _], _ => rfl), .nil, fun z => HasL.nil, ar⟩
theorem at_f_never_below (X : K.In h) (G : h.Ns mainGlobals mg) (c : Says w h K) (S' : PV.Sem) (k : Nat) (hok : ∀ fd, FunD K "never_below" "never_below" (defArgs s_never_below) (defBody s_never_below) (defScope s_never_below) (He.DefD.dvs K dd_never_below) (He.DefD.kws K dd_never_below) (He.fAd K ("never_below", none)) fd → FnOk P w K mg base (L2.CX P w) k (He.fAd K ("never_below", none)) fd ["one", "low", "high"] (spC K (qq P w K) S' 29 3)) (ar : ∀ ds G, ds.length ≠ 3 → S'.cal 29 ds G = .bad) : FnAt P w K mg base (qq P w K) S' k 29 "never_below" [] := by
  obtain ⟨fd, F⟩ := c.t.d.def_ 29 (d := dd_never_below)
  exact ⟨_, fd, ["one", "low", "high"], [], [], hok fd F, glo X G c 29 "never_below", F.kp, F.bindsN (fun _ _ _ _ _ _ us hl => match us, hl with | [_, _, _], _ => rfl), .nil, fun z => HasL.nil, ar⟩
theorem at_f_samples (X : K.In h) (G : h.Ns mainGlobals mg) (c : Says w h K) (S' : PV.Sem) (k : Nat) (hok : ∀ fd, FunD K "samples" "samples" (defArgs s_samples) (defBody s_samples) (defScope s_samples) (He.DefD.dvs K dd_samples) (He.DefD.kws K dd_samples) (He.fAd K ("samples", none)) fd → FnOk P w K mg base (L2.CX P w) k (He.fAd K ("samples", none)) fd ["one", "low", "high"] (spC K (qq P w K) S' 30 3)) (ar : ∀ ds G, ds.length ≠ 3 → S'.cal 30 ds G = .bad) : FnAt P w K mg base (qq P w K) S' k 30 "samples" [] := by
  obtain ⟨fd, F⟩ := c.t.d.def_ 30 (d := dd_samples)
  exact ⟨_, fd, ["one", "low", "high"], [], [], hok fd F, glo X G c 30 "samples", F.kp, F.bindsN (fun _ _ _ _ _ _ us hl => match us, hl with | [_, _, _], _ => rfl), .nil, fun z => HasL.nil, ar⟩
theorem at_f_sign_at (X : K.In h) (G : h.Ns mainGlobals mg) (c : Says w h K) (S' : PV.Sem) (k : Nat) (hok : ∀ fd, FunD K "sign_at" "sign_at" (defArgs s_sign_at) (defBody s_sign_at) (defScope s_sign_at) (He.DefD.dvs K dd_sign_at) (He.DefD.kws K dd_sign_at) (He.fAd K ("sign_at", none)) fd → FnOk P w K mg base (L2.CX P w) k (He.fAd K ("sign_at", none)) fd ["one", "at"] (spC K (qq P w K) S' 31 2)) (ar : ∀ ds G, ds.length ≠ 2 → S'.cal 31 ds G = .bad) : FnAt P w K mg base (qq P w K) S' k 31 "sign_at" [] := by
  obtain ⟨fd, F⟩ := c.t.d.def_ 31 (d := dd_sign_at)
  exact ⟨_, fd, ["one", "at"], [], [], hok fd F, glo X G c 31 "sign_at", F.kp, F.bindsN (fun _ _ _ _ _ _ us hl => match us, hl with | [_, _], _ => rfl), .nil, fun z => HasL.nil, ar⟩
theorem at_f_inside_circle (X : K.In h) (G : h.Ns mainGlobals mg) (c : Says w h K) (S' : PV.Sem) (k : Nat) (hok : ∀ fd, FunD K "inside_circle" "inside_circle" (defArgs s_inside_circle) (defBody s_inside_circle) (defScope s_inside_circle) (He.DefD.dvs K dd_inside_circle) (He.DefD.kws K dd_inside_circle) (He.fAd K ("inside_circle", none)) fd → FnOk P w K mg base (L2.CX P w) k (He.fAd K ("inside_circle", none)) fd ["one"] (spC K (qq P w K) S' 32 1)) (ar : ∀ ds G, ds.length ≠ 1 → S'.cal 32 ds G = .bad) : FnAt P w K mg base (qq P w K) S' k 32 "inside_circle" [] := by
  obtain ⟨fd, F⟩ := c.t.d.def_ 32 (d := dd_inside_circle)
  exact ⟨_, fd, ["one"], [], [], hok fd F, glo X G c 32 "inside_circle", F.kp, F.bindsN (fun _ _ _ _ _ _ us hl => match us, hl with | [_], _ => rfl), .nil, fun z => HasL.nil, ar⟩
theorem at_f_law_dice (X : K.In h) (G : h.Ns mainGlobals mg) (c : Says w h K) (S' : PV.Sem) (k : Nat) (hok : ∀ fd, FunD K "_law_dice" "_law_dice" (defArgs s_law_dice) (defBody s_law_dice) (defScope s_law_dice) (He.DefD.dvs K dd_law_dice) (He.DefD.kws K dd_law_dice) (He.fAd K ("_law_dice", none)) fd → FnOk P w K mg base (L2.CX P w) k (He.fAd K ("_law_dice", none)) fd ["cell"] (spC K (qq P w K) S' 33 1)) (ar : ∀ ds G, ds.length ≠ 1 → S'.cal 33 ds G = .bad) : FnAt P w K mg base (qq P w K) S' k 33 "_law_dice" [] := by
  obtain ⟨fd, F⟩ := c.t.d.def_ 33 (d := dd_law_dice)
  exact ⟨_, fd, ["cell"], [], [], hok fd F, glo X G c 33 "_law_dice", F.kp, F.bindsN (fun _ _ _ _ _ _ us hl => match us, hl with | [_], _ => rfl), .nil, fun z => HasL.nil, ar⟩
theorem at_f_law_roll (X : K.In h) (G : h.Ns mainGlobals mg) (c : Says w h K) (S' : PV.Sem) (k : Nat) (hok : ∀ fd, FunD K "_law_roll" "_law_roll" (defArgs s_law_roll) (defBody s_law_roll) (defScope s_law_roll) (He.DefD.dvs K dd_law_roll) (He.DefD.kws K dd_law_roll) (He.fAd K ("_law_roll", none)) fd → FnOk P w K mg base (L2.CX P w) k (He.fAd K ("_law_roll", none)) fd ["dice", "many"] (spC K (qq P w K) S' 34 2)) (ar : ∀ ds G, ds.length ≠ 2 → S'.cal 34 ds G = .bad) : FnAt P w K mg base (qq P w K) S' k 34 "_law_roll" [] := by
  obtain ⟨fd, F⟩ := c.t.d.def_ 34 (d := dd_law_roll)
  exact ⟨_, fd, ["dice", "many"], [], [], hok fd F, glo X G c 34 "_law_roll", F.kp, F.bindsN (fun _ _ _ _ _ _ us hl => match us, hl with | [_, _], _ => rfl), .nil, fun z => HasL.nil, ar⟩
theorem at_f_law_rounds (X : K.In h) (G : h.Ns mainGlobals mg) (c : Says w h K) (S' : PV.Sem) (k : Nat) (hok : ∀ fd, FunD K "_law_rounds" "_law_rounds" (defArgs s_law_rounds) (defBody s_law_rounds) (defScope s_law_rounds) (He.DefD.dvs K dd_law_rounds) (He.DefD.kws K dd_law_rounds) (He.fAd K ("_law_rounds", none)) fd → FnOk P w K mg base (L2.CX P w) k (He.fAd K ("_law_rounds", none)) fd ["script", "most"] (spC K (qq P w K) S' 35 2)) (ar : ∀ ds G, ds.length ≠ 2 → S'.cal 35 ds G = .bad) : FnAt P w K mg base (qq P w K) S' k 35 "_law_rounds" [] := by
  obtain ⟨fd, F⟩ := c.t.d.def_ 35 (d := dd_law_rounds)
  exact ⟨_, fd, ["script", "most"], [], [], hok fd F, glo X G c 35 "_law_rounds", F.kp, F.bindsN (fun _ _ _ _ _ _ us hl => match us, hl with | [_, _], _ => rfl), .nil, fun z => HasL.nil, ar⟩
theorem at_f_law_told (X : K.In h) (G : h.Ns mainGlobals mg) (c : Says w h K) (S' : PV.Sem) (k : Nat) (hok : ∀ fd, FunD K "_law_told" "_law_told" (defArgs s_law_told) (defBody s_law_told) (defScope s_law_told) (He.DefD.dvs K dd_law_told) (He.DefD.kws K dd_law_told) (He.fAd K ("_law_told", none)) fd → FnOk P w K mg base (L2.CX P w) k (He.fAd K ("_law_told", none)) fd ["what"] (spC K (qq P w K) S' 36 1)) (ar : ∀ ds G, ds.length ≠ 1 → S'.cal 36 ds G = .bad) : FnAt P w K mg base (qq P w K) S' k 36 "_law_told" [] := by
  obtain ⟨fd, F⟩ := c.t.d.def_ 36 (d := dd_law_told)
  exact ⟨_, fd, ["what"], [], [], hok fd F, glo X G c 36 "_law_told", F.kp, F.bindsN (fun _ _ _ _ _ _ us hl => match us, hl with | [_], _ => rfl), .nil, fun z => HasL.nil, ar⟩
theorem at_f_law_cases1 (X : K.In h) (G : h.Ns mainGlobals mg) (c : Says w h K) (S' : PV.Sem) (k : Nat) (hok : ∀ fd, FunD K "_law_cases1" "_law_cases1" (defArgs s_law_cases1) (defBody s_law_cases1) (defScope s_law_cases1) (He.DefD.dvs K dd_law_cases1) (He.DefD.kws K dd_law_cases1) (He.fAd K ("_law_cases1", none)) fd → FnOk P w K mg base (L2.CX P w) k (He.fAd K ("_law_cases1", none)) fd [] (spC K (qq P w K) S' 37 0)) (ar : ∀ ds G, ds.length ≠ 0 → S'.cal 37 ds G = .bad) : FnAt P w K mg base (qq P w K) S' k 37 "_law_cases1" [] := by
  obtain ⟨fd, F⟩ := c.t.d.def_ 37 (d := dd_law_cases1)
  exact ⟨_, fd, [], [], [], hok fd F, glo X G c 37 "_law_cases1", F.kp, F.bindsN (fun _ _ _ _ _ _ us hl => match us, hl with | [], _ => rfl), .nil, fun z => HasL.nil, ar⟩
theorem at_f_law (X : K.In h) (G : h.Ns mainGlobals mg) (c : Says w h K) (S' : PV.Sem) (k : Nat) (hok : ∀ fd, FunD K "law" "law" (defArgs s_law) (defBody s_law) (defScope s_law) (He.DefD.dvs K dd_law) (He.DefD.kws K dd_law) (He.fAd K ("law", none)) fd → FnOk P w K mg base (L2.CX P w) k (He.fAd K ("law", none)) fd ["script"] (spC K (qq P w K) S' 38 1)) (ar : ∀ ds G, ds.length ≠ 1 → S'.cal 38 ds G = .bad) : FnAt P w K mg base (qq P w K) S' k 38 "law" [] := by
  obtain ⟨fd, F⟩ := c.t.d.def_ 38 (d := dd_law)
  exact ⟨_, fd, ["script"], [], [], hok fd F, glo X G c 38 "law", F.kp, F.bindsN (fun _ _ _ _ _ _ us hl => match us, hl with | [_], _ => rfl), .nil, fun z => HasL.nil, ar⟩
theorem fns (X : K.In h) (G : h.Ns mainGlobals mg) (c : Says w h K) (TB_law : TabB base mg (He.cT K ("law", none)).1 (He.cT K ("law", none)).2) (TB_law_cases1 : TabB base mg (He.cT K ("_law_cases1", none)).1 (He.cT K ("_law_cases1", none)).2) : ∀ n : Nat, Fns P w K mg base (qq P w K) (semAt prog n) (3 * n + 1)
  | 0 => {
    f_shared := at_f_shared X G c _ _ (fun fd F => fn_zero (k := 0) F sc_shared (fun _ _ => rfl)) (fun _ _ _ => rfl)
    f_part := at_f_part X G c _ _ (fun fd F => fn_zero (k := 0) F sc_part (fun _ _ => rfl)) (fun _ _ _ => rfl)
    d_part := at_d_part X G c _ _ (fun fd F => fn_zero (k := 0) F sc_part (fun _ _ => rfl)) (fun _ _ _ => rfl)
    f_plus := at_f_plus X G c _ _ (fun fd F => fn_zero (k := 0) F sc_plus (fun _ _ => rfl)) (fun _ _ _ => rfl)
    f_minus := at_f_minus X G c _ _ (fun fd F => fn_zero (k := 0) F sc_minus (fun _ _ => rfl)) (fun _ _ _ => rfl)
    f_times := at_f_times X G c _ _ (fun fd F => fn_zero (k := 0) F sc_times (fun _ _ => rfl)) (fun _ _ _ => rfl)
    f_over := at_f_over X G c _ _ (fun fd F => fn_zero (k := 0) F sc_over (fun _ _ => rfl)) (fun _ _ _ => rfl)
    f_is_less := at_f_is_less X G c _ _ (fun fd F => fn_zero (k := 0) F sc_is_less (fun _ _ => rfl)) (fun _ _ _ => rfl)
    f_size_of := at_f_size_of X G c _ _ (fun fd F => fn_zero (k := 0) F sc_size_of (fun _ _ => rfl)) (fun _ _ _ => rfl)
    f_small_row := at_f_small_row X G c _ _ (fun fd F => fn_zero (k := 0) F sc_small_row (fun _ _ => rfl)) (fun _ _ _ => rfl)
    f_halfway := at_f_halfway X G c _ _ (fun fd F => fn_zero (k := 0) F sc_halfway (fun _ _ => rfl)) (fun _ _ _ => rfl)
    f_greatest := at_f_greatest X G c _ _ (fun fd F => fn_zero (k := 0) F sc_greatest (fun _ _ => rfl)) (fun _ _ _ => rfl)
    f_curve := at_f_curve X G c _ _ (fun fd F => fn_zero (k := 0) F sc_curve (fun _ _ => rfl)) (fun _ _ _ => rfl)
    f_power_of := at_f_power_of X G c _ _ (fun fd F => fn_zero (k := 0) F sc_power_of (fun _ _ => rfl)) (fun _ _ _ => rfl)
    f_part_at := at_f_part_at X G c _ _ (fun fd F => fn_zero (k := 0) F sc_part_at (fun _ _ => rfl)) (fun _ _ _ => rfl)
    f_scaled_curve := at_f_scaled_curve X G c _ _ (fun fd F => fn_zero (k := 0) F sc_scaled_curve (fun _ _ => rfl)) (fun _ _ _ => rfl)
    f_multiplied := at_f_multiplied X G c _ _ (fun fd F => fn_zero (k := 0) F sc_multiplied (fun _ _ => rfl)) (fun _ _ _ => rfl)
    f_divided := at_f_divided X G c _ _ (fun fd F => fn_zero (k := 0) F sc_divided (fun _ _ => rfl)) (fun _ _ _ => rfl)
    f_worth := at_f_worth X G c _ _ (fun fd F => fn_zero (k := 0) F sc_worth (fun _ _ => rfl)) (fun _ _ _ => rfl)
    f_slope := at_f_slope X G c _ _ (fun fd F => fn_zero (k := 0) F sc_slope (fun _ _ => rfl)) (fun _ _ _ => rfl)
    f_shared_curve := at_f_shared_curve X G c _ _ (fun fd F => fn_zero (k := 0) F sc_shared_curve (fun _ _ => rfl)) (fun _ _ _ => rfl)
    f_rests := at_f_rests X G c _ _ (fun fd F => fn_zero (k := 0) F sc_rests (fun _ _ => rfl)) (fun _ _ _ => rfl)
    f_changes := at_f_changes X G c _ _ (fun fd F => fn_zero (k := 0) F sc_changes (fun _ _ => rfl)) (fun _ _ _ => rfl)
    f_plain := at_f_plain X G c _ _ (fun fd F => fn_zero (k := 0) F sc_plain (fun _ _ => rfl)) (fun _ _ _ => rfl)
    f_how_many := at_f_how_many X G c _ _ (fun fd F => fn_zero (k := 0) F sc_how_many (fun _ _ => rfl)) (fun _ _ _ => rfl)
    f_bound := at_f_bound X G c _ _ (fun fd F => fn_zero (k := 0) F sc_bound (fun _ _ => rfl)) (fun _ _ _ => rfl)
    f_all_of := at_f_all_of X G c _ _ (fun fd F => fn_zero (k := 0) F sc_all_of (fun _ _ => rfl)) (fun _ _ _ => rfl)
    f_narrowed := at_f_narrowed X G c _ _ (fun fd F => fn_zero (k := 0) F sc_narrowed (fun _ _ => rfl)) (fun _ _ _ => rfl)
    f_apart := at_f_apart X G c _ _ (fun fd F => fn_zero (k := 0) F sc_apart (fun _ _ => rfl)) (fun _ _ _ => rfl)
    f_split := at_f_split X G c _ _ (fun fd F => fn_zero (k := 0) F sc_split (fun _ _ => rfl)) (fun _ _ _ => rfl)
    f_never_below := at_f_never_below X G c _ _ (fun fd F => fn_zero (k := 0) F sc_never_below (fun _ _ => rfl)) (fun _ _ _ => rfl)
    f_samples := at_f_samples X G c _ _ (fun fd F => fn_zero (k := 0) F sc_samples (fun _ _ => rfl)) (fun _ _ _ => rfl)
    f_sign_at := at_f_sign_at X G c _ _ (fun fd F => fn_zero (k := 0) F sc_sign_at (fun _ _ => rfl)) (fun _ _ _ => rfl)
    f_inside_circle := at_f_inside_circle X G c _ _ (fun fd F => fn_zero (k := 0) F sc_inside_circle (fun _ _ => rfl)) (fun _ _ _ => rfl)
    f_law_dice := at_f_law_dice X G c _ _ (fun fd F => fn_zero (k := 0) F sc_law_dice (fun _ _ => rfl)) (fun _ _ _ => rfl)
    f_law_roll := at_f_law_roll X G c _ _ (fun fd F => fn_zero (k := 0) F sc_law_roll (fun _ _ => rfl)) (fun _ _ _ => rfl)
    f_law_rounds := at_f_law_rounds X G c _ _ (fun fd F => fn_zero (k := 0) F sc_law_rounds (fun _ _ => rfl)) (fun _ _ _ => rfl)
    f_law_told := at_f_law_told X G c _ _ (fun fd F => fn_zero (k := 0) F sc_law_told (fun _ _ => rfl)) (fun _ _ _ => rfl)
    f_law_cases1 := at_f_law_cases1 X G c _ _ (fun fd F => fn_zero (k := 0) F sc_law_cases1 (fun _ _ => rfl)) (fun _ _ _ => rfl)
    f_law := at_f_law X G c _ _ (fun fd F => fn_zero (k := 0) F sc_law (fun _ _ => rfl)) (fun _ _ _ => rfl) }
  | n + 1 =>
    have T := txt X G c
    have Fs := fns X G c TB_law TB_law_cases1 n
    {
    f_shared := at_f_shared X G c _ _ (fun fd F => fn_stepC (fn := m_shared) F sc_shared (fun _ _ => rfl) rfl rfl (by decide) (fun cdv A outer s H E hc hr => b_shared T rfl rfl Fs hr)) (run_ar rfl)
    f_part := at_f_part X G c _ _ (fun fd F => fn_stepC (fn := m_part) F sc_part (fun _ _ => rfl) rfl rfl (by decide) (fun cdv A outer s H E hc hr => b_part T rfl rfl Fs hr)) (run_ar rfl)
    d_part := at_d_part X G c _ _ (fun fd F => fn_stepC (fn := m_part) F sc_part (fun _ _ => rfl) rfl rfl (by decide) (fun cdv A outer s H E hc hr => b_part T rfl rfl Fs hr)) (run_ar rfl)
    f_plus := at_f_plus X G c _ _ (fun fd F => fn_stepC (fn := m_plus) F sc_plus (fun _ _ => rfl) rfl rfl (by decide) (fun cdv A outer s H E hc hr => b_plus T rfl rfl Fs hr)) (run_ar rfl)
    f_minus := at_f_minus X G c _ _ (fun fd F => fn_stepC (fn := m_minus) F sc_minus (fun _ _ => rfl) rfl rfl (by decide) (fun cdv A outer s H E hc hr => b_minus T rfl rfl Fs hr)) (run_ar rfl)
    f_times := at_f_times X G c _ _ (fun fd F => fn_stepC (fn := m_times) F sc_times (fun _ _ => rfl) rfl rfl (by decide) (fun cdv A outer s H E hc hr => b_times T rfl rfl Fs hr)) (run_ar rfl)
    f_over := at_f_over X G c _ _ (fun fd F => fn_stepC (fn := m_over) F sc_over (fun _ _ => rfl) rfl rfl (by decide) (fun cdv A outer s H E hc hr => b_over T rfl rfl Fs hr)) (run_ar rfl)
    f_is_less := at_f_is_less X G c _ _ (fun fd F => fn_stepC (fn := m_is_less) F sc_is_less (fun _ _ => rfl) rfl rfl (by decide) (fun cdv A outer s H E hc hr => b_is_less T rfl rfl Fs hr)) (run_ar rfl)
    f_size_of := at_f_size_of X G c _ _ (fun fd F => fn_stepC (fn := m_size_of) F sc_size_of (fun _ _ => rfl) rfl rfl (by decide) (fun cdv A outer s H E hc hr => b_size_of T rfl rfl Fs hr)) (run_ar rfl)
    f_small_row := at_f_small_row X G c _ _ (fun fd F => fn_stepC (fn := m_small_row) F sc_small_row (fun _ _ => rfl) rfl rfl (by decide) (fun cdv A outer s H E hc hr => b_small_row T rfl rfl Fs hr)) (run_ar rfl)
    f_halfway := at_f_halfway X G c _ _ (fun fd F => fn_stepC (fn := m_halfway) F sc_halfway (fun _ _ => rfl) rfl rfl (by decide) (fun cdv A outer s H E hc hr => b_halfway T rfl rfl Fs hr)) (run_ar rfl)
    f_greatest := at_f_greatest X G c _ _ (fun fd F => fn_stepC (fn := m_greatest) F sc_greatest (fun _ _ => rfl) rfl rfl (by decide) (fun cdv A outer s H E hc hr => b_greatest T rfl rfl Fs hr)) (run_ar rfl)
    f_curve := at_f_curve X G c _ _ (fun fd F => fn_stepC (fn := m_curve) F sc_curve (fun _ _ => rfl) rfl rfl (by decide) (fun cdv A outer s H E hc hr => b_curve T rfl rfl Fs hr)) (run_ar rfl)
    f_power_of := at_f_power_of X G c _ _ (fun fd F => fn_stepC (fn := m_power_of) F sc_power_of (fun _ _ => rfl) rfl rfl (by decide) (fun cdv A outer s H E hc hr => b_power_of T rfl rfl Fs hr)) (run_ar rfl)
    f_part_at := at_f_part_at X G c _ _ (fun fd F => fn_stepC (fn := m_part_at) F sc_part_at (fun _ _ => rfl) rfl rfl (by decide) (fun cdv A outer s H E hc hr => b_part_at T rfl rfl Fs hr)) (run_ar rfl)
    f_scaled_curve := at_f_scaled_curve X G c _ _ (fun fd F => fn_stepC (fn := m_scaled_curve) F sc_scaled_curve (fun _ _ => rfl) rfl rfl (by decide) (fun cdv A outer s H E hc hr => b_scaled_curve T rfl rfl Fs hr)) (run_ar rfl)
    f_multiplied := at_f_multiplied X G c _ _ (fun fd F => fn_stepC (fn := m_multiplied) F sc_multiplied (fun _ _ => rfl) rfl rfl (by decide) (fun cdv A outer s H E hc hr => b_multiplied T rfl rfl Fs hr)) (run_ar rfl)
    f_divided := at_f_divided X G c _ _ (fun fd F => fn_stepC (fn := m_divided) F sc_divided (fun _ _ => rfl) rfl rfl (by decide) (fun cdv A outer s H E hc hr => b_divided T rfl rfl Fs hr)) (run_ar rfl)
    f_worth := at_f_worth X G c _ _ (fun fd F => fn_stepC (fn := m_worth) F sc_worth (fun _ _ => rfl) rfl rfl (by decide) (fun cdv A outer s H E hc hr => b_worth T rfl rfl Fs hr)) (run_ar rfl)
    f_slope := at_f_slope X G c _ _ (fun fd F => fn_stepC (fn := m_slope) F sc_slope (fun _ _ => rfl) rfl rfl (by decide) (fun cdv A outer s H E hc hr => b_slope T rfl rfl Fs hr)) (run_ar rfl)
    f_shared_curve := at_f_shared_curve X G c _ _ (fun fd F => fn_stepC (fn := m_shared_curve) F sc_shared_curve (fun _ _ => rfl) rfl rfl (by decide) (fun cdv A outer s H E hc hr => b_shared_curve T rfl rfl Fs hr)) (run_ar rfl)
    f_rests := at_f_rests X G c _ _ (fun fd F => fn_stepC (fn := m_rests) F sc_rests (fun _ _ => rfl) rfl rfl (by decide) (fun cdv A outer s H E hc hr => b_rests T rfl rfl Fs hr)) (run_ar rfl)
    f_changes := at_f_changes X G c _ _ (fun fd F => fn_stepC (fn := m_changes) F sc_changes (fun _ _ => rfl) rfl rfl (by decide) (fun cdv A outer s H E hc hr => b_changes T rfl rfl Fs hr)) (run_ar rfl)
    f_plain := at_f_plain X G c _ _ (fun fd F => fn_stepC (fn := m_plain) F sc_plain (fun _ _ => rfl) rfl rfl (by decide) (fun cdv A outer s H E hc hr => b_plain T rfl rfl Fs hr)) (run_ar rfl)
    f_how_many := at_f_how_many X G c _ _ (fun fd F => fn_stepC (fn := m_how_many) F sc_how_many (fun _ _ => rfl) rfl rfl (by decide) (fun cdv A outer s H E hc hr => b_how_many T rfl rfl Fs hr)) (run_ar rfl)
    f_bound := at_f_bound X G c _ _ (fun fd F => fn_stepC (fn := m_bound) F sc_bound (fun _ _ => rfl) rfl rfl (by decide) (fun cdv A outer s H E hc hr => b_bound T rfl rfl Fs hr)) (run_ar rfl)
    f_all_of := at_f_all_of X G c _ _ (fun fd F => fn_stepC (fn := m_all_of) F sc_all_of (fun _ _ => rfl) rfl rfl (by decide) (fun cdv A outer s H E hc hr => b_all_of T rfl rfl Fs hr)) (run_ar rfl)
    f_narrowed := at_f_narrowed X G c _ _ (fun fd F => fn_stepC (fn := m_narrowed) F sc_narrowed (fun _ _ => rfl) rfl rfl (by decide) (fun cdv A outer s H E hc hr => b_narrowed T rfl rfl Fs hr)) (run_ar rfl)
    f_apart := at_f_apart X G c _ _ (fun fd F => fn_stepC (fn := m_apart) F sc_apart (fun _ _ => rfl) rfl rfl (by decide) (fun cdv A outer s H E hc hr => b_apart T rfl rfl Fs hr)) (run_ar rfl)
    f_split := at_f_split X G c _ _ (fun fd F => fn_stepC (fn := m_split) F sc_split (fun _ _ => rfl) rfl rfl (by decide) (fun cdv A outer s H E hc hr => b_split T rfl rfl Fs hr)) (run_ar rfl)
    f_never_below := at_f_never_below X G c _ _ (fun fd F => fn_stepC (fn := m_never_below) F sc_never_below (fun _ _ => rfl) rfl rfl (by decide) (fun cdv A outer s H E hc hr => b_never_below T rfl rfl Fs hr)) (run_ar rfl)
    f_samples := at_f_samples X G c _ _ (fun fd F => fn_stepC (fn := m_samples) F sc_samples (fun _ _ => rfl) rfl rfl (by decide) (fun cdv A outer s H E hc hr => b_samples T rfl rfl Fs hr)) (run_ar rfl)
    f_sign_at := at_f_sign_at X G c _ _ (fun fd F => fn_stepC (fn := m_sign_at) F sc_sign_at (fun _ _ => rfl) rfl rfl (by decide) (fun cdv A outer s H E hc hr => b_sign_at T rfl rfl Fs hr)) (run_ar rfl)
    f_inside_circle := at_f_inside_circle X G c _ _ (fun fd F => fn_stepC (fn := m_inside_circle) F sc_inside_circle (fun _ _ => rfl) rfl rfl (by decide) (fun cdv A outer s H E hc hr => b_inside_circle T rfl rfl Fs hr)) (run_ar rfl)
    f_law_dice := at_f_law_dice X G c _ _ (fun fd F => fn_stepC (fn := m_law_dice) F sc_law_dice (fun _ _ => rfl) rfl rfl (by decide) (fun cdv A outer s H E hc hr => b_law_dice T rfl rfl Fs hr)) (run_ar rfl)
    f_law_roll := at_f_law_roll X G c _ _ (fun fd F => fn_stepC (fn := m_law_roll) F sc_law_roll (fun _ _ => rfl) rfl rfl (by decide) (fun cdv A outer s H E hc hr => b_law_roll T rfl rfl Fs hr)) (run_ar rfl)
    f_law_rounds := at_f_law_rounds X G c _ _ (fun fd F => fn_stepC (fn := m_law_rounds) F sc_law_rounds (fun _ _ => rfl) rfl rfl (by decide) (fun cdv A outer s H E hc hr => b_law_rounds T rfl rfl Fs hr)) (run_ar rfl)
    f_law_told := at_f_law_told X G c _ _ (fun fd F => by
      have hh := fun (cdv : Value) (A : Around) (outer : List PySem.Env) (s : Shared) (H : Hp) (E : XK) => hds_told X G c (cxOf (L2.CX P w) P w K mg base ["what"] "_law_told" (defScope s_law_told) (He.fAd K ("_law_told", none)) cdv A outer s H E) rfl rfl rfl
      refine (fn_told (q := qq P w K) (S := semAt prog n) (S0 := semAt prog n) (L := lamAt (semAt prog n) prog) (k0 := 3 * n + 1) (hl := hlK K) F sc_law_told (fun _ _ => rfl) (by rw [told_at]; exact wt_told c) (lams_ok T Fs) (fun cdv A outer s H E => ?_) rfl (Or.inl rfl) (fun _ => rfl)).mono (by omega)
      obtain ⟨_, _, _, _, _, _, e, hk⟩ := hh cdv A outer s H E
      cases e
      exact hk) told_ar
    f_law_cases1 := at_f_law_cases1 X G c _ _ (fun fd F => fn_stepC (fn := m_law_cases1) F sc_law_cases1 (fun _ _ => rfl) rfl rfl (by decide) (fun cdv A outer s H E hc hr => b_law_cases1 T rfl rfl Fs hr TB_law_cases1 (code_law_cases1 c hc) (List.mem_cons_of_mem _ (List.mem_cons_self ..)) (uni_law_cases1 c) (told_at n) rfl)) (run_ar rfl)
    f_law := at_f_law X G c _ _ (fun fd F => fn_stepC (fn := m_law) F sc_law (fun _ _ => rfl) rfl rfl (by decide) (fun cdv A outer s H E hc hr => b_law T rfl rfl Fs hr TB_law (code_law c hc) (List.mem_cons_self ..) (uni_law c) (told_at n) rfl)) (run_ar rfl) }
end
end LK
end
/-! ## R1 -/
section
set_option linter.all false
/-! Polynomials over the parts, as lists of coefficients. -/
namespace RP
def ev : List Rat → Rat → Rat
  | [], _ => 0
  | a :: l, x => a + x * ev l x
def trim : List Rat → List Rat
  | [] => []
  | a :: l => match trim l with
    | [] => if a = 0 then [] else [a]
    | b :: r => a :: b :: r
abbrev Tr (l : List Rat) : Prop := trim l = l
theorem trim_cons_nil {a : Rat} {l : List Rat} (h : trim l = []) : trim (a :: l) = if a = 0 then [] else [a] := by simp only [trim, h]
theorem trim_cons_ne {a : Rat} {l : List Rat} (h : trim l ≠ []) : trim (a :: l) = a :: trim l := by
  cases e : trim l with
  | nil => exact absurd e h
  | cons b r => simp only [trim, e]
theorem ev_trim (x : Rat) : ∀ l : List Rat, ev (trim l) x = ev l x
  | [] => rfl
  | a :: l => by
    have ih := ev_trim x l
    by_cases h : trim l = []
    · rw [trim_cons_nil h]
      rw [h] at ih
      by_cases ha : a = 0
      · rw [if_pos ha]
        show (0 : Rat) = a + x * ev l x
        rw [← ih, ha]
        show (0 : Rat) = 0 + x * 0
        grind
      · rw [if_neg ha]
        show a + x * 0 = a + x * ev l x
        rw [← ih]
        rfl
    · rw [trim_cons_ne h]
      show a + x * ev (trim l) x = a + x * ev l x
      rw [ih]
theorem trim_len : ∀ l : List Rat, (trim l).length ≤ l.length
  | [] => Nat.le_refl _
  | a :: l => by
    have ih := trim_len l
    by_cases h : trim l = []
    · rw [trim_cons_nil h]
      split <;> simp
    · rw [trim_cons_ne h]
      simp only [List.length_cons]
      omega
theorem trim_trim : ∀ l : List Rat, Tr (trim l)
  | [] => rfl
  | a :: l => by
    have ih : trim (trim l) = trim l := trim_trim l
    show trim (trim (a :: l)) = trim (a :: l)
    by_cases h : trim l = []
    · rw [trim_cons_nil h]
      by_cases ha : a = 0
      · rw [if_pos ha]; rfl
      · rw [if_neg ha, trim_cons_nil rfl, if_neg ha]
    · rw [trim_cons_ne h, trim_cons_ne (by rw [ih]; exact h), ih]
theorem trim_mem : ∀ {l : List Rat} {r : Rat}, r ∈ trim l → r ∈ l
  | [], r, h => h
  | a :: l, r, h => by
    by_cases e : trim l = []
    · rw [trim_cons_nil e] at h
      split at h
      · cases h
      · exact List.mem_cons.mpr (.inl (List.mem_singleton.mp h))
    · rw [trim_cons_ne e] at h
      rcases List.mem_cons.mp h with h | h
      · exact List.mem_cons.mpr (.inl h)
      · exact List.mem_cons_of_mem _ (trim_mem h)
theorem trim_snoc0 : ∀ l : List Rat, trim (l ++ [0]) = trim l
  | [] => by simp [trim]
  | a :: l => by
    have ih := trim_snoc0 l
    show trim (a :: (l ++ [0])) = trim (a :: l)
    by_cases h : trim l = []
    · rw [trim_cons_nil h, trim_cons_nil (by rw [ih]; exact h)]
    · rw [trim_cons_ne h, trim_cons_ne (by rw [ih]; exact h), ih]
theorem trim_snoc {a : Rat} (h : a ≠ 0) : ∀ l : List Rat, trim (l ++ [a]) = l ++ [a]
  | [] => by simp [trim, h]
  | b :: l => by
    have ih := trim_snoc h l
    show trim (b :: (l ++ [a])) = b :: (l ++ [a])
    rw [trim_cons_ne (by rw [ih]; simp), ih]
theorem Tr.last {l : List Rat} (h : Tr l) {a : Rat} (hl : l.getLast? = some a) : a ≠ 0 := by
  intro e
  subst e
  obtain ⟨r, rfl⟩ := List.getLast?_eq_some_iff.mp hl
  have h1 : trim (r ++ [0]) = r ++ [0] := h
  rw [trim_snoc0] at h1
  have := trim_len r
  rw [h1] at this
  simp at this
  omega
theorem tr_of_last {l : List Rat} (h : ∀ a, l.getLast? = some a → a ≠ 0) : Tr l := by
  cases hl : l.getLast? with
  | none => rw [List.getLast?_eq_none_iff] at hl; subst hl; rfl
  | some a =>
    obtain ⟨r, rfl⟩ := List.getLast?_eq_some_iff.mp hl
    exact trim_snoc (h a hl) r
/-! ### zero everywhere -/
def addP : List Rat → List Rat → List Rat
  | [], q => q
  | p, [] => p
  | a :: p, b :: q => (a + b) :: addP p q
def scP (c : Rat) (p : List Rat) : List Rat := p.map (c * ·)
theorem ev_add (x : Rat) : ∀ p q : List Rat, ev (addP p q) x = ev p x + ev q x
  | [], q => by
    have : addP [] q = q := by cases q <;> rfl
    rw [this]; show _ = 0 + _; grind
  | a :: p, [] => by show _ = _ + (0 : Rat); simp only [addP]; grind
  | a :: p, b :: q => by
    have ih := ev_add x p q
    show (a + b) + x * ev (addP p q) x = (a + x * ev p x) + (b + x * ev q x)
    rw [ih]; grind
theorem ev_sc (c x : Rat) : ∀ p : List Rat, ev (scP c p) x = c * ev p x
  | [] => by show (0 : Rat) = c * 0; grind
  | a :: p => by
    have ih := ev_sc c x p
    show c * a + x * ev (scP c p) x = c * (a + x * ev p x)
    rw [ih]; grind
theorem add_len : ∀ p q : List Rat, (addP p q).length = max p.length q.length
  | [], q => by
    have : addP [] q = q := by cases q <;> rfl
    rw [this]; simp
  | a :: p, [] => by simp [addP]
  | a :: p, b :: q => by
    have ih := add_len p q
    show (addP p q).length + 1 = max (p.length + 1) (q.length + 1)
    omega
def syn (r : Rat) : List Rat → List Rat
  | [] => []
  | _ :: t => addP t (scP r (syn r t))
theorem syn_len (r : Rat) : ∀ l : List Rat, (syn r l).length ≤ l.length - 1
  | [] => Nat.le_refl _
  | a :: t => by
    have ih := syn_len r t
    show (addP t (scP r (syn r t))).length ≤ t.length + 1 - 1
    rw [add_len]
    simp only [scP, List.length_map]
    omega
theorem ev_syn (r x : Rat) : ∀ l : List Rat, ev l x - ev l r = (x - r) * ev (syn r l) x
  | [] => by show (0 : Rat) - 0 = (x - r) * 0; grind
  | a :: t => by
    have ih := ev_syn r x t
    show (a + x * ev t x) - (a + r * ev t r) = (x - r) * ev (addP t (scP r (syn r t))) x
    rw [ev_add, ev_sc]
    grind
theorem zero_of_roots : ∀ (n : Nat) (l rs : List Rat), l.length ≤ n → rs.length = n → rs.Nodup → (∀ r ∈ rs, ev l r = 0) → ∀ x, ev l x = 0
  | 0, l, rs, hl, _, _, _, x => by
    have : l = [] := List.eq_nil_of_length_eq_zero (by omega)
    subst this; rfl
  | n + 1, l, [], _, h, _, _, _ => by cases h
  | n + 1, l, r :: rs, hl, hr, hn, h, x => by
    have h0 := h r (List.mem_cons_self ..)
    obtain ⟨h1, h2⟩ := List.nodup_cons.mp hn
    have hs := syn_len r l
    have ih := zero_of_roots n (syn r l) rs (by omega) (by simpa using hr) h2 fun s hs => by
      have e := ev_syn r s l
      rw [h0, h s (List.mem_cons_of_mem _ hs)] at e
      have ne : s - r ≠ 0 := fun e0 => h1 (by have : s = r := by grind
                                              rw [← this]; exact hs)
      grind
    have e := ev_syn r x l
    rw [h0, ih x] at e
    grind
theorem coef_zero : ∀ (n : Nat) (l : List Rat), l.length ≤ n → (∀ x, ev l x = 0) → ∀ c ∈ l, c = 0
  | 0, l, hl, _, c, hc => by
    have : l = [] := List.eq_nil_of_length_eq_zero (by omega)
    subst this; cases hc
  | n + 1, [], _, _, c, hc => by cases hc
  | n + 1, a :: t, hl, h, c, hc => by
    have ha : a = 0 := by
      have := h 0
      have e : ev (a :: t) 0 = a + 0 * ev t 0 := rfl
      rw [e] at this
      grind
    have ht : ∀ x, x ≠ 0 → ev t x = 0 := fun x hx => by
      have := h x
      have e : ev (a :: t) x = a + x * ev t x := rfl
      rw [e, ha] at this
      grind
    have hl' : t.length ≤ n := by simpa using hl
    have hz := zero_of_roots n t ((List.range n).map fun (k : Nat) => ((k : Rat) + 1)) hl' (by simp) (by
      rw [List.nodup_iff_pairwise_ne, List.pairwise_map]
      refine List.Pairwise.imp ?_ (List.nodup_iff_pairwise_ne.mp List.nodup_range)
      intro a b hab e
      have e1 : (a : Rat) = (b : Rat) := by grind
      exact hab (by exact_mod_cast e1)) fun r hr => by
      obtain ⟨k, _, rfl⟩ := List.mem_map.mp hr
      refine ht _ fun e => ?_
      have : ((k + 1 : Nat) : Rat) = 0 := by push_cast; exact e
      have := Rat.natCast_eq_zero_iff.mp this
      omega
    rcases List.mem_cons.mp hc with rfl | hc
    · exact ha
    · exact coef_zero n t hl' hz c hc
theorem tr_zero : ∀ {l : List Rat}, (∀ c ∈ l, c = 0) → trim l = []
  | [], _ => rfl
  | a :: l, h => by
    rw [trim_cons_nil (tr_zero fun c hc => h c (List.mem_cons_of_mem _ hc)), if_pos (h a (List.mem_cons_self ..))]
theorem tr_tail {a : Rat} {l : List Rat} (h : Tr (a :: l)) : Tr l := by
  by_cases e : trim l = []
  · have h : trim (a :: l) = a :: l := h
    rw [trim_cons_nil e] at h
    split at h
    · cases h
    · injection h with _ h2
      show trim l = l
      rw [e, h2]
  · have h : trim (a :: l) = a :: l := h
    rw [trim_cons_ne e] at h
    injection h
/-- alike everywhere: the same -/
theorem tr_ext : ∀ {p q : List Rat}, Tr p → Tr q → (∀ x, ev p x = ev q x) → p = q
  | [], [], _, _, _ => rfl
  | [], b :: q, _, hq, h => by
    have z := coef_zero _ (b :: q) (Nat.le_refl _) fun x => (h x).symm
    have := tr_zero z
    rw [hq] at this
    cases this
  | a :: p, [], hp, _, h => by
    have z := coef_zero _ (a :: p) (Nat.le_refl _) fun x => h x
    have := tr_zero z
    rw [hp] at this
    cases this
  | a :: p, b :: q, hp, hq, h => by
    have ha : a = b := by
      have := h 0
      have e1 : ev (a :: p) 0 = a + 0 * ev p 0 := rfl
      have e2 : ev (b :: q) 0 = b + 0 * ev q 0 := rfl
      rw [e1, e2] at this
      grind
    subst ha
    have ht : ∀ x, ev p x = ev q x := fun x => by
      have hz : ∀ y, ev (addP (a :: p) (scP (-1) (a :: q))) y = 0 := fun y => by
        rw [ev_add, ev_sc, h y]; grind
      have z := coef_zero _ _ (Nat.le_refl _) hz
      have e : ∀ y, ev (addP p (scP (-1) q)) y = 0 := fun y => by
        have z2 : ∀ c ∈ addP p (scP (-1) q), c = 0 := fun c hc => z c (List.mem_cons_of_mem _ hc)
        have := ev_trim y (addP p (scP (-1) q))
        rw [tr_zero z2] at this
        exact this.symm
      have := e x
      rw [ev_add, ev_sc] at this
      grind
    rw [tr_ext (tr_tail hp) (tr_tail hq) ht]
theorem trim_ext {p q : List Rat} (h : ∀ x, ev p x = ev q x) : trim p = trim q := tr_ext (trim_trim p) (trim_trim q) fun x => by rw [ev_trim, ev_trim, h x]
/-- alike at enough places -/
theorem ev_ext {p q rs : List Rat} (hn : rs.Nodup) (h1 : p.length ≤ rs.length) (h2 : q.length ≤ rs.length) (h : ∀ r ∈ rs, ev p r = ev q r) : ∀ x, ev p x = ev q x := fun x => by
  have z := zero_of_roots rs.length (addP p (scP (-1) q)) rs (by rw [add_len]; simp only [scP, List.length_map]; omega) rfl hn (fun r hr => by rw [ev_add, ev_sc, h r hr]; grind) x
  rw [ev_add, ev_sc] at z
  grind
/-! ### products -/
def mulP : List Rat → List Rat → List Rat
  | [], _ => []
  | a :: p, q => addP (scP a q) (0 :: mulP p q)
theorem ev_mul (x : Rat) : ∀ p q : List Rat, ev (mulP p q) x = ev p x * ev q x
  | [], q => by show (0 : Rat) = 0 * _; grind
  | a :: p, q => by
    have ih := ev_mul x p q
    show ev (addP (scP a q) (0 :: mulP p q)) x = (a + x * ev p x) * ev q x
    rw [ev_add, ev_sc]
    show a * ev q x + (0 + x * ev (mulP p q) x) = _
    rw [ih]; grind
theorem mul_len : ∀ p q : List Rat, (mulP p q).length ≤ p.length + q.length - 1 ∨ q = []
  | [], q => .inl (Nat.zero_le _)
  | a :: p, [] => .inr rfl
  | a :: p, b :: q => by
    rcases mul_len p (b :: q) with ih | ih
    · refine .inl ?_
      show (addP (scP a (b :: q)) (0 :: mulP p (b :: q))).length ≤ p.length + 1 + (q.length + 1) - 1
      rw [add_len]
      simp only [scP, List.length_map, List.length_cons] at *
      omega
    · cases ih
/-! ### stores -/
theorem ev_set (c x : Rat) : ∀ (F : List Rat) (k : Nat), k < F.length → ev (F.set k (F.getD k 0 + c)) x = ev F x + c * x ^ k
  | [], k, h => by cases h
  | a :: F, 0, _ => by
    show (a + c) + x * ev F x = (a + x * ev F x) + c * x ^ 0
    grind
  | a :: F, k + 1, h => by
    have ih := ev_set c x F k (by simpa using h)
    show a + x * ev (F.set k (F.getD k 0 + c)) x = (a + x * ev F x) + c * x ^ (k + 1)
    rw [ih]; grind
theorem ev_rep (x : Rat) : ∀ n : Nat, ev (List.replicate n 0) x = 0
  | 0 => rfl
  | n + 1 => by
    show (0 : Rat) + x * ev (List.replicate n 0) x = 0
    rw [ev_rep x n]; grind
theorem ev_app (x : Rat) : ∀ p q : List Rat, ev (p ++ q) x = ev p x + x ^ p.length * ev q x
  | [], q => by show ev q x = 0 + x ^ 0 * ev q x; grind
  | a :: p, q => by
    have ih := ev_app x p q
    show a + x * ev (p ++ q) x = (a + x * ev p x) + x ^ (p.length + 1) * ev q x
    rw [ih]; grind
/-! ### bounds -/
/-- a part of D, at most B of them -/
def Bd (D B : Nat) (r : Rat) : Prop := ∃ k : Int, r = (k : Rat) / (D : Rat) ∧ k.natAbs ≤ B ∧ 0 < D
theorem Bd.add {D B C : Nat} {a b : Rat} (h1 : Bd D B a) (h2 : Bd D C b) : Bd D (B + C) (a + b) := by
  obtain ⟨k, rfl, hk, hD⟩ := h1
  obtain ⟨j, rfl, hj, _⟩ := h2
  refine ⟨k + j, ?_, by omega, hD⟩
  rw [Rat.intCast_add]
  grind
theorem Bd.neg {D B : Nat} {a : Rat} (h1 : Bd D B a) : Bd D B (-a) := by
  obtain ⟨k, rfl, hk, hD⟩ := h1
  refine ⟨-k, ?_, by omega, hD⟩
  rw [Rat.intCast_neg]
  grind
theorem Bd.sub {D B C : Nat} {a b : Rat} (h1 : Bd D B a) (h2 : Bd D C b) : Bd D (B + C) (a - b) := by
  rw [Rat.sub_eq_add_neg]
  exact h1.add h2.neg
theorem Bd.mul {D B E C : Nat} {a b : Rat} (h1 : Bd D B a) (h2 : Bd E C b) : Bd (D * E) (B * C) (a * b) := by
  obtain ⟨k, rfl, hk, hD⟩ := h1
  obtain ⟨j, rfl, hj, hE⟩ := h2
  refine ⟨k * j, ?_, by rw [Int.natAbs_mul]; exact Nat.mul_le_mul hk hj, Nat.mul_pos hD hE⟩
  have hD' : (D : Rat) ≠ 0 := fun e => by have := Rat.natCast_eq_zero_iff.mp e; omega
  have hE' : (E : Rat) ≠ 0 := fun e => by have := Rat.natCast_eq_zero_iff.mp e; omega
  rw [Rat.intCast_mul, Rat.natCast_mul]
  grind
theorem Bd.mono {D B C : Nat} {a : Rat} (h1 : Bd D B a) (h : B ≤ C) : Bd D C a := by
  obtain ⟨k, e, hk, hD⟩ := h1
  exact ⟨k, e, by omega, hD⟩
theorem Bd.up {D B E : Nat} {a : Rat} (h1 : Bd D B a) (hE : 0 < E) : Bd (D * E) (B * E) a := by
  have h2 : Bd E E (1 : Rat) := ⟨(E : Int), by
    have hE' : (E : Rat) ≠ 0 := fun e => by have := Rat.natCast_eq_zero_iff.mp e; omega
    rw [Rat.intCast_natCast]; grind, by omega, hE⟩
  have := h1.mul h2
  rw [Rat.mul_one] at this
  exact this
theorem Bd.int {k : Int} {B : Nat} (h : k.natAbs ≤ B) : Bd 1 B (k : Rat) := ⟨k, by grind, h, by decide⟩
theorem Bd.zero {D : Nat} (h : 0 < D) : Bd D 0 0 := ⟨0, by grind, by decide, h⟩
end RP
end
/-! ## R2 -/
section
set_option Elab.async false
set_option linter.all false
set_option maxRecDepth 200000
set_option maxHeartbeats 8000000
namespace LK
open PySem PV RP
abbrev Sa (n : Nat) : PV.Sem := semAt prog n
theorem cal_at (n g : Nat) {f : Fn} (h1 : g ≠ prog.toldI) (h : prog.fns[g]? = some f) (args : List D) (G : Gs) : (Sa (n + 1)).cal g args G = runFn (Sa n) f args G := by
  show calAt (semAt prog n) prog g args G = _
  unfold calAt
  rw [if_neg h1, h]
def gOf (t l : Int) : Int := if l < 0 then -((Nat.gcd t.natAbs l.natAbs : Nat) : Int) else ((Nat.gcd t.natAbs l.natAbs : Nat) : Int)
def pq (t l : Int) : Int × Int := (t.fdiv (gOf t l), l.fdiv (gOf t l))
theorem gOf_pos {t l : Int} (hl : 0 < l) : 0 < gOf t l ∧ gOf t l ≤ l := by
  unfold gOf
  rw [if_neg (by omega)]
  have h1 : 0 < Nat.gcd t.natAbs l.natAbs := Nat.gcd_pos_of_pos_right _ (by omega)
  have h2 := Nat.gcd_le_right t.natAbs (show 0 < l.natAbs by omega)
  omega
theorem ok_div {t l : Int} {m : Nat} (hl : 0 < l) (hb : l.natAbs < 2 ^ m) (hm : m ≤ 9000) : okDiv (gOf t l) = true := by
  obtain ⟨h1, h2⟩ := gOf_pos (t := t) hl
  have h3 : (gOf t l).natAbs < 2 ^ m := by omega
  have h0 : 0 < m := by
    rcases Nat.eq_zero_or_pos m with e | e
    · subst e
      omega
    · exact e
  have h4 := log_lt h3 h0
  simp [okDiv]
  left
  omega
/-- the divisor divides both -/
theorem gOf_dvd (t l : Int) : gOf t l ∣ t ∧ gOf t l ∣ l := by
  have h1 : ((Nat.gcd t.natAbs l.natAbs : Nat) : Int) ∣ t := Int.ofNat_dvd_left.mpr (Nat.gcd_dvd_left _ _)
  have h2 : ((Nat.gcd t.natAbs l.natAbs : Nat) : Int) ∣ l := Int.ofNat_dvd_left.mpr (Nat.gcd_dvd_right _ _)
  unfold gOf
  split
  · exact ⟨Int.neg_dvd.mpr h1, Int.neg_dvd.mpr h2⟩
  · exact ⟨h1, h2⟩
theorem gOf_ne {t l : Int} (h : l ≠ 0) : gOf t l ≠ 0 := by
  have h1 : 0 < Nat.gcd t.natAbs l.natAbs := Nat.gcd_pos_of_pos_right _ (by omega)
  unfold gOf
  split <;> omega
theorem fdiv_mul {g t : Int} (h : g ∣ t) : t.fdiv g * g = t := by
  rw [Int.fdiv_eq_ediv_of_dvd h]
  exact Int.ediv_mul_cancel h
theorem pq1 (t l : Int) : (pq t l).1 * gOf t l = t := fdiv_mul (gOf_dvd t l).1
theorem pq2 (t l : Int) : (pq t l).2 * gOf t l = l := fdiv_mul (gOf_dvd t l).2
theorem pq_cross (t l : Int) : (pq t l).1 * l = t * (pq t l).2 := by
  have h1 := pq1 t l
  have h2 := pq2 t l
  grind
theorem pq_pos {t l : Int} (h : l ≠ 0) : 0 < (pq t l).2 := by
  have h2 := pq2 t l
  have h3 := gOf_ne (t := t) h
  have hg : (0 < l → 0 < gOf t l) ∧ (l < 0 → gOf t l < 0) := by
    have h1 : 0 < Nat.gcd t.natAbs l.natAbs := Nat.gcd_pos_of_pos_right _ (by omega)
    unfold gOf
    split <;> omega
  generalize hg' : gOf t l = g at *
  generalize hy : (pq t l).2 = y at *
  rcases Int.lt_trichotomy y 0 with hy0 | hy0 | hy0
  · exfalso
    rcases Int.lt_or_gt_of_ne h with hl | hl
    · have := Int.mul_pos_of_neg_of_neg hy0 (hg.2 hl)
      omega
    · have := Int.mul_neg_of_neg_of_pos hy0 (hg.1 hl)
      omega
  · subst hy0
    simp at h2
    omega
  · exact hy0
theorem pq_cop {t l : Int} (h : l ≠ 0) : Nat.gcd (pq t l).1.natAbs (pq t l).2.natAbs = 1 := by
  have h1 := congrArg Int.natAbs (pq1 t l)
  have h2 := congrArg Int.natAbs (pq2 t l)
  rw [Int.natAbs_mul] at h1 h2
  have hg : (gOf t l).natAbs = Nat.gcd t.natAbs l.natAbs := by
    unfold gOf
    split <;> omega
  have h0 : 0 < Nat.gcd t.natAbs l.natAbs := Nat.gcd_pos_of_pos_right _ (by omega)
  have e := Nat.gcd_mul_right (pq t l).1.natAbs (gOf t l).natAbs (pq t l).2.natAbs
  rw [h1, h2, hg] at e
  exact Nat.eq_of_mul_eq_mul_right h0 (by omega)
theorem red_eq {x y u v : Int} (hy : 0 < y) (hv : 0 < v) (h1 : Nat.gcd x.natAbs y.natAbs = 1) (h2 : Nat.gcd u.natAbs v.natAbs = 1) (h : x * v = u * y) : x = u ∧ y = v := by
  have e := congrArg Int.natAbs h
  rw [Int.natAbs_mul, Int.natAbs_mul] at e
  have d1 : y.natAbs ∣ v.natAbs := by
    have : y.natAbs ∣ x.natAbs * v.natAbs := ⟨u.natAbs, by rw [e, Nat.mul_comm]⟩
    exact Nat.Coprime.dvd_of_dvd_mul_left (by show Nat.gcd _ _ = 1; rw [Nat.gcd_comm]; exact h1) this
  have d2 : v.natAbs ∣ y.natAbs := by
    have : v.natAbs ∣ u.natAbs * y.natAbs := ⟨x.natAbs, by rw [← e, Nat.mul_comm]⟩
    exact Nat.Coprime.dvd_of_dvd_mul_left (by show Nat.gcd _ _ = 1; rw [Nat.gcd_comm]; exact h2) this
  have e2 := Nat.dvd_antisymm d1 d2
  have e3 : y = v := by omega
  subst e3
  exact ⟨Int.eq_of_mul_eq_mul_right (by omega) h, rfl⟩
theorem pq_eq {t l t' l' : Int} (h : l ≠ 0) (h' : l' ≠ 0) (e : t * l' = t' * l) : pq t l = pq t' l' := by
  have c1 := pq_cross t l
  have c2 := pq_cross t' l'
  have p1 := pq_pos (t := t) h
  have p2 := pq_pos (t := t') h'
  have k : (pq t l).1 * (pq t' l').2 = (pq t' l').1 * (pq t l).2 := by
    have : l * l' * ((pq t l).1 * (pq t' l').2) = l * l' * ((pq t' l').1 * (pq t l).2) := by grind
    exact Int.eq_of_mul_eq_mul_left (Int.mul_ne_zero h h') this
  obtain ⟨e1, e2⟩ := red_eq p1 p2 (pq_cop h) (pq_cop h') k
  exact Prod.ext e1 e2
theorem natAbs_le_of_mul {x g t : Int} (h : x * g = t) (hg : g ≠ 0) : x.natAbs ≤ t.natAbs := by
  rw [← h, Int.natAbs_mul]
  exact Nat.le_mul_of_pos_right _ (by omega)
theorem mul_lt2 {a b : Int} {m k : Nat} (ha : a.natAbs < 2 ^ m) (hb : b.natAbs < 2 ^ k) : (a * b).natAbs < 2 ^ (m + k) := by
  rw [Int.natAbs_mul, Nat.pow_add]
  exact Nat.mul_lt_mul'' ha hb

/-! parts -/
theorem rat_of {t l p q : Int} (hl : l ≠ 0) (hq : 0 < q) (hc : Nat.gcd p.natAbs q.natAbs = 1) (h : p * l = t * q) : ((t : Rat) / (l : Rat)).num = p ∧ ((((t : Rat) / (l : Rat)).den : Nat) : Int) = q := by
  have hn : q.toNat ≠ 0 := by omega
  have hc' : p.natAbs.Coprime q.toNat := by
    have : q.toNat = q.natAbs := by omega
    rw [this]; exact hc
  have e : (t : Rat) / (l : Rat) = ⟨p, q.toNat, hn, hc'⟩ := by
    rw [Rat.mk_eq_divInt, ← Rat.divInt_eq_div]
    have hq' : ((q.toNat : Nat) : Int) = q := by omega
    rw [hq', Rat.divInt_eq_divInt_iff hl (by omega)]
    exact h.symm
  rw [e]
  exact ⟨rfl, by show ((q.toNat : Nat) : Int) = q; omega⟩
def pt (r : Rat) : D := .tup [.int r.num, .int ((r.den : Nat) : Int)]
theorem pt_pq {t l : Int} (hl : l ≠ 0) : D.tup [.int (pq t l).1, .int (pq t l).2] = pt ((t : Rat) / (l : Rat)) := by
  obtain ⟨h1, h2⟩ := rat_of hl (pq_pos (t := t) hl) (pq_cop hl) (pq_cross t l)
  unfold pt
  rw [h1, h2]
theorem rat_eq (a : Rat) : a = (a.num : Rat) / (a.den : Rat) := by rw [← Rat.mkRat_eq_div, Rat.mkRat_self]
theorem den_ne (a : Rat) : (a.den : Rat) ≠ 0 := fun e => by have := Rat.natCast_eq_zero_iff.mp e; have := a.den_pos; omega
theorem num_zero {a : Rat} : a.num = 0 ↔ a = 0 := Rat.num_eq_zero
/-- fits -/
structure Fi (r : Rat) : Prop where
  a : r.num.natAbs < 2 ^ 4400
  b : r.den < 2 ^ 4400
theorem _root_.RP.Bd.fi {D B : Nat} {r : Rat} (h : Bd D B r) (h1 : D < 2 ^ 4400) (h2 : B < 2 ^ 4400) : Fi r := by
  obtain ⟨k, rfl, hk, hD⟩ := h
  have hl : (D : Int) ≠ 0 := by omega
  have e : ((k : Rat) / (D : Rat)) = (k : Rat) / ((D : Int) : Rat) := by rw [Rat.intCast_natCast]
  obtain ⟨e1, e2⟩ := rat_of hl (pq_pos (t := k) hl) (pq_cop hl) (pq_cross k D)
  have a1 := natAbs_le_of_mul (pq1 k D) (gOf_ne hl)
  have a2 := natAbs_le_of_mul (pq2 k D) (gOf_ne hl)
  refine ⟨?_, ?_⟩
  · rw [e, e1]
    exact Nat.lt_of_le_of_lt (Nat.le_trans a1 hk) h2
  · rw [e]
    have : (((k : Rat) / ((D : Int) : Rat)).den : Int) = (pq k D).2 := e2
    have p := pq_pos (t := k) hl
    have : ((k : Rat) / ((D : Int) : Rat)).den = (pq k D).2.natAbs := by omega
    rw [this]
    exact Nat.lt_of_le_of_lt (Nat.le_trans a2 (by omega)) h1
theorem gc_self {d : D} {G : Gs} : gcR G.length (.ok d G) = .ok d G := by
  show (if (free d && clean G.length G) = true then (R.ok d (G.take G.length) : R D) else .ok d G) = _
  split
  · rw [List.take_length]
  · rfl
theorem gc_exc {c : Nat} {G : Gs} : gcR G.length (.exc c G : R D) = .exc c G := by
  show (if clean G.length G = true then (R.exc c (G.take G.length) : R D) else .exc c G) = _
  split
  · rw [List.take_length]
  · rfl
theorem cal_shared (n : Nat) (a b : Int) (G : Gs) : (Sa (n + 1)).cal 0 [.int a, .int b] G = .ok (.int (Nat.gcd a.natAbs b.natAbs : Nat)) G := by
  show runFn (Sa n) m_shared [.int a, .int b] G = _
  exact (run_d m_shared (ρ := [some (.int a), some (.int b)]) rfl rfl (b_ret (s_ret (x_prim (x_es x_v (x_es x_v x_es0)) rfl)))).trans gc_self
theorem cal_part (n : Nat) (t l : Int) (G : Gs) (h0 : l ≠ 0) (hb : okDiv (gOf t l) = true) : (Sa (n + 2)).cal 1 [.int t, .int l] G = .ok (pt ((t : Rat) / (l : Rat))) G := by
  show runFn (Sa (n + 1)) m_part [.int t, .int l] G = _
  rw [← pt_pq h0, show pq t l = (t.fdiv (gOf t l), l.fdiv (gOf t l)) from rfl]
  generalize hg : gOf t l = g at hb ⊢
  have d1 : ∀ i, binD .fdiv (.int i) (.int g) = some (.int (i.fdiv g)) := fun i => bd i g hb
  unfold gOf at hg
  by_cases hl : l < 0
  · rw [if_pos hl] at hg
    simp [runFn, m_part, evE, evEs, evB, evS, rb, rof, rgo, rth, rtr, clt, ceq, eqD_int, h0, hl, cal_shared, PV.assign, szl, hg, d1, gc_self]
  · rw [if_neg hl] at hg
    simp [runFn, m_part, evE, evEs, evB, evS, rb, rof, rgo, rth, rtr, clt, ceq, eqD_int, h0, hl, cal_shared, PV.assign, szl, hg, d1, gc_self]
theorem cal_part0 (n : Nat) (t : Int) (G : Gs) : (Sa (n + 2)).cal 1 [.int t, .int 0] G = .exc 0 G := by
  show runFn (Sa (n + 1)) m_part [.int t, .int 0] G = _
  simp [runFn, m_part, evE, evEs, evB, evS, rb, rof, rgo, rth, rtr, clt, ceq, eqD_int, F.then, gc_exc]
theorem run_ret (S : PV.Sem) (e : PV.E) (ρ : PV.Env) (G : Gs) : (match evB S [.ret e] ρ G with | .next _ G' => (.ok .non G' : R D) | .ret d G' => .ok d G' | .exc c G' => .exc c G' | _ => .bad) = evE S ρ e G := by
  simp only [evB, evS]
  cases evE S ρ e G <;> rfl
theorem run_e (S : PV.Sem) (f : Fn) {e : PV.E} (hf : f.body = [.ret e]) {args : List D} {ρ : PV.Env} {G : Gs} {r : R D} (h : args.length = f.np) (hρ : args.map some ++ List.replicate (f.ns - f.np) none = ρ) (he : evE S ρ e G = r) : runFn S f args G = gcR G.length r := by
  subst hρ he
  unfold runFn
  rw [if_pos h, hf]
  exact congrArg (gcR G.length) (run_ret S e _ G)
theorem ix0 (G : Gs) (p : Rat) : ixD G (pt p) (.int 0) = some (.int p.num) := rfl
theorem ix1 (G : Gs) (p : Rat) : ixD G (pt p) (.int 1) = some (.int ((p.den : Nat) : Int)) := rfl
theorem ok_nd {a b : Rat} (ha : Fi a) (hb : Fi b) : okMul a.num ((b.den : Nat) : Int) = true := ok_mul (m := 4400) (k := 4400) ha.1 (by have := hb.2; simpa using this) (by decide)
theorem ok_dd {a b : Rat} (ha : Fi a) (hb : Fi b) : okMul ((a.den : Nat) : Int) ((b.den : Nat) : Int) = true := ok_mul (m := 4400) (k := 4400) (by have := ha.2; simpa using this) (by have := hb.2; simpa using this) (by decide)
theorem ok_nn {a b : Rat} (ha : Fi a) (hb : Fi b) : okMul a.num b.num = true := ok_mul (m := 4400) (k := 4400) ha.1 hb.1 (by decide)
theorem ok_dn {a b : Rat} (ha : Fi a) (hb : Fi b) : okMul ((a.den : Nat) : Int) b.num = true := ok_mul (m := 4400) (k := 4400) (by have := ha.2; simpa using this) hb.1 (by decide)
theorem dd_lt {a b : Rat} (ha : Fi a) (hb : Fi b) : (((a.den : Nat) : Int) * ((b.den : Nat) : Int)).natAbs < 2 ^ (4400 + 4400) := mul_lt2 (by have := ha.2; simpa using this) (by have := hb.2; simpa using this)
theorem dd_pos (a b : Rat) : 0 < ((a.den : Nat) : Int) * ((b.den : Nat) : Int) := Int.mul_pos (by have := a.den_pos; omega) (by have := b.den_pos; omega)
theorem cal_plus (n : Nat) {a b : Rat} (G : Gs) (ha : Fi a) (hb : Fi b) : (Sa (n + 3)).cal 2 [pt a, pt b] G = .ok (pt (a + b)) G := by
  have e : (Sa (n + 3)).cal 2 [pt a, pt b] G = _ := run_e (Sa (n + 2)) m_plus rfl (ρ := [some (pt a), some (pt b)]) rfl rfl
    (x_call (x_es (x_bin (x_bin (x_ix x_v x_c (ix0 _ a)) (x_ix x_v x_c (ix1 _ b)) (bm _ _ (ok_nd ha hb))) (x_bin (x_ix x_v x_c (ix0 _ b)) (x_ix x_v x_c (ix1 _ a)) (bm _ _ (ok_nd hb ha))) (ba _ _)) (x_es (x_bin (x_ix x_v x_c (ix1 _ a)) (x_ix x_v x_c (ix1 _ b)) (bm _ _ (ok_dd ha hb))) x_es0)) (cal_part n _ _ G (by have := dd_pos a b; omega) (ok_div (dd_pos a b) (dd_lt ha hb) (by decide))))
  rw [e, gc_self]
  congr 2
  rw [Rat.intCast_add, Rat.intCast_mul, Rat.intCast_mul, Rat.intCast_mul, Rat.intCast_natCast, Rat.intCast_natCast]
  have h1 := den_ne a
  have h2 := den_ne b
  conv => rhs; rw [rat_eq a, rat_eq b]
  grind
theorem cal_minus (n : Nat) {a b : Rat} (G : Gs) (ha : Fi a) (hb : Fi b) : (Sa (n + 3)).cal 3 [pt a, pt b] G = .ok (pt (a - b)) G := by
  have e : (Sa (n + 3)).cal 3 [pt a, pt b] G = _ := run_e (Sa (n + 2)) m_minus rfl (ρ := [some (pt a), some (pt b)]) rfl rfl
    (x_call (x_es (x_bin (x_bin (x_ix x_v x_c (ix0 _ a)) (x_ix x_v x_c (ix1 _ b)) (bm _ _ (ok_nd ha hb))) (x_bin (x_ix x_v x_c (ix0 _ b)) (x_ix x_v x_c (ix1 _ a)) (bm _ _ (ok_nd hb ha))) (bs _ _)) (x_es (x_bin (x_ix x_v x_c (ix1 _ a)) (x_ix x_v x_c (ix1 _ b)) (bm _ _ (ok_dd ha hb))) x_es0)) (cal_part n _ _ G (by have := dd_pos a b; omega) (ok_div (dd_pos a b) (dd_lt ha hb) (by decide))))
  rw [e, gc_self]
  congr 2
  rw [Rat.intCast_sub, Rat.intCast_mul, Rat.intCast_mul, Rat.intCast_mul, Rat.intCast_natCast, Rat.intCast_natCast]
  have h1 := den_ne a
  have h2 := den_ne b
  conv => rhs; rw [rat_eq a, rat_eq b]
  grind
theorem cal_times (n : Nat) {a b : Rat} (G : Gs) (ha : Fi a) (hb : Fi b) : (Sa (n + 3)).cal 4 [pt a, pt b] G = .ok (pt (a * b)) G := by
  have e : (Sa (n + 3)).cal 4 [pt a, pt b] G = _ := run_e (Sa (n + 2)) m_times rfl (ρ := [some (pt a), some (pt b)]) rfl rfl
    (x_call (x_es (x_bin (x_ix x_v x_c (ix0 _ a)) (x_ix x_v x_c (ix0 _ b)) (bm _ _ (ok_nn ha hb))) (x_es (x_bin (x_ix x_v x_c (ix1 _ a)) (x_ix x_v x_c (ix1 _ b)) (bm _ _ (ok_dd ha hb))) x_es0)) (cal_part n _ _ G (by have := dd_pos a b; omega) (ok_div (dd_pos a b) (dd_lt ha hb) (by decide))))
  rw [e, gc_self]
  congr 2
  rw [Rat.intCast_mul, Rat.intCast_mul, Rat.intCast_natCast, Rat.intCast_natCast]
  have h1 := den_ne a
  have h2 := den_ne b
  conv => rhs; rw [rat_eq a, rat_eq b]
  grind
theorem ok_div0 {t l : Int} {m : Nat} (hl : l ≠ 0) (hb : l.natAbs < 2 ^ m) (hm : m ≤ 9000) (hs : 0 < l ∨ l.natAbs < 1073741824) : okDiv (gOf t l) = true := by
  rcases hs with h | h
  · exact ok_div h hb hm
  · have h1 := natAbs_le_of_mul (fdiv_mul (gOf_dvd t l).2) (gOf_ne hl)
    have h2 : (gOf t l).natAbs ≤ l.natAbs := by
      have := Nat.gcd_le_right t.natAbs (show 0 < l.natAbs by omega)
      unfold gOf
      split <;> omega
    exact okDiv_small (gOf_ne hl) (by omega)
/-- a share; what it is by is no nought, and above or small -/
theorem cal_over (n : Nat) {a b : Rat} (G : Gs) (ha : Fi a) (hb : Fi b) (h0 : b ≠ 0) (hs : 0 < b.num ∨ (((a.den : Nat) : Int) * b.num).natAbs < 1073741824) : (Sa (n + 3)).cal 5 [pt a, pt b] G = .ok (pt (a / b)) G := by
  have hn : b.num ≠ 0 := fun e => h0 (num_zero.mp e)
  have hd : ((a.den : Nat) : Int) ≠ 0 := by have := a.den_pos; omega
  have hl : ((a.den : Nat) : Int) * b.num ≠ 0 := Int.mul_ne_zero hd hn
  have e : (Sa (n + 3)).cal 5 [pt a, pt b] G = _ := run_e (Sa (n + 2)) m_over rfl (ρ := [some (pt a), some (pt b)]) rfl rfl
    (x_call (x_es (x_bin (x_ix x_v x_c (ix0 _ a)) (x_ix x_v x_c (ix1 _ b)) (bm _ _ (ok_nd ha hb))) (x_es (x_bin (x_ix x_v x_c (ix1 _ a)) (x_ix x_v x_c (ix0 _ b)) (bm _ _ (ok_dn ha hb))) x_es0)) (cal_part n _ _ G hl (ok_div0 (m := 4400 + 4400) hl (mul_lt2 (by have := ha.2; simpa using this) hb.1) (by decide) (by
      rcases hs with h | h
      · exact .inl (Int.mul_pos (by omega) h)
      · exact .inr h))))
  rw [e, gc_self]
  congr 2
  rw [Rat.intCast_mul, Rat.intCast_mul, Rat.intCast_natCast, Rat.intCast_natCast]
  have h1 := den_ne a
  have h2 := den_ne b
  have h3 : (b.num : Rat) ≠ 0 := fun e => hn (Rat.intCast_eq_zero_iff.mp e)
  conv => rhs; rw [rat_eq a, rat_eq b]
  grind
theorem cal_over0 (n : Nat) {a : Rat} (G : Gs) (ha : Fi a) : (Sa (n + 3)).cal 5 [pt a, pt 0] G = .exc 0 G := by
  have hz : Fi 0 := ⟨by show 0 < _; exact Nat.pow_pos (by decide), by show 1 < 2 ^ 4400; exact Nat.one_lt_two_pow (by decide)⟩
  refine (run_e (r := .exc 0 G) (Sa (n + 2)) m_over rfl (ρ := [some (pt a), some (pt 0)]) rfl rfl
    (x_call (x_es (x_bin (x_ix x_v x_c (ix0 _ a)) (x_ix x_v x_c (ix1 _ 0)) (bm _ _ (ok_nd ha hz))) (x_es (x_bin (x_ix x_v x_c (ix1 _ a)) (x_ix x_v x_c (ix0 _ 0)) (bm _ _ (ok_dn ha hz))) x_es0)) ?_)).trans gc_exc
  have e0 : ((a.den : Nat) : Int) * (0 : Rat).num = 0 := Int.mul_zero _
  rw [e0]
  exact cal_part0 n _ G
end LK
end
/-! ## R3 -/
section
set_option Elab.async false
set_option linter.all false
set_option maxRecDepth 200000
set_option maxHeartbeats 8000000
set_option exponentiation.threshold 300
namespace LK
open PySem PV RP
/-! curves -/
def cv (l : List Rat) : D := .tup (l.map pt)
def lv (l : List Rat) : D := .lst (l.map pt)
def FiL (l : List Rat) : Prop := ∀ r ∈ l, Fi r
theorem pt_int (k : Int) : D.tup [.int k, .int 1] = pt (k : Rat) := rfl
theorem pt0 : D.tup [.int 0, .int 1] = pt 0 := rfl
theorem pt1 : D.tup [.int 1, .int 1] = pt 1 := rfl
theorem fi_small {k : Int} (h : k.natAbs < 1000) : Fi (k : Rat) := ⟨by
  rw [Rat.num_intCast]
  exact Nat.lt_of_lt_of_le (show k.natAbs < 2 ^ 10 by omega) (Nat.pow_le_pow_right (by decide) (by decide)), by
  rw [Rat.den_intCast]
  exact Nat.one_lt_two_pow (by decide)⟩
theorem fi0 : Fi 0 := fi_small (k := 0) (by decide)
theorem fi1 : Fi 1 := fi_small (k := 1) (by decide)
theorem ix_cv {G : Gs} {l : List Rat} {k : Nat} {r : Rat} (h : l[k]? = some r) : ixD G (cv l) (.int (k : Int)) = some (pt r) := by
  show L2.atI (l.map pt) (k : Int) = _
  exact L2.atI_nat (by rw [List.getElem?_map, h]; rfl)
theorem ix_lv {G : Gs} {l : List Rat} {k : Nat} {r : Rat} (h : l[k]? = some r) : ixD G (lv l) (.int (k : Int)) = some (pt r) := by
  show L2.atI (l.map pt) (k : Int) = _
  exact L2.atI_nat (by rw [List.getElem?_map, h]; rfl)
theorem ix_last {G : Gs} {l : List Rat} {r : Rat} : ixD G (cv (l ++ [r])) (.int (-1)) = some (pt r) := by
  show L2.atI ((l ++ [r]).map pt) (-1) = _
  rw [List.map_append]
  exact L2.atI_last _ _
theorem cut_take {α : Type} (l : List D) (j : Nat) : cutD l none (some (j : Int)) = l.take j := by
  unfold cutD
  rw [HT.sIx_nat, HT.sIx_none, List.drop_zero, Nat.sub_zero]
  by_cases h : j ≤ l.length
  · rw [Nat.min_eq_left h]
  · rw [Nat.min_eq_right (by omega), List.take_length, List.take_of_length_le (by omega)]
theorem sl_cv (l : List Rat) (j : Nat) : slD (cv l) none (some (j : Int)) = some (cv (l.take j)) := by
  show some (D.tup (cutD (l.map pt) none (some (j : Int)))) = _
  rw [cut_take (α := Nat), ← List.map_take]
  rfl
theorem sl_lst (l : List D) (j : Nat) : slD (.lst l) none (some (j : Int)) = some (.lst (l.take j)) := by
  show some (D.lst (cutD l none (some (j : Int)))) = _
  rw [cut_take (α := Nat)]
theorem len_cv {G : Gs} (l : List Rat) : prim G .len [cv l] = some (.int (l.length : Nat)) := by
  show (some (D.int ((l.map pt).length : Nat))) = _
  rw [List.length_map]
theorem part_id (n : Nat) (G : Gs) {r : Rat} (h : Fi r) : (Sa (n + 2)).cal 1 [.int r.num, .int ((r.den : Nat) : Int)] G = .ok (pt r) G := by
  have hd := r.den_pos
  rw [cal_part n _ _ G (by omega) (ok_div (m := 4400) (by omega) (by have := h.2; simpa using this) (by decide)), Rat.intCast_natCast, ← rat_eq]
theorem cal_small (n : Nat) (G : Gs) {x : D} {l : List Rat} (hx : walkOf x = some (l.map pt)) (hf : FiL l) (hl : l.length < 1000) : (Sa (n + 3)).cal 8 [x] G = .ok (cv l) G := by
  have c : evE (Sa (n + 2)) [some x, none] (.comp [1] (.call 1 [.ix (.var 1) (.con (.int 0)), .ix (.var 1) (.con (.int 1))]) (.nm 1) (.seq (.var 0)) []) G = .ok (.lst (l.map pt)) G :=
    comp_map l pt pt (fun r => [some x, some (pt r)]) (i_seq x_v hx) (fun r _ => rfl) (fun r hr => x_call (x_es (x_ix x_v x_c (ix0 _ r)) (x_es (x_ix x_v x_c (ix1 _ r)) x_es0)) (part_id n G (hf r hr))) (by rw [szl]; omega)
  exact (run_d m_small_row (args := [x]) (S := Sa (n + 2)) (ρ := [some x, none]) rfl rfl (b_ret (s_ret (x_prim (x_es c x_es0) rfl)))).trans gc_self
theorem wh_stop {S : PV.Sem} {c : PV.Env → Gs → R D} {f : PV.Env → Gs → F} {m : Nat} {ρ : PV.Env} {G G1 : Gs} (h : c ρ G = .ok (.bl false) G1) : whL c f (m + 1) ρ G = .next ρ G1 := by
  show (c ρ G).go _ = _
  rw [h]; rfl
theorem wh_go {S : PV.Sem} {c : PV.Env → Gs → R D} {f : PV.Env → Gs → F} {m : Nat} {ρ ρ1 : PV.Env} {G G1 G2 : Gs} {r : F} (h : c ρ G = .ok (.bl true) G1) (h2 : f ρ G1 = .next ρ1 G2) (h3 : whL c f m ρ1 G2 = r) : whL c f (m + 1) ρ G = r := by
  show (c ρ G).go _ = _
  rw [h]
  show (match f ρ G1 with | .next ρ' G' => whL c f m ρ' G' | .cont ρ' G' => whL c f m ρ' G' | .brk ρ' G' => .next ρ' G' | .ret d G' => .ret d G' | .exc c G' => .exc c G' | .bad => .bad) = r
  rw [h2]
  exact h3
def cvTest : PV.E := .and (.cmp .gt (.var 2) (.con (.int 0))) (.cmp .eq (.ix (.ix (.var 1) (.bin .sub (.var 2) (.con (.int 1)))) (.con (.int 0))) (.con (.int 0)))
theorem loop_curve (S : PV.Sem) (x : Option D) (l : List Rat) (G : Gs) : ∀ (k m : Nat), k ≤ l.length → trim (l.take k) = trim l → k < m →
    whL (fun ρ1 G1 => evE S ρ1 cvTest G1) (fun ρ1 G1 => evB S [.aug 2 .sub (.con (.int 1))] ρ1 G1) m [x, some (cv l), some (.int (k : Nat))] G = .next [x, some (cv l), some (.int ((trim l).length : Nat))] G ∧ l.take (trim l).length = trim l
  | 0, m + 1, _, h, _ => by
    have e : trim l = [] := h.symm
    rw [e]
    exact ⟨wh_stop (S := S) (x_andf (x_cmp x_v x_c rfl)), rfl⟩
  | k + 1, m + 1, hk, h, hm => by
    have hr : l[k]? = some (l[k]'(by omega)) := List.getElem?_eq_getElem (by omega)
    generalize l[k]'(by omega) = r at hr
    have ht : l.take (k + 1) = l.take k ++ [r] := by
      rw [List.take_add_one, hr]; rfl
    have hg : cmpD .gt (.int ((k + 1 : Nat) : Int)) (.int 0) = some true := by rw [cgt, decide_eq_true (by omega)]
    have hi : ixD G (cv l) (.int (((k + 1 : Nat) : Int) - 1)) = some (pt r) := by
      have : ((k + 1 : Nat) : Int) - 1 = (k : Nat) := by omega
      rw [this]; exact ix_cv hr
    by_cases h0 : r = 0
    · subst h0
      have t2 : trim (l.take k) = trim l := by rw [← h, ht, trim_snoc0]
      obtain ⟨i1, i2⟩ := loop_curve S x l G k m (by omega) t2 (by omega)
      refine ⟨?_, i2⟩
      refine wh_go (S := S) (ρ1 := [x, some (cv l), some (.int (k : Nat))]) (G1 := G) (G2 := G) (x_andt (x_cmp x_v x_c hg) (x_cmp (x_ix (x_ix x_v (x_bin x_v x_c (bs _ _)) hi) x_c (ix0 _ 0)) x_c rfl)) ?_ i1
      show F.then (.next [x, some (cv l), some (.int (((k + 1 : Nat) : Int) - 1))] G) _ = _
      have : ((k + 1 : Nat) : Int) - 1 = (k : Nat) := by omega
      rw [this]; rfl
    · have t2 : trim l = l.take (k + 1) := by rw [← h, ht, trim_snoc h0]
      have hlen : (trim l).length = k + 1 := by rw [t2, List.length_take]; omega
      refine ⟨?_, by rw [hlen]; exact t2.symm⟩
      rw [hlen]
      refine wh_stop (S := S) (x_andt (x_cmp x_v x_c hg) (x_cmp (x_ix (x_ix x_v (x_bin x_v x_c (bs _ _)) hi) x_c (ix0 _ r)) x_c ?_))
      rw [ceq, eqD_int, decide_eq_false (fun e => h0 (num_zero.mp e))]
theorem cal_curve (n : Nat) (G : Gs) {x : D} {l : List Rat} (hx : walkOf x = some (l.map pt)) (hf : FiL l) (hl : l.length < 1000) : (Sa (n + 4)).cal 11 [x] G = .ok (cv (trim l)) G := by
  obtain ⟨w, t⟩ := loop_curve (Sa (n + 3)) (some x) l G l.length 100000 (Nat.le_refl _) (by rw [List.take_length]) (by omega)
  have hs : slD (cv l) none (some (((trim l).length : Nat) : Int)) = some (cv (trim l)) := by rw [sl_cv, t]
  exact (run_d m_curve (args := [x]) (S := Sa (n + 3)) (ρ := [some x, none, none]) rfl rfl
    (b_next (s_set (x_call (x_es x_v x_es0) (cal_small n G hx hf hl))) (b_next (s_set (x_prim (x_es x_v x_es0) (len_cv l))) (b_next w (b_ret (s_ret (x_sl1 x_v x_v hs))))))).trans gc_self
theorem cal_power (n : Nat) (G : Gs) (l : List Rat) : (Sa (n + 1)).cal 12 [cv l] G = .ok (.int ((l.length : Nat) - 1)) G :=
  (run_d m_power_of (args := [cv l]) (S := Sa n) (ρ := [some (cv l)]) rfl rfl (b_ret (s_ret (x_bin (x_prim (x_es x_v x_es0) (len_cv l)) x_c (bs _ _))))).trans gc_self
theorem cal_part_at (n : Nat) (G : Gs) (l : List Rat) (k : Nat) : (Sa (n + 1)).cal 13 [cv l, .int (k : Nat)] G = .ok (pt (l.getD k 0)) G := by
  have h0 : cmpD .le (.int 0) (.int (k : Nat)) = some true := by rw [cle, decide_eq_true (by omega)]
  by_cases hk : k < l.length
  · have hr : l[k]? = some (l.getD k 0) := by rw [List.getD_eq_getElem?_getD, List.getElem?_eq_getElem hk]; rfl
    exact (run_d m_part_at (args := [cv l, .int (k : Nat)]) (S := Sa n) (ρ := [some (cv l), some (.int (k : Nat))]) rfl rfl (b_ret (s_itet (x_cht x_c x_v h0 (x_prim (x_es x_v x_es0) (len_cv l)) (by rw [clt, decide_eq_true (by omega)])) (b_ret (s_ret (x_ix x_v x_v (ix_cv hr))))))).trans gc_self
  · have hr : l.getD k 0 = 0 := by rw [List.getD_eq_getElem?_getD, List.getElem?_eq_none (by omega)]; rfl
    rw [hr]
    exact (run_d m_part_at (args := [cv l, .int (k : Nat)]) (S := Sa n) (ρ := [some (cv l), some (.int (k : Nat))]) rfl rfl (b_next (s_if0 (x_cht x_c x_v h0 (x_prim (x_es x_v x_es0) (len_cv l)) (by rw [clt, decide_eq_false (by omega)]))) (b_ret (s_ret (x_tup (x_es x_c (x_es x_c x_es0))))))).trans gc_self
/-- the power below nought -/
theorem cal_part_neg (n : Nat) (G : Gs) (l : List Rat) : (Sa (n + 1)).cal 13 [cv l, .int (-1)] G = .ok (pt 0) G :=
  (run_d m_part_at (args := [cv l, .int (-1)]) (S := Sa n) (ρ := [some (cv l), some (.int (-1))]) rfl rfl (b_next (s_if0 (x_chf x_c x_v rfl)) (b_ret (s_ret (x_tup (x_es x_c (x_es x_c x_es0))))))).trans gc_self
def addR (p q : List Rat) : List Rat := (List.range (max p.length q.length)).map fun k => p.getD k 0 + q.getD k 0
theorem add_get : ∀ (p q : List Rat) (k : Nat), k < max p.length q.length → (addP p q)[k]? = some (p.getD k 0 + q.getD k 0)
  | [], q, k, h => by
    have : addP [] q = q := by cases q <;> rfl
    rw [this]
    have hk : k < q.length := by simpa using h
    rw [List.getD_eq_getElem?_getD, List.getD_eq_getElem?_getD, List.getElem?_eq_getElem hk]
    show some _ = some ((0 : Rat) + _)
    congr 1
    show _ = (0 : Rat) + q[k]
    grind
  | a :: p, [], k, h => by
    have hk : k < (a :: p).length := by simpa using h
    show (a :: p)[k]? = some ((a :: p).getD k 0 + ([] : List Rat).getD k 0)
    rw [List.getD_eq_getElem?_getD, List.getElem?_eq_getElem hk]
    congr 1
    show _ = (a :: p)[k] + (0 : Rat)
    grind
  | a :: p, b :: q, 0, h => rfl
  | a :: p, b :: q, k + 1, h => by
    show (addP p q)[k]? = some (p.getD k 0 + q.getD k 0)
    exact add_get p q k (by simp only [List.length_cons] at h; omega)
theorem addR_eq (p q : List Rat) : addR p q = addP p q := by
  apply List.ext_getElem?
  intro k
  unfold addR
  rw [List.getElem?_map]
  by_cases h : k < max p.length q.length
  · rw [List.getElem?_range h, add_get p q k h]; rfl
  · rw [List.getElem?_eq_none (by rw [List.length_range]; omega), List.getElem?_eq_none (by rw [add_len]; omega)]; rfl
theorem getD_mem {l : List Rat} {P : Rat → Prop} (h0 : P 0) (h : ∀ r ∈ l, P r) (k : Nat) : P (l.getD k 0) := by
  rw [List.getD_eq_getElem?_getD]
  cases e : l[k]? with
  | none => exact h0
  | some r => exact h r (List.mem_of_getElem? e)
theorem cal_scaled (n : Nat) (G : Gs) {p : List Rat} {c : Rat} (hp : FiL p) (hc : Fi c) (hs : FiL (scP c p)) (hl : p.length < 1000) : (Sa (n + 5)).cal 14 [cv p, pt c] G = .ok (cv (trim (scP c p))) G := by
  have e : evE (Sa (n + 4)) [some (cv p), some (pt c), none] (.comp [2] (.call 4 [.var 2, .var 1]) (.nm 2) (.seq (.var 0)) []) G = .ok (.lst (p.map fun r => pt (r * c))) G :=
    comp_map p pt _ (fun r => [some (cv p), some (pt c), some (pt r)]) (i_seq x_v) (fun r _ => rfl) (fun r hr => x_call (x_es x_v (x_es x_v x_es0)) (cal_times (n + 1) G (hp r hr) hc)) (by rw [szl]; omega)
  have hlst : D.lst (p.map fun r => pt (r * c)) = lv (scP c p) := by
    unfold lv scP
    rw [List.map_map]
    congr 1
    refine List.map_congr_left fun r _ => ?_
    show pt (r * c) = pt (c * r)
    rw [Rat.mul_comm]
  rw [hlst] at e
  exact (run_d m_scaled_curve (args := [cv p, pt c]) (S := Sa (n + 4)) (ρ := [some (cv p), some (pt c), none]) rfl rfl (b_ret (s_ret (x_call (x_es e x_es0) (cal_curve n G rfl hs (by unfold scP; rw [List.length_map]; omega)))))).trans gc_self
end LK
end
/-! ## R4 -/
section
set_option Elab.async false
set_option linter.all false
set_option maxRecDepth 200000
set_option maxHeartbeats 8000000
set_option exponentiation.threshold 300
namespace LK
open PySem PV RP
theorem forL_inv {α : Type} (f : D → PV.Env → Gs → F) (a : α → D) (P : List α → PV.Env → Gs → Prop) : ∀ (r s : List α) (ρ : PV.Env) (G : Gs), P s ρ G → (∀ s' c t ρ G, s ++ r = s' ++ c :: t → P s' ρ G → ∃ ρ' G', f (a c) ρ G = .next ρ' G' ∧ P (s' ++ [c]) ρ' G') → ∃ ρ' G', forL f (r.map a) ρ G = .next ρ' G' ∧ P (s ++ r) ρ' G'
  | [], s, ρ, G, h, _ => ⟨ρ, G, rfl, by rw [List.append_nil]; exact h⟩
  | c :: r, s, ρ, G, h, st => by
    obtain ⟨ρ1, G1, e, h1⟩ := st s c r ρ G rfl h
    obtain ⟨ρ2, G2, e2, h2⟩ := forL_inv f a P r (s ++ [c]) ρ1 G1 h1 fun s' c' t ρ G hs hP => st s' c' t ρ G (by rw [← hs]; simp) hP
    exact ⟨ρ2, G2, forL_next e e2, by have : s ++ [c] ++ r = s ++ c :: r := by simp
                                      rw [← this]; exact h2⟩
theorem i_rev {S : PV.Sem} {ρ : PV.Env} {G G1 : Gs} {a : PV.E} {x : D} {ds : List D} (h1 : evE S ρ a G = .ok x G1) (h2 : seqOf x = some ds) : evI S ρ (.revI a) G = .ok ds.reverse G1 := by simp only [evI, h1, rb, h2]
/-! bounds of worths -/
def LB (D B N : Nat) (l : List Rat) : Prop := 0 < D ∧ l.length ≤ N ∧ ∀ r ∈ l, Bd D B r
def X (B E C : Nat) : Nat → Nat
  | 0 => 0
  | n + 1 => B * E ^ (n + 1) + C * X B E C n
theorem ev_Bd {D B E C : Nat} {x : Rat} (hD : 0 < D) (hx : Bd E C x) : ∀ (n : Nat) (v : List Rat), v.length ≤ n → (∀ r ∈ v, Bd D B r) → Bd (D * E ^ n) (X B E C n) (ev v x)
  | n, [], _, _ => by
    obtain ⟨_, _, _, hE⟩ := hx
    exact (Bd.zero (Nat.mul_pos hD (Nat.pow_pos hE))).mono (Nat.zero_le _)
  | 0, a :: v, h, _ => by cases h
  | n + 1, a :: v, h, hv => by
    have hE : 0 < E := by obtain ⟨_, _, _, hE⟩ := hx; exact hE
    have h1 := (hv a (List.mem_cons_self ..)).up (E := E ^ (n + 1)) (Nat.pow_pos hE)
    have h2 := hx.mul (ev_Bd hD hx n v (by simpa using h) fun r hr => hv r (List.mem_cons_of_mem _ hr))
    have e : E * (D * E ^ n) = D * E ^ (n + 1) := by rw [Nat.pow_succ]; simp [Nat.mul_comm, Nat.mul_left_comm]
    rw [e] at h2
    exact h1.add h2
theorem X_le (B E C : Nat) : ∀ n : Nat, X B E C n ≤ B * (E + C + 1) ^ (n + 1)
  | 0 => Nat.zero_le _
  | n + 1 => by
    have ih := X_le B E C n
    have h1 : E ^ (n + 1) ≤ (E + C + 1) ^ (n + 1) := Nat.pow_le_pow_left (by omega) _
    have h2 : B * E ^ (n + 1) ≤ B * (E + C + 1) ^ (n + 1) := Nat.mul_le_mul_left _ h1
    have h3 : C * X B E C n ≤ C * (B * (E + C + 1) ^ (n + 1)) := Nat.mul_le_mul_left _ ih
    show B * E ^ (n + 1) + C * X B E C n ≤ B * ((E + C + 1) ^ (n + 1) * (E + C + 1))
    generalize (E + C + 1) ^ (n + 1) = p at *
    have : B * (p * (E + C + 1)) = B * p * E + C * (B * p) + B * p := by
      rw [Nat.mul_add, Nat.mul_add, Nat.mul_add, Nat.mul_add, Nat.mul_one, ← Nat.mul_assoc, ← Nat.mul_assoc, Nat.mul_comm C (B * p)]
    omega
structure Lim (m : Nat) : Prop where
  a : m < 2 ^ 4400
/-- one bound for all -/
abbrev MM (D B E C N : Nat) : Nat := D * (B + 1) * (E + C + 1) ^ (N + 3)
section
variable {D B E C N : Nat}
theorem pow_pos' : 0 < (E + C + 1) ^ (N + 3) := Nat.pow_pos (by omega)
theorem mm_den {n : Nat} (hn : n ≤ N + 3) : D * E ^ n ≤ MM D B E C N := by
  have h1 : E ^ n ≤ (E + C + 1) ^ (N + 3) := Nat.le_trans (Nat.pow_le_pow_left (by omega) _) (Nat.pow_le_pow_right (by omega) hn)
  have h2 : D ≤ D * (B + 1) := Nat.le_mul_of_pos_right _ (by omega)
  exact Nat.mul_le_mul h2 h1
theorem mm_num {n k : Nat} (hD : 0 < D) (h : k ≤ B * (E + C + 1) ^ n) (hn : n ≤ N + 3) : k ≤ MM D B E C N := by
  have h1 : (E + C + 1) ^ n ≤ (E + C + 1) ^ (N + 3) := Nat.pow_le_pow_right (by omega) hn
  have h2 : B * (E + C + 1) ^ n ≤ (B + 1) * (E + C + 1) ^ (N + 3) := Nat.mul_le_mul (by omega) h1
  exact Nat.le_trans h (Nat.le_trans h2 (Nat.mul_le_mul_right _ (Nat.le_mul_of_pos_left _ hD)))
theorem mm_pow {n : Nat} (hD : 0 < D) (hn : n ≤ N + 3) : E ^ n ≤ MM D B E C N ∧ C ^ n ≤ MM D B E C N := by
  have h1 : E ^ n ≤ (E + C + 1) ^ (N + 3) := Nat.le_trans (Nat.pow_le_pow_left (by omega) _) (Nat.pow_le_pow_right (by omega) hn)
  have h1' : C ^ n ≤ (E + C + 1) ^ (N + 3) := Nat.le_trans (Nat.pow_le_pow_left (by omega) _) (Nat.pow_le_pow_right (by omega) hn)
  have h3 : (E + C + 1) ^ (N + 3) ≤ D * (B + 1) * (E + C + 1) ^ (N + 3) := Nat.le_mul_of_pos_left _ (Nat.mul_pos hD (by omega))
  exact ⟨Nat.le_trans h1 h3, Nat.le_trans h1' h3⟩
theorem _root_.RP.Bd.fi' {D B M : Nat} {r : Rat} (h : Bd D B r) (h1 : D ≤ M) (h2 : B ≤ M) (hM : Lim M) : Fi r := h.fi (Nat.lt_of_le_of_lt h1 hM.a) (Nat.lt_of_le_of_lt h2 hM.a)
variable {l : List Rat} {x : Rat} (h : LB D B N l) (hx : Bd E C x) (hM : Lim (MM D B E C N))
include h hx hM
theorem hy_ev {v : List Rat} (hv : ∀ r ∈ v, r ∈ l) (hl : v.length ≤ N) : Fi (ev v x) ∧ Fi (ev v x * x) := by
  obtain ⟨hD, _, hb⟩ := h
  have h1 := ev_Bd hD hx N v hl fun r hr => hb r (hv r hr)
  have hX := X_le B E C N
  refine ⟨h1.fi' (mm_den (by omega)) (mm_num hD hX (by omega)) hM, (h1.mul hx).fi' ?_ (mm_num (n := N + 2) hD ?_ (by omega)) hM⟩
  · have : D * E ^ N * E = D * E ^ (N + 1) := by rw [Nat.pow_succ, Nat.mul_assoc]
    rw [this]
    exact mm_den (by omega)
  · have : B * (E + C + 1) ^ (N + 2) = B * (E + C + 1) ^ (N + 1) * (E + C + 1) := by rw [Nat.pow_succ, Nat.mul_assoc]
    rw [this]
    exact Nat.mul_le_mul hX (by omega)
theorem hy_l : FiL l := fun r hr => (h.2.2 r hr).fi' (by have := mm_den (D := D) (B := B) (E := E) (C := C) (N := N) (n := 0) (by omega); simpa using this) (mm_num (n := 0) h.1 (by simp) (by omega)) hM
theorem bd_pow : ∀ k : Nat, Bd (E ^ k) (C ^ k) (x ^ k)
  | 0 => ⟨1, by rw [Nat.pow_zero]; show x ^ 0 = ((1 : Int) : Rat) / ((1 : Nat) : Rat); grind, by simp, by simp⟩
  | k + 1 => by
    have h1 := (bd_pow k).mul hx
    rw [Rat.pow_succ, Nat.pow_succ, Nat.pow_succ]
    exact h1
theorem hy_pow {k : Nat} (hk : k ≤ N + 3) : Fi (x ^ k) := (bd_pow h hx hM k).fi' (mm_pow h.1 hk).1 (mm_pow h.1 hk).2 hM
theorem hy_x : Fi x := by
  have := hy_pow h hx hM (k := 1) (by omega)
  rwa [show x ^ 1 = x by grind] at this
theorem hy_term {r : Rat} (hr : r ∈ l) {k : Nat} (hk : k ≤ N + 1) : Fi (r * x ^ k) := by
  refine ((h.2.2 r hr).mul (bd_pow h hx hM k)).fi' (mm_den (by omega)) (mm_num (n := k) h.1 ?_ (by omega)) hM
  exact Nat.mul_le_mul_left _ (Nat.pow_le_pow_left (by omega) _)
end
/-! sums, products, worths -/
theorem rep_pt (x : Rat) (k : Nat) : (List.replicate k [pt x]).flatten = (List.replicate k x).map pt := by
  induction k with
  | zero => rfl
  | succ c ih =>
    rw [List.replicate_succ, List.flatten_cons, ih]
    rfl
theorem mul_rep {x : Rat} {k : Nat} (h : k ≤ 1000) : binD .mul (.lst [pt x]) (.int (k : Nat)) = some (lv (List.replicate k x)) := by
  unfold lv
  rw [← rep_pt]
  exact if_pos ⟨by omega, by omega, by simp⟩
section
variable {D0 B E C N : Nat} {l : List Rat} {x : Rat} (h : LB D0 B N l) (hx : Bd E C x) (hM : Lim (MM D0 B E C N)) (hN : N ≤ 900)
include h hx hM hN
theorem cal_worth (n : Nat) (G : Gs) : (Sa (n + 4)).cal 17 [cv l, pt x] G = .ok (pt (ev l x)) G := by
  have hl := h.2.1
  obtain ⟨ρ', G', e, rfl, z, rfl⟩ := forL_inv (fun d ρ1 G2 => match PV.assign ρ1 (.nm 3) d with | some ρ2 => evB (Sa (n + 3)) [.set (.nm 2) (.call 2 [.call 4 [.var 2, .var 1], .var 3])] ρ2 G2 | none => .bad) pt (fun s ρ G' => G = G' ∧ ∃ z, ρ = [some (cv l), some (pt x), some (pt (ev s.reverse x)), z]) l.reverse [] [some (cv l), some (pt x), some (pt 0), none] G ⟨rfl, none, rfl⟩ fun s c t ρ G' hs' ⟨hG, z, hρ⟩ => by
    subst hG hρ
    have hlr : l.reverse = s ++ c :: t := hs'
    have hle : l = t.reverse ++ (c :: s.reverse) := by
      have := congrArg List.reverse hlr
      rw [List.reverse_reverse] at this
      rw [this]; simp
    have hv := hy_ev h hx hM (v := s.reverse) (fun r hr => by rw [hle]; simp at hr ⊢; exact .inr (.inr hr)) (by
      have := congrArg List.length hle
      simp at this ⊢
      omega)
    have hc : Fi c := hy_l h hx hM c (by rw [hle]; simp)
    exact ⟨_, _, b_next (s_set (x_call (x_es (x_call (x_es x_v (x_es x_v x_es0)) (cal_times n _ hv.1 (hy_x h hx hM))) (x_es x_v x_es0)) (cal_plus n _ hv.2 hc))) rfl, rfl, some (pt c), by
      rw [List.reverse_append]
      show _ = [_, _, some (pt (c + x * ev s.reverse x)), _]
      rw [show c + x * ev s.reverse x = ev s.reverse x * x + c by grind]
      rfl⟩
  rw [List.nil_append, List.reverse_reverse, List.map_reverse] at e
  have hi : evI (Sa (n + 3)) [some (cv l), some (pt x), some (pt 0), none] (.revI (.var 0)) G = .ok (l.map pt).reverse G := i_rev x_v rfl
  exact (run_d m_worth (args := [cv l, pt x]) (S := Sa (n + 3)) (ρ := [some (cv l), some (pt x), none, none]) rfl rfl (b_next (s_set (x_tup (x_es x_c (x_es x_c x_es0)))) (b_next (s_for hi e) (b_ret (s_ret x_v))))).trans gc_self
end
end LK
end
/-! ## R5 -/
section
set_option Elab.async false
set_option linter.all false
set_option maxRecDepth 200000
set_option maxHeartbeats 8000000
set_option exponentiation.threshold 300
namespace LK
open PySem PV RP
/-! cells -/
section
variable {S : PV.Sem} {ρ ρ1 ρ2 : PV.Env} {G G1 G2 : Gs}
theorem x_mulC {a b : PV.E} {x y : D} {l : List D} (h1 : evE S ρ a G = .ok x G1) (h2 : evE S ρ b G1 = .ok y G2) (h3 : binD .mul x y = some (.lst l)) : evE S ρ (.mulC a b) G = .ok (.cell G2.length) (G2 ++ [some (.lst l)]) := by simp only [evE, h1, h2, rb, h3]
theorem x_listC {a : PV.E} {x : D} {l : List D} (h1 : evE S ρ a G = .ok x G1) (h2 : seqOf x = some l) : evE S ρ (.listC a) G = .ok (.cell G1.length) (G1 ++ [some (.lst l)]) := by simp only [evE, h1, rb, h2]
theorem x_take {a : PV.E} {n : Nat} {l : List D} (h1 : evE S ρ a G = .ok (.cell n) G1) (h2 : G1[n]? = some (some (.lst l))) : evE S ρ (.take a) G = .ok (.lst l) (G1.set n none) := by simp only [evE, h1, rb, h2]
theorem x_pop {a : PV.E} {n : Nat} {l : List D} {y : D} (h1 : evE S ρ a G = .ok (.cell n) G1) (h2 : G1[n]? = some (some (.lst l))) (h3 : l[l.length - 1]? = some y) : evE S ρ (.pop a) G = .ok y (G1.set n (some (.lst l.dropLast))) := by simp only [evE, h1, rb, h2, h3]
theorem x_app {a b : PV.E} {n : Nat} {l l0 : List D} {y : D} (h1 : evE S ρ a G = .ok (.cell n) G1) (h2 : G1[n]? = some (some (.lst l0))) (h3 : evE S ρ b G1 = .ok y G2) (h4 : G2[n]? = some (some (.lst l))) (h5 : l.length < sizeLine) : evE S ρ (.app a b) G = .ok .non (G2.set n (some (.lst (l ++ [y])))) := by
  simp only [evE, h1, rb, h2, h3, h4]
  rw [if_pos h5]
theorem x_rev {a : PV.E} {l : List D} (h1 : evE S ρ a G = .ok (.lst l) G1) : evE S ρ (.rev a) G = .ok (.lst l.reverse) G1 := by simp only [evE, h1, rb, lstOf]
theorem x_neg {a : PV.E} {i : Int} (h1 : evE S ρ a G = .ok (.int i) G1) : evE S ρ (.neg a) G = .ok (.int (-i)) G1 := by simp only [evE, h1, rb]
theorem i_enum {a : PV.E} {l : List D} (h1 : evE S ρ a G = .ok (.tup l) G1) : evI S ρ (.enum a) G = .ok (enumD l) G1 := by simp only [evI, h1, rb]
theorem i_enumL {a : PV.E} {l : List D} (h1 : evE S ρ a G = .ok (.lst l) G1) : evI S ρ (.enum a) G = .ok (enumD l) G1 := by simp only [evI, h1, rb]
end
theorem free_pts : ∀ l : List Rat, frees (l.map pt) = true
  | [] => rfl
  | a :: l => by
    show (free (pt a) && frees (l.map pt)) = true
    rw [free_pts l]; rfl
theorem free_cv (l : List Rat) : free (cv l) = true := free_pts l
def Cl (G : Gs) : Prop := G.all freeC = true
theorem gc_drop {d : D} {G : Gs} {r : List (Option C)} (hG : Cl G) (hd : free d = true) : gcR G.length (.ok d (G ++ r)) = .ok d G := by
  show (if (free d && clean G.length (G ++ r)) = true then (R.ok d ((G ++ r).take G.length) : R D) else .ok d (G ++ r)) = _
  have hc : clean G.length (G ++ r) = true := by
    unfold clean
    rw [List.take_left]; exact hG
  rw [hd, hc, List.take_left]; rfl
theorem gc_dropx {c : Nat} {G : Gs} {r : List (Option C)} (hG : Cl G) : gcR G.length (.exc c (G ++ r) : R D) = .exc c G := by
  show (if clean G.length (G ++ r) = true then (R.exc c ((G ++ r).take G.length) : R D) else .exc c (G ++ r)) = _
  have hc : clean G.length (G ++ r) = true := by
    unfold clean
    rw [List.take_left]; exact hG
  rw [hc, List.take_left]; rfl
theorem at_end {G : Gs} {x : Option C} {r : Gs} : (G ++ x :: r)[G.length]? = some x := by simp
theorem set_end {G : Gs} {x y : Option C} {r : Gs} : (G ++ x :: r).set G.length y = G ++ y :: r := by
  rw [List.set_append_right _ _ (Nat.le_refl _), Nat.sub_self]; rfl
theorem ix_cell {G r : Gs} {l : List Rat} {k : Nat} {v : Rat} (h : l[k]? = some v) : ixD (G ++ some (.lst (l.map pt)) :: r) (.cell G.length) (.int (k : Int)) = some (pt v) := by
  show (match (G ++ some (.lst (l.map pt)) :: r)[G.length]? with
    | some (some (.lst l)) => L2.atI l (k : Int)
    | _ => none) = _
  rw [at_end]
  exact L2.atI_nat (by rw [List.getElem?_map, h]; rfl)
theorem set_cell {G r : Gs} {l : List Rat} {k : Nat} {v : Rat} (h : k < l.length) : setD (G ++ some (.lst (l.map pt)) :: r) (.cell G.length) (.int (k : Int)) (pt v) = some (G ++ some (.lst ((l.set k v).map pt)) :: r) := by
  have hi : L2.ixN (l.map pt).length (k : Int) = some k := by
    unfold L2.ixN
    rw [if_pos (by omega), if_pos (by rw [List.length_map]; omega)]
    rfl
  unfold setD
  simp only [at_end, hi]
  rw [set_end, List.map_set]
theorem rpow_add (x : Rat) (m : Nat) : ∀ n : Nat, x ^ (m + n) = x ^ m * x ^ n
  | 0 => by show x ^ m = x ^ m * x ^ 0; grind
  | n + 1 => by
    have ih := rpow_add x m n
    rw [show m + (n + 1) = (m + n) + 1 by omega, Rat.pow_succ, ih, Rat.pow_succ]
    grind
theorem enum_pt (l : List Rat) : enumD (l.map pt) = l.zipIdx.map fun x => D.tup [.int (x.2 : Nat), pt x.1] := by
  unfold enumD
  rw [List.zipIdx_map, List.map_map]
  rfl
theorem zip_at {α : Type} {l : List α} {s t : List (α × Nat)} {c : α × Nat} (h : l.zipIdx = s ++ c :: t) : c.2 = s.length ∧ l[s.length]? = some c.1 ∧ s.length < l.length := by
  have e : (l.zipIdx)[s.length]? = some c := by rw [h]; simp
  rw [List.getElem?_zipIdx, Option.map_eq_some_iff] at e
  obtain ⟨a, h1, h2⟩ := e
  subst h2
  exact ⟨by simp, h1, (List.getElem?_eq_some_iff.mp h1).1⟩
theorem zip_len {α : Type} (l : List α) : l.zipIdx.length = l.length := by simp
theorem take_snoc {l : List Rat} {j : Nat} {c : Rat} (h : l[j]? = some c) : l.take (j + 1) = l.take j ++ [c] := by
  rw [List.take_add_one, h]; rfl
theorem ev_take {l : List Rat} {j : Nat} {c : Rat} (h : l[j]? = some c) (x : Rat) : ev (l.take (j + 1)) x = ev (l.take j) x + x ^ j * c := by
  have hj := (List.getElem?_eq_some_iff.mp h).1
  rw [take_snoc h, ev_app, List.length_take, Nat.min_eq_left (by omega)]
  show _ + x ^ j * (c + x * 0) = _
  grind
theorem getD_of {l : List Rat} {k : Nat} (h : k < l.length) : l[k]? = some (l.getD k 0) := by
  rw [List.getD_eq_getElem?_getD, List.getElem?_eq_getElem h]; rfl
theorem mem_set {l : List Rat} {P : Rat → Prop} {k : Nat} {v : Rat} (h : ∀ r ∈ l, P r) (hv : P v) : ∀ r ∈ l.set k v, P r := fun r hr => by
  rcases List.mem_or_eq_of_mem_set hr with h1 | h1
  · exact h r h1
  · rw [h1]; exact hv
/-! products -/
section
variable {D1 B1 D2 B2 N : Nat} {p q : List Rat}
abbrev mulB (B1 B2 N : Nat) : Nat := (N * N + 1) * (B1 * B2)
theorem cal_mul (n : Nat) {G : Gs} (hG : Cl G) (hp : LB D1 B1 N p) (hq : LB D2 B2 N q) (hN : N ≤ 400) (hM : Lim (D1 * D2 * (mulB B1 B2 N + B1 + B2 + 1))) : (Sa (n + 5)).cal 15 [cv p, cv q] G = .ok (cv (trim (mulP p q))) G ∧ ∃ F : List Rat, trim F = trim (mulP p q) ∧ ∀ r ∈ F, Bd (D1 * D2) (mulB B1 B2 N) r := by
  obtain ⟨hD1, hl1, hb1⟩ := hp
  obtain ⟨hD2, hl2, hb2⟩ := hq
  have hDD : 0 < D1 * D2 := Nat.mul_pos hD1 hD2
  have hM1 : D1 * D2 ≤ D1 * D2 * (mulB B1 B2 N + B1 + B2 + 1) := Nat.le_mul_of_pos_right _ (by omega)
  have hM2 : ∀ k, k ≤ mulB B1 B2 N + B1 + B2 + 1 → k ≤ D1 * D2 * (mulB B1 B2 N + B1 + B2 + 1) := fun k hk => Nat.le_trans hk (Nat.le_mul_of_pos_left _ hDD)
  have fp : FiL p := fun r hr => (hb1 r hr).fi' (Nat.le_trans (Nat.le_mul_of_pos_right _ hD2) hM1) (hM2 _ (by omega)) hM
  have fq : FiL q := fun r hr => (hb2 r hr).fi' (Nat.le_trans (Nat.le_mul_of_pos_left _ hD1) hM1) (hM2 _ (by omega)) hM
  have fF : ∀ c : Nat, c ≤ N * N + 1 → ∀ r, Bd (D1 * D2) (c * (B1 * B2)) r → Fi r := fun c hc r hr => hr.fi' hM1 (hM2 _ (Nat.le_trans (Nat.mul_le_mul_right _ hc) (show mulB B1 B2 N ≤ mulB B1 B2 N + B1 + B2 + 1 by omega))) hM
  -- the loops
  let X0 : Option D := some (cv p)
  let X1 : Option D := some (cv q)
  obtain ⟨ρ', G', e, F, c, hF, hc, hB, hE, z3, z4, z5, z6, hρ, hG'⟩ := forL_inv (fun d ρ1 G2 => match PV.assign ρ1 (.tp [.nm 3, .nm 4]) d with | some ρ2 => evB (Sa (n + 4)) [.for_ (.tp [.nm 5, .nm 6]) (.enum (.var 1)) [.setix (.var 2) (.bin .add (.var 3) (.var 5)) (.call 2 [.ix (.var 2) (.bin .add (.var 3) (.var 5)), .call 4 [.var 4, .var 6]])]] ρ2 G2 | none => .bad) (fun x : Rat × Nat => D.tup [.int (x.2 : Nat), pt x.1])
    (fun s ρ G' => ∃ (F : List Rat) (c : Nat), F.length = p.length + q.length ∧ c ≤ s.length * N ∧ (∀ r ∈ F, Bd (D1 * D2) (c * (B1 * B2)) r) ∧ (∀ x, ev F x = ev (p.take s.length) x * ev q x) ∧ ∃ z3 z4 z5 z6, ρ = [X0, X1, some (.cell G.length), z3, z4, z5, z6] ∧ G' = G ++ [some (.lst (F.map pt))])
    p.zipIdx [] [X0, X1, some (.cell G.length), none, none, none, none] (G ++ [some (.lst ((List.replicate (p.length + q.length) 0).map pt))])
    ⟨List.replicate (p.length + q.length) 0, 0, by simp, Nat.zero_le _, fun r hr => by rw [(List.mem_replicate.mp hr).2, Nat.zero_mul]; exact Bd.zero hDD, fun x => by rw [ev_rep]; show (0 : Rat) = 0 * _; grind, none, none, none, none, rfl, rfl⟩
    fun s ci t ρ G' hs ⟨F, c, hF, hc, hB, hE, z3, z4, z5, z6, hρ, hG'⟩ => by
      subst hρ hG'
      obtain ⟨ei, ha, hsl⟩ := zip_at hs
      obtain ⟨a, i⟩ := ci
      have ei : i = s.length := ei
      subst ei
      have ha : p[s.length]? = some a := ha
      have hap : a ∈ p := List.mem_of_getElem? ha
      -- the inner one
      obtain ⟨ρ', G', e, F', c', hF', hc', hB', hE', z5', z6', hρ', hG'⟩ := forL_inv (fun d ρ1 G2 => match PV.assign ρ1 (.tp [.nm 5, .nm 6]) d with | some ρ2 => evB (Sa (n + 4)) [.setix (.var 2) (.bin .add (.var 3) (.var 5)) (.call 2 [.ix (.var 2) (.bin .add (.var 3) (.var 5)), .call 4 [.var 4, .var 6]])] ρ2 G2 | none => .bad) (fun x : Rat × Nat => D.tup [.int (x.2 : Nat), pt x.1])
        (fun u ρ G' => ∃ (F' : List Rat) (c' : Nat), F'.length = p.length + q.length ∧ c' ≤ c + u.length ∧ (∀ r ∈ F', Bd (D1 * D2) (c' * (B1 * B2)) r) ∧ (∀ x, ev F' x = ev F x + a * x ^ s.length * ev (q.take u.length) x) ∧ ∃ z5 z6, ρ = [X0, X1, some (.cell G.length), some (.int (s.length : Nat)), some (pt a), z5, z6] ∧ G' = G ++ [some (.lst (F'.map pt))])
        q.zipIdx [] [X0, X1, some (.cell G.length), some (.int (s.length : Nat)), some (pt a), z5, z6] (G ++ [some (.lst (F.map pt))])
        ⟨F, c, hF, Nat.le_refl _, hB, fun x => by show _ = _ + a * x ^ s.length * 0; grind, z5, z6, rfl, rfl⟩
        fun u cj v ρ G' hu ⟨F', c', hF', hc', hB', hE', z5, z6, hρ, hG'⟩ => by
          subst hρ hG'
          obtain ⟨ej, hb, hul⟩ := zip_at hu
          obtain ⟨b, j⟩ := cj
          have ej : j = u.length := ej
          subst ej
          have hb : q[u.length]? = some b := hb
          have hbq : b ∈ q := List.mem_of_getElem? hb
          have hk : s.length + u.length < F'.length := by omega
          have hg := getD_of hk
          have hcb : c' ≤ N * N := by
            have h1 : s.length * N + N ≤ N * N := by
              have : (s.length + 1) * N ≤ N * N := Nat.mul_le_mul_right _ (by omega)
              rw [Nat.succ_mul] at this
              exact this
            omega
          have f1 : Fi (F'.getD (s.length + u.length) 0) := fF c' (by omega) _ (hB' _ (List.mem_of_getElem? hg))
          have b2 : Bd (D1 * D2) (B1 * B2) (a * b) := (hb1 a hap).mul (hb2 b hbq)
          have f2 : Fi (a * b) := fF 1 (by omega) _ (by rw [Nat.one_mul]; exact b2)
          have hidx : ((s.length : Nat) : Int) + ((u.length : Nat) : Int) = ((s.length + u.length : Nat) : Int) := by omega
          refine ⟨_, _, b_next (s_setix (x_call (x_es (x_ix x_v (x_bin x_v x_v (ba _ _)) (by rw [hidx]; exact ix_cell hg)) (x_es (x_call (x_es x_v (x_es x_v x_es0)) (cal_times (n + 1) _ (fp a hap) (fq b hbq))) x_es0)) (cal_plus (n + 1) _ f1 f2)) x_v (x_bin x_v x_v (ba _ _)) (by rw [hidx]; exact set_cell hk)) rfl, F'.set (s.length + u.length) (F'.getD (s.length + u.length) 0 + a * b), c' + 1, by rw [List.length_set]; exact hF', by rw [List.length_append, List.length_singleton]; omega, ?_, fun x => ?_, some (.int (u.length : Nat)), some (pt b), rfl, rfl⟩
          · have e1 : (c' + 1) * (B1 * B2) = c' * (B1 * B2) + B1 * B2 := by rw [Nat.succ_mul]
            rw [e1]
            exact mem_set (fun r hr => (hB' r hr).mono (by omega)) ((hB' _ (List.mem_of_getElem? hg)).add b2)
          · rw [ev_set _ x F' _ hk, hE' x, List.length_append, List.length_singleton, ev_take hb x, rpow_add]
            grind
      rw [List.nil_append, zip_len] at hc' hE'
      refine ⟨_, _, b_next (s_for (i_enum x_v) (by rw [enum_pt]; exact e)) rfl, F', c', hF', ?_, hB', fun x => ?_, _, _, _, _, hρ', hG'⟩
      · rw [List.length_append, List.length_singleton, Nat.succ_mul]; omega
      · rw [hE' x, hE x, List.length_append, List.length_singleton, ev_take ha x, List.take_length]
        grind
  rw [List.nil_append, zip_len] at hc hE
  have hE2 : ∀ x, ev F x = ev (mulP p q) x := fun x => by rw [hE x, ev_mul, List.take_length]
  have hcN : c ≤ N * N + 1 := by
    have : p.length * N ≤ N * N := Nat.mul_le_mul_right _ hl1
    omega
  have hbF : ∀ r ∈ F, Bd (D1 * D2) (mulB B1 B2 N) r := fun r hr => (hB r hr).mono (Nat.mul_le_mul_right _ hcN)
  refine ⟨?_, F, trim_ext hE2, hbF⟩
  subst hρ hG'
  have hrep : binD .mul (.lst [.tup [.int 0, .int 1]]) (.int (((p.length : Nat) : Int) + ((q.length : Nat) : Int))) = some (.lst ((List.replicate (p.length + q.length) 0).map pt)) := by
    have h := mul_rep (x := 0) (k := p.length + q.length) (by omega)
    rw [show ((p.length + q.length : Nat) : Int) = ((p.length : Nat) : Int) + ((q.length : Nat) : Int) by omega] at h
    exact h
  have b : evB (Sa (n + 4)) m_multiplied.body [X0, X1, none, none, none, none, none] G = .ret (cv (trim F)) (G ++ [none]) :=
    b_next (s_set (x_mulC (x_lst (x_es (x_tup (x_es x_c (x_es x_c x_es0))) x_es0)) (x_bin (x_prim (x_es x_v x_es0) (len_cv p)) (x_prim (x_es x_v x_es0) (len_cv q)) (ba _ _)) hrep)) (b_next (s_for (i_enum x_v) (by rw [enum_pt]; exact e))
      (b_ret (s_ret (x_call (x_es (x_take x_v at_end) x_es0) (by rw [set_end]; exact cal_curve n _ rfl (fun r hr => fF c hcN r (hB r hr)) (by omega))))))
  have a := run_d m_multiplied (args := [cv p, cv q]) (S := Sa (n + 4)) (ρ := [X0, X1, none, none, none, none, none]) (G := G) rfl rfl b
  rw [trim_ext hE2] at a
  exact ((cal_at (n + 4) 15 (by decide) rfl _ G).trans a).trans (gc_drop hG (free_cv _))
end
end LK
end
/-! ## R6 -/
section
set_option Elab.async false
set_option linter.all false
set_option maxRecDepth 200000
set_option maxHeartbeats 8000000
set_option exponentiation.threshold 300
namespace LK
open PySem PV RP
theorem Lim.of {m : Nat} (h : decide (m < 2 ^ 4400) = true) : Lim m := ⟨of_decide_eq_true h⟩
theorem Lim.le {m k : Nat} (h : Lim m) (hk : k ≤ m) : Lim k := ⟨Nat.lt_of_le_of_lt hk h.a⟩
theorem LB.fi {D B N : Nat} {l : List Rat} (h : LB D B N l) (hM : Lim (D + B)) : FiL l := fun r hr => (h.2.2 r hr).fi' (by omega) (by omega) hM
theorem LB.mono {D B N B' N' : Nat} {l : List Rat} (h : LB D B N l) (hB : B ≤ B') (hN : N ≤ N') : LB D B' N' l := ⟨h.1, Nat.le_trans h.2.1 hN, fun r hr => (h.2.2 r hr).mono hB⟩
theorem LB.up {D B N E : Nat} {l : List Rat} (h : LB D B N l) (hE : 0 < E) : LB (D * E) (B * E) N l := ⟨Nat.mul_pos h.1 hE, h.2.1, fun r hr => (h.2.2 r hr).up hE⟩
theorem LB.trim {D B N : Nat} {l : List Rat} (h : LB D B N l) : LB D B N (trim l) := ⟨h.1, Nat.le_trans (trim_len l) h.2.1, fun r hr => h.2.2 r (trim_mem hr)⟩
theorem add_bd {D B C : Nat} : ∀ {p q : List Rat}, (∀ r ∈ p, Bd D B r) → (∀ r ∈ q, Bd D C r) → ∀ r ∈ addP p q, Bd D (B + C) r
  | [], q, _, hq => fun r hr => by
    have : addP [] q = q := by cases q <;> rfl
    rw [this] at hr
    exact (hq r hr).mono (by omega)
  | a :: p, [], hp, _ => fun r hr => (hp r hr).mono (by omega)
  | a :: p, b :: q, hp, hq => fun r hr => by
    rcases List.mem_cons.mp hr with rfl | hr
    · exact (hp a (List.mem_cons_self ..)).add (hq b (List.mem_cons_self ..))
    · exact add_bd (fun r hr => hp r (List.mem_cons_of_mem _ hr)) (fun r hr => hq r (List.mem_cons_of_mem _ hr)) r hr
theorem cal_scale (n : Nat) (G : Gs) {D B E C N : Nat} {p : List Rat} {c : Rat} (hp : LB D B N p) (hc : Bd E C c) (hN : N ≤ 400) (hM : Lim (D * E + B * C + D + B + E + C)) : (Sa (n + 5)).cal 14 [cv p, pt c] G = .ok (cv (trim (scP c p))) G ∧ LB (D * E) (B * C) N (trim (scP c p)) := by
  have hE : 0 < E := by obtain ⟨_, _, _, hE⟩ := hc; exact hE
  have hs : LB (D * E) (B * C) N (scP c p) := ⟨Nat.mul_pos hp.1 hE, by unfold scP; rw [List.length_map]; exact hp.2.1, fun r hr => by
    obtain ⟨a, ha, rfl⟩ := List.mem_map.mp hr
    rw [Rat.mul_comm]
    exact (hp.2.2 a ha).mul hc⟩
  exact ⟨cal_scaled n G (hp.fi (hM.le (by omega))) (hc.fi' (by omega) (by omega) hM) (hs.fi (hM.le (by omega))) (by have := hp.2.1; omega), hs.trim⟩
theorem pt_neg1 : D.tup [.int (-1), .int 1] = pt (-1) := rfl
/-! one put into another -/
theorem mulP_len {p q : List Rat} {a b : Nat} (h1 : p.length ≤ a) (h2 : q.length ≤ b) : (trim (mulP p q)).length ≤ a + b := by
  rcases mul_len p q with h | h
  · have := trim_len (mulP p q); omega
  · subst h
    have : ∀ x, ev (mulP p []) x = ev [] x := fun x => by rw [ev_mul]; show _ * (0 : Rat) = 0; grind
    rw [trim_ext this]
    exact Nat.zero_le _
/-- bounds of a product's coefficients -/
theorem mul_lb {D1 B1 D2 B2 N M : Nat} {p q F : List Rat} (h1 : 0 < D1 * D2) (hF : trim F = trim (mulP p q)) (hB : ∀ r ∈ F, Bd (D1 * D2) (mulB B1 B2 N) r) (hM : (trim (mulP p q)).length ≤ M) : LB (D1 * D2) (mulB B1 B2 N) M (trim (mulP p q)) := ⟨h1, hM, fun r hr => hB r (trim_mem (hF ▸ hr))⟩
end LK
end
/-! ## R6b -/
section
set_option Elab.async false
set_option linter.all false
set_option maxRecDepth 200000
set_option maxHeartbeats 8000000
set_option exponentiation.threshold 300
namespace LK
open PySem PV RP
/-! slopes, areas, powers -/
theorem i_rng2 {S : PV.Sem} {ρ : PV.Env} {G G1 G2 : Gs} {a b : PV.E} {i j : Int} (h1 : evE S ρ a G = .ok (.int i) G1) (h2 : evE S ρ b G1 = .ok (.int j) G2) (h3 : -(2 ^ 62) ≤ i ∧ i < 2 ^ 62) (h4 : -(2 ^ 62) ≤ j ∧ j < 2 ^ 62) : evI S ρ (.rng2 a b) G = .ok (rangeD i j) G2 := by simp only [evI, h1, rb, h2, if_pos (And.intro h3 h4)]
theorem rangeD1 (n : Nat) : rangeD 1 (n : Int) = (List.range (n - 1)).map fun (k : Nat) => D.int (1 + (k : Int)) := by
  unfold rangeD
  rw [show ((n : Int) - 1).toNat = n - 1 by omega]
def slP (p : List Rat) : List Rat := (List.range (p.length - 1)).map fun k => p.getD (1 + k) 0 * (((1 + (k : Int) : Int)) : Rat)
theorem comp_slope {S : PV.Sem} {ρ : PV.Env} {G : Gs} {n iv jv : Nat} {p : List Rat} (hS : S = Sa (n + 3)) (h0 : ∀ v, (wipeE ρ [jv]).set jv v = ρ.set jv v) (hi : ρ[iv]? = some (some (cv p))) (hj : jv < ρ.length) (hne : iv ≠ jv) (hf : FiL p) (hl : p.length ≤ 900) :
    evE S ρ (.comp [jv] (.call 4 [.ix (.var iv) (.var jv), .tup [.var jv, .con (.int 1)]]) (.nm jv) (.rng2 (.con (.int 1)) (.prim .len [.var iv])) []) G = .ok (lv (slP p)) G := by
  subst hS
  have hlst : lv (slP p) = .lst ((List.range (p.length - 1)).map fun k => pt (p.getD (1 + k) 0 * (((1 + (k : Int) : Int)) : Rat))) := by
    unfold lv slP
    rw [List.map_map]; rfl
  rw [hlst]
  have hr : evI (Sa (n + 3)) ρ (.rng2 (.con (.int 1)) (.prim .len [.var iv])) G = .ok ((List.range (p.length - 1)).map fun (k : Nat) => D.int (1 + (k : Int))) G := by
    have h := i_rng2 (S := Sa (n + 3)) (ρ := ρ) (a := .con (.int 1)) (b := .prim .len [.var iv]) (G := G) x_c (x_prim (x_es (x_v hi) x_es0) (len_cv p)) (by omega) (by omega)
    rw [rangeD1] at h
    exact h
  refine comp_map (List.range (p.length - 1)) (fun (k : Nat) => D.int (1 + (k : Int))) _ (fun (k : Nat) => ρ.set jv (some (.int (1 + (k : Int))))) hr (fun k _ => by show some ((wipeE ρ [jv]).set jv _) = _; rw [h0]) (fun k hk => ?_) (by rw [szl, List.length_range]; omega)
  have hk := List.mem_range.mp hk
  have hkk : 1 + k < p.length := by omega
  have hg := getD_of hkk
  have v1 : (ρ.set jv (some (.int (1 + (k : Int)))))[iv]? = some (some (cv p)) := by rw [List.getElem?_set_ne (Ne.symm hne)]; exact hi
  have v2 : (ρ.set jv (some (.int (1 + (k : Int)))))[jv]? = some (some (.int (1 + (k : Int)))) := List.getElem?_set_self hj
  have hx : ixD G (cv p) (.int (1 + (k : Int))) = some (pt (p.getD (1 + k) 0)) := by
    have e : (1 + (k : Int)) = ((1 + k : Nat) : Int) := by omega
    rw [e]; exact ix_cv hg
  have e1 : evE (Sa (n + 3)) (ρ.set jv (some (.int (1 + (k : Int))))) (.ix (.var iv) (.var jv)) G = .ok (pt (p.getD (1 + k) 0)) G := x_ix (x_v v1) (x_v v2) hx
  have e2 : evE (Sa (n + 3)) (ρ.set jv (some (.int (1 + (k : Int))))) (.tup [.var jv, .con (.int 1)]) G = .ok (pt (((1 + (k : Int) : Int)) : Rat)) G := x_tup (x_es (x_v v2) (x_es x_c x_es0))
  have e3 := cal_times n G (a := p.getD (1 + k) 0) (b := (((1 + (k : Int) : Int)) : Rat)) (hf _ (List.mem_of_getElem? hg)) (fi_small (by omega))
  exact x_call (x_es e1 (x_es e2 x_es0)) e3
end LK
end
/-! ## R6c -/
section
set_option Elab.async false
set_option linter.all false
set_option maxRecDepth 200000
set_option maxHeartbeats 8000000
set_option exponentiation.threshold 300
namespace LK
open PySem PV RP
theorem cal_slope (n : Nat) (G : Gs) {p : List Rat} (hf : FiL p) (hs : FiL (slP p)) (hl : p.length ≤ 900) : (Sa (n + 5)).cal 18 [cv p] G = .ok (cv (trim (slP p))) G := by
  have c := comp_slope (S := Sa (n + 4)) (ρ := [some (cv p), none]) (G := G) (n := n + 1) (iv := 0) (jv := 1) rfl (fun v => rfl) rfl (by simp) (by decide) hf hl
  have d := cal_curve n G (x := lv (slP p)) (l := slP p) rfl hs (by unfold slP; rw [List.length_map, List.length_range]; omega)
  have b : evB (Sa (n + 4)) m_slope.body [some (cv p), none] G = .ret (cv (trim (slP p))) G := b_ret (s_ret (x_call (x_es c x_es0) d))
  exact ((cal_at (n + 4) 18 (by decide) rfl _ G).trans (run_d m_slope (args := [cv p]) (S := Sa (n + 4)) (ρ := [some (cv p), none]) (G := G) rfl rfl b)).trans gc_self
end LK
end
/-! ## R7 -/
section
set_option Elab.async false
set_option linter.all false
set_option maxRecDepth 200000
set_option maxHeartbeats 8000000
set_option exponentiation.threshold 300
namespace LK
open PySem PV RP
/-- bounds of a division, turn by turn -/
structure DPar where
  D : Nat → Nat
  B : Nat → Nat
  P : Nat → Nat
  Q : Nat → Nat
  T : Nat
structure DOk (Z : DPar) (l : List Rat) (c : Rat) : Prop where
  up : ∀ t r, Bd (Z.D t) (Z.B t) r → Bd (Z.D (t + 1)) (Z.Q t) r
  prod : ∀ t c0, Bd (Z.D t) (Z.B t) c0 → ∀ b ∈ l, Bd (Z.D (t + 1)) (Z.P t) (c0 * (1 / c) * b)
  le : ∀ t, Z.Q t + Z.P t ≤ Z.B (t + 1)
  byF : ∀ t ≤ Z.T, ∀ c0, Bd (Z.D t) (Z.B t) c0 → Fi (c0 * (1 / c))
  lim : ∀ t ≤ Z.T + 1, Lim (Z.D t + Z.B t)
  fq : FiL l
theorem at_end2 {G : Gs} {x y : Option C} {r : Gs} : (G ++ x :: y :: r)[G.length + 1]? = some y := by simp
theorem set_end2 {G : Gs} {x y v : Option C} {r : Gs} : (G ++ x :: y :: r).set (G.length + 1) v = G ++ x :: v :: r := by
  rw [List.set_append_right _ _ (by omega), show G.length + 1 - G.length = 1 by omega]; rfl
theorem len_cell {G r : Gs} (l : List Rat) : prim (G ++ some (.lst (l.map pt)) :: r) .len [.cell G.length] = some (.int (l.length : Nat)) := by
  show (match (G ++ some (.lst (l.map pt)) :: r)[G.length]? with
    | some (some (.lst l)) => some (D.int l.length)
    | some (some (.dct ks vs)) => some (D.int ks.length)
    | _ => none) = _
  rw [at_end]
  show some (D.int ((l.map pt).length : Nat)) = _
  rw [List.length_map]
theorem ixl_cell {G r : Gs} {l : List Rat} {v : Rat} : ixD (G ++ some (.lst ((l ++ [v]).map pt)) :: r) (.cell G.length) (.int (-1)) = some (pt v) := by
  unfold ixD
  simp only [at_end]
  rw [List.map_append]
  exact L2.atI_last _ _
def divIn : List St := [.setix (.var 3) (.bin .add (.var 6) (.var 7)) (.call 3 [.ix (.var 3) (.bin .add (.var 6) (.var 7)), .call 4 [.var 5, .var 8]])]
def divBody : List St := [.set (.nm 5) (.call 4 [.ix (.var 3) (.neg (.con (.int 1))), .var 2]),
    .set (.nm 6) (.bin .sub (.prim .len [.var 3]) (.prim .len [.var 1])),
    .for_ (.tp [.nm 7, .nm 8]) (.enum (.var 1)) divIn,
    .ex (.pop (.var 3)),
    .ex (.app (.var 4) (.var 5))]
def divTest : PV.E := .cmp .ge (.prim .len [.var 3]) (.prim .len [.var 1])
section
variable (n : Nat) {G : Gs} {p q0 : List Rat} {c : Rat} {Z : DPar} (hq : DOk Z (q0 ++ [c]) c) (hc : c ≠ 0)
include hq hc
theorem div_in {t : Nat} (ht : t ≤ Z.T) {R w : List Rat} {by_ : Rat} (hr : q0.length + 1 ≤ R.length) (hR : ∀ r ∈ R, Bd (Z.D t) (Z.B t) r) (hby : ∀ b ∈ q0 ++ [c], Bd (Z.D (t + 1)) (Z.P t) (by_ * b)) (fby : Fi by_) (X0 X2 z7 z8 : Option D) :
    ∃ R' z7' z8', forL (fun d ρ1 G2 => match PV.assign ρ1 (.tp [.nm 7, .nm 8]) d with | some ρ2 => evB (Sa (n + 5)) divIn ρ2 G2 | none => .bad) ((q0 ++ [c]).zipIdx.map fun x => D.tup [.int (x.2 : Nat), pt x.1]) [X0, some (cv (q0 ++ [c])), X2, some (.cell G.length), some (.cell (G.length + 1)), some (pt by_), some (.int ((R.length - (q0.length + 1) : Nat) : Int)), z7, z8] (G ++ [some (C.lst (R.map pt)), some (C.lst (w.map pt))]) = .next [X0, some (cv (q0 ++ [c])), X2, some (.cell G.length), some (.cell (G.length + 1)), some (pt by_), some (.int ((R.length - (q0.length + 1) : Nat) : Int)), z7', z8'] (G ++ [some (C.lst (R'.map pt)), some (C.lst (w.map pt))]) ∧
      R'.length = R.length ∧ (∀ r ∈ R', Bd (Z.D (t + 1)) (Z.B (t + 1)) r) ∧ (∀ x, ev R' x = ev R x - by_ * x ^ (R.length - (q0.length + 1)) * ev (q0 ++ [c]) x) ∧ R'.getD (R.length - 1) 0 = R.getD (R.length - 1) 0 - by_ * c := by
  have hlen : (q0 ++ [c]).length = q0.length + 1 := by simp
  have e108 := hq.le t
  have hRu : ∀ r ∈ R, Bd (Z.D (t + 1)) (Z.Q t) r := fun r hr => hq.up t r (hR r hr)
  have lim1 := hq.lim (t + 1) (by omega)
  have fR : ∀ r, Bd (Z.D (t + 1)) (Z.B (t + 1)) r → Fi r := fun r h => h.fi' (by omega) (by omega) lim1
  have hR1 : ∀ r ∈ R, Bd (Z.D (t + 1)) (Z.B (t + 1)) r := fun r hr => (hRu r hr).mono (by omega)
  obtain ⟨ρ', G', e, R', h1, h2, h3, h4, h5, z7', z8', rfl, rfl⟩ := forL_inv (fun d ρ1 G2 => match PV.assign ρ1 (.tp [.nm 7, .nm 8]) d with | some ρ2 => evB (Sa (n + 5)) divIn ρ2 G2 | none => .bad) (fun x : Rat × Nat => D.tup [.int (x.2 : Nat), pt x.1])
    (fun u ρ G' => ∃ R', R'.length = R.length ∧ (∀ k, R.length - (q0.length + 1) + u.length ≤ k → R'.getD k 0 = R.getD k 0) ∧ (∀ r ∈ R', Bd (Z.D (t + 1)) (Z.B (t + 1)) r) ∧ (∀ x, ev R' x = ev R x - by_ * x ^ (R.length - (q0.length + 1)) * ev ((q0 ++ [c]).take u.length) x) ∧ (u.length = q0.length + 1 → R'.getD (R.length - 1) 0 = R.getD (R.length - 1) 0 - by_ * c) ∧ ∃ z7 z8, ρ = [X0, some (cv (q0 ++ [c])), X2, some (.cell G.length), some (.cell (G.length + 1)), some (pt by_), some (.int ((R.length - (q0.length + 1) : Nat) : Int)), z7, z8] ∧ G' = G ++ [some (C.lst (R'.map pt)), some (C.lst (w.map pt))])
    (q0 ++ [c]).zipIdx [] [X0, some (cv (q0 ++ [c])), X2, some (.cell G.length), some (.cell (G.length + 1)), some (pt by_), some (.int ((R.length - (q0.length + 1) : Nat) : Int)), z7, z8] (G ++ [some (C.lst (R.map pt)), some (C.lst (w.map pt))])
    ⟨R, rfl, fun k _ => rfl, hR1, fun x => by show _ = _ - by_ * _ * (0 : Rat); grind, fun e => absurd e (by simp), z7, z8, rfl, rfl⟩
    fun u bj v ρ G' hu ⟨R', h1, h2, h3, h4, h5, z7, z8, hρ, hG'⟩ => by
      subst hρ hG'
      obtain ⟨ej, hb, hul⟩ := zip_at hu
      obtain ⟨b, j⟩ := bj
      have ej : j = u.length := ej
      subst ej
      have hb : (q0 ++ [c])[u.length]? = some b := hb
      rw [hlen] at hul
      have hk : R.length - (q0.length + 1) + u.length < R'.length := by omega
      have hg := getD_of hk
      have hold := h2 _ (Nat.le_refl _)
      have hkR : R.length - (q0.length + 1) + u.length < R.length := by omega
      have bold : Bd (Z.D (t + 1)) (Z.Q t) (R'.getD (R.length - (q0.length + 1) + u.length) 0) := by
        rw [hold]
        exact hRu _ (List.mem_of_getElem? (getD_of hkR))
      have bprod : Bd (Z.D (t + 1)) (Z.P t) (by_ * b) := hby b (List.mem_of_getElem? hb)
      have bnew := bold.sub bprod
      have fb : Fi b := hq.fq b (List.mem_of_getElem? hb)
      have f1 : Fi (R'.getD (R.length - (q0.length + 1) + u.length) 0) := fR _ (bold.mono (by omega))
      have f2 : Fi (by_ * b) := fR _ (bprod.mono (by omega))
      have hidx : ((R.length - (q0.length + 1) : Nat) : Int) + ((u.length : Nat) : Int) = ((R.length - (q0.length + 1) + u.length : Nat) : Int) := by omega
      have hix : ixD (G ++ some (.lst (R'.map pt)) :: [some (.lst (w.map pt))]) (.cell G.length) (.int (((R.length - (q0.length + 1) : Nat) : Int) + ((u.length : Nat) : Int))) = some (pt (R'.getD (R.length - (q0.length + 1) + u.length) 0)) := by rw [hidx]; exact ix_cell hg
      have hst : setD (G ++ some (.lst (R'.map pt)) :: [some (.lst (w.map pt))]) (.cell G.length) (.int (((R.length - (q0.length + 1) : Nat) : Int) + ((u.length : Nat) : Int))) (pt (R'.getD (R.length - (q0.length + 1) + u.length) 0 - by_ * b)) = some (G ++ some (.lst ((R'.set (R.length - (q0.length + 1) + u.length) (R'.getD (R.length - (q0.length + 1) + u.length) 0 - by_ * b)).map pt)) :: [some (.lst (w.map pt))]) := by rw [hidx]; exact set_cell hk
      refine ⟨_, _, b_next (s_setix (x_call (x_es (x_ix x_v (x_bin x_v x_v (ba _ _)) hix) (x_es (x_call (x_es x_v (x_es x_v x_es0)) (cal_times (n + 2) _ fby fb)) x_es0)) (cal_minus (n + 2) _ f1 f2)) x_v (x_bin x_v x_v (ba _ _)) hst) rfl, R'.set (R.length - (q0.length + 1) + u.length) (R'.getD (R.length - (q0.length + 1) + u.length) 0 - by_ * b), by rw [List.length_set]; exact h1, fun k hkk => ?_, mem_set h3 (bnew.mono (by omega)), fun x => ?_, fun hul2 => ?_, some (.int (u.length : Nat)), some (pt b), rfl, rfl⟩
      · rw [List.length_append, List.length_singleton] at hkk
        rw [List.getD_eq_getElem?_getD, List.getElem?_set_ne (by omega), ← List.getD_eq_getElem?_getD]
        exact h2 k (by omega)
      · rw [Rat.sub_eq_add_neg, ev_set _ x R' _ hk, h4 x, List.length_append, List.length_singleton, ev_take hb x, rpow_add]
        grind
      · rw [List.length_append, List.length_singleton] at hul2
        have e1 : R.length - (q0.length + 1) + u.length = R.length - 1 := by omega
        have e2 : b = c := by
          have : u.length = q0.length := by omega
          rw [this, List.getElem?_append_right (Nat.le_refl _), Nat.sub_self] at hb
          exact (Option.some.inj hb).symm
        rw [e1] at hold ⊢
        rw [List.getD_eq_getElem?_getD, List.getElem?_set_self (by omega), hold, e2]
        rfl
  rw [List.nil_append, zip_len, hlen] at h4 h5
  refine ⟨R', z7', z8', e, h1, h3, fun x => ?_, h5 rfl⟩
  rw [h4 x, ← hlen, List.take_length]
end
end LK
end
/-! ## R7b -/
section
set_option Elab.async false
set_option linter.all false
set_option maxRecDepth 200000
set_option maxHeartbeats 8000000
set_option exponentiation.threshold 300
namespace LK
open PySem PV RP
theorem getLast_getD (l : List Rat) (h : 0 < l.length) : l = l.dropLast ++ [l.getD (l.length - 1) 0] := by
  have hne : l ≠ [] := by intro e; subst e; cases h
  have := (List.dropLast_concat_getLast hne).symm
  have e : l.getLast hne = l.getD (l.length - 1) 0 := by
    rw [List.getLast_eq_getElem, List.getD_eq_getElem?_getD, List.getElem?_eq_getElem (by omega)]; rfl
  rw [e] at this
  exact this
abbrev dEnv (X0 X1 : Option D) (c : Rat) (G : Gs) (z5 z6 z7 z8 : Option D) : PV.Env := [X0, X1, some (pt (1 / c)), some (.cell G.length), some (.cell (G.length + 1)), z5, z6, z7, z8]
theorem fi_inv {c : Rat} (h : Fi c) (h0 : c ≠ 0) : Fi (1 / c) := by
  have hn : c.num ≠ 0 := fun e => h0 (num_zero.mp e)
  have hd := den_ne c
  have hn' : ((c.num.natAbs : Nat) : Rat) ≠ 0 := fun e => by have := Rat.natCast_eq_zero_iff.mp e; omega
  have hb : Bd c.num.natAbs c.den (1 / c) := by
    rcases Int.natAbs_eq c.num with e | e
    · refine ⟨(c.den : Int), ?_, by simp, by omega⟩
      have e2 : c = ((c.num.natAbs : Nat) : Rat) / (c.den : Rat) := by
        conv => lhs; rw [rat_eq c, e]
        rw [Rat.intCast_natCast]
      rw [Rat.intCast_natCast]
      conv => lhs; rw [e2]
      grind
    · refine ⟨-(c.den : Int), ?_, by simp, by omega⟩
      have e2 : c = -((c.num.natAbs : Nat) : Rat) / (c.den : Rat) := by
        conv => lhs; rw [rat_eq c, e]
        rw [Rat.intCast_neg, Rat.intCast_natCast]
      rw [Rat.intCast_neg, Rat.intCast_natCast]
      conv => lhs; rw [e2]
      grind
  exact hb.fi h.1 h.2
theorem cal_inv (n : Nat) (G : Gs) {b : Rat} (hb : Fi b) (h0 : b ≠ 0) : (Sa (n + 3)).cal 5 [pt 1, pt b] G = .ok (pt (1 / b)) G := by
  have ha := fi1
  have hn : b.num ≠ 0 := fun e => h0 (num_zero.mp e)
  have hd : (((1 : Rat).den : Nat) : Int) ≠ 0 := by decide
  have hl : (((1 : Rat).den : Nat) : Int) * b.num ≠ 0 := Int.mul_ne_zero hd hn
  have hok : okDiv (gOf ((1 : Rat).num * ((b.den : Nat) : Int)) ((((1 : Rat).den : Nat) : Int) * b.num)) = true := by
    have hg : Nat.gcd ((1 : Rat).num * ((b.den : Nat) : Int)).natAbs ((((1 : Rat).den : Nat) : Int) * b.num).natAbs = 1 := by
      rw [show (1 : Rat).num = 1 from rfl, show (((1 : Rat).den : Nat) : Int) = 1 from rfl, Int.one_mul, Int.one_mul, Int.natAbs_natCast, Nat.gcd_comm]
      exact b.reduced
    unfold gOf
    rw [hg]
    split <;> decide
  have e : (Sa (n + 3)).cal 5 [pt 1, pt b] G = _ := run_e (Sa (n + 2)) m_over rfl (ρ := [some (pt 1), some (pt b)]) rfl rfl
    (x_call (x_es (x_bin (x_ix x_v x_c (ix0 _ 1)) (x_ix x_v x_c (ix1 _ b)) (bm _ _ (ok_nd ha hb))) (x_es (x_bin (x_ix x_v x_c (ix1 _ 1)) (x_ix x_v x_c (ix0 _ b)) (bm _ _ (ok_dn ha hb))) x_es0)) (cal_part n _ _ G hl hok))
  rw [e, gc_self]
  congr 2
  rw [Rat.intCast_mul, Rat.intCast_mul, Rat.intCast_natCast, Rat.intCast_natCast]
  have h1 := den_ne 1
  have h2 := den_ne b
  have h3 : (b.num : Rat) ≠ 0 := fun e => hn (Rat.intCast_eq_zero_iff.mp e)
  conv => rhs; rw [rat_eq 1, rat_eq b]
  grind
section
variable (n : Nat) {G : Gs} {p q0 : List Rat} {c : Rat} {Z : DPar} (hq : DOk Z (q0 ++ [c]) c) (hc : c ≠ 0)
include hq hc
theorem div_loop (X0 : Option D) (P : Rat → Rat) : ∀ (r m t : Nat) (R w : List Rat) (z5 z6 z7 z8 : Option D), R.length = r → (r - q0.length) + t ≤ Z.T → Z.T < 1000 → r < 400 → r < m → (∀ x ∈ R, Bd (Z.D t) (Z.B t) x) → (∀ x ∈ w, Fi x) → w.length ≤ t → (∀ x, P x = ev (q0 ++ [c]) x * (x ^ (r + 1 - (q0.length + 1)) * ev w.reverse x) + ev R x) →
    ∃ (t' : Nat) (R' w' : List Rat) (y5 y6 y7 y8 : Option D), t' ≤ Z.T ∧ whL (fun ρ1 G1 => evE (Sa (n + 5)) ρ1 divTest G1) (fun ρ1 G1 => evB (Sa (n + 5)) divBody ρ1 G1) m (dEnv X0 (some (cv (q0 ++ [c]))) c G z5 z6 z7 z8) (G ++ [some (C.lst (R.map pt)), some (C.lst (w.map pt))]) = .next (dEnv X0 (some (cv (q0 ++ [c]))) c G y5 y6 y7 y8) (G ++ [some (C.lst (R'.map pt)), some (C.lst (w'.map pt))]) ∧
      R'.length ≤ r ∧ R'.length < q0.length + 1 ∧ (∀ x ∈ R', Bd (Z.D t') (Z.B t') x) ∧ (∀ x ∈ w', Fi x) ∧ w'.length ≤ t' ∧ ∀ x, P x = ev (q0 ++ [c]) x * ev w'.reverse x + ev R' x
  | r, 0, _, _, _, _, _, _, _, _, _, _, _, hm, _, _, _, _ => by omega
  | r, m + 1, t, R, w, z5, z6, z7, z8, hr, hrt, hT, hr4, hm, hR, hw, hwl, hP => by
    have hlen : (q0 ++ [c]).length = q0.length + 1 := by simp
    by_cases h : r < q0.length + 1
    · refine ⟨t, R, w, z5, z6, z7, z8, by omega, wh_stop (S := Sa (n + 5)) (x_cmp (x_prim (x_es x_v x_es0) (len_cell R)) (x_prim (x_es x_v x_es0) (len_cv (q0 ++ [c]))) ?_), by omega, by omega, hR, hw, hwl, fun x => ?_⟩
      · rw [cge, decide_eq_false (by omega)]
      · rw [hP x, show r + 1 - (q0.length + 1) = 0 by omega]
        grind
    · have hR0 : 0 < R.length := by omega
      have hsplit := getLast_getD R hR0
      have hb0 : Bd (Z.D t) (Z.B t) (R.getD (R.length - 1) 0) := hR _ (List.mem_of_getElem? (getD_of (by omega)))
      generalize hc0 : R.getD (R.length - 1) 0 = c0 at hsplit hb0
      have lim0 := hq.lim t (by omega)
      have bby : Fi (c0 * (1 / c)) := hq.byF t (by omega) c0 hb0
      have f0 : Fi c0 := hb0.fi' (by omega) (by omega) lim0
      have fi : Fi (1 / c) := fi_inv (hq.fq c (by simp)) hc
      obtain ⟨R', z7', z8', e, h1, h2, h3, h4⟩ := div_in n hq hc (G := G) (t := t) (by omega) (R := R) (w := w) (by_ := c0 * (1 / c)) (by omega) hR (fun b hb => hq.prod t c0 hb0 b hb) bby X0 (some (pt (1 / c))) z7 z8
      rw [hc0] at h4
      have hz : R'.getD (R.length - 1) 0 = 0 := by rw [h4]; grind
      have hs' := getLast_getD R' (by omega)
      rw [h1, hz] at hs'
      have hlast : (G ++ some (C.lst (R.map pt)) :: [some (C.lst (w.map pt))]) = G ++ some (C.lst ((R.dropLast ++ [c0]).map pt)) :: [some (C.lst (w.map pt))] := by rw [← hsplit]
      have hix : ixD (G ++ some (C.lst (R.map pt)) :: [some (C.lst (w.map pt))]) (.cell G.length) (.int (-1)) = some (pt c0) := by rw [hlast]; exact ixl_cell
      have ha : cmpD .ge (.int (R.length : Nat)) (.int ((q0 ++ [c]).length : Nat)) = some true := by rw [cge, decide_eq_true (by omega)]
      have hsub : binD .sub (.int (R.length : Nat)) (.int ((q0 ++ [c]).length : Nat)) = some (.int ((R.length - (q0.length + 1) : Nat) : Int)) := by
        rw [bs, hlen]
        have : ((R.length : Nat) : Int) - ((q0.length + 1 : Nat) : Int) = ((R.length - (q0.length + 1) : Nat) : Int) := by omega
        rw [this]
      have hpop : (R'.map pt)[(R'.map pt).length - 1]? = some (pt 0) := by
        rw [List.length_map, h1]
        have hg := getD_of (l := R') (k := R.length - 1) (by omega)
        rw [hz] at hg
        rw [List.getElem?_map, hg]; rfl
      have hdl : (R'.map pt).dropLast = R'.dropLast.map pt := by rw [List.map_dropLast]
      have hwlen : (w.map pt).length < sizeLine := by rw [List.length_map, szl]; omega
      have hP' : ∀ x, P x = ev (q0 ++ [c]) x * (x ^ (r - 1 + 1 - (q0.length + 1)) * ev (w ++ [c0 * (1 / c)]).reverse x) + ev R'.dropLast x := fun x => by
        have hd : ev R' x = ev R'.dropLast x := by
          have e1 : ev R' x = ev (R'.dropLast ++ [0]) x := congrArg (fun l => ev l x) hs'
          rw [e1, ev_app]
          show _ + x ^ _ * ((0 : Rat) + x * 0) = _
          grind
        rw [← hd, h3 x, hP x, List.reverse_append]
        show _ = ev (q0 ++ [c]) x * (_ * (c0 * (1 / c) + x * ev w.reverse x)) + _
        rw [show r + 1 - (q0.length + 1) = (R.length - (q0.length + 1)) + 1 by omega, show r - 1 + 1 - (q0.length + 1) = R.length - (q0.length + 1) by omega, Rat.pow_succ]
        grind
      obtain ⟨t', Rf, wf, y5, y6, y7, y8, g1, g2, g3, g4, g5, g6, g7, g8⟩ := div_loop X0 P (r - 1) m (t + 1) R'.dropLast (w ++ [c0 * (1 / c)]) (some (pt (c0 * (1 / c)))) (some (.int ((R.length - (q0.length + 1) : Nat) : Int))) z7' z8' (by rw [List.length_dropLast]; omega) (by omega) (by omega) (by omega) (by omega) (fun x hx => h2 x (List.mem_of_mem_take (List.dropLast_eq_take ▸ hx))) (fun x hx => by
        rcases List.mem_append.mp hx with hx | hx
        · exact hw x hx
        · rw [List.mem_singleton.mp hx]; exact bby) (by rw [List.length_append, List.length_singleton]; omega) hP'
      have step : evB (Sa (n + 5)) divBody (dEnv X0 (some (cv (q0 ++ [c]))) c G z5 z6 z7 z8) (G ++ [some (C.lst (R.map pt)), some (C.lst (w.map pt))]) = .next (dEnv X0 (some (cv (q0 ++ [c]))) c G (some (pt (c0 * (1 / c)))) (some (.int ((R.length - (q0.length + 1) : Nat) : Int))) z7' z8') (G ++ [some (C.lst (R'.dropLast.map pt)), some (C.lst ((w ++ [c0 * (1 / c)]).map pt))]) := by
        refine b_next (s_set (x_call (x_es (x_ix x_v (x_neg x_c) hix) (x_es x_v x_es0)) (cal_times (n + 2) _ f0 fi))) (b_next (s_set (x_bin (x_prim (x_es x_v x_es0) (len_cell R)) (x_prim (x_es x_v x_es0) (len_cv (q0 ++ [c]))) hsub)) (b_next (s_for (i_enum x_v) (by rw [enum_pt]; exact e)) (b_next (s_ex (x_pop x_v at_end hpop)) ?_)))
        rw [set_end, hdl]
        refine b_next (s_ex (x_app x_v at_end2 x_v at_end2 hwlen)) ?_
        rw [set_end2, List.map_append]
        rfl
      exact ⟨t', Rf, wf, y5, y6, y7, y8, g1, wh_go (S := Sa (n + 5)) (x_cmp (x_prim (x_es x_v x_es0) (len_cell R)) (x_prim (x_es x_v x_es0) (len_cv (q0 ++ [c]))) ha) step g2, by omega, g4, g5, g6, g7, g8⟩
theorem cal_divided (hG : Cl G) (hp : ∀ r ∈ p, Bd (Z.D 0) (Z.B 0) r) (hpl : p.length ≤ Z.T + q0.length) (hp4 : p.length < 300) (hql : q0.length < 300) (hT : Z.T < 100) : ∃ W R t, t ≤ Z.T ∧ (Sa (n + 6)).cal 16 [cv p, cv (q0 ++ [c])] G = .ok (.tup [cv (trim W), cv (trim R)]) G ∧ R.length < q0.length + 1 ∧ (∀ x ∈ R, Bd (Z.D t) (Z.B t) x) ∧ ∀ x, ev p x = ev (q0 ++ [c]) x * ev W x + ev R x := by
  have fc : Fi c := hq.fq c (by simp)
  have hlen : (q0 ++ [c]).length = q0.length + 1 := by simp
  obtain ⟨t, R, w, y5, y6, y7, y8, g1, g2, g3, g4, g5, g6, g7, g8⟩ := div_loop n hq hc (G := G) (some (cv p)) (ev p) p.length 100000 0 p [] none none none none rfl (by omega) (by omega) (by omega) (by omega) hp (fun x hx => nomatch hx) (Nat.le_refl _) (fun x => by show _ = _ * (_ * (0 : Rat)) + _; grind)
  have hgd : (q0 ++ [c]).getD q0.length 0 = c := by
    rw [List.getD_eq_getElem?_getD, List.getElem?_append_right (Nat.le_refl _), Nat.sub_self]; rfl
  have ep : (Sa (n + 5)).cal 13 [cv (q0 ++ [c]), .int (((q0 ++ [c]).length : Nat) - 1)] G = .ok (pt c) G := by
    have h := cal_part_at (n + 4) G (q0 ++ [c]) q0.length
    rw [hgd] at h
    rw [hlen, show (((q0.length + 1 : Nat) : Int) - 1) = (q0.length : Nat) by omega]
    exact h
  have eo := cal_inv (n + 2) G fc hc
  have lim := hq.lim t (by omega)
  have eR := cal_curve (n + 1) (G ++ [none, none]) (x := lv R) (l := R) rfl (fun r hr => (g5 r hr).fi' (by omega) (by omega) lim) (by omega)
  have eW := cal_curve (n + 1) (G ++ [some (C.lst (R.map pt)), none]) (x := lv w.reverse) (l := w.reverse) rfl (fun r hr => g6 r (List.mem_reverse.mp hr)) (by rw [List.length_reverse]; omega)
  have hrev : (w.map pt).reverse = w.reverse.map pt := by rw [List.map_reverse]
  have b : evB (Sa (n + 5)) m_divided.body [some (cv p), some (cv (q0 ++ [c])), none, none, none, none, none, none, none] G = .ret (.tup [cv (trim w.reverse), cv (trim R)]) (G ++ [none, none]) := by
    refine b_next (s_set (x_call (x_es (x_tup (x_es x_c (x_es x_c x_es0))) (x_es (x_call (x_es x_v (x_es (x_call (x_es x_v x_es0) (cal_power (n + 4) G _)) x_es0)) ep) x_es0)) eo)) (b_next (s_set (x_listC x_v rfl)) (b_next (s_set (x_lstC x_es0)) ?_))
    have e0 : (G ++ [some (C.lst (p.map pt))]) ++ [some (C.lst [])] = G ++ [some (C.lst (p.map pt)), some (C.lst ((([] : List Rat)).map pt))] := by simp
    have e1 : (G ++ [some (C.lst (p.map pt))]).length = G.length + 1 := by simp
    rw [e0, e1]
    refine b_next g2 (b_ret (s_ret (x_tup (x_es (x_call (x_es (x_rev (x_take x_v at_end2)) x_es0) (r := .ok (cv (trim w.reverse)) (G ++ [some (C.lst (R.map pt)), none])) ?_) (x_es (x_call (x_es (x_take x_v at_end) x_es0) (r := .ok (cv (trim R)) (G ++ [none, none])) ?_) x_es0)))))
    · rw [set_end2, hrev]; exact eW
    · rw [set_end]; exact eR
  refine ⟨w.reverse, R, t, g1, ((cal_at (n + 5) 16 (by decide) rfl _ G).trans (run_d m_divided (args := [cv p, cv (q0 ++ [c])]) (S := Sa (n + 5)) (ρ := [some (cv p), some (cv (q0 ++ [c])), none, none, none, none, none, none, none]) (G := G) rfl rfl b)).trans (gc_drop hG ?_), g4, g5, g8⟩
  show (free (cv (trim w.reverse)) && (free (cv (trim R)) && true)) = true
  rw [free_cv, free_cv]; rfl
end
end LK
end
/-! ## R8 -/
section
set_option Elab.async false
set_option linter.all false
set_option maxRecDepth 200000
set_option maxHeartbeats 8000000
set_option exponentiation.threshold 300
namespace LK
open PySem PV RP
/-! division is one -/
theorem lead_zero {q0 U0 V : List Rat} {c u : Rat} (hV : V.length ≤ q0.length) (h : ∀ x, ev (q0 ++ [c]) x * ev (U0 ++ [u]) x = ev V x) : c * u = 0 := by
  let M : List Rat := addP (addP (mulP q0 (U0 ++ [u])) (List.replicate q0.length 0 ++ scP c U0)) (scP (-1) V)
  have hm : (mulP q0 (U0 ++ [u])).length ≤ q0.length + U0.length := by
    rcases mul_len q0 (U0 ++ [u]) with h | h
    · rw [List.length_append, List.length_singleton] at h; omega
    · cases U0 <;> cases h
  have hM : M.length ≤ q0.length + U0.length := by
    show (addP (addP _ _) _).length ≤ _
    rw [add_len, add_len, List.length_append, List.length_replicate]
    simp only [scP, List.length_map]
    omega
  have hz : ∀ x, ev (M ++ (List.replicate (q0.length + U0.length - M.length) 0 ++ [c * u])) x = 0 := fun x => by
    rw [ev_app, ev_app, ev_rep, List.length_replicate]
    have e1 : ev M x = ev q0 x * ev (U0 ++ [u]) x + x ^ q0.length * (c * ev U0 x) - ev V x := by
      show ev (addP (addP _ _) _) x = _
      rw [ev_add, ev_add, ev_mul, ev_app x (List.replicate q0.length 0) (scP c U0), ev_rep, ev_sc, ev_sc, List.length_replicate]
      grind
    rw [e1, ← h x, ev_app x q0 [c], ev_app x U0 [u]]
    show _ + _ * (0 + _ * (c * u + x * 0)) = (0 : Rat)
    have e2 : x ^ M.length * x ^ (q0.length + U0.length - M.length) = x ^ q0.length * x ^ U0.length := by
      rw [← rpow_add, ← rpow_add, show M.length + (q0.length + U0.length - M.length) = q0.length + U0.length by omega]
    have e3 : ev [c] x = c := by show c + x * 0 = c; grind
    have e4 : ev [u] x = u := by show u + x * 0 = u; grind
    rw [e3, e4]
    generalize x ^ M.length = a at *
    generalize x ^ (q0.length + U0.length - M.length) = b at *
    grind
  exact coef_zero _ _ (Nat.le_refl _) hz (c * u) (by simp)
theorem div_one {q0 w1 w2 r1 r2 : List Rat} {c : Rat} (hc : c ≠ 0) (h1 : r1.length ≤ q0.length) (h2 : r2.length ≤ q0.length) (h : ∀ x, ev (q0 ++ [c]) x * ev w1 x + ev r1 x = ev (q0 ++ [c]) x * ev w2 x + ev r2 x) : (∀ x, ev w1 x = ev w2 x) ∧ ∀ x, ev r1 x = ev r2 x := by
  let U := trim (addP w1 (scP (-1) w2))
  let V := addP r2 (scP (-1) r1)
  have hU : ∀ x, ev U x = ev w1 x - ev w2 x := fun x => by
    show ev (trim _) x = _
    rw [ev_trim, ev_add, ev_sc]; grind
  have hV : ∀ x, ev V x = ev r2 x - ev r1 x := fun x => by
    show ev (addP _ _) x = _
    rw [ev_add, ev_sc]; grind
  have hVl : V.length ≤ q0.length := by
    show (addP _ _).length ≤ _
    rw [add_len]; simp only [scP, List.length_map]; omega
  have hUV : ∀ x, ev (q0 ++ [c]) x * ev U x = ev V x := fun x => by
    rw [hU, hV]; have := h x; grind
  have hU0 : U = [] := by
    by_cases hn : U = []
    · exact hn
    · have hl : 0 < U.length := List.length_pos_iff.mpr hn
      have hs := getLast_getD U hl
      have htr : Tr U := trim_trim _
      generalize hu : U.getD (U.length - 1) 0 = u at hs
      have hu0 : u ≠ 0 := Tr.last htr (a := u) (by rw [hs]; simp)
      have hUV2 : ∀ x, ev (q0 ++ [c]) x * ev (U.dropLast ++ [u]) x = ev V x := fun x => by rw [← hs]; exact hUV x
      have := lead_zero hVl hUV2
      exfalso
      rcases Rat.mul_eq_zero.mp this with h | h
      · exact hc h
      · exact hu0 h
  have hz : ∀ x, ev U x = 0 := fun x => by rw [hU0]; rfl
  refine ⟨fun x => ?_, fun x => ?_⟩
  · have := hU x; have := hz x; grind
  · have a := hV x; have b := hUV x; have d := hz x; rw [d] at b; grind
/-- a list's size: a common part of 2 ^ d, at most 2 ^ b of them -/
def Sz (d b : Nat) (l : List Rat) : Prop := ∃ D, 0 < D ∧ D ≤ 2 ^ d ∧ ∀ r ∈ l, Bd D (2 ^ b) r
theorem Sz.fi {d b : Nat} {l : List Rat} (h : Sz d b l) (hd : d < 4399) (hb : b < 4399) : FiL l := fun r hr => by
  obtain ⟨D, h0, h1, h2⟩ := h
  exact (h2 r hr).fi (Nat.lt_of_le_of_lt h1 (Nat.pow_lt_pow_right (by decide) (by omega))) (Nat.pow_lt_pow_right (by decide) (by omega))
theorem lim_pow {a b d e : Nat} (h1 : a ≤ 2 ^ d) (h2 : b ≤ 2 ^ e) (hd : d < 4399) (he : e < 4399) : Lim (a + b) := ⟨by
  have e1 : 2 ^ d ≤ 2 ^ 4398 := Nat.pow_le_pow_right (by decide) (by omega)
  have e2 : 2 ^ e ≤ 2 ^ 4398 := Nat.pow_le_pow_right (by decide) (by omega)
  have e3 : 2 ^ 4400 = 2 ^ 4398 * 4 := by rw [← Nat.pow_add 2 4398 2]
  have e4 : 0 < 2 ^ 4398 := Nat.pow_pos (by decide)
  omega⟩
theorem pow_le2 {L b t : Nat} (h : L ≤ 2 ^ b) : L ^ t ≤ 2 ^ (t * b) := by
  rw [Nat.mul_comm, Nat.pow_mul]
  exact Nat.pow_le_pow_left h t
theorem mul_le2 {a b d e : Nat} (h1 : a ≤ 2 ^ d) (h2 : b ≤ 2 ^ e) : a * b ≤ 2 ^ (d + e) := by
  rw [Nat.pow_add]
  exact Nat.mul_le_mul h1 h2
/-- one step: the rest of a by b -/
structure Rem (a b w r : List Rat) : Prop where
  cal : ∀ (n : Nat) (G : Gs), Cl G → (Sa (n + 6)).cal 16 [cv a, cv b] G = .ok (.tup [cv w, cv r]) G
  tw : Tr w
  tr : Tr r
  len : r.length < b.length
  id : ∀ x, ev a x = ev b x * ev w x + ev r x
theorem rem_of {Z : DPar} {a q0 : List Rat} {c : Rat} (ok : DOk Z (q0 ++ [c]) c) (c0 : c ≠ 0) (hA0 : ∀ r ∈ a, Bd (Z.D 0) (Z.B 0) r) (hT : a.length ≤ Z.T + q0.length) (hT2 : Z.T < 100) (hal : a.length < 300) (hbl : q0.length < 300) :
    ∃ w r t0, Rem a (q0 ++ [c]) w r ∧ t0 ≤ Z.T ∧ ∀ x ∈ r, Bd (Z.D t0) (Z.B t0) x := by
  have key : ∀ n (G : Gs), Cl G → _ := fun n G hG => cal_divided n (Z := Z) ok c0 (G := G) (p := a) hG hA0 hT hal hbl hT2
  obtain ⟨W0, R0, t0, ht0, _, hR0, hRb, hid⟩ := key 0 [] rfl
  have tl0 := trim_len R0
  refine ⟨trim W0, trim R0, t0, ⟨fun n G hG => ?_, trim_trim _, trim_trim _, by rw [List.length_append, List.length_singleton]; omega, fun x => by rw [ev_trim, ev_trim]; exact hid x⟩, ht0, fun x hx => hRb x (trim_mem hx)⟩
  obtain ⟨W, R, t, ht, hcal, hR, _, hid2⟩ := key n G hG
  have u := div_one (q0 := q0) (w1 := W) (w2 := W0) (r1 := R) (r2 := R0) c0 (by omega) (by omega) fun x => by rw [← hid2 x, ← hid x]
  rw [hcal, trim_ext u.1, trim_ext u.2]
section
variable {c c0 b : Rat} {D B E F : Nat} {lz : Int} (h : c = (lz : Rat) / (E : Rat)) (hl0 : lz ≠ 0) (hE : 0 < E)
include h hl0 hE
theorem by_bd (h0 : Bd D B c0) (hb : Bd E F b) : Bd (D * lz.natAbs) (B * F) (c0 * (1 / c) * b) := by
  subst h
  obtain ⟨a, rfl, ha, hD⟩ := h0
  obtain ⟨k, rfl, hk, _⟩ := hb
  have hE' : ((E : Nat) : Rat) ≠ 0 := fun e => by have := Rat.natCast_eq_zero_iff.mp e; omega
  have hD' : ((D : Nat) : Rat) ≠ 0 := fun e => by have := Rat.natCast_eq_zero_iff.mp e; omega
  have hl' : (lz : Rat) ≠ 0 := fun e => hl0 (Rat.intCast_eq_zero_iff.mp e)
  have hL' : ((lz.natAbs : Nat) : Rat) ≠ 0 := fun e => by have := Rat.natCast_eq_zero_iff.mp e; omega
  have hab : (a * k).natAbs ≤ B * F := by rw [Int.natAbs_mul]; exact Nat.mul_le_mul ha hk
  have hp : 0 < D * lz.natAbs := Nat.mul_pos hD (by omega)
  rcases Int.natAbs_eq lz with e | e
  · refine ⟨a * k, ?_, hab, hp⟩
    rw [Rat.intCast_mul, Rat.natCast_mul]
    have : (lz : Rat) = ((lz.natAbs : Nat) : Rat) := by conv => lhs; rw [e]
                                                        exact Rat.intCast_natCast _
    rw [this]
    grind
  · refine ⟨-(a * k), ?_, by rw [Int.natAbs_neg]; exact hab, hp⟩
    rw [Rat.intCast_neg, Rat.intCast_mul, Rat.natCast_mul]
    have : (lz : Rat) = -((lz.natAbs : Nat) : Rat) := by conv => lhs; rw [e, Rat.intCast_neg]
                                                         rw [Rat.intCast_natCast]
    rw [this]
    grind
theorem by_bd1 (h0 : Bd D B c0) : Bd (D * lz.natAbs) (B * E) (c0 * (1 / c)) := by
  have hE' : ((E : Nat) : Rat) ≠ 0 := fun e => by have := Rat.natCast_eq_zero_iff.mp e; omega
  have hb : Bd E E (1 : Rat) := ⟨(E : Int), by rw [Rat.intCast_natCast]; grind, by simp, hE⟩
  have := by_bd h hl0 hE h0 hb
  rw [Rat.mul_one] at this
  exact this
end
theorem rem_step {a b : List Rat} {d0 b0 d1 b1 T : Nat} (hb : b ≠ []) (tb : Tr b) (ha : Sz d0 b0 a) (hbz : Sz d1 b1 b) (hT : a.length < b.length + T) (hT2 : T < 90) (hal : a.length < 300) (hbl : b.length < 300)
    (k1 : d0 + (T + 1) * b1 < 4390) (k2 : b0 + (T + 1) * (b1 + 1) < 4390) (k3 : b0 + T * (b1 + 1) + d1 < 4390) : ∃ w r, Rem a b w r ∧ Sz (d0 + T * b1) (b0 + T * (b1 + 1)) r := by
  have hl : 0 < b.length := List.length_pos_iff.mpr hb
  have hs := getLast_getD b hl
  generalize hc : b.getD (b.length - 1) 0 = c at hs
  generalize hq : b.dropLast = q0 at hs
  subst hs
  have c0 : c ≠ 0 := Tr.last tb (a := c) (by simp)
  rw [List.length_append, List.length_singleton] at hT hbl
  have hf : FiL (q0 ++ [c]) := hbz.fi (by omega) (by have : b1 + 1 ≤ (T + 1) * (b1 + 1) := Nat.le_mul_of_pos_left _ (by omega); omega)
  obtain ⟨D0, hD0, hD0', hA⟩ := ha
  obtain ⟨E, hE, hE', hB⟩ := hbz
  obtain ⟨lz, hlz, hlb, _⟩ := hB c (by simp)
  have hlz0 : lz ≠ 0 := fun e => c0 (by rw [hlz, e]; show ((0 : Int) : Rat) / _ = 0; grind)
  let Z : DPar := ⟨fun t => D0 * lz.natAbs ^ t, fun t => 2 ^ b0 * (lz.natAbs + 2 ^ b1) ^ t, fun t => 2 ^ b0 * (lz.natAbs + 2 ^ b1) ^ t * 2 ^ b1, fun t => 2 ^ b0 * (lz.natAbs + 2 ^ b1) ^ t * lz.natAbs, T⟩
  have hDt : ∀ t, Z.D t ≤ 2 ^ (d0 + t * b1) := fun t => mul_le2 hD0' (pow_le2 hlb)
  have hBt : ∀ t, Z.B t ≤ 2 ^ (b0 + t * (b1 + 1)) := fun t => by
    refine mul_le2 (Nat.le_refl _) (pow_le2 ?_)
    show lz.natAbs + 2 ^ b1 ≤ 2 ^ (b1 + 1)
    rw [Nat.pow_succ]; omega
  have mono1 : ∀ {t s : Nat}, t ≤ s → t * b1 ≤ s * b1 := fun h => Nat.mul_le_mul_right _ h
  have mono2 : ∀ {t s : Nat}, t ≤ s → t * (b1 + 1) ≤ s * (b1 + 1) := fun h => Nat.mul_le_mul_right _ h
  have e1 : (T + 1) * b1 = T * b1 + b1 := by rw [Nat.add_mul, Nat.one_mul]
  have e2 : (T + 1) * (b1 + 1) = T * (b1 + 1) + (b1 + 1) := by rw [Nat.add_mul, Nat.one_mul]
  have Ds : ∀ t, Z.D (t + 1) = Z.D t * lz.natAbs := fun t => by show D0 * _ ^ (t + 1) = D0 * _ * _; rw [Nat.pow_succ, Nat.mul_assoc]
  have ok : DOk Z (q0 ++ [c]) c := {
    up := fun t r h => by rw [Ds]; exact h.up (by omega)
    prod := fun t c0' h b hb => by rw [Ds]; exact by_bd hlz hlz0 hE h (hB b hb)
    le := fun t => by
      show 2 ^ b0 * _ ^ t * _ + 2 ^ b0 * _ ^ t * _ ≤ 2 ^ b0 * _ ^ (t + 1)
      rw [Nat.pow_succ, ← Nat.mul_add, Nat.mul_assoc]
      exact Nat.le_refl _
    byF := fun t ht c0' h => by
      have ht : t ≤ T := ht
      have h1 : Z.D t * lz.natAbs ≤ 2 ^ (d0 + t * b1 + b1) := mul_le2 (hDt t) hlb
      have h2 : Z.B t * E ≤ 2 ^ (b0 + t * (b1 + 1) + d1) := mul_le2 (hBt t) hE'
      exact (by_bd1 hlz hlz0 hE h).fi' (Nat.le_add_right _ _) (Nat.le_add_left _ _) (lim_pow h1 h2 (by have := mono1 ht; omega) (by have := mono2 ht; omega))
    lim := fun t ht => lim_pow (hDt t) (hBt t) (by have := mono1 (show t ≤ T + 1 from ht); omega) (by have := mono2 (show t ≤ T + 1 from ht); omega)
    fq := hf }
  have hA0 : ∀ r ∈ a, Bd (Z.D 0) (Z.B 0) r := fun r hr => by
    have e1 : Z.D 0 = D0 := Nat.mul_one _
    have e2 : Z.B 0 = 2 ^ b0 := Nat.mul_one _
    rw [e1, e2]; exact hA r hr
  obtain ⟨w, r, t0, R, ht0, hr⟩ := rem_of ok c0 hA0 (by show a.length ≤ T + q0.length; omega) (by show T < 100; omega) hal (by omega)
  refine ⟨w, r, R, Z.D t0, Nat.mul_pos hD0 (Nat.pow_pos (by omega)), ?_, fun x hx => ?_⟩
  · refine Nat.le_trans (hDt t0) (Nat.pow_le_pow_right (by decide) ?_)
    have := mono1 (show t0 ≤ T from ht0); omega
  · refine (hr x hx).mono (Nat.le_trans (hBt t0) (Nat.pow_le_pow_right (by decide) ?_))
    have := mono2 (show t0 ≤ T from ht0); omega
/-- by a constant -/
theorem rem_const {a : List Rat} {c : Rat} {d0 b0 d1 b1 T : Nat} (c0 : c ≠ 0) (ha : Sz d0 b0 a) (hbz : Sz d1 b1 [c]) (hT : a.length ≤ T) (hT2 : T < 90)
    (k1 : d0 + b1 < 4390) (k2 : b0 + T < 4390) (k3 : b0 + T + d1 < 4390) (k4 : d1 < 4390) : ∃ w, Rem a [c] w [] := by
  have hf : FiL [c] := hbz.fi (by omega) (by omega)
  obtain ⟨D0, hD0, hD0', hA⟩ := ha
  obtain ⟨E, hE, hE', hB⟩ := hbz
  obtain ⟨lz, hlz, hlb, _⟩ := hB c (by simp)
  have hlz0 : lz ≠ 0 := fun e => c0 (by rw [hlz, e]; show ((0 : Int) : Rat) / _ = 0; grind)
  let Z : DPar := ⟨fun _ => D0, fun t => 2 ^ (b0 + t), fun t => 2 ^ (b0 + t), fun t => 2 ^ (b0 + t), T⟩
  have ok : DOk Z ([] ++ [c]) c := {
    up := fun t r h => h
    prod := fun t c0' h b hb => by
      rw [List.nil_append, List.mem_singleton] at hb
      subst hb
      have e : c0' * (1 / b) * b = c0' := by grind
      rw [e]; exact h
    le := fun t => by
      show 2 ^ (b0 + t) + 2 ^ (b0 + t) ≤ 2 ^ (b0 + (t + 1))
      rw [← Nat.add_assoc, Nat.pow_succ]; omega
    byF := fun t ht c0' h => by
      have ht : t ≤ T := ht
      have h1 : D0 * lz.natAbs ≤ 2 ^ (d0 + b1) := mul_le2 hD0' hlb
      have h2 : 2 ^ (b0 + t) * E ≤ 2 ^ (b0 + t + d1) := mul_le2 (Nat.le_refl _) hE'
      exact (by_bd1 hlz hlz0 hE h).fi' (Nat.le_add_right _ _) (Nat.le_add_left _ _) (lim_pow h1 h2 (by omega) (by omega))
    lim := fun t ht => lim_pow hD0' (Nat.le_refl _) (by omega) (by have : t ≤ T + 1 := ht; omega)
    fq := hf }
  obtain ⟨w, r, t0, R, ht0, hr⟩ := rem_of (a := a) ok c0 hA (by show a.length ≤ T + 0; omega) (by show T < 100; omega) (by omega) (by show 0 < 300; omega)
  have : r = [] := List.length_eq_zero_iff.mp (by have := R.len; rw [List.nil_append, List.length_singleton] at this; omega)
  subst this
  exact ⟨w, R⟩
end LK
end
/-! ## R9 -/
section
set_option Elab.async false
set_option linter.all false
set_option maxRecDepth 200000
set_option maxHeartbeats 8000000
set_option exponentiation.threshold 300
namespace LK
open PySem PV RP
/-! rows of rests -/
theorem sc_tr {c : Rat} (h : c ≠ 0) {l : List Rat} (t : Tr l) : Tr (scP c l) := by
  refine tr_of_last fun a ha => ?_
  unfold scP at ha
  rw [List.getLast?_map] at ha
  cases hl : l.getLast? with
  | none => rw [hl] at ha; cases ha
  | some b =>
    rw [hl] at ha
    have hb := Tr.last t hl
    have e : c * b = a := Option.some.inj ha
    intro h0
    rw [h0] at e
    rcases Rat.mul_eq_zero.mp e with e | e
    · exact h e
    · exact hb e
theorem Bd.negs {D B : Nat} {a : Rat} (h : Bd D B a) : Bd D B (-1 * a) := by
  have := h.neg
  have e : -1 * a = -a := by grind
  rw [e]; exact this
theorem Sz.neg {d b : Nat} {l : List Rat} (h : Sz d b l) : Sz d b (scP (-1) l) := by
  obtain ⟨D, h0, h1, h2⟩ := h
  refine ⟨D, h0, h1, fun r hr => ?_⟩
  obtain ⟨a, ha, rfl⟩ := List.mem_map.mp hr
  exact Bd.negs (h2 a ha)
def nx (s : Bool) (r : List Rat) : List Rat := if s = true then r else scP (-1) r
theorem nx_len (s : Bool) (r : List Rat) : (nx s r).length = r.length := by cases s <;> simp [nx, scP]
theorem nx_tr (s : Bool) {r : List Rat} (t : Tr r) : Tr (nx s r) := by
  cases s
  · exact sc_tr (by decide) t
  · exact t
theorem nx_sz (s : Bool) {r : List Rat} {d b : Nat} (t : Sz d b r) : Sz d b (nx s r) := by
  cases s
  · exact t.neg
  · exact t
def sgn (s : Bool) : Rat := if s = true then 1 else -1
theorem ev_nx (s : Bool) (r : List Rat) (x : Rat) : ev (nx s r) x = sgn s * ev r x := by
  cases s
  · exact ev_sc (-1) x r
  · show ev r x = 1 * _; grind
structure Fit (l : List Rat) : Prop where
  h : ∃ d b, Sz d b l ∧ d + b + 120 * (l.length + 3) < 4395
theorem Fit.fi {l : List Rat} (h : Fit l) : FiL l := by
  obtain ⟨d, b, h1, h2⟩ := h
  exact h1.fi (by omega) (by omega)
inductive Eu (s : Bool) : List Rat → List Rat → List (List Rat) → Prop
  | nil (a : List Rat) : Eu s a [] [a]
  | step {a b w r : List Rat} {L : List (List Rat)} : b ≠ [] → Rem a b w r → Fit b → Eu s b (nx s r) L → Eu s a b (a :: L)
/-- sizes all along -/
def bud : Nat → Nat → Nat → Nat → Nat → Nat → Nat → Bool
  | 0, _, _, _, _, _, _ => true
  | f + 1, m, k, d0, b0, d1, b1 =>
    if k = 0 then true
    else decide (d1 + b1 + 120 * (k + 3) < 4395) && (if k = 1 then decide (d0 + b1 < 4390) && decide (b0 + m + d1 < 4390)
    else decide (d0 + (m + 1 - k + 1) * b1 < 4390) && decide (b0 + (m + 1 - k + 1) * (b1 + 1) < 4390) && decide (b0 + (m + 1 - k) * (b1 + 1) + d1 < 4390) &&
      (List.range k).all fun j => bud f k j d1 b1 (d0 + (m + 1 - k) * b1) (b0 + (m + 1 - k) * (b1 + 1)))
theorem eu_is (s : Bool) : ∀ (f m k d0 b0 d1 b1 : Nat) (a b : List Rat), bud f m k d0 b0 d1 b1 = true → k ≤ f → a.length ≤ m → m ≤ 20 → b.length = k → k ≤ m → Tr b → Sz d0 b0 a → Sz d1 b1 b → ∃ L, Eu s a b L
  | f, m, 0, d0, b0, d1, b1, a, b, _, _, _, _, hb, _, _, _, _ => by
    have : b = [] := List.length_eq_zero_iff.mp hb
    subst this
    exact ⟨[a], .nil a⟩
  | 0, m, k + 1, d0, b0, d1, b1, a, b, _, hk, _, _, _, _, _, _, _ => by omega
  | f + 1, m, k + 1, d0, b0, d1, b1, a, b, h, hk, ha, hm, hb, hkm, tb, sa, sb => by
    unfold bud at h
    rw [if_neg (by omega), Bool.and_eq_true, decide_eq_true_eq] at h
    obtain ⟨hf, h⟩ := h
    have fb : Fit b := ⟨d1, b1, sb, by rw [hb]; exact hf⟩
    have hb0 : b ≠ [] := fun e => by rw [e] at hb; cases hb
    by_cases h1 : k + 1 = 1
    · rw [if_pos h1, Bool.and_eq_true, decide_eq_true_eq, decide_eq_true_eq] at h
      have : ∃ c, b = [c] := List.length_eq_one_iff.mp (by omega)
      obtain ⟨c, rfl⟩ := this
      have c0 : c ≠ 0 := Tr.last tb (a := c) rfl
      obtain ⟨w, R⟩ := rem_const (T := m) c0 sa sb ha (by omega) (by omega) (by omega) (by omega) (by omega)
      have : nx s [] = [] := by cases s <;> rfl
      exact ⟨[a, [c]], .step hb0 R fb (by rw [this]; exact .nil [c])⟩
    · rw [if_neg h1] at h
      simp only [Bool.and_eq_true, decide_eq_true_eq, List.all_eq_true, List.mem_range] at h
      obtain ⟨⟨⟨k1, k2⟩, k3⟩, h⟩ := h
      obtain ⟨w, r, R, sr⟩ := rem_step (T := m + 1 - (k + 1)) hb0 tb sa sb (by omega) (by omega) (by omega) (by omega) k1 k2 k3
      have hr := R.len
      rw [hb] at hr
      obtain ⟨L, hL⟩ := eu_is s f (k + 1) r.length d1 b1 _ _ b (nx s r) (h r.length hr) (by omega) (by omega) (by omega) (nx_len s r) (by omega) (nx_tr s R.tr) sb (nx_sz s sr)
      exact ⟨a :: L, .step hb0 R fb hL⟩
theorem Eu.len {s : Bool} {a b : List Rat} {L : List (List Rat)} (h : Eu s a b L) : L.length ≤ b.length + 1 := by
  induction h with
  | nil => simp
  | step hb R _ _ ih =>
    rw [nx_len] at ih
    have := R.len
    rw [List.length_cons]; omega
theorem Eu.comb {s : Bool} {a b : List Rat} {L : List (List Rat)} (h : Eu s a b L) : ∃ g, L.getLast? = some g ∧ ∃ U V X Y : List Rat, (∀ x, ev g x = ev U x * ev a x + ev V x * ev b x) ∧ (∀ x, ev a x = ev g x * ev X x) ∧ ∀ x, ev b x = ev g x * ev Y x := by
  induction h with
  | nil a =>
    refine ⟨a, rfl, [1], [], [1], [], fun x => ?_, fun x => ?_, fun x => ?_⟩
    · show ev a x = (1 + x * 0) * ev a x + 0 * 0; grind
    · show ev a x = ev a x * (1 + x * 0); grind
    · show (0 : Rat) = ev a x * 0; grind
  | @step a b w r L hb R _ hL ih =>
    obtain ⟨g, hg, U, V, X, Y, h1, h2, h3⟩ := ih
    have hne : L ≠ [] := fun e => by rw [e] at hg; cases hg
    refine ⟨g, by rw [List.getLast?_cons, hg]; rfl, scP (sgn s) V, addP U (scP (-(sgn s)) (mulP V w)), addP (mulP X w) (scP (sgn s) Y), X, fun x => ?_, fun x => ?_, h2⟩
    · have := R.id x
      rw [h1, ev_nx, ev_sc, ev_add, ev_sc, ev_mul]
      have : ev r x = ev a x - ev b x * ev w x := by grind
      rw [this]; grind
    · have e := R.id x
      have e3 := h3 x
      rw [ev_nx] at e3
      have hs : sgn s * sgn s = 1 := by cases s <;> decide +kernel
      have er : ev r x = sgn s * (ev g x * ev Y x) := by rw [← e3]; grind
      rw [e, er, h2 x, ev_add, ev_mul, ev_sc]
      grind
/-! the greatest in both -/
def shTest : PV.E := .cmp .gt (.prim .len [.var 1]) (.con (.int 0))
def shBody : List St := [.set (.tp [.nm 0, .nm 1]) (.tup [.var 1, .ix (.call 16 [.var 0, .var 1]) (.con (.int 1))])]
theorem sh_loop (n : Nat) {G : Gs} (hG : Cl G) {a b : List Rat} {L : List (List Rat)} (h : Eu true a b L) : ∀ m : Nat, L.length ≤ m → ∃ g, L.getLast? = some g ∧ whL (fun ρ1 G1 => evE (Sa (n + 6)) ρ1 shTest G1) (fun ρ1 G1 => evB (Sa (n + 6)) shBody ρ1 G1) m [some (cv a), some (cv b)] G = .next [some (cv g), some (cv [])] G := by
  induction h with
  | nil a =>
    intro m hm
    cases m with
    | zero => simp at hm
    | succ m => exact ⟨a, rfl, wh_stop (S := Sa (n + 6)) (x_cmp (x_prim (x_es x_v x_es0) (len_cv [])) x_c rfl)⟩
  | @step a b w r L hb R _ hL ih =>
    intro m hm
    cases m with
    | zero => simp at hm
    | succ m =>
      obtain ⟨g, hg, e⟩ := ih m (by simpa using hm)
      have hb0 := List.length_pos_iff.mpr hb
      refine ⟨g, by rw [List.getLast?_cons, hg]; rfl, wh_go (S := Sa (n + 6)) (x_cmp (x_prim (x_es x_v x_es0) (len_cv b)) x_c (by rw [cgt, decide_eq_true (by omega)])) ?_ e⟩
      exact b_next (s_set (x_tup (x_es x_v (x_es (x_ix (x_call (x_es x_v (x_es x_v x_es0)) (R.cal n G hG)) x_c rfl) x_es0)))) rfl
theorem Eu.last_fit {s : Bool} {a b : List Rat} {L : List (List Rat)} (h : Eu s a b L) (ha : Fit a) : ∀ r ∈ L, Fit r := by
  induction h with
  | nil a => intro r hr; rw [List.mem_singleton.mp hr]; exact ha
  | step hb R fb hL ih =>
    intro r hr
    rcases List.mem_cons.mp hr with rfl | hr
    · exact ha
    · exact ih fb r hr
theorem Eu.trs {s : Bool} {a b : List Rat} {L : List (List Rat)} (h : Eu s a b L) (ha : Tr a) (tb : Tr b) : ∀ r ∈ L, Tr r := by
  induction h with
  | nil a => intro r hr; rw [List.mem_singleton.mp hr]; exact ha
  | step hb R fb hL ih =>
    intro r hr
    rcases List.mem_cons.mp hr with rfl | hr
    · exact ha
    · exact ih tb (nx_tr s R.tr) r hr
theorem Eu.ne {s : Bool} {a b : List Rat} {L : List (List Rat)} (h : Eu s a b L) (ha : a ≠ []) : ∀ r ∈ L, r ≠ [] := by
  induction h with
  | nil a => intro r hr; rw [List.mem_singleton.mp hr]; exact ha
  | step hb R fb hL ih =>
    intro r hr
    rcases List.mem_cons.mp hr with rfl | hr
    · exact ha
    · exact ih hb r hr
/-- all by the last -/
theorem Sz.monic {d b : Nat} {l : List Rat} {c : Rat} (h : Sz d b l) (hc : c ∈ l) (c0 : c ≠ 0) : Sz b b (scP (1 / c) l) := by
  obtain ⟨D, h0, h1, h2⟩ := h
  obtain ⟨lz, hlz, hlb, _⟩ := h2 c hc
  have hlz0 : lz ≠ 0 := fun e => c0 (by rw [hlz, e]; show ((0 : Int) : Rat) / _ = 0; grind)
  have hD' : ((D : Nat) : Rat) ≠ 0 := fun e => by have := Rat.natCast_eq_zero_iff.mp e; omega
  have hl' : (lz : Rat) ≠ 0 := fun e => hlz0 (Rat.intCast_eq_zero_iff.mp e)
  have hL' : ((lz.natAbs : Nat) : Rat) ≠ 0 := fun e => by have := Rat.natCast_eq_zero_iff.mp e; omega
  refine ⟨lz.natAbs, by omega, hlb, fun r hr => ?_⟩
  obtain ⟨a, ha, rfl⟩ := List.mem_map.mp hr
  obtain ⟨k, rfl, hk, _⟩ := h2 a ha
  rw [hlz]
  rcases Int.natAbs_eq lz with e | e
  · refine ⟨k, ?_, hk, by omega⟩
    have : (lz : Rat) = ((lz.natAbs : Nat) : Rat) := by conv => lhs; rw [e]
                                                        exact Rat.intCast_natCast _
    rw [this]; grind
  · refine ⟨-k, ?_, by rw [Int.natAbs_neg]; exact hk, by omega⟩
    have : (lz : Rat) = -((lz.natAbs : Nat) : Rat) := by conv => lhs; rw [e, Rat.intCast_neg]
                                                         rw [Rat.intCast_natCast]
    rw [Rat.intCast_neg, this]; grind
theorem cal_shared_curve (n : Nat) {G : Gs} (hG : Cl G) {a b : List Rat} {L : List (List Rat)} (h : Eu true a b L) (ha : a ≠ []) (ta : Tr a) (tb : Tr b) (fa : Fit a) (hl : b.length < 1000) (hal : a.length < 900) :
    ∃ g c, L.getLast? = some g ∧ c ≠ 0 ∧ g.getLast? = some c ∧ (Sa (n + 7)).cal 19 [cv a, cv b] G = .ok (cv (scP (1 / c) g)) G := by
  obtain ⟨g, hg, e⟩ := sh_loop n hG h 100000 (by have := h.len; omega)
  have hgm : g ∈ L := List.mem_of_getLast? hg
  have g0 := h.ne ha g hgm
  have tg := h.trs ta tb g hgm
  have fg := h.last_fit fa g hgm
  have hgl : 0 < g.length := List.length_pos_iff.mpr g0
  have hsplit := getLast_getD g hgl
  generalize hc0 : g.getD (g.length - 1) 0 = c at hsplit
  have hgc : g.getLast? = some c := by rw [hsplit]; simp
  have c0 : c ≠ 0 := Tr.last tg hgc
  have hix : ixD G (cv g) (.int (-1)) = some (pt c) := by
    have : ixD G (cv (g.dropLast ++ [c])) (.int (-1)) = some (pt c) := ix_last
    rw [← hsplit] at this
    exact this
  have hcm : c ∈ g := List.mem_of_getLast? hgc
  have fc : Fi c := fg.fi c hcm
  obtain ⟨d, b', sg, hsz⟩ := fg.h
  have fm : FiL (scP (1 / c) g) := (sg.monic hcm c0).fi (by omega) (by omega)
  have ec := cal_scaled (n + 1) G (p := g) (c := 1 / c) fg.fi (fi_inv fc c0) fm (by omega)
  rw [sc_tr (by grind) tg] at ec
  have bb : evB (Sa (n + 6)) m_shared_curve.body [some (cv a), some (cv b)] G = .ret (cv (scP (1 / c) g)) G := b_next e (b_next (s_if0 (x_cmp (x_prim (x_es x_v x_es0) (len_cv g)) x_c (by rw [ceq, eqD_int, decide_eq_false (by omega)]))) (b_ret (s_ret (x_call (x_es x_v (x_es (x_call (x_es (x_tup (x_es x_c (x_es x_c x_es0))) (x_es (x_ix x_v (x_neg x_c) hix) x_es0)) (cal_inv (n + 3) G fc c0)) x_es0)) ec))))
  exact ⟨g, c, hg, c0, hgc, ((cal_at (n + 6) 19 (by decide) rfl _ G).trans (run_d m_shared_curve (args := [cv a, cv _]) (S := Sa (n + 6)) (ρ := [some (cv a), some (cv _)]) (G := G) rfl rfl bb)).trans gc_self⟩
end LK
end
/-! ## R10 -/
section
set_option Elab.async false
set_option linter.all false
set_option maxRecDepth 200000
set_option maxHeartbeats 8000000
set_option exponentiation.threshold 300
namespace LK
open PySem PV RP
/-! rests, signs, changes -/
def rv (L : List (List Rat)) : D := .tup (L.map cv)
theorem wh_brk {c : PV.Env → Gs → R D} {f : PV.Env → Gs → F} {m : Nat} {ρ ρ1 : PV.Env} {G G1 G2 : Gs} (h : c ρ G = .ok (.bl true) G1) (h2 : f ρ G1 = .brk ρ1 G2) : whL c f (m + 1) ρ G = .next ρ1 G2 := by
  simp only [whL, h, rgo, h2]
theorem compL_filt {α : Type} (f : D → Gs → R (Option D)) (a g : α → D) (p : α → Bool) (G : Gs) : ∀ xs : List α, (∀ x ∈ xs, f (a x) G = .ok (if p x then some (g x) else none) G) → compL f (xs.map a) G = .ok ((xs.filter p).map g) G
  | [], _ => rfl
  | x :: xs, h => by
    show (f (a x) G).bind _ = _
    rw [h x (List.mem_cons_self ..), rb]
    show (compL f (xs.map a) G).bind _ = _
    rw [compL_filt f a g p G xs fun y hy => h y (List.mem_cons_of_mem _ hy), rb]
    cases hp : p x with
    | true => rw [List.filter_cons_of_pos hp]; rfl
    | false => rw [List.filter_cons_of_neg (by rw [hp]; simp)]; rfl
theorem comp_filt {α : Type} {S : PV.Sem} {ρ : PV.Env} {own : List Nat} {el : PV.E} {tg : Tg} {it : It} {cs : List PV.E} {G : Gs} (xs : List α) (a g : α → D) (p : α → Bool) (ρx : α → PV.Env) (h1 : evI S ρ it G = .ok (xs.map a) G) (h2 : ∀ x ∈ xs, PV.assign (wipeE ρ own) tg (a x) = some (ρx x)) (ht : ∀ x ∈ xs, evT S (ρx x) cs G = .ok (p x) G) (h3 : ∀ x ∈ xs, p x = true → evE S (ρx x) el G = .ok (g x) G) (h4 : xs.length < sizeLine) : evE S ρ (.comp own el tg it cs) G = .ok (.lst ((xs.filter p).map g)) G := by
  simp only [evE, h1, rb]
  rw [compL_filt _ a g p G xs fun x hx => by
    rw [h2 x hx]
    simp only [ht x hx, rb]
    cases hp : p x with
    | true => rw [if_pos rfl, h3 x hx hp, rb]; rfl
    | false => rw [if_neg (by simp)]; rfl]
  simp only [R.calm, rb, List.length_map]
  rw [if_pos (by have := List.length_filter_le p xs; omega)]
theorem t_one {S : PV.Sem} {ρ : PV.Env} {e : PV.E} {b : Bool} {G G1 : Gs} (h : evE S ρ e G = .ok (.bl b) G1) : evT S ρ [e] G = .ok b G1 := by
  simp only [evT, h, rb]
  cases b <;> rfl
theorem x_sl {S : PV.Sem} {ρ : PV.Env} {a : PV.E} {lo hi : Option PV.E} {x d : D} {l h : Option Int} {G G1 G2 G3 : Gs} (h1 : evE S ρ a G = .ok x G1) (h2 : evO S ρ lo G1 = .ok l G2) (h3 : evO S ρ hi G2 = .ok h G3) (h4 : slD x l h = some d) : evE S ρ (.sl a lo hi) G = .ok d G3 := by simp only [evE, h1, h2, h3, rb, h4, rof]
theorem o_none {S : PV.Sem} {ρ : PV.Env} {G : Gs} : evO S ρ none G = .ok none G := rfl
theorem o_some {S : PV.Sem} {ρ : PV.Env} {e : PV.E} {i : Int} {G G1 : Gs} (h : evE S ρ e G = .ok (.int i) G1) : evO S ρ (some e) G = .ok (some i) G1 := by simp only [evO, h, rb]
theorem i_zip {S : PV.Sem} {ρ : PV.Env} {a b : PV.E} {x y : D} {ds : List D} {G G1 G2 : Gs} (h1 : evE S ρ a G = .ok x G1) (h2 : evE S ρ b G1 = .ok y G2) (h3 : zipD x y = some ds) : evI S ρ (.zip2 a b) G = .ok ds G2 := by simp only [evI, h1, h2, rb, h3, rof]
theorem cut_drop {l : List D} {k : Nat} : cutD l (some (k : Int)) none = l.drop k := by
  unfold cutD
  have h1 : HT.sIx l.length 0 (some (k : Int)) = min k l.length := by
    simp only [HT.sIx]
    first | rfl | (split <;> omega) | simp
  rw [h1]
  have h2 : HT.sIx l.length l.length none = l.length := rfl
  rw [h2]
  by_cases h : k ≤ l.length
  · rw [Nat.min_eq_left h, List.take_of_length_le (by rw [List.length_drop]; omega)]
  · rw [Nat.min_eq_right (by omega), List.drop_of_length_le (Nat.le_refl _), List.drop_of_length_le (by omega)]
    simp
/-! good points -/
structure Gp (x : Rat) : Prop where
  h : ∃ E C, Bd E C x ∧ E + C + 1 ≤ 2 ^ 120
theorem Gp.fi {x : Rat} (h : Gp x) : Fi x := by
  obtain ⟨E, C, h1, h2⟩ := h
  have e : 2 ^ 120 < 2 ^ 4400 := Nat.pow_lt_pow_right (by decide) (by decide)
  exact h1.fi (by omega) (by omega)
theorem lim_w {d b N E C D : Nat} (hD : D ≤ 2 ^ d) (hE : E + C + 1 ≤ 2 ^ 120) (h : d + b + 120 * (N + 3) < 4395) : Lim (MM D (2 ^ b) E C N) := ⟨by
  have h1 : D * (2 ^ b + 1) ≤ 2 ^ (d + (b + 1)) := mul_le2 hD (by rw [Nat.pow_succ]; have : 0 < 2 ^ b := Nat.pow_pos (by decide); omega)
  have h2 : (E + C + 1) ^ (N + 3) ≤ 2 ^ ((N + 3) * 120) := pow_le2 hE
  exact Nat.lt_of_le_of_lt (mul_le2 h1 h2) (Nat.pow_lt_pow_right (by decide) (by omega))⟩
theorem worth_at (n : Nat) (G : Gs) {p : List Rat} {x : Rat} (fp : Fit p) (gx : Gp x) : (Sa (n + 4)).cal 17 [cv p, pt x] G = .ok (pt (ev p x)) G := by
  obtain ⟨d, b, ⟨D, h0, h1, h2⟩, h3⟩ := fp.h
  obtain ⟨E, C, g1, g2⟩ := gx.h
  exact cal_worth (B := 2 ^ b) (E := E) (C := C) (N := p.length) ⟨h0, Nat.le_refl _, h2⟩ g1 (lim_w h1 g2 h3) (by omega) n G
def sg (r : Rat) : Int := if r = 0 then 0 else if 0 < r then 1 else -1
theorem num_pos {r : Rat} : 0 < r.num ↔ 0 < r := by
  rw [Rat.lt_iff]
  show _ ↔ 0 * _ < _ * ((1 : Nat) : Int)
  omega
theorem cal_sign (n : Nat) (G : Gs) {p : List Rat} {x : Rat} (fp : Fit p) (gx : Gp x) : (Sa (n + 5)).cal 31 [cv p, pt x] G = .ok (.int (sg (ev p x))) G := by
  have h0 := worth_at n G fp gx
  have b : evB (Sa (n + 4)) m_sign_at.body [some (cv p), some (pt x), none] G = .ret (.int (sg (ev p x))) G := by
    refine b_next (s_set (x_ix (x_call (x_es x_v (x_es x_v x_es0)) h0) x_c (ix0 G _))) ?_
    by_cases h : ev p x = 0
    · have hn : (ev p x).num = 0 := num_zero.mpr h
      refine b_ret (s_itet (x_cmp x_v x_c (by rw [ceq, eqD_int, decide_eq_true hn])) (b_ret (s_ret ?_)))
      unfold sg
      rw [if_pos h]
      exact x_c
    · have hn : (ev p x).num ≠ 0 := fun e => h (num_zero.mp e)
      refine b_next (s_if0 (x_cmp x_v x_c (by rw [ceq, eqD_int, decide_eq_false hn]))) (b_ret (s_ret ?_))
      unfold sg
      rw [if_neg h]
      by_cases hp : 0 < ev p x
      · rw [if_pos hp]
        exact x_itet (x_cmp x_v x_c (by rw [cgt, decide_eq_true (num_pos.mpr hp)])) x_c
      · rw [if_neg hp]
        exact x_itef (x_cmp x_v x_c (by rw [cgt, decide_eq_false (fun e => hp (num_pos.mp e))])) (x_neg x_c)
  exact ((cal_at (n + 4) 31 (by decide) rfl _ G).trans (run_d m_sign_at (args := [cv p, pt x]) (S := Sa (n + 4)) (ρ := [some (cv p), some (pt x), none]) (G := G) rfl rfl b)).trans gc_self
def sgs (L : List (List Rat)) (x : Rat) : List Int := (L.map fun p => sg (ev p x)).filter fun i => decide (i ≠ 0)
def vr (l : List Int) : Nat := ((l.zip (l.drop 1)).filter fun p => decide (p.1 ≠ p.2)).length
/-- changes of sign -/
def Vc (L : List (List Rat)) (x : Rat) : Nat := vr (sgs L x)
theorem zip_ints (l m : List Int) : zipD (.lst (l.map .int)) (.lst (m.map .int)) = some ((l.zip m).map fun p => .tup [.int p.1, .int p.2]) := by
  show some (((l.map D.int).zip (m.map D.int)).map fun p => D.tup [p.1, p.2]) = _
  rw [List.zip_map, List.map_map]
  rfl
theorem cal_changes (n : Nat) (G : Gs) {L : List (List Rat)} {x : Rat} (fl : ∀ p ∈ L, Fit p) (gx : Gp x) (hl : L.length < 1000) : (Sa (n + 6)).cal 21 [rv L, pt x] G = .ok (.int (Vc L x : Nat)) G := by
  have e1 : evE (Sa (n + 5)) [some (rv L), some (pt x), none, none, none, none] (.comp [5] (.call 31 [.var 5, .var 1]) (.nm 5) (.seq (.var 0)) []) G = .ok (.lst (L.map fun p => .int (sg (ev p x)))) G :=
    comp_map L cv _ (fun p => [some (rv L), some (pt x), none, none, none, some (cv p)]) (i_seq x_v) (fun r _ => rfl) (fun p hp => x_call (x_es x_v (x_es x_v x_es0)) (cal_sign n G (fl p hp) gx)) (by rw [szl]; omega)
  have e1' : evE (Sa (n + 5)) (wipeE [some (rv L), some (pt x), none, none, none, none] [3]) (.comp [5] (.call 31 [.var 5, .var 1]) (.nm 5) (.seq (.var 0)) []) G = .ok (.lst (L.map fun p => .int (sg (ev p x)))) G := e1
  have e2 : evE (Sa (n + 5)) [some (rv L), some (pt x), none, none, none, none] (.comp [3] (.var 3) (.nm 3) (.seq (.comp [5] (.call 31 [.var 5, .var 1]) (.nm 5) (.seq (.var 0)) [])) [.cmp .ne (.var 3) (.con (.int 0))]) G = .ok (.lst ((sgs L x).map .int)) G := by
    refine comp_filt (L.map fun p => sg (ev p x)) .int .int (fun i => decide (i ≠ 0)) (fun i => [some (rv L), some (pt x), none, some (.int i), none, none]) (i_seq e1 (by rw [List.map_map]; rfl)) (fun r _ => rfl) (fun i _ => t_one (x_cmp x_v x_c ?_)) (fun i _ _ => x_v) (by rw [List.length_map, szl]; omega)
    rw [cne, eqD_int]
    simp
  have hs : (sgs L x).length < sizeLine := by
    have := List.length_filter_le (fun i : Int => decide (i ≠ 0)) (L.map fun p => sg (ev p x))
    unfold sgs
    rw [List.length_map] at this
    rw [szl]; omega
  have b : evB (Sa (n + 5)) m_changes.body [some (rv L), some (pt x), none, none, none, none] G = .ret (.int (Vc L x : Nat)) G := by
    refine b_next (s_set e2) (b_ret (s_ret (x_prim (x_es (comp_filt ((sgs L x).zip ((sgs L x).drop 1)) (fun p => .tup [.int p.1, .int p.2]) (fun _ => .int 1) (fun p => decide (p.1 ≠ p.2)) (fun p => [some (rv L), some (pt x), some (.lst ((sgs L x).map .int)), some (.int p.1), some (.int p.2), none]) (i_zip x_v (x_sl x_v (o_some x_c) o_none rfl) ?_) (fun p _ => rfl) (fun p _ => t_one (x_cmp x_v x_v ?_)) (fun p _ _ => x_c) ?_) x_es0) ?_)))
    · have : slD (.lst ((sgs L x).map .int)) (some ((1 : Nat) : Int)) none = some (.lst (((sgs L x).drop 1).map .int)) := by
        show some (D.lst (cutD _ _ _)) = _
        rw [cut_drop, List.map_drop]
      have e : D.lst (cutD ((sgs L x).map .int) (some 1) none) = .lst (((sgs L x).drop 1).map .int) := Option.some.inj this
      rw [e]
      exact zip_ints _ _
    · rw [cne, eqD_int]
      simp
    · rw [List.length_zip]; omega
    · show some (D.int _) = _
      rw [List.length_map]
      rfl
  exact ((cal_at (n + 5) 21 (by decide) rfl _ G).trans (run_d m_changes (args := [rv L, pt x]) (S := Sa (n + 5)) (ρ := [some (rv L), some (pt x), none, none, none, none]) (G := G) rfl rfl b)).trans gc_self
end LK
end
/-! ## R11 -/
section
set_option Elab.async false
set_option linter.all false
set_option maxRecDepth 200000
set_option maxHeartbeats 8000000
set_option exponentiation.threshold 300
namespace LK
open PySem PV RP
def rsTest : PV.E := .cmp .gt (.prim .len [.var 2]) (.con (.int 0))
def rsBody : List St := [.ex (.app (.var 1) (.var 2)),
    .ite (.cmp .eq (.prim .len [.var 3]) (.con (.int 0))) [.brk] [],
    .set (.tp [.nm 2, .nm 3]) (.tup [.var 3, .call 14 [.ix (.call 16 [.var 2, .var 3]) (.con (.int 1)), .tup [.neg (.con (.int 1)), .con (.int 1)]]])]
theorem s_brk {S : PV.Sem} {ρ : PV.Env} {G : Gs} : evS S .brk ρ G = .brk ρ G := by simp only [evS]
theorem b_brk {S : PV.Sem} {s : St} {r : List St} {ρ ρ1 : PV.Env} {G G1 : Gs} (h1 : evS S s ρ G = .brk ρ1 G1) : evB S (s :: r) ρ G = .brk ρ1 G1 := by simp only [evB, h1, F.then]
theorem Eu.fil {s : Bool} {a b : List Rat} {L : List (List Rat)} (h : Eu s a b L) : FiL b := by
  cases h with
  | nil => intro r hr; cases hr
  | step _ _ f _ => exact f.fi
theorem fi_bd (r : Rat) : Bd r.den r.num.natAbs r := ⟨r.num, rat_eq r, Nat.le_refl _, r.den_pos⟩
theorem fil_neg {r : List Rat} (h : FiL (scP (-1) r)) : FiL r := fun x hx => by
  have h1 := h (-1 * x) (List.mem_map.mpr ⟨x, hx, rfl⟩)
  have h2 : Bd (-1 * x).den (-1 * x).num.natAbs (-1 * (-1 * x)) := LK.Bd.negs (fi_bd (-1 * x))
  have e : -1 * (-1 * x) = x := by grind
  rw [e] at h2
  exact h2.fi h1.2 h1.1
theorem fi_neg1 : Fi (-1) := fi_small (k := -1) (by decide)
theorem rs_loop (n : Nat) {G : Gs} (X0 : Option D) {a b : List Rat} {L : List (List Rat)} (hG : Cl G) (h : Eu false a b L) (ha : a ≠ []) (hal : a.length < 900) (hbl : b.length < 900) : ∀ (m : Nat) (Fd : List (List Rat)), L.length ≤ m → Fd.length + L.length < 1000 →
    ∃ y2 y3, whL (fun ρ1 G1 => evE (Sa (n + 6)) ρ1 rsTest G1) (fun ρ1 G1 => evB (Sa (n + 6)) rsBody ρ1 G1) m [X0, some (.cell G.length), some (cv a), some (cv b)] (G ++ [some (.lst (Fd.map cv))]) = .next [X0, some (.cell G.length), y2, y3] (G ++ [some (.lst ((Fd ++ L).map cv))]) := by
  have fc : ∀ (Fd : List (List Rat)), frees (Fd.map cv) = true := fun Fd => by
    induction Fd with
    | nil => rfl
    | cons p r ih => show (free (cv p) && frees (r.map cv)) = true; rw [free_cv, ih]; rfl
  have app : ∀ (Fd : List (List Rat)) (a b : List Rat), Fd.length < 1000 → evS (Sa (n + 6)) (.ex (.app (.var 1) (.var 2))) [X0, some (.cell G.length), some (cv a), some (cv b)] (G ++ [some (.lst (Fd.map cv))]) = .next [X0, some (.cell G.length), some (cv a), some (cv b)] (G ++ [some (.lst ((Fd ++ [a]).map cv))]) := fun Fd a b hl => by
    have e := s_ex (S := Sa (n + 6)) (x_app (a := .var 1) (b := .var 2) (ρ := [X0, some (.cell G.length), some (cv a), some (cv b)]) (G := G ++ [some (.lst (Fd.map cv))]) x_v (at_end (r := [])) x_v (at_end (r := [])) (by rw [List.length_map, szl]; omega))
    rw [e]
    congr 1
    have := set_end (G := G) (x := some (C.lst (Fd.map cv))) (y := some (C.lst (Fd.map cv ++ [cv a]))) (r := [])
    rw [this, List.map_append]; rfl
  induction h with
  | nil a =>
    intro m Fd hm hf
    cases m with
    | zero => simp at hm
    | succ m =>
      have ha0 := List.length_pos_iff.mpr ha
      rw [List.length_singleton] at hf
      refine ⟨some (cv a), some (cv []), wh_brk (x_cmp (x_prim (x_es x_v x_es0) (len_cv a)) x_c (by rw [cgt, decide_eq_true (by omega)])) ?_⟩
      exact b_next (app Fd a [] (by omega)) (b_brk (s_itet (x_cmp (x_prim (x_es x_v x_es0) (len_cv [])) x_c rfl) (b_brk s_brk)))
  | @step a b w r L hb R fb hL ih =>
    intro m Fd hm hf
    cases m with
    | zero => simp at hm
    | succ m =>
      have ha0 := List.length_pos_iff.mpr ha
      have hb0 := List.length_pos_iff.mpr hb
      rw [List.length_cons] at hf hm
      have hrl := R.len
      have hs : FiL (scP (-1) r) := hL.fil
      obtain ⟨y2, y3, e⟩ := ih hb hbl (by rw [nx_len]; omega) m (Fd ++ [a]) (by omega) (by rw [List.length_append, List.length_singleton]; omega)
      have hG2 : Cl (G ++ [some (C.lst ((Fd ++ [a]).map cv))]) := by
        unfold Cl at hG ⊢
        rw [List.all_append, hG]
        show (true && (frees _ && true)) = true
        rw [fc]; rfl
      have ec := cal_scaled (n + 1) (G ++ [some (C.lst ((Fd ++ [a]).map cv))]) (p := r) (c := -1) (fil_neg hs) fi_neg1 hs (by omega)
      rw [sc_tr (by decide +kernel) R.tr] at ec
      refine ⟨y2, y3, ?_⟩
      have e' : G ++ [some (C.lst ((Fd ++ a :: L).map cv))] = G ++ [some (C.lst ((Fd ++ [a] ++ L).map cv))] := by rw [List.append_assoc]; rfl
      rw [e']
      refine wh_go (S := Sa (n + 6)) (x_cmp (x_prim (x_es x_v x_es0) (len_cv a)) x_c (by rw [cgt, decide_eq_true (by omega)])) ?_ e
      exact b_next (app Fd a b (by omega)) (b_next (s_if0 (x_cmp (x_prim (x_es x_v x_es0) (len_cv b)) x_c (by rw [ceq, eqD_int, decide_eq_false (by omega)]))) (b_next (s_set (x_tup (x_es x_v (x_es (x_call (x_es (x_ix (x_call (x_es x_v (x_es x_v x_es0)) (R.cal n _ hG2)) x_c rfl) (x_es (x_tup (x_es (x_neg x_c) (x_es x_c x_es0))) x_es0)) ec) x_es0)))) rfl))
theorem cal_rests (n : Nat) {G : Gs} (hG : Cl G) {p : List Rat} {L : List (List Rat)} (h : Eu false p (trim (slP p)) L) (hp : p ≠ []) (fp : Fit p) (fs : FiL (slP p)) (hl : p.length < 800) : (Sa (n + 7)).cal 20 [cv p] G = .ok (rv L) G := by
  have hsl : (trim (slP p)).length < 900 := by
    have := trim_len (slP p)
    unfold slP at this ⊢
    rw [List.length_map, List.length_range] at this
    omega
  have hLl := h.len
  obtain ⟨y2, y3, e⟩ := rs_loop n (G := G) (some (cv p)) hG h hp (by omega) hsl 100000 [] (by omega) (by rw [List.length_nil]; omega)
  have fc : ∀ (Fd : List (List Rat)), frees (Fd.map cv) = true := fun Fd => by
    induction Fd with
    | nil => rfl
    | cons p r ih => show (free (cv p) && frees (r.map cv)) = true; rw [free_cv, ih]; rfl
  have b : evB (Sa (n + 6)) m_rests.body [some (cv p), none, none, none] G = .ret (rv L) ((G ++ [some (C.lst (([] ++ L).map cv))]).set G.length none) := by
    refine b_next (s_set (x_lstC x_es0)) (b_next (s_set (x_tup (x_es (x_prim (x_es x_v x_es0) rfl) (x_es (x_call (x_es x_v x_es0) (cal_slope (n + 1) _ fp.fi fs (by omega))) x_es0)))) (b_next e (b_ret (s_ret (x_prim (x_es (x_take x_v (at_end (r := []))) x_es0) ?_)))))
    rfl
  have b' : evB (Sa (n + 6)) m_rests.body [some (cv p), none, none, none] G = .ret (rv L) (G ++ [none]) := by rw [b, set_end]
  exact ((cal_at (n + 6) 20 (by decide) rfl _ G).trans (run_d m_rests (args := [cv p]) (S := Sa (n + 6)) (ρ := [some (cv p), none, none, none]) (G := G) rfl rfl b')).trans (gc_drop hG (fc L))
end LK
end
/-! ## Q1 -/
section
set_option Elab.async false
set_option linter.all false
set_option maxRecDepth 200000
set_option maxHeartbeats 8000000
namespace LK
open PySem PV RP
/-! signs along a row of rests: between two roots they change equally often -/
def ab (x : Rat) : Rat := if x < 0 then -x else x
theorem ab_nn (x : Rat) : 0 ≤ ab x := by unfold ab; split <;> grind
theorem ab_ge (x : Rat) : x ≤ ab x ∧ -x ≤ ab x := by unfold ab; split <;> grind
theorem ab_le {x k : Rat} (h1 : x ≤ k) (h2 : -x ≤ k) : ab x ≤ k := by unfold ab; split <;> grind
theorem ab_add (x y : Rat) : ab (x + y) ≤ ab x + ab y := by
  have h1 := ab_ge x; have h2 := ab_ge y
  exact ab_le (by grind) (by grind)
theorem ab_neg (x : Rat) : ab (-x) = ab x := by unfold ab; split <;> split <;> grind
theorem ab_mul (x y : Rat) : ab (x * y) = ab x * ab y := by
  unfold ab
  by_cases hx : x < 0
  · by_cases hy : y < 0
    · have : 0 < (-x) * (-y) := Rat.mul_pos (by grind) (by grind)
      rw [if_pos hx, if_pos hy, if_neg (by grind)]; grind
    · have : 0 ≤ (-x) * y := Rat.mul_nonneg (by grind) (by grind)
      rw [if_pos hx, if_neg hy]
      split <;> grind
  · by_cases hy : y < 0
    · have : 0 ≤ x * (-y) := Rat.mul_nonneg (by grind) (by grind)
      rw [if_neg hx, if_pos hy]
      split <;> grind
    · have : 0 ≤ x * y := Rat.mul_nonneg (by grind) (by grind)
      rw [if_neg hx, if_neg hy, if_neg (by grind)]
theorem ab_mul_le {x y a b : Rat} (h1 : ab x ≤ a) (h2 : ab y ≤ b) : ab (x * y) ≤ a * b := by
  rw [ab_mul]
  have e1 := Rat.mul_le_mul_of_nonneg_right h1 (ab_nn y)
  have e2 := Rat.mul_le_mul_of_nonneg_left h2 (show 0 ≤ a by have := ab_nn x; grind)
  grind
/-- bounded, and no steeper than K -/
theorem bound_of (M : Rat) (hM : 0 ≤ M) : ∀ l : List Rat, ∃ K, 0 ≤ K ∧ ∀ x, ab x ≤ M → ab (ev l x) ≤ K
  | [] => ⟨0, by decide +kernel, fun x _ => by show ab (0 : Rat) ≤ 0; decide +kernel⟩
  | a :: l => by
    obtain ⟨K, hK, h⟩ := bound_of M hM l
    refine ⟨ab a + M * K, by have := ab_nn a; have := Rat.mul_nonneg hM hK; grind, fun x hx => ?_⟩
    show ab (a + x * ev l x) ≤ _
    have h1 := ab_add a (x * ev l x)
    have h2 := ab_mul_le hx (h x hx)
    grind
theorem steep_of (M : Rat) (hM : 0 ≤ M) : ∀ l : List Rat, ∃ K, 0 < K ∧ ∀ u v, ab u ≤ M → ab v ≤ M → ab (ev l u - ev l v) ≤ K * ab (u - v)
  | [] => ⟨1, by decide +kernel, fun u v _ _ => by
    show ab ((0 : Rat) - 0) ≤ _
    have : ab ((0 : Rat) - 0) = 0 := by decide +kernel
    rw [this]; have := ab_nn (u - v); grind⟩
  | a :: l => by
    obtain ⟨K, hK, h⟩ := steep_of M hM l
    obtain ⟨B, hB, hb⟩ := bound_of M hM l
    refine ⟨M * K + B + 1, by have := Rat.mul_nonneg hM (Rat.le_of_lt hK); grind, fun u v hu hv => ?_⟩
    have e : ev (a :: l) u - ev (a :: l) v = u * (ev l u - ev l v) + (u - v) * ev l v := by
      show (a + u * ev l u) - (a + v * ev l v) = _
      grind
    rw [e]
    have h1 := ab_add (u * (ev l u - ev l v)) ((u - v) * ev l v)
    have h2 := ab_mul_le hu (h u v hu hv)
    have h3 := ab_mul_le (x := u - v) (Rat.le_refl) (hb v hv)
    have h4 := ab_nn (u - v)
    grind
theorem sg_pos {r : Rat} : sg r = 1 ↔ 0 < r := by unfold sg; split <;> (try split) <;> constructor <;> intro h <;> first | grind | (exfalso; revert h; decide)
theorem sg_zero {r : Rat} : sg r = 0 ↔ r = 0 := by unfold sg; split <;> (try split) <;> constructor <;> intro h <;> first | grind | (exfalso; revert h; decide)
theorem sg_neg {r : Rat} : sg r = -1 ↔ r < 0 := by unfold sg; split <;> (try split) <;> constructor <;> intro h <;> first | grind | (exfalso; revert h; decide)
theorem sg_cases (r : Rat) : sg r = 0 ∨ sg r = 1 ∨ sg r = -1 := by unfold sg; split <;> (try split) <;> simp
/-- near: if far enough from nought the sign stays -/
theorem sg_near {a b : Rat} (h : ab (a - b) < ab a) : sg a = sg b ∧ sg a ≠ 0 := by
  have h1 := ab_ge (a - b)
  have h2 := ab_ge a
  rcases sg_cases a with e | e | e
  · rw [sg_zero] at e
    subst e
    have : ab (0 : Rat) = 0 := by decide +kernel
    rw [this] at h
    have := ab_nn (0 - b)
    grind
  · have ha := sg_pos.mp e
    have hb : 0 < b := by
      have : ab a = a := by unfold ab; rw [if_neg (by grind)]
      grind
    rw [e, sg_pos.mpr hb]; decide
  · have ha := sg_neg.mp e
    have hb : b < 0 := by
      have : ab a = -a := by unfold ab; rw [if_pos ha]
      grind
    rw [e, sg_neg.mpr hb]; decide
/-- signs that do not agree, or nought: both are small -/
theorem small_of {a b d : Rat} (h : ¬ (sg a = sg b ∧ sg a ≠ 0)) (hd : ab (a - b) ≤ d) : ab a ≤ d ∧ ab b ≤ d := by
  have h1 : ¬ ab (a - b) < ab a := fun e => h (sg_near e)
  have h2 : ¬ ab (b - a) < ab b := fun e => by
    have := sg_near e
    exact h ⟨this.1.symm, by rw [← this.1]; exact this.2⟩
  have e : ab (b - a) = ab (a - b) := by rw [← ab_neg]; congr 1; grind
  rw [e] at h2
  grind
inductive Sim2 : List Int → List Int → Prop
  | one {h : Int} : h ≠ 0 → Sim2 [h] [h]
  | cons {h k : Int} {s t : List Int} : h ≠ 0 → Sim2 (k :: s) (k :: t) → Sim2 (h :: k :: s) (h :: k :: t)
  | skip {h m n : Int} {s t : List Int} : h ≠ 0 → (m = 0 ∨ m = 1 ∨ m = -1) → (n = 0 ∨ n = 1 ∨ n = -1) → (h = 1 ∨ h = -1) → Sim2 (-h :: s) (-h :: t) → Sim2 (h :: m :: -h :: s) (h :: n :: -h :: t)
def nz (l : List Int) : List Int := l.filter fun i => decide (i ≠ 0)
theorem vr_cons (a b : Int) (l : List Int) : vr (a :: b :: l) = (if a ≠ b then 1 else 0) + vr (b :: l) := by
  unfold vr
  show ((((a, b) :: (b :: l).zip l)).filter _).length = _ + (((b :: l).zip l).filter _).length
  by_cases h : a = b
  · rw [List.filter_cons_of_neg (by simpa using h), if_neg (by simpa using h), Nat.zero_add]
  · rw [List.filter_cons_of_pos (by simpa using h), if_pos h, List.length_cons, Nat.add_comm]
theorem nz_ne {a : Int} {l : List Int} (h : a ≠ 0) : nz (a :: l) = a :: nz l := by unfold nz; rw [List.filter_cons_of_pos (by simpa using h)]
theorem nz_0 {l : List Int} : nz (0 :: l) = nz l := by unfold nz; rw [List.filter_cons_of_neg (by simp)]
theorem Sim2.eq {s t : List Int} (h : Sim2 s t) : vr (nz s) = vr (nz t) := by
  induction h with
  | one h => rfl
  | @cons h k s t h0 hs ih =>
    have hk : k ≠ 0 := by cases hs <;> assumption
    rw [nz_ne h0, nz_ne h0, nz_ne hk, nz_ne hk, vr_cons, vr_cons]
    rw [nz_ne hk, nz_ne hk] at ih
    rw [ih]
  | @skip h m n s t h0 hm hn hh hs ih =>
    have hk : -h ≠ 0 := by omega
    rw [nz_ne hk, nz_ne hk] at ih
    have key : ∀ (m : Int) (s : List Int), (m = 0 ∨ m = 1 ∨ m = -1) → vr (nz (h :: m :: -h :: s)) = 1 + vr (-h :: nz s) := fun m s hm => by
      rw [nz_ne h0]
      rcases hm with rfl | hm
      · rw [nz_0, nz_ne hk, vr_cons, if_pos (by omega)]
      · rw [nz_ne (by omega), nz_ne hk, vr_cons, vr_cons]
        by_cases e : h = m
        · rw [if_neg (by omega), if_pos (by omega)]; omega
        · rw [if_pos e, if_neg (by omega)]; omega
    rw [key m s hm, key n t hn, ih]
def sr (L : List (List Rat)) (x : Rat) : List Int := L.map fun p => sg (ev p x)
theorem Vc_eq (L : List (List Rat)) (x : Rat) : Vc L x = vr (nz (sr L x)) := rfl
end LK
end
/-! ## Q2 -/
section
set_option Elab.async false
set_option linter.all false
set_option maxRecDepth 200000
set_option maxHeartbeats 8000000
namespace LK
open PySem PV RP
theorem sg_opp (x : Rat) : sg (-x) = -sg x := by
  rcases sg_cases x with e | e | e
  · rw [e]; exact sg_zero.mpr (by rw [sg_zero] at e; grind)
  · rw [e]; exact sg_neg.mpr (by rw [sg_pos] at e; grind)
  · rw [e]; exact sg_pos.mpr (by rw [sg_neg] at e; grind)
theorem Eu.head {s : Bool} {a b : List Rat} {L : List (List Rat)} (h : Eu s a b L) : ∃ L', L = a :: L' := by
  cases h with
  | nil => exact ⟨[], rfl⟩
  | step _ _ _ _ => exact ⟨_, rfl⟩
theorem Eu.head2 {s : Bool} {a b : List Rat} {L L2 : List (List Rat)} (h : Eu s a b L) (e : L = a :: L2) (hb : b ≠ []) : ∃ L3, L2 = b :: L3 := by
  cases h with
  | nil => exact absurd rfl hb
  | step _ _ _ hL =>
    have : L2 = _ := (List.cons.inj e).2.symm
    rw [this]
    exact hL.head
def Near (M : Rat) (p : List Rat) (L : List (List Rat)) : Prop := ∃ δ, 0 < δ ∧ ∀ u v, ab u ≤ M → ab v ≤ M → ab (u - v) ≤ δ → sg (ev p u) = sg (ev p v) → sg (ev p u) ≠ 0 → Sim2 (sr L u) (sr L v)
theorem min_pos {a b : Rat} (ha : 0 < a) (hb : 0 < b) : ∃ d, 0 < d ∧ d ≤ a ∧ d ≤ b := by
  by_cases h : a ≤ b
  · exact ⟨a, ha, Rat.le_refl, h⟩
  · exact ⟨b, hb, by grind, Rat.le_refl⟩
theorem div_pos {a b : Rat} (ha : 0 < a) (hb : 0 < b) : ∃ d, 0 < d ∧ d * b < a := by
  refine ⟨a / (2 * b), ?_, ?_⟩
  · have h : 0 < (2 * b)⁻¹ := Rat.inv_pos.mpr (by grind)
    rw [Rat.div_def]
    exact Rat.mul_pos ha h
  · have : a / (2 * b) * b = a / 2 := by grind
    rw [this]; grind
theorem local_of {a b : List Rat} {L : List (List Rat)} (h : Eu false a b L) (M : Rat) (hM : 0 ≤ M) (c0 : Rat) (hc0 : 0 < c0) : (∀ g, L.getLast? = some g → ∀ x, ab x ≤ M → c0 ≤ ab (ev g x)) →
    (∃ c, 0 < c ∧ ∀ x, ab x ≤ M → c ≤ ab (ev a x) ∨ c ≤ ab (ev b x)) ∧ Near M a L ∧ (b ≠ [] → ∃ L', L = a :: L' ∧ Near M b L') := by
  induction h with
  | nil a =>
    intro hl
    exact ⟨⟨c0, hc0, fun x hx => .inl (hl a rfl x hx)⟩, ⟨1, by decide +kernel, fun u v _ _ _ e h0 => by
      show Sim2 [sg (ev a u)] [sg (ev a v)]
      rw [← e]; exact .one h0⟩, fun hn => absurd rfl hn⟩
  | @step a b w r L hb R fb hL ih =>
    intro hl
    obtain ⟨L1, eL⟩ := hL.head
    have hl' : ∀ g, L.getLast? = some g → ∀ x, ab x ≤ M → c0 ≤ ab (ev g x) := fun g hg => hl g (by rw [List.getLast?_cons, hg]; rfl)
    obtain ⟨⟨cc, hcc, hpair⟩, nearb, nearc⟩ := ih hl'
    obtain ⟨Kw, hKw, bw⟩ := bound_of M hM w
    obtain ⟨Kb, hKb, sb⟩ := steep_of M hM b
    obtain ⟨Kc, hKc, sc⟩ := steep_of M hM (nx false r)
    have ida : ∀ x, ev a x = ev b x * ev w x - ev (nx false r) x := fun x => by
      rw [R.id x, ev_nx]
      show _ = _ - (-1) * _
      grind
    refine ⟨?_, ?_, fun _ => ⟨L, rfl, nearb⟩⟩
    · obtain ⟨d, hd, hdc⟩ := div_pos (b := Kw + 1) hcc (by grind)
      obtain ⟨e, he, he1, he2⟩ := min_pos hd hcc
      refine ⟨e, he, fun x hx => ?_⟩
      by_cases hbx : e ≤ ab (ev b x)
      · exact .inr hbx
      · refine .inl ?_
        have hbx : ab (ev b x) ≤ d := by grind
        have hlt : ¬ cc ≤ ab (ev b x) := by grind
        have hc := (hpair x hx).resolve_left hlt
        have hm := ab_mul_le hbx (bw x hx)
        have e2 := ida x
        have h3 := ab_add (ev a x) (-(ev b x * ev w x))
        have e3 : ev a x + -(ev b x * ev w x) = -(ev (nx false r) x) := by grind
        rw [e3, ab_neg, ab_neg] at h3
        grind
    · obtain ⟨δ1, hδ1, near1⟩ := nearb
      have pos : 0 < Kb * (Kw + 1) + Kc := by have := Rat.mul_pos hKb (show 0 < Kw + 1 by grind); grind
      obtain ⟨δ3, hδ3, hd3⟩ := div_pos hcc pos
      obtain ⟨δ4, hδ4, l1, l3⟩ := min_pos hδ1 hδ3
      -- where the second does not keep its sign
      have small : ∀ u v, ab u ≤ M → ab v ≤ M → ab (u - v) ≤ δ3 → ¬ (sg (ev b u) = sg (ev b v) ∧ sg (ev b u) ≠ 0) → (nx false r ≠ []) ∧ (sg (ev (nx false r) u) = sg (ev (nx false r) v) ∧ sg (ev (nx false r) u) ≠ 0) ∧ sg (ev (nx false r) u) = -sg (ev a u) ∧ sg (ev (nx false r) v) = -sg (ev a v) := by
        intro u v hu hv huv hno
        have h1 := sb u v hu hv
        have h2 : Kb * ab (u - v) ≤ Kb * δ3 := Rat.mul_le_mul_of_nonneg_left huv (Rat.le_of_lt hKb)
        obtain ⟨su, sv⟩ := small_of hno (show ab (ev b u - ev b v) ≤ Kb * δ3 by grind)
        have k1 : 0 ≤ Kb * δ3 * Kw := Rat.mul_nonneg (Rat.mul_nonneg (Rat.le_of_lt hKb) (Rat.le_of_lt hδ3)) hKw
        have k2 : 0 < Kc * δ3 := Rat.mul_pos hKc hδ3
        have k3 : 0 < Kb * δ3 := Rat.mul_pos hKb hδ3
        have e4 : δ3 * (Kb * (Kw + 1) + Kc) = Kb * δ3 * Kw + Kb * δ3 + Kc * δ3 := by grind
        rw [e4] at hd3
        have cu := (hpair u hu).resolve_left (by grind)
        have cv' := (hpair v hv).resolve_left (by grind)
        have c1 := sc u v hu hv
        have c2 : Kc * ab (u - v) ≤ Kc * δ3 := Rat.mul_le_mul_of_nonneg_left huv (Rat.le_of_lt hKc)
        have opp : ∀ x, ab x ≤ M → ab (ev b x) ≤ Kb * δ3 → cc ≤ ab (ev (nx false r) x) → sg (ev (nx false r) x) = -sg (ev a x) := fun x hx hs hc => by
          have hm := ab_mul_le hs (bw x hx)
          have e2 := ida x
          have hn : ab (-(ev (nx false r) x) - ev a x) < ab (-(ev (nx false r) x)) := by
            have e3 : -(ev (nx false r) x) - ev a x = -(ev b x * ev w x) := by grind
            rw [e3, ab_neg, ab_neg]
            grind
          have := (sg_near hn).1
          rw [sg_opp] at this
          omega
        refine ⟨fun e => ?_, sg_near (by grind), opp u hu su cu, opp v hv sv cv'⟩
        rw [e] at cu
        have : ab (ev [] u) = 0 := by show ab (0 : Rat) = 0; decide +kernel
        grind
      by_cases hr : nx false r = []
      · refine ⟨δ4, hδ4, fun u v hu hv huv e h0 => ?_⟩
        by_cases hsb : sg (ev b u) = sg (ev b v) ∧ sg (ev b u) ≠ 0
        · have s2 := near1 u v hu hv (by grind) hsb.1 hsb.2
          subst eL
          show Sim2 (sg (ev a u) :: sg (ev b u) :: sr L1 u) (sg (ev a v) :: sg (ev b v) :: sr L1 v)
          have s2 : Sim2 (sg (ev b u) :: sr L1 u) (sg (ev b v) :: sr L1 v) := s2
          rw [← e]
          rw [← hsb.1] at s2 ⊢
          exact .cons h0 s2
        · exact absurd hr (small u v hu hv (by grind) hsb).1
      · obtain ⟨L2, eL2, δ2, hδ2, near2⟩ := nearc hr
        obtain ⟨δ, hδ, l4, l2⟩ := min_pos hδ4 hδ2
        obtain ⟨L3, eL3⟩ := hL.head2 eL2 hr
        have eL' : L = b :: nx false r :: L3 := by rw [eL2, eL3]
        refine ⟨δ, hδ, fun u v hu hv huv e h0 => ?_⟩
        rw [eL']
        show Sim2 (sg (ev a u) :: sg (ev b u) :: sg (ev (nx false r) u) :: sr L3 u) (sg (ev a v) :: sg (ev b v) :: sg (ev (nx false r) v) :: sr L3 v)
        by_cases hsb : sg (ev b u) = sg (ev b v) ∧ sg (ev b u) ≠ 0
        · have s2 := near1 u v hu hv (by grind) hsb.1 hsb.2
          rw [eL'] at s2
          have s2 : Sim2 (sg (ev b u) :: sg (ev (nx false r) u) :: sr L3 u) (sg (ev b v) :: sg (ev (nx false r) v) :: sr L3 v) := s2
          rw [← e]
          rw [← hsb.1] at s2 ⊢
          exact .cons h0 s2
        · obtain ⟨_, hsc, o1, o2⟩ := small u v hu hv (by grind) hsb
          have s3 := near2 u v hu hv (by grind) hsc.1 hsc.2
          rw [eL3] at s3
          have s3 : Sim2 (sg (ev (nx false r) u) :: sr L3 u) (sg (ev (nx false r) v) :: sr L3 v) := s3
          rw [o1, o2, ← e] at s3
          rw [o1, o2, ← e]
          have hh : sg (ev a u) = 1 ∨ sg (ev a u) = -1 := by
            rcases sg_cases (ev a u) with h | h | h
            · exact absurd h h0
            · exact .inl h
            · exact .inr h
          exact .skip h0 (sg_cases _) (sg_cases _) hh s3
end LK
end
/-! ## Q3 -/
section
set_option Elab.async false
set_option linter.all false
set_option maxRecDepth 200000
set_option maxHeartbeats 8000000
namespace LK
open PySem PV RP
/-! the count of roots by changes of sign -/
abbrev dP (p : List Rat) : List Rat := trim (slP p)
structure StD (F : List Rat) (L : List (List Rat)) (rs : List Rat) : Prop where
  eu : Eu false F (dP F) L
  cop : ∃ A B : List Rat, ∀ x, ev A x * ev F x + ev B x * ev (dP F) x = 1
  sign : ∀ u v, u ≤ v → (∀ r ∈ rs, ¬ (u ≤ r ∧ r ≤ v)) → sg (ev F u) = sg (ev F v) ∧ sg (ev F u) ≠ 0
  root : ∀ r ∈ rs, ∃ g : List Rat, (∀ x, ev F x = (x - r) * ev g x) ∧ ev g r ≠ 0 ∧ ev (dP F) r = ev g r
  nd : rs.Nodup
def Nr (rs : List Rat) (lo hi : Rat) : Nat := rs.countP fun r => decide (lo < r) && decide (r ≤ hi)
def Ni (rs : List Rat) (lo hi : Rat) : Nat := rs.countP fun r => decide (lo < r) && decide (r < hi)
section
variable {F : List Rat} {L : List (List Rat)} {rs : List Rat} (S : StD F L rs)
include S
theorem last_at (M : Rat) (hM : 0 ≤ M) : ∃ c0, 0 < c0 ∧ ∀ g, L.getLast? = some g → ∀ x, ab x ≤ M → c0 ≤ ab (ev g x) := by
  obtain ⟨g, hg, U, V, X, Y, h1, h2, h3⟩ := S.eu.comb
  obtain ⟨A, B, hAB⟩ := S.cop
  obtain ⟨K, hK, hb⟩ := bound_of M hM (addP (mulP A X) (mulP B Y))
  refine ⟨1 / (K + 1), by rw [Rat.div_def, Rat.one_mul]; exact Rat.inv_pos.mpr (by grind), fun g' hg' x hx => ?_⟩
  rw [hg] at hg'
  cases hg'
  have e : ev g x * ev (addP (mulP A X) (mulP B Y)) x = 1 := by
    have := hAB x
    rw [h2 x, h3 x] at this
    rw [ev_add, ev_mul, ev_mul]
    grind
  have e2 : ab (ev g x) * ab (ev (addP (mulP A X) (mulP B Y)) x) = 1 := by
    rw [← ab_mul, e]; decide +kernel
  have h4 := Rat.mul_le_mul_of_nonneg_left (hb x hx) (ab_nn (ev g x))
  have h5 : 1 ≤ ab (ev g x) * (K + 1) := by have := ab_nn (ev g x); grind
  have h6 : 0 < (K + 1)⁻¹ := Rat.inv_pos.mpr (by grind)
  have h7 := Rat.mul_le_mul_of_nonneg_right h5 (Rat.le_of_lt h6)
  have h8 : ab (ev g x) * (K + 1) * (K + 1)⁻¹ = ab (ev g x) := by
    have : (K + 1) ≠ 0 := by grind
    grind
  rw [h8] at h7
  rw [Rat.div_def]
  exact h7
theorem near_at (M : Rat) (hM : 0 ≤ M) : Near M F L ∧ (dP F ≠ [] → ∃ L', L = F :: L' ∧ Near M (dP F) L') := by
  obtain ⟨c0, h0, h1⟩ := last_at S M hM
  exact (local_of S.eu M hM c0 h0 h1).2
theorem two_pow (q : Rat) : ∃ n : Nat, q ≤ (((2 ^ n : Nat) : Nat) : Rat) := by
  refine ⟨q.ceil.toNat, ?_⟩
  have h1 : q ≤ ((q.ceil : Int) : Rat) := Rat.le_ceil
  have h2 : q.ceil ≤ ((q.ceil.toNat : Nat) : Int) := by omega
  have h3 : q.ceil.toNat < 2 ^ q.ceil.toNat := Nat.lt_two_pow_self
  have h4 : q.ceil ≤ (((2 ^ q.ceil.toNat : Nat) : Nat) : Int) := by
    generalize 2 ^ q.ceil.toNat = m at *
    omega
  have h5 := Rat.intCast_le_intCast.mpr h4
  rw [Rat.intCast_natCast] at h5
  grind
theorem const_on {lo hi : Rat} (hlh : lo ≤ hi) (hn : ∀ r ∈ rs, ¬ (lo ≤ r ∧ r ≤ hi)) : Vc L lo = Vc L hi := by
  let M := ab lo + ab hi
  have hM : 0 ≤ M := by have := ab_nn lo; have := ab_nn hi; show 0 ≤ ab lo + ab hi; grind
  obtain ⟨⟨δ, hδ, near⟩, _⟩ := near_at S M hM
  have inM : ∀ x, lo ≤ x → x ≤ hi → ab x ≤ M := fun x h1 h2 => by
    have a1 := ab_ge lo
    have a2 := ab_ge hi
    have a3 := ab_nn lo
    have a4 := ab_nn hi
    exact ab_le (by show x ≤ ab lo + ab hi; grind) (by show -x ≤ ab lo + ab hi; grind)
  have key : ∀ (n : Nat) (u v : Rat), lo ≤ u → u ≤ v → v ≤ hi → v - u ≤ δ * (((2 ^ n : Nat) : Nat) : Rat) → Vc L u = Vc L v := by
    intro n
    induction n with
    | zero =>
      intro u v h1 h2 h3 h4
      have hs := S.sign u v h2 fun r hr ⟨a, b⟩ => hn r hr ⟨by grind, by grind⟩
      have e1 : (((2 ^ 0 : Nat) : Nat) : Rat) = 1 := by decide +kernel
      rw [e1] at h4
      have := near u v (inM u h1 (by grind)) (inM v (by grind) h3) (ab_le (by grind) (by grind)) hs.1 hs.2
      rw [Vc_eq, Vc_eq]
      exact this.eq
    | succ n ih =>
      intro u v h1 h2 h3 h4
      have e1 : (((2 ^ (n + 1) : Nat) : Nat) : Rat) = (((2 ^ n : Nat) : Nat) : Rat) * 2 := by
        rw [Nat.pow_succ, Rat.natCast_mul]; rfl
      rw [e1] at h4
      have m1 := ih u ((u + v) / 2) h1 (by grind) (by grind) (by grind)
      have m2 := ih ((u + v) / 2) v (by grind) (by grind) h3 (by grind)
      rw [m1, m2]
  obtain ⟨n, hq⟩ := two_pow S ((hi - lo) / δ)
  refine key n lo hi Rat.le_refl hlh Rat.le_refl ?_
  have := Rat.mul_le_mul_of_nonneg_left hq (Rat.le_of_lt hδ)
  have e : δ * ((hi - lo) / δ) = hi - lo := by grind
  rw [e] at this
  exact this
theorem sg_mulp {t y : Rat} (h : 0 < t) : sg (t * y) = sg y := by
  rcases sg_cases y with e | e | e
  · rw [e]; rw [sg_zero] at e; rw [e]; exact sg_zero.mpr (by grind)
  · rw [e]; exact sg_pos.mpr (Rat.mul_pos h (sg_pos.mp e))
  · rw [e]
    have := sg_neg.mp e
    have h2 := Rat.mul_pos h (show 0 < -y by grind)
    exact sg_neg.mpr (by grind)
theorem at_root {r : Rat} (hr : r ∈ rs) : ∃ η, 0 < η ∧ ∀ t, 0 < t → t ≤ η → Vc L (r + t) = Vc L r ∧ Vc L (r - t) = Vc L r + 1 := by
  obtain ⟨g, hF, hg0, hd⟩ := S.root r hr
  have hne : dP F ≠ [] := fun e => hg0 (by rw [← hd, e]; rfl)
  let M := ab r + 1
  have hM : 0 ≤ M := by have := ab_nn r; show 0 ≤ ab r + 1; grind
  obtain ⟨L', eL, δ, hδ, near⟩ := (near_at S M hM).2 hne
  obtain ⟨L'', eL'⟩ := S.eu.head2 eL hne
  obtain ⟨Kd, hKd, sd⟩ := steep_of M hM (dP F)
  obtain ⟨Kg, hKg, sgp⟩ := steep_of M hM g
  have p0 : 0 < ab (ev g r) := by unfold ab; split <;> grind
  obtain ⟨d1, hd1, e1⟩ := div_pos p0 hKd
  obtain ⟨d2, hd2, e2⟩ := div_pos p0 hKg
  obtain ⟨d3, hd3, l1, l2⟩ := min_pos hd1 hd2
  obtain ⟨d4, hd4, l3, l4⟩ := min_pos hd3 hδ
  obtain ⟨η, hη, l5, l6⟩ := min_pos hd4 (show (0 : Rat) < 1 by decide +kernel)
  have rM : ab r ≤ M := by show ab r ≤ ab r + 1; grind
  have side : ∀ x, ab (r - x) ≤ η → sg (ev (dP F) r) = sg (ev (dP F) x) ∧ sg (ev g r) = sg (ev g x) ∧ Sim2 (sr L' r) (sr L' x) := by
    intro x hx
    have xM : ab x ≤ M := by
      have := ab_add r (-(r - x))
      have e : r + -(r - x) = x := by grind
      rw [e, ab_neg] at this
      show ab x ≤ ab r + 1
      grind
    have k1 := sd r x rM xM
    have k2 := sgp r x rM xM
    have m1 : Kd * ab (r - x) ≤ Kd * d1 := Rat.mul_le_mul_of_nonneg_left (by grind) (Rat.le_of_lt hKd)
    have m2 : Kg * ab (r - x) ≤ Kg * d2 := Rat.mul_le_mul_of_nonneg_left (by grind) (Rat.le_of_lt hKg)
    have n1 := sg_near (a := ev (dP F) r) (b := ev (dP F) x) (by rw [hd] at *; grind)
    have n2 := sg_near (a := ev g r) (b := ev g x) (by grind)
    exact ⟨n1.1, n2.1, near r x rM xM (by grind) n1.1 n1.2⟩
  refine ⟨η, hη, fun t ht hte => ?_⟩
  have hgr : sg (ev g r) ≠ 0 := fun e => hg0 (sg_zero.mp e)
  have hV0 : Vc L r = vr (nz (sr L' r)) := by
    rw [Vc_eq, eL]
    show vr (nz (sg (ev F r) :: sr L' r)) = _
    have : sg (ev F r) = 0 := sg_zero.mpr (by rw [hF r]; grind)
    rw [this, nz_0]
  have full : ∀ x, Vc L x = vr (nz (sg (ev F x) :: sg (ev (dP F) x) :: sr L'' x)) := fun x => by rw [Vc_eq, eL, eL']; rfl
  have part : ∀ x, sr L' x = sg (ev (dP F) x) :: sr L'' x := fun x => by rw [eL']; rfl
  constructor
  · obtain ⟨s1, s2, s3⟩ := side (r + t) (ab_le (by grind) (by grind))
    have f : sg (ev F (r + t)) = sg (ev (dP F) (r + t)) := by
      rw [hF, show r + t - r = t by grind, sg_mulp S ht, ← s2, ← s1, hd]
    have hd0 : sg (ev (dP F) (r + t)) ≠ 0 := by rw [← s1, hd]; exact hgr
    rw [hV0, s3.eq, part, full, f, nz_ne hd0, nz_ne hd0, vr_cons, if_neg (by simp)]
    omega
  · obtain ⟨s1, s2, s3⟩ := side (r - t) (ab_le (by grind) (by grind))
    have f : sg (ev F (r - t)) = -sg (ev (dP F) (r - t)) := by
      rw [hF, show (r - t - r) * ev g (r - t) = -(t * ev g (r - t)) by grind, sg_opp, sg_mulp S ht, ← s2, ← s1, hd]
    have hd0 : sg (ev (dP F) (r - t)) ≠ 0 := by rw [← s1, hd]; exact hgr
    rw [hV0, s3.eq, part, full, f, nz_ne (by omega), nz_ne hd0, vr_cons, if_pos (by omega)]
    omega
omit S in
theorem countP_split {α : Type} {p q1 q2 : α → Bool} : ∀ (l : List α), (∀ x ∈ l, p x = (q1 x || q2 x)) → (∀ x ∈ l, (q1 x && q2 x) = false) → l.countP p = l.countP q1 + l.countP q2
  | [], _, _ => rfl
  | x :: l, h, d => by
    have ih := countP_split l (fun y hy => h y (List.mem_cons_of_mem _ hy)) fun y hy => d y (List.mem_cons_of_mem _ hy)
    have h1 := h x (List.mem_cons_self ..)
    have h2 := d x (List.mem_cons_self ..)
    rw [List.countP_cons, List.countP_cons, List.countP_cons, ih, h1]
    cases e1 : q1 x <;> cases e2 : q2 x <;> rw [e1, e2] at h2 <;> simp at h2 ⊢ <;> omega
theorem sturm_ : ∀ (k : Nat) (lo hi : Rat), Ni rs lo hi = k → lo < hi → Vc L lo = Vc L hi + Nr rs lo hi := by
  intro k
  induction k using Nat.strongRecOn with
  | _ k ih =>
    intro lo hi hk hlh
    by_cases hin : ∃ r ∈ rs, lo < r ∧ r < hi
    · obtain ⟨r, hr, h1, h2⟩ := hin
      have pos1 : ∀ (p : Rat → Bool), p r = true → 0 < rs.countP p := fun p hp => List.countP_pos_iff.mpr ⟨r, hr, hp⟩
      have split : Ni rs lo hi = Ni rs lo r + rs.countP (fun x => decide (r ≤ x) && decide (x < hi)) := countP_split rs (fun x _ => by
        by_cases a : x < r
        · have b : ¬ r ≤ x := by grind
          simp only [a, b, decide_true, decide_false, Bool.false_and, Bool.or_false, Bool.and_true]
          have : x < hi := by grind
          simp only [this, decide_true, Bool.and_true]
        · have b : r ≤ x := by grind
          have c : lo < x := by grind
          simp only [a, b, c, decide_true, decide_false, Bool.and_false, Bool.false_or, Bool.true_and]) fun x _ => by
        by_cases a : x < r
        · have b : ¬ r ≤ x := by grind
          simp only [b, decide_false, Bool.false_and, Bool.and_false]
        · simp only [a, decide_false, Bool.and_false, Bool.false_and]
      have q1 := pos1 (fun x => decide (r ≤ x) && decide (x < hi)) (by simp only [Rat.le_refl, h2, decide_true, Bool.and_self])
      have split2 : Ni rs lo hi = Ni rs r hi + rs.countP (fun x => decide (lo < x) && decide (x ≤ r)) := countP_split rs (fun x _ => by
        by_cases a : r < x
        · have b : ¬ x ≤ r := by grind
          have c : lo < x := by grind
          simp only [a, b, c, decide_true, decide_false, Bool.true_and, Bool.and_false, Bool.or_false]
        · have b : x ≤ r := by grind
          have c : x < hi := by grind
          simp only [a, b, c, decide_true, decide_false, Bool.false_and, Bool.and_true, Bool.false_or]) fun x _ => by
        by_cases a : r < x
        · have b : ¬ x ≤ r := by grind
          simp only [b, decide_false, Bool.and_false]
        · simp only [a, decide_false, Bool.false_and]
      have q2 := pos1 (fun x => decide (lo < x) && decide (x ≤ r)) (by simp only [Rat.le_refl, h1, decide_true, Bool.and_self])
      have i1 := ih (Ni rs lo r) (by omega) lo r rfl h1
      have i2 := ih (Ni rs r hi) (by omega) r hi rfl h2
      have add : Nr rs lo hi = Nr rs lo r + Nr rs r hi := countP_split rs (fun x _ => by
        by_cases a : r < x
        · have b : ¬ x ≤ r := by grind
          have c : lo < x := by grind
          simp only [a, b, c, decide_true, decide_false, Bool.true_and, Bool.and_false, Bool.false_or]
        · have b : x ≤ r := by grind
          have c : x ≤ hi := by grind
          simp only [a, b, c, decide_true, decide_false, Bool.false_and, Bool.and_true, Bool.or_false]) fun x _ => by
        by_cases a : r < x
        · have b : ¬ x ≤ r := by grind
          simp only [b, decide_false, Bool.and_false, Bool.false_and]
        · simp only [a, decide_false, Bool.false_and, Bool.and_false]
      omega
    · have hno : ∀ r ∈ rs, ¬ (lo < r ∧ r < hi) := fun r hr e => hin ⟨r, hr, e⟩
      let m := (lo + hi) / 2
      have m1 : lo < m := by show lo < (lo + hi) / 2; grind
      have m2 : m < hi := by show (lo + hi) / 2 < hi; grind
      have left : Vc L lo = Vc L m := by
        by_cases hl : lo ∈ rs
        · obtain ⟨η, hη, h⟩ := at_root S hl
          obtain ⟨t, ht, t1, t2⟩ := min_pos hη (show 0 < m - lo by grind)
          rw [← (h t ht t1).1]
          exact const_on S (by grind) fun r hr ⟨a, b⟩ => hno r hr ⟨by grind, by grind⟩
        · exact const_on S (Rat.le_of_lt m1) fun r hr ⟨a, b⟩ => by
            by_cases e : r = lo
            · exact hl (e ▸ hr)
            · exact hno r hr ⟨by grind, by grind⟩
      by_cases hl : hi ∈ rs
      · obtain ⟨η, hη, h⟩ := at_root S hl
        obtain ⟨t, ht, t1, t2⟩ := min_pos hη (show 0 < hi - m by grind)
        have c : Vc L m = Vc L (hi - t) := const_on S (by grind) fun r hr ⟨a, b⟩ => hno r hr ⟨by grind, by grind⟩
        have e : Nr rs lo hi = 1 := by
          have e1 : Nr rs lo hi = rs.count hi := by
            unfold Nr List.count
            refine List.countP_congr fun x hx => ?_
            constructor
            · intro hp
              simp only [Bool.and_eq_true, decide_eq_true_eq] at hp
              have := hno x hx
              have : x = hi := by grind
              simpa using this
            · intro hp
              have : x = hi := by simpa using hp
              subst this
              simp only [hlh, Rat.le_refl, decide_true, Bool.and_self]
          rw [e1]
          exact (List.Nodup.count S.nd).trans (if_pos hl)
        rw [left, c, (h t ht t1).2, e]
      · have c : Vc L m = Vc L hi := const_on S (Rat.le_of_lt m2) fun r hr ⟨a, b⟩ => by
          by_cases e : r = hi
          · exact hl (e ▸ hr)
          · exact hno r hr ⟨by grind, by grind⟩
        have e : Nr rs lo hi = 0 := by
          unfold Nr
          rw [List.countP_eq_zero]
          intro x hx hp
          simp only [Bool.and_eq_true, decide_eq_true_eq] at hp
          by_cases e : x = hi
          · exact hl (e ▸ hx)
          · exact hno x hx ⟨hp.1, by grind⟩
        rw [left, c, e, Nat.add_zero]
theorem sturm {lo hi : Rat} (h : lo ≤ hi) : Vc L lo = Vc L hi + Nr rs lo hi := by
  by_cases e : lo = hi
  · subst e
    have : Nr rs lo lo = 0 := by
      unfold Nr
      rw [List.countP_eq_zero]
      intro x hx hp
      simp only [Bool.and_eq_true, decide_eq_true_eq] at hp
      grind
    rw [this]; rfl
  · exact sturm_ S _ lo hi rfl (by grind)
end
end LK
end
/-! ## Q4 -/
section
set_option Elab.async false
set_option linter.all false
set_option maxRecDepth 200000
set_option maxHeartbeats 8000000
namespace LK
open PySem PV RP
/-! slopes, polynomials without a common one -/
def dv : List Rat → Rat → Rat
  | [], _ => 0
  | _ :: l, x => ev l x + x * dv l x
theorem dv_add (x : Rat) : ∀ p q : List Rat, dv (addP p q) x = dv p x + dv q x
  | [], q => by
    have : addP [] q = q := by cases q <;> rfl
    rw [this]; show _ = 0 + _; grind
  | a :: p, [] => by show _ = _ + (0 : Rat); simp only [addP]; grind
  | a :: p, b :: q => by
    have ih := dv_add x p q
    show ev (addP p q) x + x * dv (addP p q) x = (ev p x + x * dv p x) + (ev q x + x * dv q x)
    rw [ih, ev_add]; grind
theorem dv_sc (c x : Rat) : ∀ p : List Rat, dv (scP c p) x = c * dv p x
  | [] => by show (0 : Rat) = c * 0; grind
  | a :: p => by
    have ih := dv_sc c x p
    show ev (scP c p) x + x * dv (scP c p) x = c * (ev p x + x * dv p x)
    rw [ih, ev_sc]; grind
theorem dv_mul (x : Rat) : ∀ p q : List Rat, dv (mulP p q) x = dv p x * ev q x + ev p x * dv q x
  | [], q => by show (0 : Rat) = 0 * _ + 0 * _; grind
  | a :: p, q => by
    have ih := dv_mul x p q
    show dv (addP (scP a q) (0 :: mulP p q)) x = (ev p x + x * dv p x) * ev q x + (a + x * ev p x) * dv q x
    rw [dv_add, dv_sc]
    show a * dv q x + (ev (mulP p q) x + x * dv (mulP p q) x) = _
    rw [ih, ev_mul]; grind
theorem dv_trim (x : Rat) : ∀ l : List Rat, dv (trim l) x = dv l x
  | [] => rfl
  | a :: l => by
    have ih := dv_trim x l
    have ie := ev_trim x l
    by_cases h : trim l = []
    · rw [trim_cons_nil h]
      rw [h] at ih ie
      have h1 : dv l x = 0 := ih.symm
      have h2 : ev l x = 0 := ie.symm
      show _ = ev l x + x * dv l x
      rw [h1, h2]
      split
      · show (0 : Rat) = _; grind
      · show (0 : Rat) + x * 0 = _; grind
    · rw [trim_cons_ne h]
      show ev (trim l) x + x * dv (trim l) x = _
      rw [ih, ie]; rfl
theorem dv_ext {p q : List Rat} (h : ∀ x, ev p x = ev q x) (x : Rat) : dv p x = dv q x := by
  rw [← dv_trim x p, ← dv_trim x q, trim_ext h]
theorem ev_range (x : Rat) (l : List Rat) (f : Nat → Rat) : ∀ n : Nat, ev ((List.range n).map f) x = (List.range n).foldl (fun a k => a + f k * x ^ k) 0
  | 0 => rfl
  | n + 1 => by
    rw [List.range_succ, List.map_append, ev_app, ev_range x l f n, List.foldl_append, List.length_map, List.length_range]
    show _ + _ * (f n + x * 0) = _ + f n * x ^ n
    grind
/-- the rule's slope -/
theorem slP_cons (a : Rat) (l : List Rat) : slP (a :: l) = (List.range l.length).map fun k => l.getD k 0 * (((1 + (k : Int) : Int)) : Rat) := by
  unfold slP
  show (List.range (l.length + 1 - 1)).map (fun k => (a :: l).getD (1 + k) 0 * _) = _
  rw [Nat.add_sub_cancel]
  refine List.map_congr_left fun k _ => ?_
  rw [Nat.add_comm 1 k]
  rfl
theorem dv_snoc (x : Rat) (a : Rat) : ∀ l : List Rat, dv (l ++ [a]) x = dv l x + (l.length : Rat) * (x ^ (l.length - 1) * a)
  | [] => by show (0 : Rat) + x * 0 = 0 + ((0 : Nat) : Rat) * _; have : ((0 : Nat) : Rat) = 0 := rfl; rw [this]; grind
  | b :: l => by
    have ih := dv_snoc x a l
    show ev (l ++ [a]) x + x * dv (l ++ [a]) x = (ev l x + x * dv l x) + ((l.length + 1 : Nat) : Rat) * (x ^ (l.length + 1 - 1) * a)
    rw [ih, ev_app, Rat.natCast_add]
    show ev l x + x ^ l.length * (a + x * 0) + _ = _
    have e1 : ((1 : Nat) : Rat) = 1 := rfl
    rw [e1, Nat.add_sub_cancel]
    cases hl : l.length with
    | zero =>
      have : ((0 : Nat) : Rat) = 0 := rfl
      rw [this]; grind
    | succ k =>
      rw [Nat.add_sub_cancel, Rat.pow_succ]
      grind
theorem ev_dP (p : List Rat) (x : Rat) : ev (dP p) x = dv p x := by
  unfold dP
  rw [ev_trim]
  cases p with
  | nil => rfl
  | cons a l =>
    rw [slP_cons]
    show _ = ev l x + x * dv l x
    have key : ∀ n ≤ l.length, ev ((List.range n).map fun k => l.getD k 0 * (((1 + (k : Int) : Int)) : Rat)) x = ev (l.take n) x + x * dv (l.take n) x := by
      intro n
      induction n with
      | zero => intro _; show (0 : Rat) = 0 + x * 0; grind
      | succ n ih =>
        intro hn
        have hg := getD_of (l := l) (k := n) (by omega)
        rw [List.range_succ, List.map_append, ev_app, ih (by omega), List.length_map, List.length_range, take_snoc hg, ev_app, dv_snoc, List.length_take, Nat.min_eq_left (by omega)]
        show _ + x ^ n * (l.getD n 0 * _ + x * 0) = _ + x ^ n * (l.getD n 0 + x * 0) + x * (_ + _ * (_ * l.getD n 0))
        have e1 : ((((1 : Int) + (n : Int)) : Int) : Rat) = 1 + ((n : Nat) : Rat) := by
          rw [Rat.intCast_add, Rat.intCast_natCast]; rfl
        rw [e1]
        cases n with
        | zero => have : ((0 : Nat) : Rat) = 0 := rfl
                  rw [this]; grind
        | succ k => rw [Nat.add_sub_cancel, Rat.pow_succ]; grind
    have := key l.length (Nat.le_refl _)
    rw [List.take_length] at this
    exact this
/-- nothing in common -/
def Cop (p q : List Rat) : Prop := ∃ A B : List Rat, ∀ x, ev A x * ev p x + ev B x * ev q x = 1
theorem Cop.mul {p q r s : List Rat} (h1 : Cop p r) (h2 : Cop q r) (hs : ∀ x, ev s x = ev p x * ev q x) : Cop s r := by
  obtain ⟨A, B, a⟩ := h1
  obtain ⟨C, D, b⟩ := h2
  refine ⟨mulP A C, addP (addP (mulP (mulP A (mulP p D)) [1]) (mulP (mulP B C) q)) (mulP B (mulP D r)), fun x => ?_⟩
  have e1 := a x
  have e2 := b x
  simp only [ev_mul, ev_add, hs]
  have e3 : ev [(1 : Rat)] x = 1 := by show (1 : Rat) + x * 0 = 1; grind
  rw [e3]
  have : (ev A x * ev p x + ev B x * ev r x) * (ev C x * ev q x + ev D x * ev r x) = 1 := by rw [e1, e2]; grind
  grind
theorem Cop.mulr {p q r s : List Rat} (h1 : Cop p q) (h2 : Cop p r) (hs : ∀ x, ev s x = ev q x * ev r x) : Cop p s := by
  obtain ⟨A, B, h⟩ := Cop.mul (r := p) (s := s) (by obtain ⟨A, B, a⟩ := h1; exact ⟨B, A, fun x => by have := a x; grind⟩) (by obtain ⟨A, B, a⟩ := h2; exact ⟨B, A, fun x => by have := a x; grind⟩) hs
  exact ⟨B, A, fun x => by have := h x; grind⟩
theorem Cop.addm {p q s t : List Rat} (h : Cop p q) (hs : ∀ x, ev s x = ev q x + ev p x * ev t x) : Cop p s := by
  obtain ⟨A, B, a⟩ := h
  refine ⟨addP A (scP (-1) (mulP B t)), B, fun x => ?_⟩
  have := a x
  rw [ev_add, ev_sc, ev_mul, hs]
  grind
theorem Cop.ext {p q s t : List Rat} (h : Cop p q) (h1 : ∀ x, ev s x = ev p x) (h2 : ∀ x, ev t x = ev q x) : Cop s t := by
  obtain ⟨A, B, a⟩ := h
  exact ⟨A, B, fun x => by rw [h1, h2]; exact a x⟩
theorem Cop.const {c : Rat} (h : c ≠ 0) (q : List Rat) : Cop [c] q := ⟨[1 / c], [], fun x => by
  show (1 / c + x * 0) * (c + x * 0) + 0 * _ = 1
  grind⟩
def lin (r : Rat) : List Rat := [-r, 1]
theorem ev_lin (r x : Rat) : ev (lin r) x = x - r := by show -r + x * (1 + x * 0) = _; grind
theorem dv_lin (r x : Rat) : dv (lin r) x = 1 := by show (1 + x * 0) + x * (0 + x * 0) = 1; grind
theorem Cop.lin {r : Rat} {g : List Rat} (h : ev g r ≠ 0) : Cop (lin r) g := by
  refine ⟨scP (-(1 / ev g r)) (syn r g), [1 / ev g r], fun x => ?_⟩
  have := ev_syn r x g
  rw [ev_sc, ev_lin]
  have e : ev [1 / ev g r] x = 1 / ev g r := by show 1 / ev g r + x * 0 = _; grind
  rw [e]
  generalize ev g r = v at *
  have : ev g x = v + (x - r) * ev (syn r g) x := by grind
  rw [this]
  grind
end LK
end
/-! ## Q5 -/
section
set_option Elab.async false
set_option linter.all false
set_option maxRecDepth 200000
set_option maxHeartbeats 8000000
namespace LK
open PySem PV RP
/-! polynomials of roots and a part without -/
def pr : List Rat → Rat → Rat
  | [], _ => 1
  | r :: rs, x => (x - r) * pr rs x
def fl (c : Rat) (Q : List Rat) : List Rat → List Rat
  | [] => mulP [c] Q
  | r :: rs => mulP (lin r) (fl c Q rs)
theorem ev_one (x : Rat) : ev [(1 : Rat)] x = 1 := by show (1 : Rat) + x * 0 = 1; grind
theorem ev_c (c x : Rat) : ev [c] x = c := by show c + x * 0 = c; grind
theorem ev_fl (c : Rat) (Q : List Rat) (x : Rat) : ∀ rs : List Rat, ev (fl c Q rs) x = c * pr rs x * ev Q x
  | [] => by show ev (mulP [c] Q) x = c * 1 * _; rw [ev_mul, ev_c]; grind
  | r :: rs => by
    show ev (mulP (lin r) (fl c Q rs)) x = c * ((x - r) * pr rs x) * _
    rw [ev_mul, ev_lin, ev_fl c Q x rs]; grind
theorem pr_erase {e : Rat} (x : Rat) : ∀ {es : List Rat}, e ∈ es → pr es x = (x - e) * pr (es.erase e) x
  | r :: rs, h => by
    by_cases hr : r = e
    · subst hr
      rw [List.erase_cons_head]; rfl
    · have h' : e ∈ rs := by
        rcases List.mem_cons.mp h with h | h
        · exact absurd h.symm hr
        · exact h
      rw [List.erase_cons_tail (by simpa using hr)]
      show (x - r) * pr rs x = (x - e) * ((x - r) * pr (rs.erase e) x)
      rw [pr_erase x h']; grind
theorem pr_ne {x : Rat} : ∀ {es : List Rat}, x ∉ es → pr es x ≠ 0
  | [], _ => by show (1 : Rat) ≠ 0; decide +kernel
  | r :: rs, h => fun e => by
    have e : (x - r) * pr rs x = 0 := e
    rcases Rat.mul_eq_zero.mp e with e | e
    · exact h (by have : x = r := by grind
                  rw [this]; exact List.mem_cons_self ..)
    · exact pr_ne (fun hm => h (List.mem_cons_of_mem _ hm)) e
theorem pr_zero {x : Rat} {es : List Rat} (h : x ∈ es) : pr es x = 0 := by rw [pr_erase x h]; grind
/-- (x - r) may be left out on both sides -/
theorem lin_cancel {r : Rat} {p q : List Rat} (h : ∀ x, (x - r) * ev p x = (x - r) * ev q x) : ∀ x, ev p x = ev q x := by
  have := div_one (q0 := [-r]) (c := 1) (w1 := p) (w2 := q) (r1 := []) (r2 := []) (by decide +kernel) (by simp) (by simp) fun x => by
    show ev (lin r) x * _ + 0 = ev (lin r) x * _ + 0
    rw [ev_lin, h x]
  exact this.1
structure Base (c : Rat) (Q : List Rat) : Prop where
  c0 : c ≠ 0
  pos : ∀ x, 0 < ev Q x
  cop : Cop Q (dP Q)
theorem Base.linQ {c : Rat} {Q : List Rat} (B : Base c Q) (r : Rat) : Cop Q (lin r) := by
  obtain ⟨A, D, h⟩ := Cop.lin (r := r) (g := Q) (by have := B.pos r; grind)
  exact ⟨D, A, fun x => by have := h x; grind⟩
theorem Base.prQ {c : Rat} {Q : List Rat} (B : Base c Q) (d : Rat) (hd : d ≠ 0) : ∀ es : List Rat, Cop Q (fl d [1] es)
  | [] => by
    obtain ⟨A, D, h⟩ := Cop.const hd Q
    exact ⟨D, A, fun x => by
      have := h x
      rw [ev_c] at this
      rw [ev_fl, ev_one]
      show _ + _ * (d * 1 * 1) = (1 : Rat)
      grind⟩
  | e :: es => Cop.mulr (B.linQ e) (B.prQ d hd es) fun x => by
      show ev (mulP (lin e) (fl d [1] es)) x = _
      rw [ev_mul]
/-- by parts: nothing in common with T -/
theorem cop_prod {c : Rat} {Q T : List Rat} (hc : c ≠ 0) (hQ : Cop Q T) : ∀ (es : List Rat), (∀ e ∈ es, ev T e ≠ 0) → Cop (fl c Q es) T
  | [], _ => Cop.mul (Cop.const hc T) hQ fun x => by show ev (mulP [c] Q) x = _; rw [ev_mul]
  | e :: es, h => Cop.mul (Cop.lin (h e (List.mem_cons_self ..))) (cop_prod hc hQ es fun d hd => h d (List.mem_cons_of_mem _ hd)) fun x => by
      show ev (mulP (lin e) (fl c Q es)) x = _
      rw [ev_mul]
def Mon (n : Nat) (G : List Rat) : Prop := ∃ G0 : List Rat, G0.length = n ∧ ∀ x, ev G x = ev (G0 ++ [1]) x
theorem Mon.lin {n : Nat} {G : List Rat} (h : Mon n G) (r : Rat) : Mon (n + 1) (mulP (lin r) G) := by
  obtain ⟨G0, hl, h⟩ := h
  refine ⟨addP (0 :: G0) (scP (-r) (G0 ++ [1])), ?_, fun x => ?_⟩
  · rw [add_len]; simp only [scP, List.length_map, List.length_cons, List.length_append, List.length_nil]; omega
  · have hl2 : (addP (0 :: G0) (scP (-r) (G0 ++ [1]))).length = G0.length + 1 := by
      rw [add_len]; simp only [scP, List.length_map, List.length_cons, List.length_append, List.length_nil]; omega
    rw [ev_mul, ev_lin, h, ev_app, ev_app, ev_add, ev_sc, ev_app, hl2, ev_one, Rat.pow_succ]
    show _ = (0 + x * ev G0 x) + _ + _
    grind
theorem pr_mon : ∀ ms : List Rat, Mon ms.length (fl 1 [1] ms)
  | [] => ⟨[], rfl, fun x => by rw [ev_fl]; show 1 * 1 * ev [1] x = ev [1] x; grind⟩
  | r :: ms => (pr_mon ms).lin r
structure Fac (c : Rat) (Q rs es F G H : List Rat) : Prop where
  nd : es.Nodup
  mem : ∀ e, e ∈ es ↔ e ∈ rs
  hF : ∀ x, ev F x = c * pr es x * ev Q x
  hf : ∀ x, ev (fl c Q rs) x = ev F x * ev G x
  hd : ∀ x, dv (fl c Q rs) x = ev G x * ev H x
  len : es.length ≤ rs.length
  mon : ∃ ms : List Rat, ms.length = rs.length - es.length ∧ (∀ m ∈ ms, m ∈ rs) ∧ ∀ x, ev G x = pr ms x
  hQ : Cop Q H
  hH : ∀ e ∈ es, ∃ m : Nat, 0 < m ∧ ∀ Fe : List Rat, (∀ x, ev F x = (x - e) * ev Fe x) → ev H e = ((m : Nat) : Rat) * ev Fe e
theorem fac_of {c : Rat} {Q : List Rat} (B : Base c Q) : ∀ rs : List Rat, ∃ es F G H, Fac c Q rs es F G H
  | [] => by
    refine ⟨[], mulP [c] Q, [1], dP (mulP [c] Q), ⟨List.nodup_nil, fun e => Iff.rfl, fun x => ?_, fun x => ?_, fun x => ?_, Nat.le_refl _, ⟨[], rfl, fun e he => (nomatch he), fun x => ev_one x⟩, ?_, fun e he => nomatch he⟩⟩
    · show _ = c * 1 * _; rw [ev_mul, ev_c]; grind
    · rw [ev_one]; show ev (mulP [c] Q) x = _; grind
    · rw [ev_one, ev_dP]; show dv (mulP [c] Q) x = _; grind
    · have h1 : Cop Q [c] := by
        obtain ⟨A, D, h⟩ := Cop.const B.c0 Q
        exact ⟨D, A, fun x => by have := h x; grind⟩
      refine Cop.mulr h1 B.cop fun x => ?_
      rw [ev_dP, dv_mul, ev_dP]
      show (0 + x * 0) * _ + _ = _
      grind
  | r :: rs => by
    obtain ⟨es, F, G, H, f⟩ := fac_of B rs
    have cancel1 : ∀ e ∈ es, ∃ F1 : List Rat, (∀ x, ev F1 x = c * pr (es.erase e) x * ev Q x) ∧ ∀ x, ev F x = (x - e) * ev F1 x := fun e he => ⟨fl c Q (es.erase e), fun x => ev_fl c Q x _, fun x => by rw [ev_fl, f.hF, pr_erase x he]; grind⟩
    by_cases hr : r ∈ es
    · obtain ⟨F1, h1, h2⟩ := cancel1 r hr
      have hlen := f.len
      refine ⟨es, F, mulP (lin r) G, addP F1 H, ⟨f.nd, fun e => ?_, f.hF, fun x => ?_, fun x => ?_, by rw [List.length_cons]; omega, ?_, ?_, fun e he => ?_⟩⟩
      · rw [f.mem e, List.mem_cons]
        constructor
        · exact .inr
        · rintro (rfl | h)
          · exact (f.mem _).mp hr
          · exact h
      · show ev (mulP (lin r) (fl c Q rs)) x = _
        rw [ev_mul, ev_mul, f.hf]; grind
      · show dv (mulP (lin r) (fl c Q rs)) x = _
        rw [dv_mul, dv_lin, ev_lin, f.hf, f.hd, ev_mul, ev_lin, ev_add, h2]; grind
      · obtain ⟨ms, m1, m2, m3⟩ := f.mon
        exact ⟨r :: ms, by rw [List.length_cons, List.length_cons]; omega, fun m hm => by
          rcases List.mem_cons.mp hm with rfl | hm
          · exact List.mem_cons_self ..
          · exact List.mem_cons_of_mem _ (m2 m hm), fun x => by
          rw [ev_mul, ev_lin, m3]; rfl⟩
      · refine Cop.addm (t := fl c [1] (es.erase r)) f.hQ fun x => ?_
        rw [ev_add, h1, ev_fl, ev_one]; grind
      · by_cases hre : e = r
        · subst hre
          obtain ⟨m, hm, h⟩ := f.hH e he
          refine ⟨m + 1, by omega, fun Fe hFe => ?_⟩
          have e1 := lin_cancel (p := F1) (q := Fe) (fun x => by rw [← h2, hFe])
          rw [ev_add, h F1 h2, e1, Rat.natCast_add]
          have : ((1 : Nat) : Rat) = 1 := rfl
          rw [this]; grind
        · obtain ⟨m, hm, h⟩ := f.hH e he
          refine ⟨m, hm, fun Fe hFe => ?_⟩
          have z : ev F1 e = 0 := by
            have a := h2 e
            rw [hFe e] at a
            have : (e - r) * ev F1 e = 0 := by grind
            rcases Rat.mul_eq_zero.mp this with h | h
            · exact absurd (show e = r by grind) hre
            · exact h
          rw [ev_add, z, h Fe hFe]; grind
    · have hlen := f.len
      refine ⟨r :: es, mulP (lin r) F, G, addP F (mulP (lin r) H), ⟨List.nodup_cons.mpr ⟨hr, f.nd⟩, fun e => by rw [List.mem_cons, List.mem_cons, f.mem e], fun x => ?_, fun x => ?_, fun x => ?_, by rw [List.length_cons, List.length_cons]; omega, ?_, ?_, fun e he => ?_⟩⟩
      · rw [ev_mul, ev_lin, f.hF]
        show _ = c * ((x - r) * pr es x) * _
        grind
      · show ev (mulP (lin r) (fl c Q rs)) x = _
        rw [ev_mul, ev_mul, f.hf]; grind
      · show dv (mulP (lin r) (fl c Q rs)) x = _
        rw [dv_mul, dv_lin, ev_lin, f.hf, f.hd, ev_add, ev_mul, ev_lin]; grind
      · obtain ⟨ms, m1, m2, m3⟩ := f.mon
        exact ⟨ms, by rw [List.length_cons, List.length_cons]; omega, fun m hm => List.mem_cons_of_mem _ (m2 m hm), m3⟩
      · refine Cop.addm (t := fl c [1] es) (Cop.mulr (B.linQ r) f.hQ (s := mulP (lin r) H) fun x => ev_mul x _ _) fun x => ?_
        rw [ev_add, f.hF, ev_fl, ev_one]; grind
      · rcases List.mem_cons.mp he with rfl | he
        · refine ⟨1, by decide, fun Fe hFe => ?_⟩
          have e1 := lin_cancel (p := F) (q := Fe) (fun x => by rw [← hFe, ev_mul, ev_lin])
          rw [ev_add, ev_mul, ev_lin, e1]
          have : ((1 : Nat) : Rat) = 1 := rfl
          rw [this]; grind
        · obtain ⟨m, hm, h⟩ := f.hH e he
          obtain ⟨F1, h1, h2⟩ := cancel1 e he
          refine ⟨m, hm, fun Fe hFe => ?_⟩
          have e1 := lin_cancel (r := e) (p := mulP (lin r) F1) (q := Fe) (fun x => by rw [← hFe, ev_mul, ev_mul, ev_lin, h2]; grind)
          have z : ev F e = 0 := by rw [h2]; grind
          rw [ev_add, ev_mul, ev_lin, z, h F1 h2, ← e1, ev_mul, ev_lin]; grind
theorem Fac.cop {c : Rat} {Q rs es F G H : List Rat} (B : Base c Q) (f : Fac c Q rs es F G H) : Cop F H := by
  refine Cop.ext (cop_prod B.c0 f.hQ es fun e he h0 => ?_) (fun x => by rw [ev_fl, f.hF]) (fun x => rfl)
  obtain ⟨m, hm, h⟩ := f.hH e he
  have hz : ev (fl c Q (es.erase e)) e ≠ 0 := by
    rw [ev_fl]
    intro h
    rcases Rat.mul_eq_zero.mp h with h | h
    · rcases Rat.mul_eq_zero.mp h with h | h
      · exact B.c0 h
      · exact pr_ne (fun hm => (List.Nodup.mem_erase_iff f.nd).mp hm |>.1 rfl) h
    · have := B.pos e; grind
  have := h (fl c Q (es.erase e)) fun x => by rw [ev_fl, f.hF, pr_erase x he]; grind
  rw [h0] at this
  rcases Rat.mul_eq_zero.mp this.symm with h | h
  · have := Rat.natCast_eq_zero_iff.mp h; omega
  · exact hz h
theorem pr_sign {u v : Rat} (huv : u ≤ v) : ∀ {es : List Rat}, (∀ r ∈ es, ¬ (u ≤ r ∧ r ≤ v)) → 0 < pr es u * pr es v
  | [], _ => by show (0 : Rat) < 1 * 1; decide +kernel
  | r :: rs, h => by
    have ih := pr_sign huv (es := rs) fun s hs => h s (List.mem_cons_of_mem _ hs)
    have hr := h r (List.mem_cons_self ..)
    have h1 : 0 < (u - r) * (v - r) := by
      by_cases hur : r < u
      · exact Rat.mul_pos (by grind) (by grind)
      · have : v < r := by grind
        have := Rat.mul_pos (show 0 < r - u by grind) (show 0 < r - v by grind)
        grind
    have := Rat.mul_pos h1 ih
    show 0 < ((u - r) * pr rs u) * ((v - r) * pr rs v)
    grind
theorem sg_same {a b : Rat} (h : 0 < a * b) : sg a = sg b ∧ sg a ≠ 0 := by
  rcases sg_cases a with e | e | e
  · rw [sg_zero] at e
    rw [e] at h
    grind
  · have ha := sg_pos.mp e
    have : 0 < b := by
      by_cases hb : 0 < b
      · exact hb
      · have := Rat.mul_nonneg (Rat.le_of_lt ha) (show 0 ≤ -b by grind)
        grind
    rw [e, sg_pos.mpr this]; decide
  · have ha := sg_neg.mp e
    have : b < 0 := by
      by_cases hb : b < 0
      · exact hb
      · have := Rat.mul_nonneg (show 0 ≤ -a by grind) (show 0 ≤ b by grind)
        grind
    rw [e, sg_neg.mpr this]; decide
theorem std_of {c : Rat} {Q es F : List Rat} {L : List (List Rat)} (B : Base c Q) (nd : es.Nodup) (hF : ∀ x, ev F x = c * pr es x * ev Q x) (eu : Eu false F (dP F) L) : StD F L es where
  eu := eu
  nd := nd
  sign := fun u v huv hn => sg_same (by
    rw [hF, hF]
    have h1 := pr_sign huv hn
    have h2 := Rat.mul_pos (B.pos u) (B.pos v)
    have h3 : 0 < c * c := by
      have := B.c0
      by_cases h : 0 < c
      · exact Rat.mul_pos h h
      · have := Rat.mul_pos (show 0 < -c by grind) (show 0 < -c by grind)
        grind
    have := Rat.mul_pos h3 (Rat.mul_pos h1 h2)
    grind)
  root := fun r hr => by
    have hg : ∀ x, ev F x = (x - r) * ev (fl c Q (es.erase r)) x := fun x => by rw [ev_fl, hF, pr_erase x hr]; grind
    refine ⟨fl c Q (es.erase r), hg, ?_, ?_⟩
    · rw [ev_fl]
      intro h
      rcases Rat.mul_eq_zero.mp h with h | h
      · rcases Rat.mul_eq_zero.mp h with h | h
        · exact B.c0 h
        · exact pr_ne (fun hm => (List.Nodup.mem_erase_iff nd).mp hm |>.1 rfl) h
      · have := B.pos r; grind
    · rw [ev_dP, dv_ext (q := mulP (lin r) (fl c Q (es.erase r))) (fun x => by rw [hg, ev_mul, ev_lin]), dv_mul, dv_lin, ev_lin]; grind
  cop := by
    have hQ : Cop Q (dP F) := by
      have hFQ : ∀ x, ev F x = ev (mulP Q (fl c [1] es)) x := fun x => by rw [ev_mul, ev_fl, hF, ev_one]; grind
      refine Cop.addm (q := mulP (dP Q) (fl c [1] es)) (t := dP (fl c [1] es)) (Cop.mulr B.cop (B.prQ c B.c0 es) fun x => ev_mul x _ _) fun x => ?_
      rw [ev_dP, dv_ext hFQ, dv_mul, ev_mul, ev_dP, ev_dP]
    refine Cop.ext (cop_prod B.c0 hQ es fun r hr h0 => ?_) (fun x => by rw [ev_fl, hF]) fun x => rfl
    have hg : ∀ x, ev F x = (x - r) * ev (fl c Q (es.erase r)) x := fun x => by rw [ev_fl, hF, pr_erase x hr]; grind
    rw [ev_dP, dv_ext (q := mulP (lin r) (fl c Q (es.erase r))) (fun x => by rw [hg, ev_mul, ev_lin]), dv_mul, dv_lin, ev_lin, ev_fl] at h0
    have h0 : c * pr (es.erase r) r * ev Q r = 0 := by grind
    rcases Rat.mul_eq_zero.mp h0 with h | h
    · rcases Rat.mul_eq_zero.mp h with h | h
      · exact B.c0 h
      · exact pr_ne (fun hm => (List.Nodup.mem_erase_iff nd).mp hm |>.1 rfl) h
    · have := B.pos r; grind
end LK
end
/-! ## Q6 -/
section
set_option Elab.async false
set_option linter.all false
set_option maxRecDepth 200000
set_option maxHeartbeats 8000000
set_option exponentiation.threshold 300
namespace LK
open PySem PV RP
/-! what both have, by the last of the row, is what is left out of a polynomial with each root once -/
theorem unit_const {w z : List Rat} (h : ∀ x, ev w x * ev z x = 1) : ∃ a, a ≠ 0 ∧ ∀ x, ev w x = a := by
  have hw : trim w ≠ [] := fun e => by
    have := h 0
    rw [← ev_trim 0 w, e] at this
    have e : (0 : Rat) * ev z 0 = 1 := this
    grind
  have hz : trim z ≠ [] := fun e => by
    have := h 0
    rw [← ev_trim 0 z, e] at this
    have e : ev w 0 * (0 : Rat) = 1 := this
    grind
  have sw := getLast_getD (trim w) (List.length_pos_iff.mpr hw)
  have sz := getLast_getD (trim z) (List.length_pos_iff.mpr hz)
  generalize ha : (trim w).getD ((trim w).length - 1) 0 = a at sw
  generalize hb : (trim z).getD ((trim z).length - 1) 0 = b at sz
  have a0 : a ≠ 0 := Tr.last (trim_trim w) (a := a) (by rw [sw]; simp)
  have b0 : b ≠ 0 := Tr.last (trim_trim z) (a := b) (by rw [sz]; simp)
  cases hd : (trim w).dropLast with
  | nil =>
    rw [hd] at sw
    refine ⟨a, a0, fun x => ?_⟩
    rw [← ev_trim x w, sw]
    exact ev_c a x
  | cons d r =>
    have := lead_zero (q0 := (trim w).dropLast) (U0 := (trim z).dropLast) (V := [1]) (c := a) (u := b) (by rw [hd]; simp) fun x => by
      rw [← sw, ← sz, ev_trim, ev_trim, ev_one]; exact h x
    exfalso
    rcases Rat.mul_eq_zero.mp this with h | h
    · exact a0 h
    · exact b0 h
theorem plain_of {c : Rat} {Q rs es F G H one g : List Rat} {L : List (List Rat)} {cg : Rat} {ms : List Rat} (B : Base c Q) (f : Fac c Q rs es F G H) (h1 : ∀ x, ev one x = ev (fl c Q rs) x) (eu : Eu true one (dP one) L) (hg : L.getLast? = some g) (hc : g.getLast? = some cg) (c0 : cg ≠ 0) (tg : Tr g)
    (hm : ∀ x, ev G x = pr ms x) : scP (1 / cg) g = trim (fl 1 [1] ms) ∧ ∀ x, ev one x = ev (trim (fl 1 [1] ms)) x * ev F x := by
  obtain ⟨g', hg', U, V, X, Y, k1, k2, k3⟩ := eu.comb
  rw [hg] at hg'
  cases hg'
  obtain ⟨A, D, hAD⟩ := f.cop B
  have o1 : ∀ x, ev one x = ev F x * ev G x := fun x => by rw [h1, f.hf]
  have o2 : ∀ x, ev (dP one) x = ev G x * ev H x := fun x => by rw [ev_dP, dv_ext h1, f.hd]
  let w := addP (mulP U F) (mulP V H)
  let z := addP (mulP A X) (mulP D Y)
  have ew : ∀ x, ev w x = ev U x * ev F x + ev V x * ev H x := fun x => by show ev (addP _ _) x = _; rw [ev_add, ev_mul, ev_mul]
  have ez : ∀ x, ev z x = ev A x * ev X x + ev D x * ev Y x := fun x => by show ev (addP _ _) x = _; rw [ev_add, ev_mul, ev_mul]
  have gw : ∀ x, ev g x = ev G x * ev w x := fun x => by rw [k1, ew, o1, o2]; grind
  have gz : ∀ x, ev G x = ev g x * ev z x := fun x => by
    have a := hAD x
    have b := k2 x
    have d := k3 x
    rw [o1] at b
    rw [o2] at d
    rw [ez]
    have : ev G x = ev G x * (ev A x * ev F x + ev D x * ev H x) := by rw [a]; grind
    rw [this]
    grind
  obtain ⟨G0, gl, hG0⟩ := pr_mon ms
  have hGf : ∀ x, ev G x = ev (G0 ++ [1]) x := fun x => by rw [hm, ← hG0, ev_fl, ev_one]; grind
  have wz : ∀ x, ev w x * ev z x = 1 := by
    have := (div_one (q0 := G0) (c := 1) (w1 := mulP w z) (w2 := [1]) (r1 := []) (r2 := []) (by decide +kernel) (by simp) (by simp) fun x => by
      rw [← hGf, ev_mul, ev_one]
      show _ + 0 = _ + (0 : Rat)
      have a := gw x
      have b := gz x
      rw [a] at b
      grind).1
    intro x
    have := this x
    rw [ev_mul, ev_one] at this
    exact this
  obtain ⟨a, a0, ha⟩ := unit_const wz
  have hga : g = scP a (G0 ++ [1]) := by
    have e1 : trim g = trim (scP a (G0 ++ [1])) := trim_ext fun x => by rw [gw, ha, ev_sc, hGf]; grind
    have e2 : trim (scP a (G0 ++ [1])) = scP a (G0 ++ [1]) := sc_tr a0 (trim_snoc (by decide +kernel) G0)
    rw [e2] at e1
    rw [← e1]; exact tg.symm
  have hca : cg = a := by
    rw [hga] at hc
    unfold scP at hc
    rw [List.map_append, List.getLast?_append] at hc
    have : a * 1 = cg := by simpa using hc
    grind
  have e3 : scP (1 / cg) g = G0 ++ [1] := by
    rw [hga, hca]
    unfold scP
    rw [List.map_map]
    have : ((1 / a * ·) ∘ (a * ·) : Rat → Rat) = id := by funext y; show 1 / a * (a * y) = y; grind
    rw [this, List.map_id]
  have e4 : trim (fl 1 [1] ms) = G0 ++ [1] := by
    have := trim_ext hG0
    rw [this]
    exact trim_snoc (by decide +kernel) G0
  refine ⟨by rw [e3, e4], fun x => ?_⟩
  rw [e4, ← hGf, o1]; grind
end LK
end
/-! ## R12 -/
section
set_option Elab.async false
set_option linter.all false
set_option maxRecDepth 200000
set_option maxHeartbeats 8000000
set_option exponentiation.threshold 300
namespace LK
open PySem PV RP
/-! the law's polynomials: sizes, each root once, roots counted -/
theorem fl_sz {c : Rat} {Q : List Rat} {B : Nat} (h0 : ∀ r ∈ mulP [c] Q, Bd 1 B r) : ∀ rs : List Rat, (∀ r ∈ rs, ∃ h : Int, r = (h : Rat) / 2 ∧ h.natAbs ≤ 8) → ∀ r ∈ fl c Q rs, Bd (2 ^ rs.length) (B * 10 ^ rs.length) r
  | [], _ => fun r hr => by
    have := h0 r hr
    simpa using this
  | e :: rs, he => fun r hr => by
    have ih := fl_sz h0 rs fun r hr => he r (List.mem_cons_of_mem _ hr)
    obtain ⟨h, hh, hb⟩ := he e (List.mem_cons_self ..)
    have hr : r ∈ addP (scP (-e) (fl c Q rs)) (0 :: mulP [1] (fl c Q rs)) := hr
    have e1 : mulP [1] (fl c Q rs) = addP (fl c Q rs) [0] := by
      show addP (scP 1 (fl c Q rs)) (0 :: []) = _
      congr 1
      unfold scP
      have : ((1 : Rat) * ·) = id := by funext y; show 1 * y = y; grind
      rw [this, List.map_id]
    rw [e1] at hr
    have b1 : ∀ s ∈ scP (-e) (fl c Q rs), Bd (2 ^ rs.length * 2) (B * 10 ^ rs.length * 8) s := fun s hs => by
      obtain ⟨a, ha, rfl⟩ := List.mem_map.mp hs
      have hb' : Bd 2 8 (-e) := ⟨-h, by rw [hh, Rat.intCast_neg]; have : ((2 : Nat) : Rat) = 2 := rfl
                                        rw [this]; grind, by rw [Int.natAbs_neg]; exact hb, by decide⟩
      have := (ih a ha).mul hb'
      rw [Rat.mul_comm] at this
      exact this
    have b2 : ∀ s ∈ (0 : Rat) :: addP (fl c Q rs) [0], Bd (2 ^ rs.length * 2) (B * 10 ^ rs.length * 2) s := fun s hs => by
      rcases List.mem_cons.mp hs with rfl | hs
      · exact (Bd.zero (Nat.mul_pos (Nat.pow_pos (by decide)) (by decide))).mono (Nat.zero_le _)
      · have h1 := add_bd (p := fl c Q rs) (q := [0]) (D := 2 ^ rs.length) (B := B * 10 ^ rs.length) (C := 0) ih (fun r hr => by rw [List.mem_singleton.mp hr]; exact Bd.zero (Nat.pow_pos (by decide))) s hs
        exact h1.up (by decide)
    have := add_bd b1 b2 r hr
    have e2 : 2 ^ (e :: rs).length = 2 ^ rs.length * 2 := by rw [List.length_cons, Nat.pow_succ]
    have e3 : B * 10 ^ (e :: rs).length = B * 10 ^ rs.length * 8 + B * 10 ^ rs.length * 2 := by rw [List.length_cons, Nat.pow_succ, ← Nat.mul_assoc]; omega
    rw [e2, e3]
    exact this
theorem fl_len {c : Rat} {Q : List Rat} : ∀ rs : List Rat, (fl c Q rs).length ≤ (mulP [c] Q).length + rs.length * 2
  | [] => by show (mulP [c] Q).length ≤ _; omega
  | e :: rs => by
    have := fl_len (c := c) (Q := Q) rs
    show (addP (scP (-e) (fl c Q rs)) (0 :: mulP [1] (fl c Q rs))).length ≤ _
    rw [add_len]
    have h2 : (mulP [1] (fl c Q rs)).length ≤ (fl c Q rs).length + 1 := by
      show (addP (scP 1 (fl c Q rs)) (0 :: [])).length ≤ _
      rw [add_len]; simp only [scP, List.length_map, List.length_cons, List.length_nil]; omega
    simp only [scP, List.length_map, List.length_cons]
    omega
/-- trimmed: as many parts as its power has, and one -/
theorem fl_last {c : Rat} {Q0 : List Rat} (c0 : c ≠ 0) : ∀ rs : List Rat, ∃ G0 : List Rat, G0.length = Q0.length + rs.length ∧ ∀ x, ev (fl c (Q0 ++ [1]) rs) x = ev (G0 ++ [c]) x
  | [] => ⟨scP c Q0, by simp [scP], fun x => by
    show ev (mulP [c] (Q0 ++ [1])) x = _
    rw [ev_mul, ev_c, ev_app, ev_app, ev_sc, ev_one, ev_c]
    simp only [scP, List.length_map]
    grind⟩
  | e :: rs => by
    obtain ⟨G0, hl, h⟩ := fl_last (Q0 := Q0) c0 rs
    have hl2 : (addP (0 :: G0) (scP (-e) (G0 ++ [c]))).length = G0.length + 1 := by
      rw [add_len]; simp only [scP, List.length_map, List.length_cons, List.length_append, List.length_nil]; omega
    refine ⟨addP (0 :: G0) (scP (-e) (G0 ++ [c])), by rw [hl2, List.length_cons]; omega, fun x => ?_⟩
    show ev (mulP (lin e) (fl c (Q0 ++ [1]) rs)) x = _
    rw [ev_mul, ev_lin, h, ev_app, ev_app, ev_add, ev_sc, ev_app, hl2, ev_c, Rat.pow_succ]
    show _ = (0 + x * ev G0 x) + _ + _
    grind
theorem fl_tr_len {c : Rat} {Q0 : List Rat} (c0 : c ≠ 0) (rs : List Rat) : (trim (fl c (Q0 ++ [1]) rs)).length = Q0.length + rs.length + 1 := by
  obtain ⟨G0, hl, h⟩ := fl_last (Q0 := Q0) c0 rs
  rw [trim_ext h, trim_snoc c0, List.length_append, hl]; rfl
/-- the law's ways: a lead, a part without roots -/
structure Kd (c : Rat) (Q0 : List Rat) : Prop where
  base : Base c (Q0 ++ [1])
  bd : ∀ r ∈ mulP [c] (Q0 ++ [1]), Bd 1 6 r
  len : Q0.length ≤ 2
abbrev Hf (rs : List Rat) : Prop := ∀ r ∈ rs, ∃ h : Int, r = (h : Rat) / 2 ∧ h.natAbs ≤ 8
abbrev one6 (c : Rat) (Q0 rs : List Rat) : List Rat := trim (fl c (Q0 ++ [1]) rs)
section
variable {c : Rat} {Q0 : List Rat} (K : Kd c Q0)
include K
theorem one_sz {rs : List Rat} (hf : Hf rs) (hl : rs.length ≤ 4) : Sz 4 16 (one6 c Q0 rs) ∧ Sz 4 19 (dP (one6 c Q0 rs)) := by
  have h := fl_sz K.bd rs hf
  have e1 : 2 ^ rs.length ≤ 2 ^ 4 := Nat.pow_le_pow_right (by decide) hl
  have e2 : 10 ^ rs.length ≤ 10 ^ 4 := Nat.pow_le_pow_right (by decide) hl
  have h1 : ∀ r ∈ one6 c Q0 rs, Bd (2 ^ rs.length) (6 * 10 ^ rs.length) r := fun r hr => h r (trim_mem hr)
  have hln : (one6 c Q0 rs).length ≤ 7 := by rw [fl_tr_len K.base.c0]; have := K.len; omega
  refine ⟨⟨2 ^ rs.length, Nat.pow_pos (by decide), e1, fun r hr => (h1 r hr).mono ?_⟩, 2 ^ rs.length, Nat.pow_pos (by decide), e1, fun r hr => ?_⟩
  · have : 6 * 10 ^ 4 ≤ 2 ^ 16 := by decide
    omega
  · obtain ⟨k, hk, rfl⟩ := List.mem_map.mp (trim_mem hr)
    have hk := List.mem_range.mp hk
    have hg := getD_of (l := one6 c Q0 rs) (k := 1 + k) (by omega)
    have := (h1 _ (List.mem_of_getElem? hg)).mul (Bd.int (k := 1 + (k : Int)) (B := 6) (by omega))
    rw [Nat.mul_one] at this
    refine this.mono ?_
    have : 6 * 10 ^ 4 * 6 ≤ 2 ^ 19 := by decide
    omega
theorem one_fit {rs : List Rat} (hf : Hf rs) (hl : rs.length ≤ 4) : Fit (one6 c Q0 rs) ∧ FiL (slP (one6 c Q0 rs)) := by
  have h := (one_sz K hf hl).1
  have hln : (one6 c Q0 rs).length ≤ 7 := by rw [fl_tr_len K.base.c0]; have := K.len; omega
  refine ⟨⟨4, 16, h, by omega⟩, fun r hr => ?_⟩
  obtain ⟨k, hk, rfl⟩ := List.mem_map.mp hr
  have hk := List.mem_range.mp hk
  have hg := getD_of (l := one6 c Q0 rs) (k := 1 + k) (by omega)
  obtain ⟨D, h0, h1, h2⟩ := h
  have := (h2 _ (List.mem_of_getElem? hg)).mul (Bd.int (k := 1 + (k : Int)) (B := 6) (by omega))
  have e1 : 2 ^ 16 * 6 < 2 ^ 4400 := Nat.lt_of_lt_of_le (show 2 ^ 16 * 6 < 2 ^ 20 by decide) (Nat.pow_le_pow_right (by decide) (by decide))
  have e2 : D * 1 < 2 ^ 4400 := by
    have : 2 ^ 4 < 2 ^ 4400 := Nat.pow_lt_pow_right (by decide) (by decide)
    omega
  exact this.fi e2 e1
theorem one_ne (rs : List Rat) : one6 c Q0 rs ≠ [] := fun e => by
  have := fl_tr_len (Q0 := Q0) K.base.c0 rs
  rw [show trim (fl c (Q0 ++ [1]) rs) = [] from e] at this
  simp at this
theorem bud_ok : ∀ m ≤ 7, bud 7 m (m - 1) 4 16 4 19 = true := by decide +kernel
theorem dP_len {rs : List Rat} : (dP (one6 c Q0 rs)).length ≤ (one6 c Q0 rs).length - 1 := by
  have := trim_len (slP (one6 c Q0 rs))
  unfold slP at this
  rw [List.length_map, List.length_range] at this
  exact this
theorem dP_len2 (rs : List Rat) (hl : rs.length ≤ 4) : (dP (one6 c Q0 rs)).length = (one6 c Q0 rs).length - 1 := by
  obtain ⟨G0, hl0, h⟩ := fl_last (Q0 := Q0) K.base.c0 rs
  have e : one6 c Q0 rs = G0 ++ [c] := by
    show trim _ = _
    rw [trim_ext h, trim_snoc K.base.c0]
  rw [e]
  cases hG : G0.length with
  | zero =>
    have : G0 = [] := List.length_eq_zero_iff.mp hG
    subst this
    rfl
  | succ k =>
    have hs : slP (G0 ++ [c]) = ((List.range k).map fun j => (G0 ++ [c]).getD (1 + j) 0 * (((1 + (j : Int) : Int)) : Rat)) ++ [c * (((1 + (k : Int) : Int)) : Rat)] := by
      unfold slP
      rw [List.length_append, hG, show k + 1 + [c].length - 1 = k + 1 by simp, List.range_succ, List.map_append]
      congr 1
      show [(G0 ++ [c]).getD (1 + k) 0 * _] = _
      rw [List.getD_eq_getElem?_getD, List.getElem?_append_right (by omega), show 1 + k - G0.length = 0 by omega]
      rfl
    have hc : c * (((1 + (k : Int) : Int)) : Rat) ≠ 0 := fun h => by
      rcases Rat.mul_eq_zero.mp h with h | h
      · exact K.base.c0 h
      · have := Rat.intCast_eq_zero_iff.mp h; omega
    show (trim (slP (G0 ++ [c]))).length = _
    rw [hs, trim_snoc hc, List.length_append, List.length_map, List.length_range, List.length_append, hG]
    simp
theorem eu_one (s : Bool) {rs : List Rat} (hf : Hf rs) (hl : rs.length ≤ 4) : ∃ L, Eu s (one6 c Q0 rs) (dP (one6 c Q0 rs)) L := by
  have hln : (one6 c Q0 rs).length ≤ 7 := by rw [fl_tr_len K.base.c0]; have := K.len; omega
  have h0 := List.length_pos_iff.mpr (one_ne K rs)
  obtain ⟨h1, h2⟩ := one_sz K hf hl
  exact eu_is s 7 (one6 c Q0 rs).length ((one6 c Q0 rs).length - 1) 4 16 4 19 _ _ (bud_ok K _ hln) (by omega) (Nat.le_refl _) (by omega) (dP_len2 K rs hl) (by omega) (trim_trim _) h1 h2
end
end LK
end
/-! ## R13 -/
section
set_option Elab.async false
set_option linter.all false
set_option maxRecDepth 200000
set_option maxHeartbeats 8000000
set_option exponentiation.threshold 300
namespace LK
open PySem PV RP
/-! roots counted by the program -/
theorem ten_le {k : Nat} (h : k ≤ 4) : 10 ^ k ≤ 2 ^ 14 := Nat.le_trans (Nat.pow_le_pow_right (by decide) h) (by decide)
theorem gh_sz {ms : List Rat} (hf : Hf ms) (hl : ms.length ≤ 4) : Sz 4 14 (trim (fl 1 [1] ms)) := by
  have h := fl_sz (c := 1) (Q := [1]) (B := 1) (fun r hr => by
    have hr : r ∈ addP (scP 1 [1]) [0] := hr
    rcases List.mem_cons.mp hr with rfl | hr
    · exact ⟨1, by decide +kernel, by decide, by decide⟩
    · cases hr) ms hf
  refine ⟨2 ^ ms.length, Nat.pow_pos (by decide), Nat.pow_le_pow_right (by decide) hl, fun r hr => (h r (trim_mem hr)).mono ?_⟩
  rw [Nat.one_mul]
  exact ten_le hl
theorem cal_less (n : Nat) (G : Gs) {a b : Rat} (ha : Fi a) (hb : Fi b) : (Sa (n + 1)).cal 6 [pt a, pt b] G = .ok (.bl (decide (a < b))) G := by
  have e : (Sa (n + 1)).cal 6 [pt a, pt b] G = _ := run_e (Sa n) m_is_less rfl (ρ := [some (pt a), some (pt b)]) rfl rfl
    (x_cmp (x_bin (x_ix x_v x_c (ix0 _ a)) (x_ix x_v x_c (ix1 _ b)) (bm _ _ (ok_nd ha hb))) (x_bin (x_ix x_v x_c (ix0 _ b)) (x_ix x_v x_c (ix1 _ a)) (bm _ _ (ok_nd hb ha))) (clt _ _))
  rw [e, gc_self]
  congr 2
  rw [decide_eq_decide]
  exact (Rat.lt_iff a b).symm
/-- a polynomial of the law, all that the program makes of it -/
structure Pk (one es F : List Rat) (L : List (List Rat)) (c : Rat) (Q rs : List Rat) : Prop where
  c0 : c ≠ 0
  pos : ∀ x, 0 < ev Q x
  hone : ∀ x, ev one x = c * pr rs x * ev Q x
  hF : ∀ x, ev F x = c * pr es x * ev Q x
  mem : ∀ e, e ∈ es ↔ e ∈ rs
  tr : Tr one
  ne : one ≠ []
  fit : Fit one
  sz : Sz 4 16 one
  len : one.length ≤ 7
  lenF : F.length + rs.length = one.length + es.length
  trF : Tr F
  neF : F ≠ []
  fitF : Fit F
  plain : ∀ (n : Nat) (G : Gs), Cl G → (Sa (n + 9)).cal 22 [cv one] G = .ok (cv F) G
  rests : ∀ (n : Nat) (G : Gs), Cl G → (Sa (n + 7)).cal 20 [cv F] G = .ok (rv L) G
  st : StD F L es
  fl : ∀ p ∈ L, Fit p
  ll : L.length ≤ 8
  Lh : ∃ L', L = F :: L'
  hes : Hf es
theorem Rem.same {a b w r F : List Rat} (R : Rem a b w r) (hb : b ≠ []) (tb : Tr b) (tF : Tr F) (h : ∀ x, ev a x = ev b x * ev F x) : w = F := by
  have hl := List.length_pos_iff.mpr hb
  have hs := getLast_getD b hl
  generalize hc : b.getD (b.length - 1) 0 = c at hs
  generalize b.dropLast = q0 at hs
  subst hs
  have c0 : c ≠ 0 := Tr.last tb (a := c) (by simp)
  have := R.len
  rw [List.length_append, List.length_singleton] at this
  exact tr_ext R.tw tF (div_one (q0 := q0) (r1 := r) (r2 := []) c0 (by omega) (by simp) fun x => by
    rw [← R.id x, h x]
    show _ = _ + (0 : Rat)
    grind).1
theorem pk_of {c : Rat} {Q0 rs : List Rat} (K : Kd c Q0) (hf : Hf rs) (hl : rs.length ≤ 4) : ∃ es L, Pk (one6 c Q0 rs) es (one6 c Q0 es) L c (Q0 ++ [1]) rs := by
  obtain ⟨es, F, G, H, f⟩ := fac_of K.base rs
  obtain ⟨ms, m1, m2, m3⟩ := f.mon
  have hfe : Hf es := fun r hr => hf r ((f.mem r).mp hr)
  have hle : es.length ≤ 4 := Nat.le_trans f.len hl
  have hfm : Hf ms := fun r hr => hf r (m2 r hr)
  obtain ⟨L1, eu1⟩ := eu_one K true hf hl
  obtain ⟨L, eu⟩ := eu_one K false hfe hle
  obtain ⟨fo, so⟩ := one_fit K hf hl
  obtain ⟨fF, sF⟩ := one_fit K hfe hle
  have hln : ∀ {ts : List Rat}, ts.length ≤ 4 → (one6 c Q0 ts).length ≤ 7 := fun h => by rw [fl_tr_len K.base.c0]; have := K.len; omega
  have eF : ∀ x, ev (one6 c Q0 es) x = ev F x := fun x => by show ev (trim _) x = _; rw [ev_trim, ev_fl, f.hF]
  have eo : ∀ x, ev (one6 c Q0 rs) x = ev (LK.fl c (Q0 ++ [1]) rs) x := fun x => by show ev (trim _) x = _; rw [ev_trim]
  have hdl := dP_len2 K rs hl
  have hdF := dP_len2 K es hle
  have gh0 : trim (LK.fl 1 [1] ms) ≠ [] := fun e => by
    have := fl_tr_len (Q0 := []) (c := 1) (by decide +kernel) ms
    rw [show trim (LK.fl 1 ([] ++ [1]) ms) = [] from e] at this
    simp at this
  have ghl : (trim (LK.fl 1 [1] ms)).length = ms.length + 1 := by
    have := fl_tr_len (Q0 := []) (c := 1) (by decide +kernel) ms
    simpa using this
  have hlo : (one6 c Q0 rs).length = Q0.length + rs.length + 1 := fl_tr_len K.base.c0 rs
  have hleF : (one6 c Q0 es).length = Q0.length + es.length + 1 := fl_tr_len K.base.c0 es
  have eLl := eu.len
  have plain : ∀ (n : Nat) (G : Gs), Cl G → (Sa (n + 9)).cal 22 [cv (one6 c Q0 rs)] G = .ok (cv (one6 c Q0 es)) G := by
    intro n G hG
    have es1 := cal_slope (n + 2) G (p := one6 c Q0 rs) fo.fi so (by have := hln hl; omega)
    obtain ⟨g, cg, hg, c0, hgc, ecs⟩ := cal_shared_curve (n + 1) hG eu1 (one_ne K rs) (trim_trim _) (trim_trim _) fo (by have := hln hl; omega) (by have := hln hl; omega)
    have tg := eu1.trs (trim_trim _) (trim_trim _) g (List.mem_of_getLast? hg)
    obtain ⟨p1, p2⟩ := plain_of K.base f eo eu1 hg hgc c0 tg m3
    rw [p1] at ecs
    have szg := gh_sz hfm (by omega)
    obtain ⟨sz1, _⟩ := one_sz K hf hl
    have hrem : ∃ w r, Rem (one6 c Q0 rs) (trim (LK.fl 1 [1] ms)) w r := by
      obtain ⟨w, r, R, _⟩ := rem_step (T := 8) gh0 (trim_trim _) sz1 szg (by have := hln hl; omega) (by omega) (by have := hln hl; omega) (by omega) (by decide) (by decide) (by decide)
      exact ⟨w, r, R⟩
    obtain ⟨w, r, R⟩ := hrem
    have hw : w = one6 c Q0 es := R.same gh0 (trim_trim _) (trim_trim _) fun x => by rw [p2, eF]
    subst hw
    have hl0 := List.length_pos_iff.mpr (one_ne K rs)
    have b : evB (Sa (n + 8)) m_plain.body [some (cv (one6 c Q0 rs))] G = .ret (cv (one6 c Q0 es)) G :=
      b_next (s_if0 (x_cmp (x_prim (x_es x_v x_es0) (len_cv _)) x_c (by rw [ceq, eqD_int, decide_eq_false (by omega)]))) (b_ret (s_ret (x_ix (x_call (x_es x_v (x_es (x_call (x_es x_v (x_es (x_call (x_es x_v x_es0) (cal_slope (n + 3) G fo.fi so (by have := hln hl; omega))) x_es0)) ecs) x_es0)) (R.cal (n + 2) G hG)) x_c rfl)))
    exact ((cal_at (n + 8) 22 (by decide) rfl _ G).trans (run_d m_plain (args := [cv (one6 c Q0 rs)]) (S := Sa (n + 8)) (ρ := [some (cv (one6 c Q0 rs))]) (G := G) rfl rfl b)).trans gc_self
  refine ⟨es, L, ⟨K.base.c0, K.base.pos, fun x => by rw [eo, ev_fl], fun x => by rw [eF, f.hF], f.mem, trim_trim _, one_ne K rs, fo, (one_sz K hf hl).1, hln hl, by omega, trim_trim _, one_ne K es, fF, plain, fun n G hG => ?_, std_of K.base f.nd (fun x => by rw [eF, f.hF]) eu, eu.last_fit fF, by have := hln hle; omega, eu.head, hfe⟩⟩
  exact cal_rests n hG eu (one_ne K es) fF sF (by have := hln hle; omega)
section
variable {one es F Q rs : List Rat} {L : List (List Rat)} {c : Rat} (P : Pk one es F L c Q rs)
include P
theorem cal_hm (n : Nat) {G : Gs} (hG : Cl G) {lo hi : Rat} (gl : Gp lo) (gh : Gp hi) (h : lo ≤ hi) : (Sa (n + 10)).cal 23 [cv one, pt lo, pt hi] G = .ok (.int ((Nr es lo hi : Nat) : Int)) G := by
  have hst := sturm P.st h
  have h1 := cal_changes (n + 3) G P.fl gl (by have := P.ll; omega)
  have h2 := cal_changes (n + 3) G P.fl gh (by have := P.ll; omega)
  have b : evB (Sa (n + 9)) m_how_many.body [some (cv one), some (pt lo), some (pt hi), none] G = .ret (.int ((Nr es lo hi : Nat) : Int)) G := by
    refine b_next (s_if0 (x_call (x_es x_v (x_es x_v x_es0)) ((cal_less (n + 8) G gh.fi gl.fi).trans (by rw [decide_eq_false (by grind)])))) (b_next (s_set (x_call (x_es (x_call (x_es x_v x_es0) (P.plain n G hG)) x_es0) (P.rests (n + 2) G hG))) (b_ret (s_ret (x_bin (x_call (x_es x_v (x_es x_v x_es0)) h1) (x_call (x_es x_v (x_es x_v x_es0)) h2) ?_))))
    rw [bs]
    congr 2
    omega
  exact ((cal_at (n + 9) 23 (by decide) rfl _ G).trans (run_d m_how_many (args := [cv one, pt lo, pt hi]) (S := Sa (n + 9)) (ρ := [some (cv one), some (pt lo), some (pt hi), none]) (G := G) rfl rfl b)).trans gc_self
end
end LK
end
/-! ## R14 -/
section
set_option Elab.async false
set_option linter.all false
set_option maxRecDepth 200000
set_option maxHeartbeats 8000000
set_option exponentiation.threshold 300
namespace LK
open PySem PV RP
/-! halves, sizes, the greatest, bounds -/
/-- parts of 2 ^ e, none past 2 ^ 16 -/
def Gd (e : Nat) (x : Rat) : Prop := Bd (2 ^ e) (2 ^ (e + 16)) x
theorem Gd.mono {e f : Nat} {x : Rat} (h : Gd e x) (hf : e ≤ f) : Gd f x := by
  have := Bd.up (E := 2 ^ (f - e)) h (Nat.pow_pos (by decide))
  rw [← Nat.pow_add, ← Nat.pow_add, show e + (f - e) = f by omega, show e + 16 + (f - e) = f + 16 by omega] at this
  exact this
theorem Gd.gp {e : Nat} {x : Rat} (h : Gd e x) (he : e ≤ 90) : Gp x := by
  refine ⟨2 ^ e, 2 ^ (e + 16), h, ?_⟩
  have h1 : 2 ^ e ≤ 2 ^ 90 := Nat.pow_le_pow_right (by decide) he
  have h2 : 2 ^ (e + 16) ≤ 2 ^ 106 := Nat.pow_le_pow_right (by decide) (by omega)
  have h3 : 2 ^ 90 + 2 ^ 106 + 1 ≤ 2 ^ 120 := by decide
  omega
theorem Gd.mid {e : Nat} {x y : Rat} (hx : Gd e x) (hy : Gd e y) : Gd (e + 1) ((x + y) / 2) := by
  have h := Bd.add hx hy
  have h2 : Bd 2 1 (1 / 2 : Rat) := ⟨1, by decide +kernel, by decide, by decide⟩
  have h3 := h.mul h2
  have e1 : (x + y) * (1 / 2) = (x + y) / 2 := by grind
  rw [e1] at h3
  have e2 : 2 ^ e * 2 = 2 ^ (e + 1) := (Nat.pow_succ ..).symm
  have e3 : (2 ^ (e + 16) + 2 ^ (e + 16)) * 1 = 2 ^ (e + 1 + 16) := by
    have := Nat.pow_succ 2 (e + 16)
    rw [show e + 1 + 16 = (e + 16) + 1 by omega]; omega
  rw [e2, e3] at h3
  exact h3
theorem Gd.neg {e : Nat} {x : Rat} (h : Gd e x) : Gd e (-x) := Bd.neg h
theorem fi2 : Fi 2 := fi_small (k := 2) (by decide)
theorem fi_add {a b : Rat} {D B C : Nat} (h1 : Bd D B a) (h2 : Bd D C b) (hD : D < 2 ^ 4400) (hB : B + C < 2 ^ 4400) : Fi (a + b) := (h1.add h2).fi hD hB
theorem cal_half (n : Nat) (G : Gs) {e : Nat} {a b : Rat} (ha : Gd e a) (hb : Gd e b) (he : e ≤ 80) : (Sa (n + 4)).cal 9 [pt a, pt b] G = .ok (pt ((a + b) / 2)) G := by
  have fa := (ha.gp (by omega)).fi
  have fb := (hb.gp (by omega)).fi
  have e1 : 2 ^ e < 2 ^ 4400 := Nat.pow_lt_pow_right (by decide) (by omega)
  have e2 : 2 ^ (e + 16) + 2 ^ (e + 16) < 2 ^ 4400 := by
    have : 2 ^ (e + 16) + 2 ^ (e + 16) = 2 ^ (e + 17) := by
      have := Nat.pow_succ 2 (e + 16)
      rw [show e + 17 = (e + 16) + 1 by omega]; omega
    rw [this]; exact Nat.pow_lt_pow_right (by decide) (by omega)
  have fs := fi_add ha hb e1 e2
  have e3 : (Sa (n + 4)).cal 9 [pt a, pt b] G = _ := run_e (Sa (n + 3)) m_halfway rfl (ρ := [some (pt a), some (pt b)]) rfl rfl
    (x_call (x_es (x_call (x_es x_v (x_es x_v x_es0)) (cal_plus n G fa fb)) (x_es (x_tup (x_es x_c (x_es x_c x_es0))) x_es0)) (cal_over n G (b := 2) fs fi2 (by decide +kernel) (.inl (by decide +kernel))))
  rw [e3, gc_self]
theorem num_ab (r : Rat) : (ab r).num = (if r.num < 0 then -r.num else r.num) ∧ (ab r).den = r.den := by
  have hz : r < 0 ↔ r.num < 0 := by
    rw [Rat.lt_iff]
    show _ * ((1 : Nat) : Int) < 0 * _ ↔ _
    omega
  unfold ab
  by_cases h : r < 0
  · rw [if_pos h, if_pos (hz.mp h)]
    exact ⟨rfl, rfl⟩
  · rw [if_neg h, if_neg (fun e => h (hz.mpr e))]
    exact ⟨rfl, rfl⟩
theorem cal_size (n : Nat) (G : Gs) (a : Rat) : (Sa (n + 1)).cal 7 [pt a] G = .ok (pt (ab a)) G := by
  have e : (Sa (n + 1)).cal 7 [pt a] G = _ := run_e (Sa n) m_size_of rfl (args := [pt a]) (G := G) (ρ := [some (pt a)]) rfl rfl (x_tup (x_es (x_prim (x_es (x_ix x_v x_c (ix0 _ a)) x_es0) rfl) (x_es (x_ix x_v x_c (ix1 _ a)) x_es0)))
  rw [e, gc_self]
  obtain ⟨h1, h2⟩ := num_ab a
  show _ = R.ok (D.tup [.int (ab a).num, .int (((ab a).den : Nat) : Int)]) G
  rw [h1, h2]
def grt (l : List Rat) : Rat := l.foldl (fun m x => if m < x then x else m) 0
theorem grt_snoc (l : List Rat) (x : Rat) : grt (l ++ [x]) = if grt l < x then x else grt l := by unfold grt; rw [List.foldl_append]; rfl
theorem grt_mem (l : List Rat) : grt l = 0 ∨ grt l ∈ l := by
  have : ∀ (l : List Rat) (m : Rat), l.foldl (fun m x => if m < x then x else m) m = m ∨ l.foldl (fun m x => if m < x then x else m) m ∈ l := by
    intro l
    induction l with
    | nil => intro m; exact .inl rfl
    | cons a l ih =>
      intro m
      show l.foldl _ (if m < a then a else m) = m ∨ l.foldl _ (if m < a then a else m) ∈ a :: l
      by_cases h : m < a
      · rw [if_pos h]
        rcases ih a with e | e
        · exact .inr (by rw [e]; exact List.mem_cons_self ..)
        · exact .inr (List.mem_cons_of_mem _ e)
      · rw [if_neg h]
        rcases ih m with e | e
        · exact .inl e
        · exact .inr (List.mem_cons_of_mem _ e)
  exact this l 0
theorem grt_ge (l : List Rat) : 0 ≤ grt l ∧ ∀ x ∈ l, x ≤ grt l := by
  have : ∀ (l : List Rat) (m : Rat), m ≤ l.foldl (fun m x => if m < x then x else m) m ∧ ∀ x ∈ l, x ≤ l.foldl (fun m x => if m < x then x else m) m := by
    intro l
    induction l with
    | nil => intro m; exact ⟨Rat.le_refl, fun x hx => nomatch hx⟩
    | cons a l ih =>
      intro m
      show m ≤ l.foldl _ (if m < a then a else m) ∧ ∀ x ∈ a :: l, x ≤ l.foldl _ (if m < a then a else m)
      by_cases h : m < a
      · rw [if_pos h]
        have := ih a
        refine ⟨by grind, fun x hx => ?_⟩
        rcases List.mem_cons.mp hx with rfl | hx
        · exact this.1
        · exact this.2 x hx
      · rw [if_neg h]
        have := ih m
        refine ⟨this.1, fun x hx => ?_⟩
        rcases List.mem_cons.mp hx with rfl | hx
        · grind
        · exact this.2 x hx
  exact this l 0
theorem cal_greatest (n : Nat) (G : Gs) {l : List Rat} (hf : FiL l) : (Sa (n + 2)).cal 10 [lv l] G = .ok (pt (grt l)) G := by
  have fg : ∀ u v, l = u ++ v → Fi (grt u) := fun u v h => by
    rcases grt_mem u with e | e
    · rw [e]; exact fi0
    · exact hf _ (by rw [h]; exact List.mem_append_left _ e)
  obtain ⟨ρ', G', e, rfl, z, rfl⟩ := forL_inv (fun d ρ1 G2 => match PV.assign ρ1 (.nm 2) d with | some ρ2 => evB (Sa (n + 1)) [.ite (.call 6 [.var 1, .var 2]) [.set (.nm 1) (.var 2)] []] ρ2 G2 | none => .bad) pt (fun s ρ G' => G = G' ∧ ∃ z, ρ = [some (lv l), some (pt (grt s)), z]) l [] [some (lv l), some (pt 0), none] G ⟨rfl, none, rfl⟩ fun s c t ρ G' hs' ⟨hG, z, hρ⟩ => by
    subst hG hρ
    have hs' : l = s ++ c :: t := hs'
    have fc : Fi c := hf c (by rw [hs']; simp)
    have fs := fg s (c :: t) hs'
    refine ⟨[some (lv l), some (pt (grt (s ++ [c]))), some (pt c)], G, ?_, rfl, _, rfl⟩
    rw [grt_snoc]
    have hc := cal_less n G fs fc
    show evB (Sa (n + 1)) _ [some (lv l), some (pt (grt s)), some (pt c)] G = _
    by_cases h : grt s < c
    · rw [decide_eq_true h] at hc
      rw [if_pos h]
      exact b_next (s_itet (x_call (x_es x_v (x_es x_v x_es0)) hc) (b_next (s_set x_v) rfl)) rfl
    · rw [decide_eq_false h] at hc
      rw [if_neg h]
      exact b_next (s_if0 (x_call (x_es x_v (x_es x_v x_es0)) hc)) rfl
  rw [List.nil_append] at e
  have b : evB (Sa (n + 1)) m_greatest.body [some (lv l), none, none] G = .ret (pt (grt l)) G := b_next (s_set (x_tup (x_es x_c (x_es x_c x_es0)))) (b_next (s_for (i_seq x_v rfl) e) (b_ret (s_ret x_v)))
  exact ((cal_at (n + 1) 10 (by decide) rfl _ G).trans (run_d m_greatest (args := [lv l]) (S := Sa (n + 1)) (ρ := [some (lv l), none, none]) (G := G) rfl rfl b)).trans gc_self
theorem bd_den {D B : Nat} {r : Rat} (h : Bd D B r) : r.den ≤ D := by
  obtain ⟨k, rfl, hk, hD⟩ := h
  have hl : (D : Int) ≠ 0 := by omega
  have e : ((k : Rat) / (D : Rat)) = (k : Rat) / ((D : Int) : Rat) := by rw [Rat.intCast_natCast]
  obtain ⟨e1, e2⟩ := rat_of hl (pq_pos (t := k) hl) (pq_cop hl) (pq_cross k D)
  have a2 := natAbs_le_of_mul (pq2 k D) (gOf_ne hl)
  rw [e]
  have p := pq_pos (t := k) hl
  have : ((k : Rat) / ((D : Int) : Rat)).den = (pq k D).2.natAbs := by omega
  rw [this]; omega
end LK
end
/-! ## R15 -/
section
set_option Elab.async false
set_option linter.all false
set_option maxRecDepth 200000
set_option maxHeartbeats 8000000
set_option exponentiation.threshold 300
namespace LK
open PySem PV RP
/-! the bound of all roots -/
theorem cut_last {l : List D} {a : D} : cutD (l ++ [a]) none (some (-1)) = l := by
  have h1 : HT.sIx (l ++ [a]).length 0 none = 0 := rfl
  have h2 : HT.sIx (l ++ [a]).length (l ++ [a]).length (some (-1)) = l.length := by
    simp [HT.sIx]; omega
  unfold cutD
  rw [h1, h2, List.drop_zero, Nat.sub_zero, List.take_left]
theorem sl_last {l : List Rat} {c : Rat} : slD (cv (l ++ [c])) none (some (-1)) = some (cv l) := by
  show some (D.tup (cutD ((l ++ [c]).map pt) none (some (-1)))) = _
  rw [List.map_append]
  show some (D.tup (cutD (l.map pt ++ [pt c]) none (some (-1)))) = _
  rw [cut_last]; rfl
theorem ab_pow (x : Rat) : ∀ n : Nat, ab (x ^ n) = ab x ^ n
  | 0 => by rw [Rat.pow_zero, Rat.pow_zero]; unfold ab; rw [if_neg (by decide +kernel)]
  | n + 1 => by rw [Rat.pow_succ, Rat.pow_succ, ab_mul, ab_pow x n]
theorem cauchy_ {B c x : Rat} (hB : 0 ≤ B) (h1 : 1 + B ≤ ab x) : ∀ l : List Rat, (∀ a ∈ l, ab a ≤ ab c * B) → ab (ev l x) ≤ ab c * (ab x ^ l.length - 1)
  | [], _ => by
    show ab 0 ≤ ab c * (ab x ^ 0 - 1)
    rw [Rat.pow_zero]
    have : ab (0 : Rat) = 0 := by unfold ab; rw [if_neg (by decide +kernel)]
    rw [this]; grind
  | a :: l, h => by
    have ih := cauchy_ hB h1 l fun b hb => h b (List.mem_cons_of_mem _ hb)
    have ha := h a (List.mem_cons_self ..)
    have hx := ab_nn x
    have hc := ab_nn c
    show ab (a + x * ev l x) ≤ ab c * (ab x ^ (l.length + 1) - 1)
    refine Rat.le_trans (ab_add _ _) ?_
    rw [ab_mul, Rat.pow_succ]
    have m1 := Rat.mul_le_mul_of_nonneg_left ih hx
    have m2 := Rat.mul_le_mul_of_nonneg_left h1 hc
    generalize ab x ^ l.length = P at m1 ⊢
    generalize ab x = X at m1 m2 hx ⊢
    generalize ab c = C at m1 m2 ha hc ⊢
    generalize ab (ev l x) = Y at m1 ⊢
    have e1 : X * (C * (P - 1)) = C * (P * X) - C * X := by grind
    have e2 : C * (1 + B) = C + C * B := by grind
    have e3 : C * (P * X - 1) = C * (P * X) - C := by grind
    rw [e1] at m1
    rw [e2] at m2
    rw [e3]
    grind
theorem cauchy {B c x : Rat} {l : List Rat} (hc : c ≠ 0) (hB : 0 ≤ B) (h : ∀ a ∈ l, ab (a / c) ≤ B) (hx : ev (l ++ [c]) x = 0) : ab x < 1 + B := by
  refine Rat.not_le.mp fun h1 => ?_
  have hl : ∀ a ∈ l, ab a ≤ ab c * B := fun a ha => by
    have e : a = c * (a / c) := by rw [Rat.div_def, Rat.mul_comm a, ← Rat.mul_assoc, Rat.mul_inv_cancel _ hc, Rat.one_mul]
    have := Rat.mul_le_mul_of_nonneg_left (h a ha) (ab_nn c)
    rw [← ab_mul, ← e] at this
    exact this
  have h2 := cauchy_ hB h1 l hl
  rw [ev_app, ev_c] at hx
  have h3 : ab (ev l x) = ab c * ab x ^ l.length := by
    have : ev l x = -(x ^ l.length * c) := by grind
    rw [this, ab_neg, ab_mul, ab_pow, Rat.mul_comm]
  have h4 : 0 < ab c := by
    have := ab_nn c
    have : ab c ≠ 0 := fun e => hc (by unfold ab at e; split at e <;> grind)
    grind
  rw [h3] at h2
  have : ab c * (ab x ^ l.length - 1) = ab c * ab x ^ l.length - ab c := by grind
  grind
structure Bn (one es : List Rat) (M : Rat) : Prop where
  gd : Gd 5 M
  pos : 1 ≤ M
  top : M ≤ 8192
  cal : ∀ (n : Nat) (G : Gs), (Sa (n + 4)).cal 24 [cv one] G = .ok (pt M) G
  root : ∀ r ∈ es, ab r < M
theorem bd_ab {D B : Nat} {x : Rat} (h : Bd D B x) : Bd D B (ab x) := by
  unfold ab; split
  · exact h.neg
  · exact h
theorem bd_le {D B : Nat} {x : Rat} (h : Bd D B x) : ab x ≤ (B : Rat) / (D : Rat) := by
  obtain ⟨k, rfl, hk, hD⟩ := h
  have hd : (0 : Rat) < (D : Rat) := by exact_mod_cast hD
  have hi : (0 : Rat) ≤ (D : Rat)⁻¹ := Rat.le_of_lt (Rat.inv_pos.mpr hd)
  rw [Rat.div_def, Rat.div_def, ab_mul]
  have e : ab ((D : Rat)⁻¹) = (D : Rat)⁻¹ := by unfold ab; rw [if_neg (by grind)]
  rw [e]
  refine Rat.mul_le_mul_of_nonneg_right ?_ hi
  refine ab_le ?_ ?_
  · have : (k : Rat) ≤ ((B : Int) : Rat) := Rat.intCast_le_intCast.mpr (by omega)
    rwa [Rat.intCast_natCast] at this
  · have : ((-k : Int) : Rat) ≤ ((B : Int) : Rat) := Rat.intCast_le_intCast.mpr (by omega)
    rw [Rat.intCast_natCast, Rat.intCast_neg] at this
    exact this
theorem bn_of {l es : List Rat} {c : Rat} (hc : c = 2 ∨ c = -1) (h : ∀ r ∈ l ++ [c], Bd 16 (2 ^ 16) r) (hl : l.length < 900) (hr : ∀ r ∈ es, ev (l ++ [c]) r = 0) : ∃ M, Bn (l ++ [c]) es M := by
  have c0 : c ≠ 0 := by rcases hc with rfl | rfl <;> decide +kernel
  have hq : ∀ r ∈ l ++ [c], Bd 32 (2 ^ 17) (r / c) := fun r hr => by
    have h0 := h r hr
    rcases hc with rfl | rfl
    · have h2 : Bd 2 1 (1 / 2 : Rat) := ⟨1, by decide +kernel, by decide, by decide⟩
      have := h0.mul h2
      have e1 : r * (1 / 2) = r / 2 := by grind
      rw [e1] at this
      exact this.mono (by decide)
    · have := (h0.neg).up (E := 2) (by decide)
      have e1 : -r = r / (-1) := by grind
      rw [e1] at this
      exact this
  have fi : ∀ {x : Rat}, Bd 32 (2 ^ 17) x → Fi x := fun h => h.fi (by exact Nat.lt_of_lt_of_le (show 32 < 2 ^ 6 by decide) (Nat.pow_le_pow_right (by decide) (by decide))) (Nat.pow_lt_pow_right (by decide) (by decide))
  have fi2 : ∀ {x : Rat}, Bd 16 (2 ^ 16) x → Fi x := fun h => h.fi (by exact Nat.lt_of_lt_of_le (show 16 < 2 ^ 6 by decide) (Nat.pow_le_pow_right (by decide) (by decide))) (Nat.pow_lt_pow_right (by decide) (by decide))
  obtain ⟨qs, eqs⟩ : ∃ qs, qs = l.map fun a => ab (a / c) := ⟨_, rfl⟩
  have hqs : ∀ x ∈ qs, Bd 32 (2 ^ 17) x := fun x hx => by
    rw [eqs] at hx
    obtain ⟨a, ha, rfl⟩ := List.mem_map.mp hx
    exact bd_ab (hq a (List.mem_append_left _ ha))
  have hg : Bd 32 (2 ^ 17) (grt qs) := by
    rcases grt_mem qs with e | e
    · rw [e]; exact ⟨0, by decide +kernel, by decide, by decide⟩
    · exact hqs _ e
  have h1 : Bd 32 32 (1 : Rat) := ⟨32, by decide +kernel, by decide, by decide⟩
  have hM := hg.add h1
  have hge := grt_ge qs
  have fc : Fi c := fi2 (h c (by simp))
  have f1 : Fi (1 : Rat) := fi_small (k := 1) (by decide)
  refine ⟨grt qs + 1, hM.mono (by decide), by have := hge.1; grind, ?_, fun n G => ?_, fun r hr' => ?_⟩
  · have h3 := bd_le hM
    have h4 := (ab_ge (grt qs + 1)).1
    have h5 : (((2 ^ 17 + 32 : Nat) : Rat) / ((32 : Nat) : Rat)) ≤ 8192 := by decide +kernel
    exact Rat.le_trans h4 (Rat.le_trans h3 h5)
  · have hcomp : evE (Sa (n + 3)) [some (cv (l ++ [c])), none] (.comp [1] (.call 7 [.call 5 [.var 1, .ix (.var 0) (.neg (.con (.int 1)))]]) (.nm 1) (.seq (.sl (.var 0) none (some (.neg (.con (.int 1)))))) []) G = .ok (lv qs) G := by
      have := comp_map (S := Sa (n + 3)) (ρ := [some (cv (l ++ [c])), none]) (own := [1]) (el := .call 7 [.call 5 [.var 1, .ix (.var 0) (.neg (.con (.int 1)))]]) (tg := .nm 1) (it := .seq (.sl (.var 0) none (some (.neg (.con (.int 1)))))) (G := G) l pt (fun a => pt (ab (a / c))) (fun a => [some (cv (l ++ [c])), some (pt a)])
        (i_seq (x_sl x_v o_none (o_some (x_neg x_c)) sl_last) rfl) (fun _ _ => rfl) ?_ (by rw [szl]; omega)
      · rw [this, eqs]
        show R.ok (D.lst _) G = R.ok (D.lst ((l.map fun a => ab (a / c)).map pt)) G
        rw [List.map_map]; rfl
      · intro a ha
        have ha' : a ∈ l ++ [c] := List.mem_append_left _ ha
        have fa := fi2 (h a ha')
        have hd : a.den ≤ 16 := bd_den (h a ha')
        have hs : 0 < c.num ∨ (((a.den : Nat) : Int) * c.num).natAbs < 1073741824 := by
          rcases hc with rfl | rfl
          · exact .inl (by decide +kernel)
          · refine .inr ?_
            have : (-1 : Rat).num = -1 := by decide +kernel
            rw [this]; omega
        have e1 : evE (Sa (n + 3)) [some (cv (l ++ [c])), some (pt a)] (.call 5 [.var 1, .ix (.var 0) (.neg (.con (.int 1)))]) G = .ok (pt (a / c)) G := x_call (x_es x_v (x_es (x_ix x_v (x_neg x_c) ix_last) x_es0)) (cal_over n G fa fc c0 hs)
        exact x_call (x_es e1 x_es0) (cal_size (n + 2) G _)
    have hl0 : (l ++ [c]).length ≠ 0 := by simp
    have p1 : evE (Sa (n + 3)) [some (cv (l ++ [c])), none] (.tup [.con (.int 1), .con (.int 1)]) G = .ok (pt 1) G := x_tup (x_es x_c (x_es x_c x_es0))
    have eg := cal_greatest (n + 1) G (l := qs) fun x hx => fi (hqs x hx)
    have ep := cal_plus n G (fi hg) f1
    have b : evB (Sa (n + 3)) m_bound.body [some (cv (l ++ [c])), none] G = .ret (pt (grt qs + 1)) G :=
      b_next (s_if0 (x_cmp (x_prim (x_es x_v x_es0) (len_cv _)) x_c (by rw [ceq, eqD_int, decide_eq_false (by omega)]))) (b_ret (s_ret (x_call (x_es (x_call (x_es hcomp x_es0) eg) (x_es p1 x_es0)) ep)))
    exact ((cal_at (n + 3) 24 (by decide) rfl _ G).trans (run_d m_bound (args := [cv (l ++ [c])]) (S := Sa (n + 3)) (ρ := [some (cv (l ++ [c])), none]) (G := G) rfl rfl b)).trans gc_self
  · have := cauchy (B := grt qs) c0 hge.1 (fun a ha => hge.2 _ (by rw [eqs]; exact List.mem_map.mpr ⟨a, ha, rfl⟩)) (hr r hr')
    grind
section
variable {one es F Q rs : List Rat} {L : List (List Rat)} {c M : Rat} (P : Pk one es F L c Q rs) (B : Bn one es M)
include P B
theorem nr_all : Nr es (0 - M) M = es.length := by
  unfold Nr
  rw [List.countP_eq_length]
  intro r hr
  have h := B.root r hr
  have h1 := ab_ge r
  simp only [Bool.and_eq_true, decide_eq_true_eq]
  constructor <;> grind
theorem cal_lowM (n : Nat) (G : Gs) : (Sa (n + 3)).cal 3 [pt 0, pt M] G = .ok (pt (0 - M)) G := cal_minus n G fi0 (B.gd.gp (by decide)).fi
theorem gdl : Gd 5 (0 - M) := by
  have := B.gd.neg
  rwa [show -M = 0 - M by grind] at this
theorem cal_all_of (n : Nat) {G : Gs} (hG : Cl G) : (Sa (n + 11)).cal 25 [cv one] G = .ok (.int ((es.length : Nat) : Int)) G := by
  have hh := cal_hm P n hG ((gdl P B).gp (by decide)) (B.gd.gp (by decide)) (by have := B.pos; grind)
  rw [nr_all P B] at hh
  have p0 : evE (Sa (n + 10)) [some (cv one), some (pt M)] (.tup [.con (.int 0), .con (.int 1)]) G = .ok (pt 0) G := x_tup (x_es x_c (x_es x_c x_es0))
  have b : evB (Sa (n + 10)) m_all_of.body [some (cv one), none] G = .ret (.int ((es.length : Nat) : Int)) G :=
    b_next (s_set (x_call (x_es x_v x_es0) (B.cal (n + 6) G))) (b_ret (s_ret (x_call (x_es x_v (x_es (x_call (x_es p0 (x_es x_v x_es0)) (cal_lowM P B (n + 7) G)) (x_es x_v x_es0))) hh)))
  exact ((cal_at (n + 10) 25 (by decide) rfl _ G).trans (run_d m_all_of (args := [cv one]) (S := Sa (n + 10)) (ρ := [some (cv one), none]) (G := G) rfl rfl b)).trans gc_self
end
end LK
end
/-! ## R16 -/
section
set_option Elab.async false
set_option linter.all false
set_option maxRecDepth 200000
set_option maxHeartbeats 2000000
set_option exponentiation.threshold 300
namespace LK
open PySem PV RP
/-! split and apart -/
theorem pr_perm {l m : List Rat} (h : l.Perm m) (x : Rat) : pr l x = pr m x := by
  induction h with
  | nil => rfl
  | cons a _ ih => show (x - a) * _ = (x - a) * _; rw [ih]
  | swap a b l => show (x - b) * ((x - a) * _) = (x - a) * ((x - b) * _); grind
  | trans _ _ i1 i2 => rw [i1, i2]
theorem StD.perm {F : List Rat} {L : List (List Rat)} {es S : List Rat} (h : StD F L es) (p : es.Perm S) : StD F L S :=
  ⟨h.eu, h.cop, fun u v huv hn => h.sign u v huv fun r hr => hn r (p.mem_iff.mp hr), fun r hr => h.root r (p.mem_iff.mpr hr), p.nodup_iff.mp h.nd⟩
theorem Pk.perm {one es F Q rs S : List Rat} {L : List (List Rat)} {c : Rat} (P : Pk one es F L c Q rs) (p : es.Perm S) : Pk one S F L c Q rs :=
  { P with
    hF := fun x => by rw [P.hF, pr_perm p]
    mem := fun e => by rw [← p.mem_iff, P.mem]
    lenF := by rw [← p.length_eq]; exact P.lenF
    st := P.st.perm p
    hes := fun r hr => P.hes r (p.mem_iff.mpr hr) }
theorem nr_le1 {es : List Rat} (nd : es.Nodup) (hf : Hf es) {lo hi : Rat} (h : hi - lo ≤ 1 / 2) : Nr es lo hi ≤ 1 := by
  unfold Nr
  rw [List.countP_eq_length_filter]
  have n2 : (es.filter fun r => decide (lo < r) && decide (r ≤ hi)).Nodup := nd.filter _
  have hm : ∀ r ∈ es.filter (fun r => decide (lo < r) && decide (r ≤ hi)), r ∈ es ∧ lo < r ∧ r ≤ hi := fun r hr => by
    have := List.mem_filter.mp hr
    simpa only [Bool.and_eq_true, decide_eq_true_eq] using this
  generalize es.filter (fun r => decide (lo < r) && decide (r ≤ hi)) = l at n2 hm
  match l, n2, hm with
  | [], _, _ => exact Nat.zero_le _
  | [a], _, _ => exact Nat.le_refl _
  | a :: b :: l, n2, hm =>
    exfalso
    obtain ⟨ha, a1, a2⟩ := hm a (by simp)
    obtain ⟨hb, b1, b2⟩ := hm b (by simp)
    obtain ⟨i, hi1, _⟩ := hf a ha
    obtain ⟨j, hj1, _⟩ := hf b hb
    have hne : a ≠ b := by
      intro e; subst e; simp at n2
    have hij : i ≠ j := fun e => hne (by rw [hi1, hj1, e])
    rcases Int.lt_or_gt_of_ne hij with h1 | h1
    · have : ((i + 1 : Int) : Rat) ≤ (j : Rat) := Rat.intCast_le_intCast.mpr (by omega)
      rw [Rat.intCast_add] at this
      have e1 : ((1 : Int) : Rat) = 1 := rfl
      grind
    · have : ((j + 1 : Int) : Rat) ≤ (i : Rat) := Rat.intCast_le_intCast.mpr (by omega)
      rw [Rat.intCast_add] at this
      have e1 : ((1 : Int) : Rat) = 1 := rfl
      grind
def spl (es : List Rat) : Nat → Rat → Rat → List (Rat × Rat)
  | 0, lo, hi => if Nr es lo hi = 1 then [(lo, hi)] else []
  | d + 1, lo, hi => if Nr es lo hi = 1 then [(lo, hi)] else if 1 < Nr es lo hi then spl es d lo ((lo + hi) / 2) ++ spl es d ((lo + hi) / 2) hi else []
def pp (x : Rat × Rat) : D := .tup [pt x.1, pt x.2]
def wp (x : Nat × Rat × Rat) : D := .tup [pt x.2.1, pt x.2.2]
def hw (d : Nat) : Rat := ((2 ^ d : Nat) : Rat) / 2
theorem hw0 : hw 0 = 1 / 2 := by decide +kernel
theorem hw_succ (d : Nat) : hw (d + 1) = 2 * hw d := by
  unfold hw
  rw [Nat.pow_succ, Rat.natCast_mul]
  have : ((2 : Nat) : Rat) = 2 := rfl
  rw [this]; grind
structure Wk (w : Nat × Rat × Rat) : Prop where
  ex : ∃ e, e + w.1 ≤ 60 ∧ Gd e w.2.1 ∧ Gd e w.2.2
  le : w.2.1 ≤ w.2.2
  wd : w.2.2 - w.2.1 ≤ hw w.1
theorem Wk.left {d : Nat} {lo hi : Rat} (h : Wk (d + 1, lo, hi)) : Wk (d, lo, (lo + hi) / 2) := by
  obtain ⟨⟨e, h1, h2, h3⟩, h4, h5⟩ := h
  rw [hw_succ] at h5
  dsimp only at *
  exact ⟨⟨e + 1, by dsimp only; omega, h2.mono (by omega), h2.mid h3⟩, by dsimp only; grind, by dsimp only; grind⟩
theorem Wk.right {d : Nat} {lo hi : Rat} (h : Wk (d + 1, lo, hi)) : Wk (d, (lo + hi) / 2, hi) := by
  obtain ⟨⟨e, h1, h2, h3⟩, h4, h5⟩ := h
  rw [hw_succ] at h5
  dsimp only at *
  exact ⟨⟨e + 1, by dsimp only; omega, h2.mid h3, h3.mono (by omega)⟩, by dsimp only; grind, by dsimp only; grind⟩
def costW (W : List (Nat × Rat × Rat)) : Nat := (W.map fun w => 2 ^ (w.1 + 1) - 1).sum
theorem frees_mp {α : Type} {f : α → D} (h : ∀ x, free (f x) = true) : ∀ l : List α, frees (l.map f) = true
  | [] => rfl
  | a :: l => by show (free (f a) && frees (l.map f)) = true; rw [h, frees_mp h l]; rfl
theorem clz2 {G : Gs} (hG : Cl G) {a b : List D} (h1 : frees a = true) (h2 : frees b = true) : Cl (G ++ [some (C.lst a), some (C.lst b)]) := by
  unfold Cl at hG ⊢
  rw [List.all_append, hG]
  show (true && (frees a && (frees b && true))) = true
  rw [h1, h2]; rfl
theorem at_c2 {G : Gs} {x y : Option C} : (G ++ [x, y])[G.length + 1]? = some y := by simp
theorem set_c2 {G : Gs} {x y z : Option C} : (G ++ [x, y]).set (G.length + 1) z = G ++ [x, z] := by
  rw [List.set_append_right _ _ (by omega), show G.length + 1 - G.length = 1 by omega]; rfl
theorem len_c2 {G : Gs} {x : Option C} {l : List D} : prim (G ++ [x, some (.lst l)]) .len [.cell (G.length + 1)] = some (.int (l.length : Nat)) := by
  show (match (G ++ [x, some (C.lst l)])[G.length + 1]? with
    | some (some (.lst l)) => some (D.int (l.length : Nat))
    | some (some (.dct ks _)) => some (.int (ks.length : Nat))
    | _ => none) = _
  rw [at_c2]
def spTest : PV.E := .cmp .gt (.prim .len [.var 4]) (.con (.int 0))
def spBody : List St := [.set (.tp [.nm 5, .nm 6]) (.pop (.var 4)),
    .set (.nm 7) (.call 23 [.var 0, .var 5, .var 6]),
    .ite (.cmp .eq (.var 7) (.con (.int 1))) [.ex (.app (.var 3) (.tup [.var 5, .var 6]))] [],
    .ite (.cmp .gt (.var 7) (.con (.int 1))) [.set (.nm 8) (.call 9 [.var 5, .var 6]),
    .ex (.app (.var 4) (.tup [.var 8, .var 6])),
    .ex (.app (.var 4) (.tup [.var 5, .var 8]))] []]
section
variable {one es F Q rs : List Rat} {L : List (List Rat)} {c : Rat} (P : Pk one es F L c Q rs)
include P
theorem sp_loop (n : Nat) {G : Gs} (hG : Cl G) (X1 X2 : Option D) : ∀ (m : Nat) (W : List (Nat × Rat × Rat)) (Fd : List (Rat × Rat)) (y5 y6 y7 y8 : Option D), costW W < m → Fd.length + W.length + 2 * costW W < 1000000 → (∀ w ∈ W, Wk w) →
    ∃ z5 z6 z7 z8, whL (fun ρ1 G1 => evE (Sa (n + 10)) ρ1 spTest G1) (fun ρ1 G1 => evB (Sa (n + 10)) spBody ρ1 G1) m [some (cv one), X1, X2, some (.cell G.length), some (.cell (G.length + 1)), y5, y6, y7, y8] (G ++ [some (.lst (Fd.map pp)), some (.lst (W.reverse.map wp))]) = .next [some (cv one), X1, X2, some (.cell G.length), some (.cell (G.length + 1)), z5, z6, z7, z8] (G ++ [some (.lst ((Fd ++ W.flatMap fun w => spl es w.1 w.2.1 w.2.2).map pp)), some (.lst [])]) := by
  intro m
  induction m with
  | zero => intro W Fd y5 y6 y7 y8 h; omega
  | succ m ih =>
    intro W Fd y5 y6 y7 y8 hc hl hW
    match W, hc, hl, hW with
    | [], hc, hl, hW =>
      refine ⟨y5, y6, y7, y8, ?_⟩
      rw [List.flatMap_nil, List.append_nil]
      exact wh_stop (S := Sa (n + 10)) (x_cmp (x_prim (x_es x_v x_es0) len_c2) x_c (by rw [cgt]; rfl))
    | (d, lo, hi) :: W, hc, hl, hW =>
      have hw0 := hW (d, lo, hi) (List.mem_cons_self ..)
      have hWt : ∀ w ∈ W, Wk w := fun w hw => hW w (List.mem_cons_of_mem _ hw)
      obtain ⟨⟨e, he, gl, gh⟩, hle, hwd⟩ := hw0
      dsimp only at he gl gh hle hwd
      have hcost : costW ((d, lo, hi) :: W) = (2 ^ (d + 1) - 1) + costW W := by simp [costW]
      have hp : 2 ≤ 2 ^ (d + 1) := by have := Nat.pow_succ 2 d; have := Nat.one_le_two_pow (n := d); omega
      rw [List.length_cons] at hl
      rw [hcost] at hc hl
      have hrev : ((d, lo, hi) :: W).reverse.map wp = W.reverse.map wp ++ [pp (lo, hi)] := by rw [List.reverse_cons, List.map_append]; rfl
      have fF : ∀ Fd : List (Rat × Rat), frees (Fd.map pp) = true := frees_mp fun _ => rfl
      have fW : ∀ W : List (Nat × Rat × Rat), frees (W.map wp) = true := frees_mp fun _ => rfl
      have hG2 := clz2 hG (fF Fd) (fW W.reverse)
      have hh := cal_hm P n hG2 (gl.gp (by omega)) (gh.gp (by omega)) hle
      have test : ∀ ρ : PV.Env, ρ[4]? = some (some (.cell (G.length + 1))) → evE (Sa (n + 10)) ρ spTest (G ++ [some (.lst (Fd.map pp)), some (.lst (W.reverse.map wp ++ [pp (lo, hi)]))]) = .ok (.bl true) _ := fun ρ h =>
        x_cmp (x_prim (x_es (x_v h) x_es0) len_c2) x_c (by rw [cgt, decide_eq_true (by rw [List.length_append, List.length_singleton]; omega)])
      have pop : evS (Sa (n + 10)) (.set (.tp [.nm 5, .nm 6]) (.pop (.var 4))) [some (cv one), X1, X2, some (.cell G.length), some (.cell (G.length + 1)), y5, y6, y7, y8] (G ++ [some (.lst (Fd.map pp)), some (.lst (W.reverse.map wp ++ [pp (lo, hi)]))]) = .next [some (cv one), X1, X2, some (.cell G.length), some (.cell (G.length + 1)), some (pt lo), some (pt hi), y7, y8] (G ++ [some (.lst (Fd.map pp)), some (.lst (W.reverse.map wp))]) := by
        have := s_set (S := Sa (n + 10)) (t := .tp [.nm 5, .nm 6]) (ρ1 := [some (cv one), X1, X2, some (.cell G.length), some (.cell (G.length + 1)), some (pt lo), some (pt hi), y7, y8]) (x_pop (S := Sa (n + 10)) (a := .var 4) (ρ := [some (cv one), X1, X2, some (.cell G.length), some (.cell (G.length + 1)), y5, y6, y7, y8]) (G := G ++ [some (.lst (Fd.map pp)), some (.lst (W.reverse.map wp ++ [pp (lo, hi)]))]) (n := G.length + 1) (l := W.reverse.map wp ++ [pp (lo, hi)]) (y := pp (lo, hi)) x_v at_c2 (by simp)) rfl
        rw [this, set_c2, List.dropLast_concat]
      rw [hrev]
      by_cases h1 : Nr es lo hi = 1
      · have hs : spl es d lo hi = [(lo, hi)] := by cases d <;> (unfold spl; rw [if_pos h1])
        obtain ⟨z5, z6, z7, z8, ez⟩ := ih W (Fd ++ [(lo, hi)]) (some (pt lo)) (some (pt hi)) (some (.int ((Nr es lo hi : Nat) : Int))) y8 (by omega) (by rw [List.length_append, List.length_singleton]; omega) hWt
        refine ⟨z5, z6, z7, z8, ?_⟩
        rw [List.flatMap_cons, hs, ← List.append_assoc]
        refine wh_go (S := Sa (n + 10)) (test _ rfl) ?_ ez
        refine b_next pop (b_next (s_set (x_call (x_es x_v (x_es x_v (x_es x_v x_es0))) hh)) (b_next (s_itet (x_cmp x_v x_c (by rw [ceq, eqD_int, decide_eq_true (by omega)])) (b_next (s_ex (x_app (y := pp (lo, hi)) x_v at_end (x_tup (x_es x_v (x_es x_v x_es0))) at_end (by rw [List.length_map, szl]; omega))) rfl)) ?_))
        rw [set_end]
        refine b_next (s_if0 (x_cmp x_v x_c (by rw [cgt, decide_eq_false (by omega)]))) ?_
        rw [List.map_append]; rfl
      · by_cases h2 : 1 < Nr es lo hi
        · match d, hwd, he, hcost, hc, hl, hp, hW with
          | 0, hwd, he, hcost, hc, hl, hp, hW =>
            rw [LK.hw0] at hwd
            have := nr_le1 P.st.nd P.hes hwd
            omega
          | d + 1, hwd, he, hcost, hc, hl, hp, hW =>
            have hw1 := hW (d + 1, lo, hi) (List.mem_cons_self ..)
            have hs : spl es (d + 1) lo hi = spl es d lo ((lo + hi) / 2) ++ spl es d ((lo + hi) / 2) hi := by
              show (if Nr es lo hi = 1 then _ else if 1 < Nr es lo hi then _ else _) = _
              rw [if_neg h1, if_pos h2]
            have e2 := Nat.pow_succ 2 (d + 1)
            have hcost2 : costW ((d, lo, (lo + hi) / 2) :: (d, (lo + hi) / 2, hi) :: W) = (2 ^ (d + 1) - 1) + ((2 ^ (d + 1) - 1) + costW W) := by simp [costW]
            have h2p := Nat.one_le_two_pow (n := d + 1)
            obtain ⟨z5, z6, z7, z8, ez⟩ := ih ((d, lo, (lo + hi) / 2) :: (d, (lo + hi) / 2, hi) :: W) Fd (some (pt lo)) (some (pt hi)) (some (.int ((Nr es lo hi : Nat) : Int))) (some (pt ((lo + hi) / 2))) (by omega) (by rw [List.length_cons, List.length_cons]; omega) (fun w hw => by
              rcases List.mem_cons.mp hw with rfl | hw
              · exact hw1.left
              · rcases List.mem_cons.mp hw with rfl | hw
                · exact hw1.right
                · exact hWt w hw)
            refine ⟨z5, z6, z7, z8, ?_⟩
            have ef : ((d + 1, lo, hi) :: W).flatMap (fun w => spl es w.1 w.2.1 w.2.2) = ((d, lo, (lo + hi) / 2) :: (d, (lo + hi) / 2, hi) :: W).flatMap fun w => spl es w.1 w.2.1 w.2.2 := by
              rw [List.flatMap_cons, List.flatMap_cons, List.flatMap_cons, hs, List.append_assoc]
            rw [ef]
            refine wh_go (S := Sa (n + 10)) (test _ rfl) ?_ ez
            refine b_next pop (b_next (s_set (x_call (x_es x_v (x_es x_v (x_es x_v x_es0))) hh)) (b_next (s_if0 (x_cmp x_v x_c (by rw [ceq, eqD_int, decide_eq_false (by omega)]))) (b_next (s_itet (x_cmp x_v x_c (by rw [cgt, decide_eq_true (by omega)])) ?_) rfl)))
            refine b_next (s_set (x_call (x_es x_v (x_es x_v x_es0)) (cal_half (n + 6) _ gl gh (by omega)))) ?_
            refine b_next (s_ex (x_app (y := pp ((lo + hi) / 2, hi)) x_v at_c2 (x_tup (x_es x_v (x_es x_v x_es0))) at_c2 (by rw [List.length_map, List.length_reverse, szl]; omega))) ?_
            rw [set_c2]
            refine b_next (s_ex (x_app (y := pp (lo, (lo + hi) / 2)) x_v at_c2 (x_tup (x_es x_v (x_es x_v x_es0))) at_c2 (by rw [List.length_append, List.length_map, List.length_reverse, szl]; simp only [List.length_singleton]; omega))) ?_
            rw [set_c2]
            have er : ((d, lo, (lo + hi) / 2) :: (d, (lo + hi) / 2, hi) :: W).reverse.map wp = W.reverse.map wp ++ [pp ((lo + hi) / 2, hi)] ++ [pp (lo, (lo + hi) / 2)] := by
              rw [List.reverse_cons, List.reverse_cons, List.map_append, List.map_append]; rfl
            rw [er]; rfl
        · have hs : spl es d lo hi = [] := by
            cases d with
            | zero => unfold spl; rw [if_neg h1]
            | succ d => unfold spl; rw [if_neg h1, if_neg h2]
          obtain ⟨z5, z6, z7, z8, ez⟩ := ih W Fd (some (pt lo)) (some (pt hi)) (some (.int ((Nr es lo hi : Nat) : Int))) y8 (by omega) (by omega) hWt
          refine ⟨z5, z6, z7, z8, ?_⟩
          rw [List.flatMap_cons, hs, List.nil_append]
          refine wh_go (S := Sa (n + 10)) (test _ rfl) ?_ ez
          exact b_next pop (b_next (s_set (x_call (x_es x_v (x_es x_v (x_es x_v x_es0))) hh)) (b_next (s_if0 (x_cmp x_v x_c (by rw [ceq, eqD_int, decide_eq_false (by omega)]))) (b_next (s_if0 (x_cmp x_v x_c (by rw [cgt, decide_eq_false (by omega)]))) rfl)))
theorem cal_split (n : Nat) {G : Gs} (hG : Cl G) {d : Nat} {lo hi : Rat} (hd : d ≤ 15) (h : Wk (d, lo, hi)) : (Sa (n + 11)).cal 28 [cv one, pt lo, pt hi] G = .ok (.lst ((spl es d lo hi).map pp)) G := by
  have hcost : costW [(d, lo, hi)] = 2 ^ (d + 1) - 1 := by simp [costW]
  have hp : 2 ^ (d + 1) ≤ 2 ^ 16 := Nat.pow_le_pow_right (by decide) (by omega)
  obtain ⟨z5, z6, z7, z8, e⟩ := sp_loop P n hG (some (pt lo)) (some (pt hi)) 100000 [(d, lo, hi)] [] none none none none (by omega) (by rw [List.length_nil, List.length_singleton]; omega) (fun w hw => by rw [List.mem_singleton.mp hw]; exact h)
  have b : evB (Sa (n + 10)) m_split.body [some (cv one), some (pt lo), some (pt hi), none, none, none, none, none, none] G = .ret (.lst ((spl es d lo hi).map pp)) (G ++ [none, some (.lst [])]) := by
    refine b_next (s_set (x_lstC x_es0)) (b_next (s_set (x_lstC (x_es (x_tup (x_es x_v (x_es x_v x_es0))) x_es0))) ?_)
    have eg : G ++ [some (C.lst [])] ++ [some (C.lst [D.tup [pt lo, pt hi]])] = G ++ [some (.lst (([] : List (Rat × Rat)).map pp)), some (.lst ([(d, lo, hi)].reverse.map wp))] := by rw [List.append_assoc]; rfl
    have el : (G ++ [some (C.lst [])]).length = G.length + 1 := by simp
    rw [eg, el]
    rw [List.flatMap_singleton, List.nil_append] at e
    refine b_next e ?_
    have := s_ret (S := Sa (n + 10)) (x_take (S := Sa (n + 10)) (a := .var 3) (ρ := [some (cv one), some (pt lo), some (pt hi), some (.cell G.length), some (.cell (G.length + 1)), z5, z6, z7, z8]) (G := G ++ [some (.lst ((spl es d lo hi).map pp)), some (.lst [])]) x_v at_end)
    rw [set_end] at this
    exact b_ret this
  exact ((cal_at (n + 10) 28 (by decide) rfl _ G).trans (run_d m_split (args := [cv one, pt lo, pt hi]) (S := Sa (n + 10)) (ρ := [some (cv one), some (pt lo), some (pt hi), none, none, none, none, none, none]) (G := G) rfl rfl b)).trans (gc_drop hG (frees_mp (fun _ => rfl) _))
end
end LK
end
/-! ## R17 -/
section
set_option Elab.async false
set_option linter.all false
set_option maxRecDepth 200000
set_option maxHeartbeats 2000000
set_option exponentiation.threshold 300
namespace LK
open PySem PV RP
/-! apart, rows with sorted roots, narrowed -/
abbrev Srt (S : List Rat) : Prop := S.Pairwise (· < ·)
def inr (S : List Rat) (lo hi : Rat) : List Rat := S.filter fun r => decide (lo < r) && decide (r ≤ hi)
theorem nr_inr (S : List Rat) (lo hi : Rat) : Nr S lo hi = (inr S lo hi).length := by unfold Nr inr; rw [List.countP_eq_length_filter]
theorem mem_inr {S : List Rat} {lo hi r : Rat} : r ∈ inr S lo hi ↔ r ∈ S ∧ lo < r ∧ r ≤ hi := by
  unfold inr
  rw [List.mem_filter]
  simp only [Bool.and_eq_true, decide_eq_true_eq]
theorem inr_split {S : List Rat} (h : Srt S) {lo m hi : Rat} (h1 : lo ≤ m) (h2 : m ≤ hi) : inr S lo hi = inr S lo m ++ inr S m hi := by
  induction S with
  | nil => rfl
  | cons a S ih =>
    have hS := List.pairwise_cons.mp h
    have ih := ih hS.2
    have step : ∀ lo hi, inr (a :: S) lo hi = if lo < a ∧ a ≤ hi then a :: inr S lo hi else inr S lo hi := fun lo hi => by
      unfold inr
      rw [List.filter_cons]
      by_cases h : lo < a ∧ a ≤ hi
      · rw [if_pos h, if_pos (by simp only [Bool.and_eq_true, decide_eq_true_eq]; exact h)]
      · rw [if_neg h, if_neg (by simp only [Bool.and_eq_true, decide_eq_true_eq]; exact h)]
    rw [step, step, step, ih]
    by_cases c1 : lo < a
    · by_cases c2 : a ≤ m
      · rw [if_pos ⟨c1, by grind⟩, if_pos ⟨c1, c2⟩, if_neg (by grind)]; rfl
      · by_cases c3 : a ≤ hi
        · have e : inr S lo m = [] := by
            apply List.eq_nil_iff_forall_not_mem.mpr
            intro r hr
            have := mem_inr.mp hr
            have := hS.1 r this.1
            grind
          rw [if_pos ⟨c1, c3⟩, if_neg (by grind), if_pos (by grind), e]; rfl
        · rw [if_neg (by grind), if_neg (by grind), if_neg (by grind)]
    · rw [if_neg (by grind), if_neg (by grind), if_neg (by grind)]
inductive RwS (S : List Rat) : Rat → Rat → List (Rat × Rat) → List Rat → Prop
  | nil {lo hi : Rat} : lo ≤ hi → RwS S lo hi [] []
  | cons {lo hi a b r : Rat} {l : List (Rat × Rat)} {s : List Rat} : lo ≤ a → a < r → r ≤ b → Nr S a b = 1 → Gd 60 a → Gd 60 b → RwS S b hi l s → RwS S lo hi ((a, b) :: l) (r :: s)
theorem RwS.le {S : List Rat} {lo hi : Rat} {l : List (Rat × Rat)} {s : List Rat} (h : RwS S lo hi l s) : lo ≤ hi := by
  induction h with
  | nil h => exact h
  | cons h1 h2 h3 _ _ _ _ ih => grind
theorem RwS.low {S : List Rat} {lo lo2 hi : Rat} {l : List (Rat × Rat)} {s : List Rat} (h : RwS S lo hi l s) (h2 : lo2 ≤ lo) : RwS S lo2 hi l s := by
  cases h with
  | nil h => exact .nil (by grind)
  | cons a1 a2 a3 a4 a5 a6 a7 => exact .cons (by grind) a2 a3 a4 a5 a6 a7
theorem RwS.app {S : List Rat} {lo m hi : Rat} {l l2 : List (Rat × Rat)} {s s2 : List Rat} (h : RwS S lo m l s) (h2 : RwS S m hi l2 s2) : RwS S lo hi (l ++ l2) (s ++ s2) := by
  induction h with
  | nil h => exact h2.low h
  | cons a1 a2 a3 a4 a5 a6 a7 ih => exact .cons a1 a2 a3 a4 a5 a6 (ih h2)
theorem RwS.len {S : List Rat} {lo hi : Rat} {l : List (Rat × Rat)} {s : List Rat} (h : RwS S lo hi l s) : l.length = s.length := by
  induction h with
  | nil => rfl
  | cons _ _ _ _ _ _ _ ih => rw [List.length_cons, List.length_cons, ih]
theorem spl_rw {S : List Rat} (hS : Srt S) (nd : S.Nodup) (hf : Hf S) : ∀ (d : Nat) (lo hi : Rat), Wk (d, lo, hi) → RwS S lo hi (spl S d lo hi) (inr S lo hi) := by
  have one : ∀ (d : Nat) (lo hi : Rat), Wk (d, lo, hi) → Nr S lo hi = 1 → RwS S lo hi [(lo, hi)] (inr S lo hi) := fun d lo hi w h => by
    have h2 := h
    rw [nr_inr] at h2
    obtain ⟨r, hr⟩ := List.length_eq_one_iff.mp h2
    have := mem_inr.mp (show r ∈ inr S lo hi by rw [hr]; exact List.mem_cons_self ..)
    rw [hr]
    obtain ⟨⟨e, he, g1, g2⟩, _, _⟩ := w
    dsimp only at he g1 g2
    exact .cons Rat.le_refl this.2.1 this.2.2 h (g1.mono (by omega)) (g2.mono (by omega)) (.nil Rat.le_refl)
  intro d
  induction d with
  | zero =>
    intro lo hi w
    have h1 := nr_le1 nd hf (lo := lo) (hi := hi) (by have := w.wd; rw [hw0] at this; exact this)
    by_cases h : Nr S lo hi = 1
    · unfold spl; rw [if_pos h]; exact one _ _ _ w h
    · unfold spl; rw [if_neg h]
      have : (inr S lo hi).length = 0 := by rw [← nr_inr]; omega
      rw [List.length_eq_zero_iff.mp this]
      exact .nil w.le
  | succ d ih =>
    intro lo hi w
    unfold spl
    by_cases h : Nr S lo hi = 1
    · rw [if_pos h]; exact one _ _ _ w h
    · rw [if_neg h]
      by_cases h2 : 1 < Nr S lo hi
      · rw [if_pos h2, inr_split hS w.left.le w.right.le]
        exact (ih _ _ w.left).app (ih _ _ w.right)
      · rw [if_neg h2]
        have : (inr S lo hi).length = 0 := by rw [← nr_inr]; omega
        rw [List.length_eq_zero_iff.mp this]
        exact .nil w.le
theorem nr_uniq {S : List Rat} {a b r t : Rat} (h : Nr S a b = 1) (hr : r ∈ S) (ht : t ∈ S) (r1 : a < r) (r2 : r ≤ b) (t1 : a < t) (t2 : t ≤ b) : r = t := by
  rw [nr_inr] at h
  obtain ⟨x, hx⟩ := List.length_eq_one_iff.mp h
  have h1 := mem_inr.mpr ⟨hr, r1, r2⟩
  have h2 := mem_inr.mpr ⟨ht, t1, t2⟩
  rw [hx] at h1 h2
  rw [List.mem_singleton.mp h1, List.mem_singleton.mp h2]
theorem nr_sub {S : List Rat} {a b a2 b2 r : Rat} (h : Nr S a b = 1) (h2 : Nr S a2 b2 = 1) (ha : a ≤ a2) (hb : b2 ≤ b) (hr : r ∈ S) (r1 : a < r) (r2 : r ≤ b) : a2 < r ∧ r ≤ b2 := by
  have h3 := h2
  rw [nr_inr] at h3
  obtain ⟨x, hx⟩ := List.length_eq_one_iff.mp h3
  obtain ⟨x1, x2, x3⟩ := mem_inr.mp (show x ∈ inr S a2 b2 by rw [hx]; exact List.mem_cons_self ..)
  have := nr_uniq h hr x1 r1 r2 (by grind) (by grind)
  subst this
  exact ⟨x2, x3⟩
theorem nr_add {S : List Rat} (hS : Srt S) {a m b : Rat} (h1 : a ≤ m) (h2 : m ≤ b) : Nr S a b = Nr S a m + Nr S m b := by
  rw [nr_inr, nr_inr, nr_inr, inr_split hS h1 h2, List.length_append]
section
variable {one es F Q rs : List Rat} {L : List (List Rat)} {c M : Rat} (P : Pk one es F L c Q rs)
include P
theorem wkM (B : Bn one es M) : Wk (15, 0 - M, M) := ⟨⟨5, by dsimp only; omega, gdl P B, B.gd⟩, by have := B.pos; dsimp only; grind, by
  have e : hw 15 = 16384 := by decide +kernel
  have := B.top
  dsimp only
  rw [e]; grind⟩
theorem cal_apart (B : Bn one es M) (n : Nat) {G : Gs} (hG : Cl G) : (Sa (n + 12)).cal 27 [cv one] G = .ok (.tup ((spl es 15 (0 - M) M).map pp)) G := by
  have hsp := cal_split P n hG (by decide) (wkM P B)
  have p0 : evE (Sa (n + 11)) [some (cv one), some (pt M)] (.tup [.con (.int 0), .con (.int 1)]) G = .ok (pt 0) G := x_tup (x_es x_c (x_es x_c x_es0))
  have b : evB (Sa (n + 11)) m_apart.body [some (cv one), none] G = .ret (.tup ((spl es 15 (0 - M) M).map pp)) G :=
    b_next (s_set (x_call (x_es x_v x_es0) (B.cal (n + 7) G))) (b_ret (s_ret (x_prim (x_es (x_call (x_es x_v (x_es (x_call (x_es p0 (x_es x_v x_es0)) (cal_lowM P B (n + 8) G)) (x_es x_v x_es0))) hsp) x_es0) rfl)))
  exact ((cal_at (n + 11) 27 (by decide) rfl _ G).trans (run_d m_apart (args := [cv one]) (S := Sa (n + 11)) (ρ := [some (cv one), none]) (G := G) rfl rfl b)).trans gc_self
def nwBody : List St := [.set (.nm 5) (.call 9 [.var 1, .var 2]),
    .ite (.cmp .eq (.call 23 [.var 0, .var 1, .var 5]) (.con (.int 1))) [.set (.nm 2) (.var 5)] [.set (.nm 1) (.var 5)]]
theorem nw_turn (hS : Srt es) (n : Nat) {G : Gs} (hG : Cl G) {e : Nat} (he : e ≤ 80) {a b : Rat} (ga : Gd e a) (gb : Gd e b) (hab : a ≤ b) (h : Nr es a b = 1) (X : Option D) (i : D) (y : Option D) :
    ∃ a2 b2 y2, evB (Sa (n + 10)) nwBody [some (cv one), some (pt a), some (pt b), X, some i, y] G = .next [some (cv one), some (pt a2), some (pt b2), X, some i, y2] G ∧ Gd (e + 1) a2 ∧ Gd (e + 1) b2 ∧ a2 ≤ b2 ∧ a ≤ a2 ∧ b2 ≤ b ∧ Nr es a2 b2 = 1 ∧ b2 - a2 = (b - a) / 2 := by
  have hh := cal_hm P n hG (ga.gp (by omega)) ((ga.mid gb).gp (by omega)) (lo := a) (hi := (a + b) / 2) (by grind)
  have hm := cal_half (n + 6) G ga gb he
  have hadd := nr_add hS (a := a) (m := (a + b) / 2) (b := b) (by grind) (by grind)
  by_cases h1 : Nr es a ((a + b) / 2) = 1
  · refine ⟨a, (a + b) / 2, some (pt ((a + b) / 2)), ?_, ga.mono (by omega), ga.mid gb, by grind, Rat.le_refl, by grind, h1, by grind⟩
    exact b_next (s_set (x_call (x_es x_v (x_es x_v x_es0)) hm)) (b_next (s_itet (x_cmp (x_call (x_es x_v (x_es x_v (x_es x_v x_es0))) hh) x_c (by rw [ceq, eqD_int, decide_eq_true (by omega)])) (b_next (s_set x_v) rfl)) rfl)
  · refine ⟨(a + b) / 2, b, some (pt ((a + b) / 2)), ?_, ga.mid gb, gb.mono (by omega), by grind, by grind, Rat.le_refl, by omega, by grind⟩
    exact b_next (s_set (x_call (x_es x_v (x_es x_v x_es0)) hm)) (b_next (s_itef (x_cmp (x_call (x_es x_v (x_es x_v (x_es x_v x_es0))) hh) x_c (by rw [ceq, eqD_int, decide_eq_false (by omega)])) (b_next (s_set x_v) rfl)) rfl)
theorem cal_narrowed (hS : Srt es) (n : Nat) {G : Gs} (hG : Cl G) {a b : Rat} (ga : Gd 60 a) (gb : Gd 60 b) (hab : a ≤ b) (h : Nr es a b = 1) :
    ∃ a2 b2, (Sa (n + 11)).cal 26 [cv one, pt a, pt b, .int 3] G = .ok (.tup [pt a2, pt b2]) G ∧ Gd 63 a2 ∧ Gd 63 b2 ∧ a ≤ a2 ∧ b2 ≤ b ∧ Nr es a2 b2 = 1 ∧ b2 - a2 = (b - a) / 8 := by
  have hh := cal_hm P n hG (ga.gp (by omega)) (gb.gp (by omega)) hab
  rw [h] at hh
  obtain ⟨a1, b1, y1, e1, g1, g2, l1, l2, l3, n1, w1⟩ := nw_turn P hS n hG (by decide) ga gb hab h (some (.int 3)) (.int 0) none
  obtain ⟨a2, b2, y2, e2, g3, g4, l4, l5, l6, n2, w2⟩ := nw_turn P hS n hG (by decide) g1 g2 l1 n1 (some (.int 3)) (.int 1) y1
  obtain ⟨a3, b3, y3, e3, g5, g6, l7, l8, l9, n3, w3⟩ := nw_turn P hS n hG (by decide) g3 g4 l4 n2 (some (.int 3)) (.int 2) y2
  refine ⟨a3, b3, ?_, g5, g6, by grind, by grind, n3, by grind⟩
  have hloop : forL (fun d ρ1 G2 => match PV.assign ρ1 (.nm 4) d with | some ρ2 => evB (Sa (n + 10)) nwBody ρ2 G2 | none => .bad) [.int 0, .int 1, .int 2] [some (cv one), some (pt a), some (pt b), some (.int 3), none, none] G = .next [some (cv one), some (pt a3), some (pt b3), some (.int 3), some (.int 2), y3] G := forL_next e1 (forL_next e2 (forL_next e3 rfl))
  have hb : evB (Sa (n + 10)) m_narrowed.body [some (cv one), some (pt a), some (pt b), some (.int 3), none, none] G = .ret (.tup [pt a3, pt b3]) G :=
    b_next (s_if0 (x_orf (x_cmp x_v x_c rfl) (x_cmp (x_call (x_es x_v (x_es x_v (x_es x_v x_es0))) hh) x_c rfl))) (b_next (s_for (i_rng (j := 3) x_v (by decide)) hloop) (b_ret (s_ret (x_tup (x_es x_v (x_es x_v x_es0))))))
  exact ((cal_at (n + 10) 26 (by decide) rfl _ G).trans (run_d m_narrowed (args := [cv one, pt a, pt b, .int 3]) (S := Sa (n + 10)) (ρ := [some (cv one), some (pt a), some (pt b), some (.int 3), none, none]) (G := G) rfl rfl hb)).trans gc_self
end
end LK
end
/-! ## R18 -/
section
set_option Elab.async false
set_option linter.all false
set_option maxRecDepth 200000
set_option maxHeartbeats 2000000
set_option exponentiation.threshold 300
namespace LK
open PySem PV RP
/-! samples, never_below -/
theorem rat_ne {a b : Rat} (h : a ≠ b) : a < b ∨ b < a := by
  by_cases h1 : a < b
  · exact .inl h1
  · exact .inr (by grind)
inductive Sm (S : List Rat) : Rat → List Rat → List Rat → Prop
  | nil {p : Rat} : Sm S p [] []
  | cons {p t r : Rat} {ts s : List Rat} : p ≤ t → t < r → t ∉ S → Sm S r ts s → Sm S p (t :: ts) (r :: s)
theorem Sm.len {S : List Rat} {p : Rat} {ts s : List Rat} (h : Sm S p ts s) : ts.length = s.length := by
  induction h with
  | nil => rfl
  | cons _ _ _ _ ih => rw [List.length_cons, List.length_cons, ih]
theorem Sm.up {S : List Rat} {p : Rat} {ts s : List Rat} (h : Sm S p ts s) : ∀ t ∈ ts, t ∉ S ∧ ∃ r ∈ s, t < r := by
  induction h with
  | nil => intro t ht; exact nomatch ht
  | cons h1 h2 h3 _ ih =>
    intro t ht
    rcases List.mem_cons.mp ht with rfl | ht
    · exact ⟨h3, _, List.mem_cons_self .., h2⟩
    · obtain ⟨a, r, b, c⟩ := ih t ht
      exact ⟨a, r, List.mem_cons_of_mem _ b, c⟩
theorem Sm.ge {S : List Rat} {p : Rat} {ts s : List Rat} (h : Sm S p ts s) : ∀ t ∈ ts, p ≤ t := by
  induction h with
  | nil => intro t ht; exact nomatch ht
  | cons h1 h2 h3 _ ih =>
    intro t ht
    rcases List.mem_cons.mp ht with rfl | ht
    · exact h1
    · have := ih t ht; grind
theorem Sm.find {S : List Rat} {x : Rat} (hx : x ∉ S) {p : Rat} {ts s : List Rat} (h : Sm S p ts s) : Srt s → (∀ r ∈ s, r ∈ S) → (∃ r ∈ s, x < r) → ∃ t ∈ ts, p ≤ t ∧ t ∉ S ∧ ∀ r ∈ s, (r < x ∧ r < t) ∨ (x < r ∧ t < r) := by
  induction h with
  | nil => intro _ _ ⟨r, hr, _⟩; exact nomatch hr
  | @cons p t r ts s h1 h2 h3 h4 ih =>
    intro srt hs he
    have sc := List.pairwise_cons.mp srt
    by_cases hxr : x < r
    · refine ⟨t, List.mem_cons_self .., h1, h3, fun r' hr' => ?_⟩
      rcases List.mem_cons.mp hr' with rfl | hr'
      · exact .inr ⟨hxr, h2⟩
      · have := sc.1 r' hr'
        exact .inr ⟨by grind, by grind⟩
    · have hne : x ≠ r := fun e => hx (by rw [e]; exact hs r (List.mem_cons_self ..))
      obtain ⟨y, hy, hxy⟩ := he
      have hy2 : y ∈ s := by
        rcases List.mem_cons.mp hy with rfl | hy
        · exact absurd hxy hxr
        · exact hy
      obtain ⟨t2, m2, a, b, c⟩ := ih sc.2 (fun r hr => hs r (List.mem_cons_of_mem _ hr)) ⟨y, hy2, hxy⟩
      have hne2 : t2 ≠ r := fun e => b (by rw [e]; exact hs r (List.mem_cons_self ..))
      refine ⟨t2, List.mem_cons_of_mem _ m2, by grind, b, fun r' hr' => ?_⟩
      rcases List.mem_cons.mp hr' with rfl | hr'
      · exact .inl ⟨by grind, by grind⟩
      · exact c r' hr'
def Cov (S : List Rat) (lo hi : Rat) (T : List Rat) : Prop := (∀ t ∈ T, lo ≤ t ∧ t ≤ hi) ∧ ∀ x, lo ≤ x → x ≤ hi → x ∉ S → ∃ t ∈ T, ∀ r ∈ S, (r < x ∧ r < t) ∨ (x < r ∧ t < r)
theorem inr_srt {S : List Rat} (h : Srt S) (lo hi : Rat) : Srt (inr S lo hi) := h.filter _
theorem Sm.cov {S : List Rat} (hS : Srt S) {lo hi : Rat} (hl : lo ≤ hi) {ts : List Rat} (h : Sm S lo ts (inr S lo hi)) : Cov S lo hi (lo :: hi :: ts) := by
  refine ⟨fun t ht => ?_, fun x h1 h2 hx => ?_⟩
  · rcases List.mem_cons.mp ht with rfl | ht
    · exact ⟨Rat.le_refl, hl⟩
    · rcases List.mem_cons.mp ht with rfl | ht
      · exact ⟨hl, Rat.le_refl⟩
      · obtain ⟨_, r, hr, hlt⟩ := h.up t ht
        have := (mem_inr.mp hr).2.2
        exact ⟨h.ge t ht, by grind⟩
  · by_cases he : ∃ r ∈ inr S lo hi, x < r
    · obtain ⟨t, m, a, b, c⟩ := h.find hx (inr_srt hS lo hi) (fun r hr => (mem_inr.mp hr).1) he
      refine ⟨t, List.mem_cons_of_mem _ (List.mem_cons_of_mem _ m), fun r hr => ?_⟩
      have hrx : r ≠ x := fun e => hx (by rw [← e]; exact hr)
      have hrt : r ≠ t := fun e => b (by rw [← e]; exact hr)
      by_cases c1 : lo < r
      · by_cases c2 : r ≤ hi
        · exact c r (mem_inr.mpr ⟨hr, c1, c2⟩)
        · obtain ⟨_, q, hq, hlt⟩ := h.up t m
          have := (mem_inr.mp hq).2.2
          exact .inr ⟨by grind, by grind⟩
      · exact .inl ⟨by grind, by grind⟩
    · refine ⟨hi, by simp, fun r hr => ?_⟩
      have hrx : r ≠ x := fun e => hx (by rw [← e]; exact hr)
      by_cases c2 : r ≤ hi
      · by_cases c1 : lo < r
        · have : ¬ x < r := fun e => he ⟨r, mem_inr.mpr ⟨hr, c1, c2⟩, e⟩
          exact .inl ⟨by grind, by grind⟩
        · exact .inl ⟨by grind, by grind⟩
      · exact .inr ⟨by grind, by grind⟩
def mids : List Rat → List Rat
  | a :: b :: l => (a + b) / 2 :: mids (b :: l)
  | _ => []
theorem mids_find {x : Rat} : ∀ (l : List Rat) (m : Rat), Srt (m :: l) → m < x → x ∉ l → (∃ y ∈ l, x < y) → ∃ t ∈ mids (m :: l), m < t ∧ (∃ y ∈ l, t < y) ∧ ∀ r ∈ m :: l, (r < x ∧ r < t) ∨ (x < r ∧ t < r)
  | [], m, _, _, _, ⟨y, hy, _⟩ => nomatch hy
  | m2 :: l, m, srt, hm, hx, ⟨y, hy, hxy⟩ => by
    have sc := List.pairwise_cons.mp srt
    have hmm := sc.1 m2 (List.mem_cons_self ..)
    have sc2 := List.pairwise_cons.mp sc.2
    by_cases hxr : x < m2
    · refine ⟨(m + m2) / 2, List.mem_cons_self .., by grind, ⟨m2, List.mem_cons_self .., by grind⟩, fun r hr => ?_⟩
      rcases List.mem_cons.mp hr with rfl | hr
      · exact .inl ⟨hm, by grind⟩
      · rcases List.mem_cons.mp hr with rfl | hr
        · exact .inr ⟨hxr, by grind⟩
        · have := sc2.1 r hr
          exact .inr ⟨by grind, by grind⟩
    · have hne : x ≠ m2 := fun e => hx (by rw [e]; exact List.mem_cons_self ..)
      have hy2 : y ∈ l := by
        rcases List.mem_cons.mp hy with rfl | hy
        · exact absurd hxy hxr
        · exact hy
      obtain ⟨t, mt, a, ⟨z, hz, hz2⟩, c⟩ := mids_find l m2 sc.2 (by grind) (fun e => hx (List.mem_cons_of_mem _ e)) ⟨y, hy2, hxy⟩
      refine ⟨t, List.mem_cons_of_mem _ mt, by grind, ⟨z, List.mem_cons_of_mem _ hz, hz2⟩, fun r hr => ?_⟩
      rcases List.mem_cons.mp hr with rfl | hr
      · exact .inl ⟨hm, by grind⟩
      · exact c r hr
theorem mids_in {lo hi : Rat} : ∀ l : List Rat, (∀ m ∈ l, lo ≤ m ∧ m ≤ hi) → ∀ t ∈ mids l, lo ≤ t ∧ t ≤ hi
  | [], _, _, ht => nomatch ht
  | [_], _, _, ht => nomatch ht
  | a :: b :: l, h, t, ht => by
    have h1 := h a (List.mem_cons_self ..)
    have h2 := h b (List.mem_cons_of_mem _ (List.mem_cons_self ..))
    rcases List.mem_cons.mp ht with rfl | ht
    · constructor <;> grind
    · exact mids_in (b :: l) (fun m hm => h m (List.mem_cons_of_mem _ hm)) t ht
theorem marks_cov {S : List Rat} {lo hi : Rat} {m : List Rat} (srt : Srt m) (hm : ∀ x, x ∈ m ↔ x = lo ∨ x = hi ∨ x ∈ inr S lo hi) (hl : lo ≤ hi) : Cov S lo hi (m ++ mids m) := by
  have hin : ∀ x ∈ m, lo ≤ x ∧ x ≤ hi := fun x hx => by
    rcases (hm x).mp hx with rfl | rfl | h
    · exact ⟨Rat.le_refl, hl⟩
    · exact ⟨hl, Rat.le_refl⟩
    · have := mem_inr.mp h
      constructor <;> grind
  refine ⟨fun t ht => ?_, fun x h1 h2 hx => ?_⟩
  · rcases List.mem_append.mp ht with h | h
    · exact hin t h
    · exact mids_in m hin t h
  · by_cases hxm : x ∈ m
    · refine ⟨x, List.mem_append_left _ hxm, fun r hr => ?_⟩
      have hrx : r ≠ x := fun e => hx (by rw [← e]; exact hr)
      rcases rat_ne hrx with h | h
      · exact .inl ⟨h, h⟩
      · exact .inr ⟨h, h⟩
    · match m, srt, hm, hin, hxm with
      | [], _, hm, _, _ => exact absurd ((hm lo).mpr (.inl rfl)) (by simp)
      | m0 :: l, srt, hm, hin, hxm =>
        have sc := List.pairwise_cons.mp srt
        have hm0 : m0 = lo := by
          have := (hin m0 (List.mem_cons_self ..)).1
          rcases List.mem_cons.mp ((hm lo).mpr (.inl rfl)) with h | h
          · exact h.symm
          · have := sc.1 lo h; grind
        have hx0 : x ≠ m0 := fun e => hxm (by rw [e]; exact List.mem_cons_self ..)
        have hhi : hi ∈ m0 :: l := (hm hi).mpr (.inr (.inl rfl))
        have hxh : x ≠ hi := fun e => hxm (by rw [e]; exact hhi)
        have hhl : hi ∈ l := by
          rcases List.mem_cons.mp hhi with h | h
          · grind
          · exact h
        obtain ⟨t, mt, a, ⟨z, hz, hz2⟩, c⟩ := mids_find l m0 srt (by grind) (fun e => hxm (List.mem_cons_of_mem _ e)) ⟨hi, hhl, by grind⟩
        have hz3 := (hin z (List.mem_cons_of_mem _ hz)).2
        refine ⟨t, List.mem_append_right _ mt, fun r hr => ?_⟩
        have hrx : r ≠ x := fun e => hx (by rw [← e]; exact hr)
        by_cases c1 : lo < r
        · by_cases c2 : r ≤ hi
          · exact c r ((hm r).mpr (.inr (.inr (mem_inr.mpr ⟨hr, c1, c2⟩))))
          · exact .inr ⟨by grind, by grind⟩
        · exact .inl ⟨by grind, by grind⟩
section
variable {one es F Q rs : List Rat} {L : List (List Rat)} {c M : Rat} (P : Pk one es F L c Q rs)
include P
theorem one_zero {x : Rat} (h : x ∈ es) : ev one x = 0 := by rw [P.hone, pr_zero ((P.mem x).mp h)]; grind
theorem one_same {x t : Rat} (h : ∀ r ∈ es, (r < x ∧ r < t) ∨ (x < r ∧ t < r)) : 0 < ev one x * ev one t := by
  have key : 0 < pr rs x * pr rs t := by
    rcases (Rat.le_total : x ≤ t ∨ t ≤ x) with hxt | hxt
    · exact pr_sign hxt fun r hr => by have := h r ((P.mem r).mpr hr); grind
    · have := pr_sign hxt (es := rs) fun r hr => by have := h r ((P.mem r).mpr hr); grind
      rwa [Rat.mul_comm] at this
  have hq : 0 < ev Q x * ev Q t := Rat.mul_pos (P.pos x) (P.pos t)
  have hc : 0 < c * c := by
    rcases rat_ne P.c0 with h | h
    · have := Rat.mul_pos (show 0 < -c by grind) (show 0 < -c by grind); grind
    · exact Rat.mul_pos h h
  have := Rat.mul_pos (Rat.mul_pos hc key) hq
  rw [P.hone, P.hone]
  grind
theorem cov_all {lo hi : Rat} {T : List Rat} (h : Cov es lo hi T) : (T.all fun t => decide (0 ≤ ev one t)) = true ↔ ∀ x, lo ≤ x → x ≤ hi → 0 ≤ ev one x := by
  rw [List.all_eq_true]
  constructor
  · intro ha x h1 h2
    by_cases hx : x ∈ es
    · rw [one_zero P hx]; exact Rat.le_refl
    · obtain ⟨t, mt, ht⟩ := h.2 x h1 h2 hx
      have h3 := of_decide_eq_true (ha t mt)
      have h4 := one_same P ht
      refine Rat.not_lt.mp fun h5 => ?_
      have := Rat.mul_nonneg (show 0 ≤ -ev one x by grind) h3
      grind
  · intro ha t mt
    obtain ⟨h1, h2⟩ := h.1 t mt
    exact decide_eq_true (ha t h1 h2)
theorem cov_same {lo hi : Rat} {T U : List Rat} (h : Cov es lo hi T) (h2 : Cov es lo hi U) : (T.all fun t => decide (0 ≤ ev one t)) = (U.all fun t => decide (0 ≤ ev one t)) := by
  rw [Bool.eq_iff_iff, cov_all P h, cov_all P h2]
theorem nr_zero {a t : Rat} (ha : a ∈ es) (h : t - a < 1 / 2) : Nr es a t = 0 := by
  unfold Nr
  rw [List.countP_eq_zero]
  intro r hr hh
  simp only [Bool.and_eq_true, decide_eq_true_eq] at hh
  obtain ⟨i, hi1, _⟩ := P.hes a ha
  obtain ⟨j, hj1, _⟩ := P.hes r hr
  have hij : ¬ j ≤ i := fun e => by
    have := Rat.intCast_le_intCast.mpr e
    grind
  have : ((i + 1 : Int) : Rat) ≤ (j : Rat) := Rat.intCast_le_intCast.mpr (by omega)
  rw [Rat.intCast_add] at this
  have e1 : ((1 : Int) : Rat) = 1 := rfl
  grind
def wiTest : PV.E := .cmp .ne (.call 23 [.var 0, .var 5, .var 7]) (.con (.int 0))
def wiBody : List St := [.set (.nm 7) (.call 9 [.var 5, .var 7])]
theorem wi_loop (n : Nat) {G : Gs} (hG : Cl G) (X1 X2 X3 X4 X6 : Option D) {a : Rat} (ha : a ∈ es) : ∀ (d m e : Nat) (t : Rat), d < m → e + d ≤ 79 → Gd e a → Gd e t → a < t → t - a < hw d →
    ∃ t2, whL (fun ρ1 G1 => evE (Sa (n + 10)) ρ1 wiTest G1) (fun ρ1 G1 => evB (Sa (n + 10)) wiBody ρ1 G1) m [some (cv one), X1, X2, X3, X4, some (pt a), X6, some (pt t)] G = .next [some (cv one), X1, X2, X3, X4, some (pt a), X6, some (pt t2)] G ∧ a < t2 ∧ t2 ≤ t ∧ Nr es a t2 = 0 ∧ Gd 80 t2 := by
  intro d
  induction d with
  | zero =>
    intro m e t hm he ga gt hat hw
    match m, hm with
    | m + 1, hm =>
      have hz : Nr es a t = 0 := nr_zero P ha (by rw [hw0] at hw; exact hw)
      have hh := cal_hm P n hG (ga.gp (by omega)) (gt.gp (by omega)) (lo := a) (hi := t) (by grind)
      exact ⟨t, wh_stop (S := Sa (n + 10)) (x_cmp (x_call (x_es x_v (x_es x_v (x_es x_v x_es0))) hh) x_c (by rw [cne, eqD_int, decide_eq_true (by omega)]; rfl)), hat, Rat.le_refl, hz, gt.mono (by omega)⟩
  | succ d ih =>
    intro m e t hm he ga gt hat hw
    match m, hm with
    | m + 1, hm =>
      have hh := cal_hm P n hG (ga.gp (by omega)) (gt.gp (by omega)) (lo := a) (hi := t) (by grind)
      by_cases hz : Nr es a t = 0
      · exact ⟨t, wh_stop (S := Sa (n + 10)) (x_cmp (x_call (x_es x_v (x_es x_v (x_es x_v x_es0))) hh) x_c (by rw [cne, eqD_int, decide_eq_true (by omega)]; rfl)), hat, Rat.le_refl, hz, gt.mono (by omega)⟩
      · rw [hw_succ] at hw
        obtain ⟨t2, e2, b1, b2, b3, b4⟩ := ih m (e + 1) ((a + t) / 2) (by omega) (by omega) (ga.mono (by omega)) (ga.mid gt) (by grind) (by grind)
        refine ⟨t2, wh_go (S := Sa (n + 10)) (x_cmp (x_call (x_es x_v (x_es x_v (x_es x_v x_es0))) hh) x_c (by rw [cne, eqD_int, decide_eq_false (by omega)]; rfl)) (b_next (s_set (x_call (x_es x_v (x_es x_v x_es0)) (cal_half (n + 6) G ga gt (by omega)))) rfl) e2, b1, by grind, b3, b4⟩
end
end LK
end
/-! ## R19 -/
section
set_option Elab.async false
set_option linter.all false
set_option maxRecDepth 200000
set_option maxHeartbeats 2000000
set_option exponentiation.threshold 300
namespace LK
open PySem PV RP
/-! samples, never_below: the defs -/
def smBody : List St := [.set (.nm 7) (.var 5),
    .ite (.cmp .eq (.call 31 [.var 3, .var 5]) (.con (.int 0))) [.set (.nm 7) (.call 9 [.var 5, .var 6]),
    .while_ (.cmp .ne (.call 23 [.var 0, .var 5, .var 7]) (.con (.int 0))) [.set (.nm 7) (.call 9 [.var 5, .var 7])]] [],
    .ex (.app (.var 4) (.var 7))]
theorem clz1 {G : Gs} (hG : Cl G) {a : List D} (h1 : frees a = true) : Cl (G ++ [some (C.lst a)]) := by
  unfold Cl at hG ⊢
  rw [List.all_append, hG]
  show (true && (frees a && true)) = true
  rw [h1]; rfl
section
variable {one es F Q rs : List Rat} {L : List (List Rat)} {c M : Rat} (P : Pk one es F L c Q rs)
include P
theorem F_zero {x : Rat} : ev F x = 0 ↔ x ∈ es := by
  constructor
  · intro h
    refine Classical.byContradiction fun hx => ?_
    have h1 := pr_ne hx
    have h2 := P.pos x
    rw [P.hF] at h
    rcases Rat.mul_eq_zero.mp h with h | h
    · rcases Rat.mul_eq_zero.mp h with h | h
      · exact P.c0 h
      · exact h1 h
    · rw [h] at h2; exact absurd h2 (by decide +kernel)
  · intro h; rw [P.hF, pr_zero h]; grind
theorem sm_turn (n : Nat) {G : Gs} (hG : Cl G) (X1 X2 : Option D) (found : List Rat) (hf : found.length < 1000) {a b r : Rat} (ga : Gd 60 a) (gb : Gd 60 b) (hab : a < b) (hw : b - a ≤ LK.hw 15) (hr : r ∈ es) (har : a < r) (y7 : Option D) :
    ∃ t, evB (Sa (n + 10)) smBody [some (cv one), X1, X2, some (cv F), some (.cell G.length), some (pt a), some (pt b), y7] (G ++ [some (.lst (found.map pt))]) = .next [some (cv one), X1, X2, some (cv F), some (.cell G.length), some (pt a), some (pt b), some (pt t)] (G ++ [some (.lst ((found ++ [t]).map pt))]) ∧ a ≤ t ∧ t < r ∧ t ∉ es ∧ Gd 80 t := by
  have hG2 := clz1 hG (free_pts found)
  have hs := cal_sign (n + 5) (G ++ [some (C.lst (found.map pt))]) P.fitF (ga.gp (by decide))
  have app : ∀ t : Rat, evS (Sa (n + 10)) (.ex (.app (.var 4) (.var 7))) [some (cv one), X1, X2, some (cv F), some (.cell G.length), some (pt a), some (pt b), some (pt t)] (G ++ [some (.lst (found.map pt))]) = .next [some (cv one), X1, X2, some (cv F), some (.cell G.length), some (pt a), some (pt b), some (pt t)] (G ++ [some (.lst ((found ++ [t]).map pt))]) := fun t => by
    have e := s_ex (S := Sa (n + 10)) (x_app (a := .var 4) (b := .var 7) (ρ := [some (cv one), X1, X2, some (cv F), some (.cell G.length), some (pt a), some (pt b), some (pt t)]) (G := G ++ [some (.lst (found.map pt))]) x_v (at_end (r := [])) x_v (at_end (r := [])) (by rw [List.length_map, szl]; omega))
    rw [e, set_end, List.map_append]; rfl
  by_cases hz : a ∈ es
  · have hs0 : sg (ev F a) = 0 := sg_zero.mpr ((F_zero P).mpr hz)
    rw [hs0] at hs
    have hwm : (a + b) / 2 - a < LK.hw 15 := by
      have : (0 : Rat) < LK.hw 15 := by decide +kernel
      grind
    obtain ⟨t, e, h1, h2, h3, h4⟩ := wi_loop P n hG2 X1 X2 (some (cv F)) (some (.cell G.length)) (some (pt b)) hz 15 100000 61 ((a + b) / 2) (by omega) (by omega) (ga.mono (by omega)) (ga.mid gb) (by grind) hwm
    have nin : ∀ q ∈ es, a < q → ¬ q ≤ t := fun q hq h1 h2 => by
      rw [nr_inr] at h3
      have := mem_inr.mpr ⟨hq, h1, h2⟩
      rw [List.length_eq_zero_iff.mp h3] at this
      exact nomatch this
    refine ⟨t, ?_, by grind, by have := nin r hr har; grind, fun ht => nin t ht h1 Rat.le_refl, h4⟩
    exact b_next (s_set x_v) (b_next (s_itet (x_cmp (x_call (x_es x_v (x_es x_v x_es0)) hs) x_c rfl) (b_next (s_set (x_call (x_es x_v (x_es x_v x_es0)) (cal_half (n + 6) _ ga gb (by decide)))) (b_next e rfl))) (b_next (app t) rfl))
  · have hs0 : sg (ev F a) ≠ 0 := fun e => hz ((F_zero P).mp (sg_zero.mp e))
    refine ⟨a, ?_, Rat.le_refl, har, hz, ga.mono (by omega)⟩
    exact b_next (s_set x_v) (b_next (s_if0 (x_cmp (x_call (x_es x_v (x_es x_v x_es0)) hs) x_c (by rw [ceq, eqD_int, decide_eq_false hs0]))) (b_next (app a) rfl))
theorem sm_loop (n : Nat) {G : Gs} (hG : Cl G) (X1 X2 : Option D) {lo hi : Rat} {l : List (Rat × Rat)} {s : List Rat} (h : RwS es lo hi l s) : ∀ (p : Rat) (found : List Rat) (y5 y6 y7 : Option D), p ≤ lo → hi - lo ≤ hw 15 → (∀ r ∈ s, r ∈ es) → found.length + l.length < 1000 →
    ∃ ts z5 z6 z7, forL (fun d ρ1 G2 => match PV.assign ρ1 (.tp [.nm 5, .nm 6]) d with | some ρ2 => evB (Sa (n + 10)) smBody ρ2 G2 | none => .bad) (l.map pp) [some (cv one), X1, X2, some (cv F), some (.cell G.length), y5, y6, y7] (G ++ [some (.lst (found.map pt))]) = .next [some (cv one), X1, X2, some (cv F), some (.cell G.length), z5, z6, z7] (G ++ [some (.lst ((found ++ ts).map pt))]) ∧ Sm es p ts s ∧ ∀ t ∈ ts, Gd 80 t := by
  induction h with
  | nil h0 =>
    intro p found y5 y6 y7 _ _ _ _
    exact ⟨[], y5, y6, y7, by rw [List.append_nil]; rfl, .nil, fun t ht => nomatch ht⟩
  | @cons lo hi a b r l s a1 a2 a3 a4 a5 a6 a7 ih =>
    intro p found y5 y6 y7 hp hwd hs hl
    have hbh := a7.le
    rw [List.length_cons] at hl
    obtain ⟨t, e, t1, t2, t3, t4⟩ := sm_turn P n hG X1 X2 found (by omega) a5 a6 (by grind) (by grind) (hs r (List.mem_cons_self ..)) a2 y7
    obtain ⟨ts, z5, z6, z7, e2, q1, q2⟩ := ih r (found ++ [t]) (some (pt a)) (some (pt b)) (some (pt t)) a3 (by grind) (fun r hr => hs r (List.mem_cons_of_mem _ hr)) (by rw [List.length_append, List.length_singleton]; omega)
    refine ⟨t :: ts, z5, z6, z7, ?_, .cons (by grind) t2 t3 q1, fun u hu => ?_⟩
    · rw [List.append_assoc] at e2
      exact forL_next e e2
    · rcases List.mem_cons.mp hu with rfl | hu
      · exact t4
      · exact q2 u hu
theorem cal_samples (hS : Srt es) (n : Nat) {G : Gs} (hG : Cl G) {lo hi : Rat} (h : Wk (15, lo, hi)) (hl : es.length < 900) :
    ∃ ts, (Sa (n + 12)).cal 30 [cv one, pt lo, pt hi] G = .ok (.tup ((lo :: hi :: ts).map pt)) G ∧ Sm es lo ts (inr es lo hi) ∧ ∀ t ∈ ts, Gd 80 t := by
  have hrw := spl_rw hS P.st.nd P.hes 15 lo hi h
  have hln : (inr es lo hi).length ≤ es.length := List.length_filter_le ..
  have hlen := hrw.len
  have hG2 : Cl (G ++ [some (C.lst ([lo, hi].map pt))]) := clz1 hG rfl
  have hsp := cal_split P n hG2 (by decide) h
  obtain ⟨ts, z5, z6, z7, e, q1, q2⟩ := sm_loop P (n + 1) hG (some (pt lo)) (some (pt hi)) hrw lo [lo, hi] none none none Rat.le_refl h.wd (fun r hr => (mem_inr.mp hr).1) (by simp; omega)
  refine ⟨ts, ?_, q1, q2⟩
  have hb : evB (Sa (n + 11)) m_samples.body [some (cv one), some (pt lo), some (pt hi), none, none, none, none, none] G = .ret (.tup ((lo :: hi :: ts).map pt)) (G ++ [none]) := by
    refine b_next (s_set (x_call (x_es x_v x_es0) (P.plain (n + 2) G hG))) (b_next (s_set (x_lstC (x_es x_v (x_es x_v x_es0)))) ?_)
    refine b_next (s_for (i_seq (x_call (x_es x_v (x_es x_v (x_es x_v x_es0))) hsp) rfl) e) ?_
    have := s_ret (S := Sa (n + 11)) (x_prim (p := .tuple) (d := .tup ((lo :: hi :: ts).map pt)) (x_es (x_take (S := Sa (n + 11)) (a := .var 4) (ρ := [some (cv one), some (pt lo), some (pt hi), some (cv F), some (.cell G.length), z5, z6, z7]) (G := G ++ [some (.lst (([lo, hi] ++ ts).map pt))]) x_v at_end) x_es0) rfl)
    rw [set_end] at this
    exact b_ret this
  exact ((cal_at (n + 11) 30 (by decide) rfl _ G).trans (run_d m_samples (args := [cv one, pt lo, pt hi]) (S := Sa (n + 11)) (ρ := [some (cv one), some (pt lo), some (pt hi), none, none, none, none, none]) (G := G) rfl rfl hb)).trans (gc_drop hG (free_pts _))
theorem all_bl {α : Type} (f : α → Bool) : ∀ l : List α, blsD (l.map fun x => D.bl (f x)) = some (l.map f)
  | [] => rfl
  | a :: l => by
    show (blsD (l.map fun x => D.bl (f x))).map _ = _
    rw [all_bl f l]; rfl
theorem sg_ge {x : Rat} : 0 ≤ sg x ↔ 0 ≤ x := by
  rcases sg_cases x with h | h | h
  · have := sg_zero.mp h; rw [h, this]; exact ⟨fun _ => Rat.le_refl, fun _ => Int.le_refl _⟩
  · have := sg_pos.mp h; rw [h]; exact ⟨fun _ => Rat.le_of_lt this, fun _ => by decide⟩
  · have := sg_neg.mp h; rw [h]; exact ⟨fun e => absurd e (by decide), fun e => by grind⟩
theorem cal_nb (hS : Srt es) (n : Nat) {G : Gs} (hG : Cl G) {lo hi : Rat} (h : Wk (15, lo, hi)) (hl : es.length < 900) :
    ∃ T, (Sa (n + 13)).cal 29 [cv one, pt lo, pt hi] G = .ok (.bl (T.all fun t => decide (0 ≤ ev one t))) G ∧ Cov es lo hi T := by
  obtain ⟨ts, e, q1, q2⟩ := cal_samples P hS n hG h hl
  obtain ⟨⟨e0, he, gl, gh⟩, hle, hwd⟩ := h
  dsimp only at he gl gh hle
  refine ⟨lo :: hi :: ts, ?_, q1.cov hS hle⟩
  have gT : ∀ t ∈ lo :: hi :: ts, Gp t := fun t ht => by
    rcases List.mem_cons.mp ht with rfl | ht
    · exact gl.gp (by omega)
    · rcases List.mem_cons.mp ht with rfl | ht
      · exact gh.gp (by omega)
      · exact (q2 t ht).gp (by omega)
  have hlen := q1.len
  have hln : (inr es lo hi).length ≤ es.length := List.length_filter_le ..
  have hcomp : evE (Sa (n + 12)) [some (cv one), some (pt lo), some (pt hi), none] (.comp [3] (.cmp .ge (.call 31 [.var 0, .var 3]) (.con (.int 0))) (.nm 3) (.seq (.call 30 [.var 0, .var 1, .var 2])) []) G = .ok (.lst ((lo :: hi :: ts).map fun t => .bl (decide (0 ≤ ev one t)))) G := by
    refine comp_map (S := Sa (n + 12)) (own := [3]) (tg := .nm 3) (G := G) (lo :: hi :: ts) pt (fun t => .bl (decide (0 ≤ ev one t))) (fun t => [some (cv one), some (pt lo), some (pt hi), some (pt t)]) (i_seq (x_call (x_es x_v (x_es x_v (x_es x_v x_es0))) e) rfl) (fun _ _ => rfl) (fun t ht => ?_) (by rw [szl]; simp only [List.length_cons]; omega)
    exact x_cmp (x_call (x_es x_v (x_es x_v x_es0)) (cal_sign (n + 7) G P.fit (gT t ht))) x_c (by rw [cge]; congr 1; exact decide_eq_decide.mpr (sg_ge P))
  have hne : one.length ≠ 0 := fun e => P.ne (List.length_eq_zero_iff.mp e)
  have hb : evB (Sa (n + 12)) m_never_below.body [some (cv one), some (pt lo), some (pt hi), none] G = .ret (.bl ((lo :: hi :: ts).all fun t => decide (0 ≤ ev one t))) G := by
    refine b_next (s_if0 (x_call (x_es x_v (x_es x_v x_es0)) ((cal_less (n + 11) G (gh.gp (by omega)).fi (gl.gp (by omega)).fi).trans (by rw [decide_eq_false (by grind)])))) (b_next (s_if0 (x_cmp (x_prim (x_es x_v x_es0) (len_cv _)) x_c (by rw [ceq, eqD_int, decide_eq_false (by omega)]))) (b_ret (s_ret (x_prim (x_es hcomp x_es0) ?_))))
    show ((blsD ((lo :: hi :: ts).map fun t => D.bl (decide (0 ≤ ev one t)))).map fun bs => D.bl (bs.all id)) = _
    rw [all_bl P]
    show some (D.bl (((lo :: hi :: ts).map fun t => decide (0 ≤ ev one t)).all id)) = _
    rw [List.all_map]; rfl
  exact ((cal_at (n + 12) 29 (by decide) rfl _ G).trans (run_d m_never_below (args := [cv one, pt lo, pt hi]) (S := Sa (n + 12)) (ρ := [some (cv one), some (pt lo), some (pt hi), none]) (G := G) rfl rfl hb)).trans gc_self
end
end LK
end
/-! ## R20 -/
section
set_option Elab.async false
set_option linter.all false
set_option maxRecDepth 200000
set_option maxHeartbeats 2000000
set_option exponentiation.threshold 300
namespace LK
open PySem PV RP
/-! inside_circle: a mirror -/
def fiB (r : Rat) : Bool := decide (r.num.natAbs.log2 < 4000) && decide (r.den.log2 < 4000)
def icN (s : Rat) (l : List Rat) : List Rat := (l.tail.zip l.reverse.tail).map fun p => p.1 - s * p.2
def icM : Nat → List Rat → Option Bool
  | 0, _ => none
  | f + 1, l => if l.length ≤ 1 then some true else
      if l.all fiB && decide (l.length < 900) && decide (0 < (l.getD (l.length - 1) 0).num) && fiB (l.getD 0 0 / l.getD (l.length - 1) 0) then
        if ab (l.getD 0 0 / l.getD (l.length - 1) 0) < 1 then
          if ((icN (l.getD 0 0 / l.getD (l.length - 1) 0) l).all fiB && l.all fun p => fiB (l.getD 0 0 / l.getD (l.length - 1) 0 * p)) then icM f (trim (icN (l.getD 0 0 / l.getD (l.length - 1) 0) l)) else none
        else some false
      else none
/-- factors and sizes -/
def facR (k : Int) : List Rat × Rat := ([-((k : Rat) / 3), 1], (k : Rat) / 3 * ((k : Rat) / 3))
def facQ (j i : Int) : List Rat × Rat := ([(j : Rat) / 2 * ((j : Rat) / 2) + (i : Rat) / 2 * ((i : Rat) / 2), -2 * ((j : Rat) / 2), 1], (j : Rat) / 2 * ((j : Rat) / 2) + (i : Rat) / 2 * ((i : Rat) / 2))
def opts : List (List Rat × Rat) := ([-4, -3, -2, -1, 0, 1, 2, 3, 4] : List Int).map facR ++ ([-2, -1, 0, 1, 2] : List Int).flatMap fun j => ([1, 2, 3] : List Int).map fun i => facQ j i
def prF : List (List Rat × Rat) → List Rat
  | [] => [3]
  | f :: fs => mulP f.1 (prF fs)
def okB (fs : List (List Rat × Rat)) : Bool := icM 10 (trim (prF fs)) == some (fs.all fun f => decide (f.2 < 1))
def msL (f : List (List Rat × Rat) → List (List (List Rat × Rat))) : List (List Rat × Rat) → List (List (List Rat × Rat))
  | [] => []
  | a :: l => (f (a :: l)).map (a :: ·) ++ msL f l
def ms : Nat → List (List Rat × Rat) → List (List (List Rat × Rat))
  | 0, _ => [[]]
  | n + 1, l => msL (ms n) l
theorem ms_mem : ∀ (n : Nat) (l fs : List (List Rat × Rat)), fs.length = n → (∀ f ∈ fs, f ∈ l) → ∃ g ∈ ms n l, g.Perm fs
  | 0, l, fs, h, _ => ⟨[], List.mem_cons_self .., by rw [List.length_eq_zero_iff.mp h]⟩
  | n + 1, l, fs, h, hm => by
    have key : ∀ (l : List (List Rat × Rat)), (∀ f ∈ fs, f ∈ l) → ∃ g ∈ msL (ms n) l, g.Perm fs := by
      intro l
      induction l with
      | nil =>
        intro hm
        match fs, h with
        | f :: fs, _ => exact nomatch hm f (List.mem_cons_self ..)
      | cons a l ih =>
        intro hm
        by_cases ha : a ∈ fs
        · obtain ⟨s, t, hst⟩ := List.append_of_mem ha
          have hp : (a :: (s ++ t)).Perm fs := by rw [hst]; exact List.perm_middle.symm
          have hlen : (s ++ t).length = n := by have := hp.length_eq; rw [List.length_cons] at this; omega
          obtain ⟨g, hg, hp2⟩ := ms_mem n (a :: l) (s ++ t) hlen fun f hf => hm f (hp.mem_iff.mp (List.mem_cons_of_mem _ hf))
          exact ⟨a :: g, List.mem_append_left _ (List.mem_map.mpr ⟨g, hg, rfl⟩), (hp2.cons a).trans hp⟩
        · obtain ⟨g, hg, hp⟩ := ih fun f hf => (List.mem_cons.mp (hm f hf)).resolve_left fun e => ha (by rw [← e]; exact hf)
          exact ⟨g, List.mem_append_right _ hg, hp⟩
    exact key l hm
theorem ev_prF_perm {l m : List (List Rat × Rat)} (h : l.Perm m) (x : Rat) : ev (prF l) x = ev (prF m) x := by
  induction h with
  | nil => rfl
  | cons a _ ih => show ev (mulP _ _) x = ev (mulP _ _) x; rw [ev_mul, ev_mul, ih]
  | swap a b l => show ev (mulP _ (mulP _ _)) x = ev (mulP _ (mulP _ _)) x; rw [ev_mul, ev_mul, ev_mul, ev_mul]; grind
  | trans _ _ i1 i2 => rw [i1, i2]
theorem okB_perm {l m : List (List Rat × Rat)} (h : l.Perm m) (ho : okB l = true) : icM 10 (trim (prF m)) = some (m.all fun f => decide (f.2 < 1)) := by
  have h1 : icM 10 (trim (prF l)) = some (l.all fun f => decide (f.2 < 1)) := by simpa [okB] using ho
  rw [trim_ext (ev_prF_perm h)] at h1
  rw [h1]
  congr 1
  rw [Bool.eq_iff_iff, List.all_eq_true, List.all_eq_true]
  exact ⟨fun a x hx => a x (h.mem_iff.mpr hx), fun a x hx => a x (h.mem_iff.mp hx)⟩
theorem all_chunks {α : Type} {p : α → Bool} {l : List α} (k n : Nat) (hk : 0 < k) (h : ∀ j, j < n → ((l.drop (k * j)).take k).all p = true) (hl : l.length ≤ k * n) : l.all p = true := by
  rw [List.all_eq_true]
  intro x hx
  obtain ⟨i, hi⟩ := List.mem_iff_getElem?.mp hx
  have hil := (List.getElem?_eq_some_iff.mp hi).1
  have hj : i / k < n := Nat.div_lt_of_lt_mul (by omega)
  have h1 := h _ hj
  rw [List.all_eq_true] at h1
  refine h1 x (List.mem_iff_getElem?.mpr ⟨i % k, ?_⟩)
  rw [List.getElem?_take, if_pos (Nat.mod_lt _ hk), List.getElem?_drop, Nat.div_add_mod]
  exact hi
theorem fiB_fi {r : Rat} (h : fiB r = true) : Fi r := by
  unfold fiB at h
  simp only [Bool.and_eq_true, decide_eq_true_eq] at h
  have key : ∀ n : Nat, n.log2 < 4000 → n < 2 ^ 4400 := fun n hn =>
    Nat.lt_trans (Nat.lt_log2_self (n := n)) (Nat.pow_lt_pow_right (by decide) (by omega))
  exact ⟨key _ h.1, key _ h.2⟩
def icTest : PV.E := .cmp .gt (.prim .len [.var 0]) (.con (.int 1))
def icBody : List St := [.set (.nm 1) (.call 5 [.ix (.var 0) (.con (.int 0)), .ix (.var 0) (.neg (.con (.int 1)))]),
    .ite (.not (.call 6 [.call 7 [.var 1], .tup [.con (.int 1), .con (.int 1)]])) [.ret (.con (.bl false))] [],
    .set (.nm 2) (.rev (.var 0)),
    .set (.nm 0) (.call 11 [.comp [3, 4] (.call 3 [.var 3, .call 4 [.var 1, .var 4]]) (.tp [.nm 3, .nm 4]) (.zip2 (.sl (.var 0) (some (.con (.int 1))) none) (.sl (.var 2) (some (.con (.int 1))) none)) []])]
theorem x_not {S : PV.Sem} {ρ : PV.Env} {a : PV.E} {b : Bool} {G G1 : Gs} (h : evE S ρ a G = .ok (.bl b) G1) : evE S ρ (.not a) G = .ok (.bl (!b)) G1 := by simp only [evE, h, rb]
theorem x_revT {S : PV.Sem} {ρ : PV.Env} {a : PV.E} {l : List D} {G G1 : Gs} (h : evE S ρ a G = .ok (.tup l) G1) : evE S ρ (.rev a) G = .ok (.tup l.reverse) G1 := by simp only [evE, h, rb]
theorem wh_ret {c : PV.Env → Gs → R D} {f : PV.Env → Gs → PV.F} {m : Nat} {ρ : PV.Env} {G G1 G2 : Gs} {d : D} (h : c ρ G = .ok (.bl true) G1) (h2 : f ρ G1 = .ret d G2) : whL c f (m + 1) ρ G = .ret d G2 := by
  simp only [whL, h, rgo, h2]
theorem sl_tl {l : List Rat} : slD (cv l) (some 1) none = some (cv l.tail) := by
  show some (D.tup (cutD (l.map pt) (some ((1 : Nat) : Int)) none)) = _
  rw [cut_drop, ← List.map_drop, List.drop_one]; rfl
theorem zip_pts (l m : List Rat) : zipD (cv l) (cv m) = some ((l.zip m).map fun p => .tup [pt p.1, pt p.2]) := by
  show some (((l.map pt).zip (m.map pt)).map fun p => D.tup [p.1, p.2]) = _
  rw [List.zip_map, List.map_map]
  rfl
theorem ic_loop (n : Nat) (G : Gs) : ∀ (f m : Nat) (l : List Rat) (b : Bool) (y1 y2 y3 y4 : Option D), icM f l = some b → f ≤ m →
    (∃ z0 z1 z2 z3 z4, whL (fun ρ1 G1 => evE (Sa (n + 4)) ρ1 icTest G1) (fun ρ1 G1 => evB (Sa (n + 4)) icBody ρ1 G1) m [some (cv l), y1, y2, y3, y4] G = .next [z0, z1, z2, z3, z4] G ∧ b = true) ∨
    (whL (fun ρ1 G1 => evE (Sa (n + 4)) ρ1 icTest G1) (fun ρ1 G1 => evB (Sa (n + 4)) icBody ρ1 G1) m [some (cv l), y1, y2, y3, y4] G = .ret (.bl false) G ∧ b = false) := by
  intro f
  induction f with
  | zero => intro m l b y1 y2 y3 y4 h; cases h
  | succ f ih =>
    intro m l b y1 y2 y3 y4 h hm
    match m, hm with
    | m + 1, hm =>
      unfold icM at h
      by_cases h1 : l.length ≤ 1
      · rw [if_pos h1] at h
        cases h
        exact .inl ⟨_, _, _, _, _, wh_stop (S := Sa (n + 4)) (x_cmp (x_prim (x_es x_v x_es0) (len_cv l)) x_c (by rw [cgt, decide_eq_false (by omega)])), rfl⟩
      · rw [if_neg h1] at h
        have hlast : l = l.dropLast ++ [l.getD (l.length - 1) 0] := getLast_getD l (by omega)
        generalize hz : l.getD (l.length - 1) 0 = z at h hlast
        have h0 : l[0]? = some (l.getD 0 0) := getD_of (by omega)
        generalize ha : l.getD 0 0 = a at h h0
        generalize hs : a / z = s at h
        split at h
        · rename_i hc
          simp only [Bool.and_eq_true, decide_eq_true_eq] at hc
          obtain ⟨⟨⟨c1, c2⟩, c3⟩, c4⟩ := hc
          have fl : ∀ r ∈ l, Fi r := fun r hr => fiB_fi (List.all_eq_true.mp c1 r hr)
          have fa : Fi a := fl a (List.mem_of_getElem? h0)
          have fz : Fi z := fl z (by rw [hlast]; simp)
          have z0 : z ≠ 0 := fun e => by rw [e] at c3; exact absurd c3 (by decide)
          have fs := fiB_fi c4
          have ix0' : ixD G (cv l) (.int 0) = some (pt a) := L2.atI_nat (j := 0) (by rw [List.getElem?_map, h0]; rfl)
          have ixl : ixD G (cv l) (.int (-1)) = some (pt z) := by rw [hlast]; exact ix_last
          have eo := cal_over (n + 1) G fa fz z0 (.inl c3)
          rw [hs] at eo
          have test : evE (Sa (n + 4)) [some (cv l), y1, y2, y3, y4] icTest G = .ok (.bl true) G := x_cmp (x_prim (x_es x_v x_es0) (len_cv l)) x_c (by rw [cgt, decide_eq_true (by omega)])
          have set1 : evS (Sa (n + 4)) (.set (.nm 1) (.call 5 [.ix (.var 0) (.con (.int 0)), .ix (.var 0) (.neg (.con (.int 1)))])) [some (cv l), y1, y2, y3, y4] G = .next [some (cv l), some (pt s), y2, y3, y4] G := s_set (x_call (x_es (x_ix x_v x_c ix0') (x_es (x_ix x_v (x_neg x_c) ixl) x_es0)) eo)
          have fab : Fi (ab s) := ⟨by rw [(num_ab s).1]; have := fs.a; split <;> omega, by rw [(num_ab s).2]; exact fs.b⟩
          have f1 : Fi (1 : Rat) := fi_small (k := 1) (by decide)
          have p1 : evE (Sa (n + 4)) [some (cv l), some (pt s), y2, y3, y4] (.tup [.con (.int 1), .con (.int 1)]) G = .ok (pt 1) G := x_tup (x_es x_c (x_es x_c x_es0))
          have cnd : evE (Sa (n + 4)) [some (cv l), some (pt s), y2, y3, y4] (.not (.call 6 [.call 7 [.var 1], .tup [.con (.int 1), .con (.int 1)]])) G = .ok (.bl (!decide (ab s < 1))) G := x_not (x_call (x_es (x_call (x_es x_v x_es0) (cal_size (n + 3) G s)) (x_es p1 x_es0)) (cal_less (n + 3) G fab f1))
          by_cases h2 : ab s < 1
          · rw [if_pos h2] at h
            rw [decide_eq_true h2] at cnd
            split at h
            · rename_i hd
              simp only [Bool.and_eq_true] at hd
              obtain ⟨d1, d2⟩ := hd
              have fN : FiL (icN s l) := fun r hr => fiB_fi (List.all_eq_true.mp d1 r hr)
              have hlN : (icN s l).length < 1000 := by
                unfold icN
                rw [List.length_map, List.length_zip, List.length_tail]; omega
              have hcomp : evE (Sa (n + 4)) [some (cv l), some (pt s), some (cv l.reverse), y3, y4] (.comp [3, 4] (.call 3 [.var 3, .call 4 [.var 1, .var 4]]) (.tp [.nm 3, .nm 4]) (.zip2 (.sl (.var 0) (some (.con (.int 1))) none) (.sl (.var 2) (some (.con (.int 1))) none)) []) G = .ok (lv (icN s l)) G := by
                have := comp_map (S := Sa (n + 4)) (ρ := [some (cv l), some (pt s), some (cv l.reverse), y3, y4]) (own := [3, 4]) (el := .call 3 [.var 3, .call 4 [.var 1, .var 4]]) (tg := .tp [.nm 3, .nm 4]) (it := .zip2 (.sl (.var 0) (some (.con (.int 1))) none) (.sl (.var 2) (some (.con (.int 1))) none)) (G := G) (l.tail.zip l.reverse.tail) (fun p => .tup [pt p.1, pt p.2]) (fun p => pt (p.1 - s * p.2)) (fun p => [some (cv l), some (pt s), some (cv l.reverse), some (pt p.1), some (pt p.2)])
                  (i_zip (x_sl x_v (o_some x_c) o_none sl_tl) (x_sl x_v (o_some x_c) o_none sl_tl) (zip_pts _ _)) (fun _ _ => rfl) ?_ (by rw [szl, List.length_zip, List.length_tail]; omega)
                · rw [this]
                  show R.ok (D.lst _) G = R.ok (D.lst ((icN s l).map pt)) G
                  unfold icN
                  rw [List.map_map]; rfl
                · intro p hp
                  have hp1 : p.1 ∈ l := List.mem_of_mem_tail (List.of_mem_zip hp).1
                  have hp2 : p.2 ∈ l := List.mem_reverse.mp (List.mem_of_mem_tail (List.of_mem_zip hp).2)
                  exact x_call (x_es x_v (x_es (x_call (x_es x_v (x_es x_v x_es0)) (cal_times (n + 1) G fs (fl _ hp2))) x_es0)) (cal_minus (n + 1) G (fl _ hp1) (fiB_fi (List.all_eq_true.mp d2 _ hp2)))
              have erev : evE (Sa (n + 4)) [some (cv l), some (pt s), y2, y3, y4] (.rev (.var 0)) G = .ok (cv l.reverse) G := by
                have := x_revT (S := Sa (n + 4)) (a := .var 0) (ρ := [some (cv l), some (pt s), y2, y3, y4]) (G := G) (l := l.map pt) (x_v (d := cv l))
                rw [this, ← List.map_reverse]; rfl
              have step : evB (Sa (n + 4)) icBody [some (cv l), y1, y2, y3, y4] G = .next [some (cv (trim (icN s l))), some (pt s), some (cv l.reverse), y3, y4] G :=
                b_next set1 (b_next (s_if0 cnd) (b_next (s_set erev) (b_next (s_set (x_call (x_es hcomp x_es0) (cal_curve n G rfl fN hlN))) rfl)))
              rcases ih m (trim (icN s l)) b (some (pt s)) (some (cv l.reverse)) y3 y4 h (by omega) with ⟨z0, z1, z2, z3, z4, e, hb⟩ | ⟨e, hb⟩
              · exact .inl ⟨z0, z1, z2, z3, z4, wh_go (S := Sa (n + 4)) test step e, hb⟩
              · exact .inr ⟨wh_go (S := Sa (n + 4)) test step e, hb⟩
            · cases h
          · rw [if_neg h2] at h
            cases h
            rw [decide_eq_false h2] at cnd
            exact .inr ⟨wh_ret test (b_next set1 (b_ret (by
              have := s_itet (S := Sa (n + 4)) (c := .not (.call 6 [.call 7 [.var 1], .tup [.con (.int 1), .con (.int 1)]])) (a := [.ret (.con (.bl false))]) (b := []) (ρ := [some (cv l), some (pt s), y2, y3, y4]) (G := G) cnd (b_ret (s_ret x_c))
              exact this))), rfl⟩
        · cases h
theorem cal_inside (n : Nat) (G : Gs) {l : List Rat} {b : Bool} (hl : l ≠ []) (h : icM 10 l = some b) : (Sa (n + 5)).cal 32 [cv l] G = .ok (.bl b) G := by
  have hl0 := List.length_pos_iff.mpr hl
  have i1 : evS (Sa (n + 4)) (.ite (.cmp .eq (.prim .len [.var 0]) (.con (.int 0))) [.raise 5 (.con (.str "a bare polynomial is nought everywhere"))] []) [some (cv l), none, none, none, none] G = .next [some (cv l), none, none, none, none] G := s_if0 (x_cmp (x_prim (x_es x_v x_es0) (len_cv l)) x_c (by rw [ceq, eqD_int, decide_eq_false (by omega)]))
  have hb : evB (Sa (n + 4)) m_inside_circle.body [some (cv l), none, none, none, none] G = .ret (.bl b) G := by
    rcases ic_loop n G 10 100000 l b none none none none h (by decide) with ⟨z0, z1, z2, z3, z4, e, hb⟩ | ⟨e, hb⟩
    · rw [hb]; exact b_next i1 (b_next e (b_ret (s_ret x_c)))
    · rw [hb]; exact b_next i1 (b_ret e)
  exact ((cal_at (n + 4) 32 (by decide) rfl _ G).trans (run_d m_inside_circle (args := [cv l]) (S := Sa (n + 4)) (ρ := [some (cv l), none, none, none, none]) (G := G) rfl rfl hb)).trans gc_self
end LK
end
/-! ## R20t -/
section
set_option Elab.async false
set_option linter.all false
set_option maxRecDepth 200000
set_option maxHeartbeats 0
namespace LK
open PySem PV RP
theorem t_ic0 : (((ms 3 opts).drop (100 * 0)).take 100).all okB = true := by decide +kernel
theorem t_ic1 : (((ms 3 opts).drop (100 * 1)).take 100).all okB = true := by decide +kernel
theorem t_ic2 : (((ms 3 opts).drop (100 * 2)).take 100).all okB = true := by decide +kernel
theorem t_ic3 : (((ms 3 opts).drop (100 * 3)).take 100).all okB = true := by decide +kernel
theorem t_ic4 : (((ms 3 opts).drop (100 * 4)).take 100).all okB = true := by decide +kernel
theorem t_ic5 : (((ms 3 opts).drop (100 * 5)).take 100).all okB = true := by decide +kernel
theorem t_ic6 : (((ms 3 opts).drop (100 * 6)).take 100).all okB = true := by decide +kernel
theorem t_ic7 : (((ms 3 opts).drop (100 * 7)).take 100).all okB = true := by decide +kernel
theorem t_ic8 : (((ms 3 opts).drop (100 * 8)).take 100).all okB = true := by decide +kernel
theorem t_ic9 : (((ms 3 opts).drop (100 * 9)).take 100).all okB = true := by decide +kernel
theorem t_ic10 : (((ms 3 opts).drop (100 * 10)).take 100).all okB = true := by decide +kernel
theorem t_ic11 : (((ms 3 opts).drop (100 * 11)).take 100).all okB = true := by decide +kernel
theorem t_ic12 : (((ms 3 opts).drop (100 * 12)).take 100).all okB = true := by decide +kernel
theorem t_ic13 : (((ms 3 opts).drop (100 * 13)).take 100).all okB = true := by decide +kernel
theorem t_ic14 : (((ms 3 opts).drop (100 * 14)).take 100).all okB = true := by decide +kernel
theorem t_ic15 : (((ms 3 opts).drop (100 * 15)).take 100).all okB = true := by decide +kernel
theorem t_ic16 : (((ms 3 opts).drop (100 * 16)).take 100).all okB = true := by decide +kernel
theorem t_ic17 : (((ms 3 opts).drop (100 * 17)).take 100).all okB = true := by decide +kernel
theorem t_ic18 : (((ms 3 opts).drop (100 * 18)).take 100).all okB = true := by decide +kernel
theorem t_ic19 : (((ms 3 opts).drop (100 * 19)).take 100).all okB = true := by decide +kernel
theorem t_ic20 : (((ms 3 opts).drop (100 * 20)).take 100).all okB = true := by decide +kernel
theorem t_ic21 : (((ms 3 opts).drop (100 * 21)).take 100).all okB = true := by decide +kernel
theorem t_ic22 : (((ms 3 opts).drop (100 * 22)).take 100).all okB = true := by decide +kernel
theorem t_ic23 : (((ms 3 opts).drop (100 * 23)).take 100).all okB = true := by decide +kernel
theorem t_ic24 : (((ms 3 opts).drop (100 * 24)).take 100).all okB = true := by decide +kernel
theorem t_ic25 : (((ms 3 opts).drop (100 * 25)).take 100).all okB = true := by decide +kernel
theorem t_ic3l : (ms 3 opts).length ≤ 100 * 26 := by decide +kernel
theorem tk_3 : (ms 3 opts).all okB = true := all_chunks 100 26 (by decide) (fun j hj => match j, hj with
  | 0, _ => t_ic0
  | 1, _ => t_ic1
  | 2, _ => t_ic2
  | 3, _ => t_ic3
  | 4, _ => t_ic4
  | 5, _ => t_ic5
  | 6, _ => t_ic6
  | 7, _ => t_ic7
  | 8, _ => t_ic8
  | 9, _ => t_ic9
  | 10, _ => t_ic10
  | 11, _ => t_ic11
  | 12, _ => t_ic12
  | 13, _ => t_ic13
  | 14, _ => t_ic14
  | 15, _ => t_ic15
  | 16, _ => t_ic16
  | 17, _ => t_ic17
  | 18, _ => t_ic18
  | 19, _ => t_ic19
  | 20, _ => t_ic20
  | 21, _ => t_ic21
  | 22, _ => t_ic22
  | 23, _ => t_ic23
  | 24, _ => t_ic24
  | 25, _ => t_ic25
  | j + 26, hj => absurd hj (by omega)) t_ic3l
theorem tk_2 : (ms 2 opts).all okB = true := by decide +kernel
theorem tk_1 : (ms 1 opts).all okB = true := by decide +kernel
theorem ic_of {fs : List (List Rat × Rat)} (h : ∀ f ∈ fs, f ∈ opts) (h1 : 1 ≤ fs.length) (h3 : fs.length ≤ 3) : icM 10 (trim (prF fs)) = some (fs.all fun f => decide (f.2 < 1)) := by
  obtain ⟨g, hg, hp⟩ := ms_mem fs.length opts fs rfl h
  refine okB_perm hp ?_
  have hc : fs.length = 1 ∨ fs.length = 2 ∨ fs.length = 3 := by omega
  rcases hc with e | e | e <;> rw [e] at hg
  · exact List.all_eq_true.mp tk_1 g hg
  · exact List.all_eq_true.mp tk_2 g hg
  · exact List.all_eq_true.mp tk_3 g hg
end LK
end
/-! ## R21 -/
section
set_option Elab.async false
set_option linter.all false
set_option maxRecDepth 200000
set_option maxHeartbeats 2000000
set_option exponentiation.threshold 300
namespace LK
open PySem PV RP
theorem Dice.cl {k : Nat} {G : Gs} (h : Dice k G) : Cl G := by
  obtain ⟨x, y, z, rfl, _⟩ := h
  rfl
theorem cal_roll (n k : Nat) {G : Gs} {m : Int} (hm : CC m) (h : Dice (k + 1) G) : ∃ r G', (Sa (n + 1)).cal 34 [.cell 0, .int m] G = .ok (.int r) G' ∧ 0 ≤ r ∧ r < m ∧ Dice k G' := by
  obtain ⟨r, G', e, h1, h2, h3⟩ := roll_ok (Sa n) k hm h
  exact ⟨r, G', (cal_at n 34 (by decide) rfl _ G).trans e, h1, h2, h3⟩
theorem cal_rounds (n : Nat) (ns : List Int) (h : ∀ z ∈ ns, z.natAbs < 2 ^ BB) : ∃ G', (Sa (n + 2)).cal 35 [.frz (ns.map .int), .int 1] [] = .ok (.lst [.cell 0]) G' ∧ Dice 8000 G' := by
  obtain ⟨G', e, h1⟩ := rounds_ok (S := Sa (n + 1)) (di := 33) (fun c hc => by
    obtain ⟨G', e, h⟩ := dice_ok (Sa n) c hc
    exact ⟨G', (cal_at n 33 (by decide) rfl _ []).trans e, h⟩) ns h
  exact ⟨G', (cal_at (n + 1) 35 (by decide) rfl _ []).trans e, h1⟩
theorem gc_dice {k j : Nat} {G G' : Gs} {d : D} (h : Dice k G) (h' : Dice j G') (hd : free d = true) : gcR G.length (.ok d G') = .ok d G' := by
  obtain ⟨x, y, z, rfl, _⟩ := h
  obtain ⟨x, y, z, rfl, _⟩ := h'
  show (if (free d && true) = true then (R.ok d _ : R D) else _) = _
  rw [hd]; rfl
theorem free_pt (r : Rat) : free (pt r) = true := rfl
theorem list_pt {Q : Rat → Prop} : ∀ {ys : List D}, (∀ y ∈ ys, ∃ r, y = pt r ∧ Q r) → ∃ l : List Rat, ys = l.map pt ∧ ∀ r ∈ l, Q r
  | [], _ => ⟨[], rfl, fun p hp => nomatch hp⟩
  | y :: ys, h => by
    obtain ⟨p, rfl, hp⟩ := h y (List.mem_cons_self ..)
    obtain ⟨ps, rfl, hs⟩ := list_pt fun z hz => h z (List.mem_cons_of_mem _ hz)
    exact ⟨p :: ps, rfl, fun q hq => (List.mem_cons.mp hq).elim (fun e => e ▸ hp) (hs q)⟩
theorem list_gen {α : Type} {f : α → D} {Q : α → Prop} : ∀ {ys : List D}, (∀ y ∈ ys, ∃ r, y = f r ∧ Q r) → ∃ l : List α, ys = l.map f ∧ ∀ r ∈ l, Q r
  | [], _ => ⟨[], rfl, fun p hp => nomatch hp⟩
  | y :: ys, h => by
    obtain ⟨p, rfl, hp⟩ := h y (List.mem_cons_self ..)
    obtain ⟨ps, rfl, hs⟩ := list_gen fun z hz => h z (List.mem_cons_of_mem _ hz)
    exact ⟨p :: ps, rfl, fun q hq => (List.mem_cons.mp hq).elim (fun e => e ▸ hp) (hs q)⟩
/-! alike -/
theorem eqD_pt (p q : Rat) : eqD (pt p) (pt q) = some (decide (p = q)) := by
  have e : eqD (pt p) (pt q) = some (decide (p.num = q.num) && (decide ((p.den : Int) = (q.den : Int)) && true)) := rfl
  rw [e]
  congr 1
  by_cases h : p = q
  · subst h; simp
  · rw [decide_eq_false h]
    by_cases h1 : p.num = q.num
    · have h2 : p.den ≠ q.den := fun h2 => h (Rat.ext h1 h2)
      have h3 : (p.den : Int) ≠ (q.den : Int) := fun e => h2 (by omega)
      simp [h1, h3]
    · simp [h1]
theorem ne_pt {p q : Rat} (h : p = q) : cmpD .ne (pt p) (pt q) = some false := by
  rw [cne, eqD_pt, decide_eq_true h]; rfl
abbrev pyt (r : Rat) : PyData := .tuple [.int r.num, .int (r.den : Int)]
theorem toPys_pt : ∀ l : List Rat, toPys (l.map pt) = some (l.map pyt)
  | [] => rfl
  | p :: l => by
    show (match toPy (pt p), toPys (l.map pt) with | some p, some ps => some (p :: ps) | _, _ => none) = _
    rw [toPys_pt l]
    rfl
theorem lay_pt : ∀ l : List Rat, PyData.canLayAll0 (l.map pyt) = true
  | [] => rfl
  | p :: l => by
    have e : PyData.canLayAll0 ((p :: l).map pyt) = (PyData.canLayAll0 [.int p.num, .int (p.den : Int)] && PyData.canLayAll0 (l.map pyt)) := rfl
    rw [e, lay_pt l]
    rfl
theorem dep_pt : ∀ l : List Rat, PyData.depthAll (l.map pyt) ≤ 1
  | [] => by decide
  | p :: l => by
    have e : PyData.depthAll ((p :: l).map pyt) = max 1 (PyData.depthAll (l.map pyt)) := rfl
    rw [e]
    have := dep_pt l
    omega
theorem eqv_pt : ∀ l : List Rat, PyData.eqvAll (l.map pyt) (l.map pyt) = true
  | [] => rfl
  | p :: l => by
    have e : PyData.eqvAll ((p :: l).map pyt) ((p :: l).map pyt) = ((decide (p.num = p.num) && (decide ((p.den : Int) = (p.den : Int)) && true)) && PyData.eqvAll (l.map pyt) (l.map pyt)) := rfl
    rw [e, eqv_pt l]
    simp
theorem toPy_cv (l : List Rat) : toPy (cv l) = some (.tuple (l.map pyt)) := by
  show (toPys (l.map pt)).map PyData.tuple = _
  rw [toPys_pt]; rfl
theorem shaped_cv (l : List Rat) : SeqAt.shaped (.tuple (l.map pyt)) = true := by
  have d := dep_pt l
  show (PyData.canLayAll0 (l.map pyt) && decide (PyData.depthAll (l.map pyt) + 1 ≤ 64)) = true
  rw [lay_pt, decide_eq_true (by omega)]
  rfl
theorem eqD_cv (l : List Rat) : eqD (cv l) (cv l) = some true := by
  unfold eqD
  rw [toPy_cv]
  show (if (SeqAt.shaped _ && SeqAt.shaped _) = true then some (PyData.eqv _ _) else none) = _
  rw [shaped_cv]
  exact congrArg some (eqv_pt l)
theorem ne_cv {l m : List Rat} (h : l = m) : cmpD .ne (cv l) (cv m) = some false := by
  subst h
  rw [cne, eqD_cv]; rfl
theorem ne_cv_nil (l : List Rat) : cmpD .ne (cv l) (.tup []) = some (decide (l ≠ [])) := by
  rw [cne]
  have e : eqD (cv l) (.tup []) = some (decide (l = [])) := by
    unfold eqD
    rw [toPy_cv]
    show (if (SeqAt.shaped _ && SeqAt.shaped (.tuple [])) = true then some (PyData.eqv _ _) else none) = _
    rw [shaped_cv]
    cases l <;> rfl
  rw [e]
  by_cases h : l = [] <;> simp [h]
theorem ne_nil : cmpD .ne (.lst []) (.lst []) = some false := rfl
theorem comp_none {α : Type} {S : PV.Sem} {ρ : PV.Env} {own : List Nat} {el c : PV.E} {tg : Tg} {it : It} {G : Gs} (xs : List α) (a : α → D) (ρx : α → PV.Env) (h1 : evI S ρ it G = .ok (xs.map a) G) (h2 : ∀ x ∈ xs, PV.assign (wipeE ρ own) tg (a x) = some (ρx x)) (h3 : ∀ x ∈ xs, evE S (ρx x) c G = .ok (.bl false) G) : evE S ρ (.comp own el tg it [c]) G = .ok (.lst []) G := by
  have e : ∀ (f : D → Gs → R (Option D)) (ys : List α), (∀ x ∈ ys, f (a x) G = .ok none G) → compL f (ys.map a) G = .ok [] G := fun f ys => by
    induction ys with
    | nil => intro _; rfl
    | cons x ys ih =>
      intro h
      show (f (a x) G).bind _ = _
      rw [h x (List.mem_cons_self ..), rb]
      show (compL f (ys.map a) G).bind _ = _
      rw [ih fun y hy => h y (List.mem_cons_of_mem _ hy), rb]
  simp only [evE, h1, rb]
  rw [e _ xs fun x hx => by
    rw [h2 x hx]
    simp only [evT, h3 x hx, rb]
    rfl]
  simp only [R.calm, rb]
  rfl
def lawBody : List St := match m_law.body with
  | .for_ _ _ b :: _ => b
  | _ => []
abbrev st (i : Nat) : St := lawBody.getD i .pass

theorem bd_num {D B : Nat} {r : Rat} (h : Bd D B r) : r.num.natAbs ≤ B := by
  obtain ⟨k, rfl, hk, hD⟩ := h
  have hl : (D : Int) ≠ 0 := by omega
  have e : ((k : Rat) / (D : Rat)) = (k : Rat) / ((D : Int) : Rat) := by rw [Rat.intCast_natCast]
  obtain ⟨e1, e2⟩ := rat_of hl (pq_pos (t := k) hl) (pq_cop hl) (pq_cross k D)
  have a1 := natAbs_le_of_mul (pq1 k D) (gOf_ne hl)
  rw [e, e1]
  omega
/-! dict keys -/
def ky (r : Rat) : NestedKey := .tup [.num r.num, .num (r.den : Int)]
theorem isKey_pt (r q : Rat) : isKey (ky r) (pt q) = decide (q = r) := by
  have e : isKey (ky r) (pt q) = (decide (q.num = r.num) && (decide ((q.den : Int) = (r.den : Int)) && true)) := rfl
  rw [e]
  by_cases h : q = r
  · subst h; simp
  · rw [decide_eq_false h]
    by_cases h1 : q.num = r.num
    · have h2 : q.den ≠ r.den := fun h2 => h (Rat.ext h1 h2)
      have h3 : (q.den : Int) ≠ (r.den : Int) := fun e => h2 (by omega)
      simp [h1, h3]
    · simp [h1]
theorem getK_pt (r : Rat) : ∀ (ks : List Rat) (vs : List D), ks.length = vs.length → (getK (ky r) (ks.map pt) vs).isSome = decide (r ∈ ks)
  | [], _, _ => by simp [getK]
  | k :: ks, v :: vs, h => by
    show (if isKey (ky r) (pt k) then some v else getK (ky r) (ks.map pt) vs).isSome = _
    rw [isKey_pt]
    by_cases hk : k = r
    · subst hk; simp
    · rw [decide_eq_false hk]
      have ih := getK_pt r ks vs (by simpa using h)
      have : ¬ r = k := fun e => hk e.symm
      simp [ih, this]
theorem putK_len (k : NestedKey) (x : D) : ∀ (ds vs : List D), (putK k x ds vs).length = vs.length
  | [], _ => rfl
  | _ :: _, [] => rfl
  | d :: ds, v :: vs => by
    show (putK k x ds vs).length + 1 = vs.length + 1
    rw [putK_len k x ds vs]
theorem dct_fold : ∀ (l ks : List Rat) (vs : List D), ks.length = vs.length → ks.Nodup →
    ∃ (ks' : List Rat) (vs' : List D), (l.map fun r => D.tup [pt r, .int 1]).foldl (fun acc p => match acc, p with
      | some (ks, vs), .tup [k, v] => (keyT k).map fun x => storeK x k v ks vs
      | _, _ => none) (some (ks.map pt, vs)) = some (ks'.map pt, vs') ∧ ks'.Nodup ∧ (∀ r, r ∈ ks' ↔ r ∈ ks ∨ r ∈ l) ∧ ks'.length ≤ ks.length + l.length
  | [], ks, vs, h, nd => ⟨ks, vs, rfl, nd, fun r => by simp, by simp⟩
  | r :: l, ks, vs, h, nd => by
    have hst : (keyT (pt r)).map (fun x => storeK x (pt r) (.int 1) (ks.map pt) vs) = some (storeK (ky r) (pt r) (.int 1) (ks.map pt) vs) := rfl
    by_cases hr : r ∈ ks
    · have e : storeK (ky r) (pt r) (.int 1) (ks.map pt) vs = (ks.map pt, putK (ky r) (.int 1) (ks.map pt) vs) := by
        unfold storeK
        rw [getK_pt r ks vs h, decide_eq_true hr]; rfl
      obtain ⟨ks', vs', e2, n2, m2, l2⟩ := dct_fold l ks (putK (ky r) (.int 1) (ks.map pt) vs) (by rw [putK_len]; exact h) nd
      refine ⟨ks', vs', ?_, n2, fun q => ?_, by rw [List.length_cons]; omega⟩
      · show List.foldl _ ((keyT (pt r)).map fun x => storeK x (pt r) (.int 1) (ks.map pt) vs) _ = _
        rw [hst, e]; exact e2
      · rw [m2, List.mem_cons]
        constructor
        · rintro (h | h)
          · exact .inl h
          · exact .inr (.inr h)
        · rintro (h | rfl | h)
          · exact .inl h
          · exact .inl hr
          · exact .inr h
    · have e : storeK (ky r) (pt r) (.int 1) (ks.map pt) vs = ((ks ++ [r]).map pt, vs ++ [.int 1]) := by
        unfold storeK
        rw [getK_pt r ks vs h, decide_eq_false hr, List.map_append]; rfl
      obtain ⟨ks', vs', e2, n2, m2, l2⟩ := dct_fold l (ks ++ [r]) (vs ++ [.int 1]) (by simp [h]) (by
        rw [List.nodup_append]
        exact ⟨nd, by simp, fun a ha b hb => by rw [List.mem_singleton.mp hb]; intro e; exact hr (e ▸ ha)⟩)
      refine ⟨ks', vs', ?_, n2, fun q => ?_, by rw [List.length_append, List.length_singleton] at l2; rw [List.length_cons]; omega⟩
      · show List.foldl _ ((keyT (pt r)).map fun x => storeK x (pt r) (.int 1) (ks.map pt) vs) _ = _
        rw [hst, e]; exact e2
      · rw [m2, List.mem_cons, List.mem_append, List.mem_singleton, or_assoc]
/-! sorted by doubles -/
def kz (r : Rat) : Int := r.num * (Int.fdiv 2 (r.den : Int))
theorem hf_bd {r : Rat} (h : ∃ h : Int, r = (h : Rat) / 2 ∧ h.natAbs ≤ 16) : Bd 2 16 r := by
  obtain ⟨k, rfl, hk⟩ := h
  exact ⟨k, rfl, hk, by decide⟩
theorem kz_is {r : Rat} (h : Bd 2 16 r) : ((kz r : Int) : Rat) = 2 * r := by
  have h1 := bd_den h
  have h2 := r.den_pos
  have e := rat_eq r
  have hc : r.den = 1 ∨ r.den = 2 := by omega
  unfold kz
  rcases hc with hc | hc
  · have hd : Int.fdiv 2 (r.den : Int) = 2 := by rw [hc]; rfl
    rw [hd, Rat.intCast_mul]
    rw [hc] at e
    have e1 : ((1 : Nat) : Rat) = 1 := rfl
    have e2 : ((2 : Int) : Rat) = 2 := rfl
    rw [e1] at e
    grind
  · have hd : Int.fdiv 2 (r.den : Int) = 1 := by rw [hc]; rfl
    rw [hd, Int.mul_one]
    rw [hc] at e
    have e1 : ((2 : Nat) : Rat) = 2 := rfl
    rw [e1] at e
    grind
theorem keys_pt : ∀ {l : List Rat}, (∀ r ∈ l, Bd 2 16 r) → keysQ 2 (l.map pt) = some (l.map kz)
  | [], _ => rfl
  | r :: l, h => by
    have hr := h r (List.mem_cons_self ..)
    have ih := keys_pt fun q hq => h q (List.mem_cons_of_mem _ hq)
    have h1 := bd_den hr
    have h2 := r.den_pos
    have h3 := bd_num hr
    have hc : r.den = 1 ∨ r.den = 2 := by omega
    have hl : r.num.natAbs.log2 ≤ r.num.natAbs := Nat.log2_le_self _
    have hk : (Int.fdiv 2 (r.den : Int)).natAbs.log2 < 10 := by rcases hc with e | e <;> rw [e] <;> decide
    show (if ((r.den : Nat) : Int) ≠ 0 ∧ ((r.den : Nat) : Int).natAbs < 1073741824 ∧ r.num.natAbs.log2 + (Int.fdiv 2 ((r.den : Nat) : Int)).natAbs.log2 < 1000000 then (keysQ 2 (l.map pt)).map (r.num * Int.fdiv 2 ((r.den : Nat) : Int) :: ·) else none) = _
    rw [if_pos ⟨by omega, by omega, by omega⟩, ih]; rfl
def insR (x : Rat) : List Rat → List Rat
  | [] => [x]
  | y :: r => if x ≤ y then x :: y :: r else y :: insR x r
def srtR : List Rat → List Rat
  | [] => []
  | x :: r => insR x (srtR r)
theorem insR_perm (x : Rat) : ∀ l, (insR x l).Perm (x :: l)
  | [] => .refl _
  | y :: r => by
    unfold insR; split
    · exact .refl _
    · exact ((insR_perm x r).cons y).trans (.swap ..)
theorem srtR_perm : ∀ l, (srtR l).Perm l
  | [] => .refl _
  | x :: r => (insR_perm x _).trans ((srtR_perm r).cons x)
theorem insR_srt {x : Rat} : ∀ {l : List Rat}, Srt l → x ∉ l → Srt (insR x l)
  | [], _, _ => by simp [insR, Srt]
  | y :: r, h, hx => by
    have hc := List.pairwise_cons.mp h
    have hne : x ≠ y := fun e => hx (by rw [e]; exact List.mem_cons_self ..)
    unfold insR; split
    · rename_i hxy
      refine List.pairwise_cons.mpr ⟨fun z hz => ?_, h⟩
      rcases List.mem_cons.mp hz with rfl | hz
      · grind
      · have := hc.1 z hz; grind
    · rename_i hxy
      refine List.pairwise_cons.mpr ⟨fun z hz => ?_, insR_srt hc.2 fun e => hx (List.mem_cons_of_mem _ e)⟩
      have := (insR_perm x r).mem_iff.mp hz
      rcases List.mem_cons.mp this with rfl | hz
      · grind
      · exact hc.1 z hz
theorem srtR_srt : ∀ {l : List Rat}, l.Nodup → Srt (srtR l)
  | [], _ => List.Pairwise.nil
  | x :: r, h => by
    have := List.nodup_cons.mp h
    exact insR_srt (srtR_srt this.2) fun e => this.1 ((srtR_perm r).mem_iff.mp e)
theorem insQ_pt {x : Rat} (hx : Bd 2 16 x) : ∀ {l : List Rat}, (∀ r ∈ l, Bd 2 16 r) → insQ (pt x, kz x) (l.map fun r => (pt r, kz r)) = (insR x l).map fun r => (pt r, kz r)
  | [], _ => rfl
  | y :: r, h => by
    have hy := h y (List.mem_cons_self ..)
    have ih := insQ_pt hx fun q hq => h q (List.mem_cons_of_mem _ hq)
    have hiff : kz x ≤ kz y ↔ x ≤ y := by
      rw [← Rat.intCast_le_intCast (a := kz x), kz_is hx, kz_is hy]
      constructor <;> intro h <;> grind
    show (if kz x ≤ kz y then (pt x, kz x) :: (pt y, kz y) :: r.map (fun r => (pt r, kz r)) else (pt y, kz y) :: insQ (pt x, kz x) (r.map fun r => (pt r, kz r))) = _
    unfold insR
    by_cases hxy : x ≤ y
    · rw [if_pos hxy, if_pos (hiff.mpr hxy)]; rfl
    · rw [if_neg hxy, if_neg (fun e => hxy (hiff.mp e)), ih]; rfl
theorem srtQ_pt : ∀ {l : List Rat}, (∀ r ∈ l, Bd 2 16 r) → srtQ (l.map fun r => (pt r, kz r)) = (srtR l).map fun r => (pt r, kz r)
  | [], _ => rfl
  | x :: r, h => by
    have hr : ∀ q ∈ r, Bd 2 16 q := fun q hq => h q (List.mem_cons_of_mem _ hq)
    show insQ (pt x, kz x) (srtQ (r.map fun r => (pt r, kz r))) = _
    rw [srtQ_pt hr]
    exact insQ_pt (h x (List.mem_cons_self ..)) fun q hq => hr q ((srtR_perm r).mem_iff.mp hq)
/-- sorted(dict([(r, 1) ..]), key ..) -/
theorem sort_pt {l : List Rat} (h : ∀ r ∈ l, Bd 2 16 r) (hl : l.length < 1000) : ∃ (S : List Rat) (vs ks : List D), dctP (l.map fun r => D.tup [pt r, .int 1]) = some (ks, vs) ∧ (∀ G, sortQD G 2 (.dct ks vs) = some (.lst (S.map pt))) ∧ Srt S ∧ (∀ r, r ∈ S ↔ r ∈ l) ∧ S.length ≤ l.length := by
  obtain ⟨ks, vs, e, nd, m, hle⟩ := dct_fold l [] [] rfl List.nodup_nil
  rw [List.length_nil, Nat.zero_add] at hle
  have hks : ∀ r ∈ ks, Bd 2 16 r := fun r hr => h r (by simpa using (m r).mp hr)
  refine ⟨srtR ks, vs, ks.map pt, e, fun G => ?_, srtR_srt nd, fun r => by rw [(srtR_perm ks).mem_iff, m]; simp, by rw [(srtR_perm ks).length_eq]; exact hle⟩
  show ((keysQ 2 (ks.map pt)).bind fun kk => if (ks.map pt).length ≤ sizeLine then some (D.lst ((srtQ ((ks.map pt).zip kk)).map (·.1))) else none) = _
  rw [keys_pt hks]
  show (if (ks.map pt).length ≤ sizeLine then some (D.lst ((srtQ ((ks.map pt).zip (ks.map kz))).map (·.1))) else none) = _
  rw [if_pos (by rw [List.length_map, szl]; omega), List.zip_map', srtQ_pt hks, List.map_map]
  rfl
/-! one -/
theorem bd_int {r : Rat} {B : Nat} (h1 : r.den = 1) (h2 : r.num.natAbs ≤ B) : Bd 1 B r := by
  have := fi_bd r
  rw [h1] at this
  exact this.mono h2
theorem kd1 {c : Rat} (hc : c = 2 ∨ c = -1) : Kd c [] := by
  refine ⟨⟨by rcases hc with rfl | rfl <;> decide +kernel, fun x => by show (0 : Rat) < ev [1] x; rw [ev_one]; decide +kernel, Cop.const (c := 1) (by decide +kernel) _⟩, ?_, by decide⟩
  have h : ∀ r ∈ mulP [c] ([] ++ [1]), r.den = 1 ∧ r.num.natAbs ≤ 6 := by rcases hc with rfl | rfl <;> decide +kernel
  exact fun r hr => bd_int (h r hr).1 (h r hr).2
theorem sq_nn (x : Rat) : 0 ≤ x * x := by
  rcases (Rat.le_total : (0 : Rat) ≤ x ∨ x ≤ 0) with h | h
  · exact Rat.mul_nonneg h h
  · have := Rat.mul_nonneg (show 0 ≤ -x by grind) (show 0 ≤ -x by grind); grind
theorem kd2 {c q : Rat} (hc : c = 2 ∨ c = -1) (hq : q = 1 ∨ q = 2 ∨ q = 3) : Kd c [q, 0] := by
  have hev : ∀ x, ev ([q, 0] ++ [1]) x = q + x * x := fun x => by show q + x * (0 + x * (1 + x * 0)) = _; grind
  have hdv : ∀ x, ev (dP ([q, 0] ++ [1])) x = 2 * x := fun x => by
    rw [ev_dP]
    show dv [q, 0, 1] x = _
    simp only [dv, ev]
    grind
  have q0 : q ≠ 0 := by rcases hq with rfl | rfl | rfl <;> decide +kernel
  refine ⟨⟨by rcases hc with rfl | rfl <;> decide +kernel, fun x => ?_, ⟨[1 / q], [0, -(1 / (2 * q))], fun x => ?_⟩⟩, ?_, Nat.le_refl 2⟩
  · rw [hev]
    have := sq_nn x
    have : (0 : Rat) < q := by rcases hq with rfl | rfl | rfl <;> decide +kernel
    grind
  · rw [hev, hdv, ev_c]
    show 1 / q * (q + x * x) + (0 + x * (-(1 / (2 * q)) + x * 0)) * (2 * x) = 1
    rcases hq with rfl | rfl | rfl <;> grind
  · have h : ∀ r ∈ mulP [c] ([q, 0] ++ [1]), r.den = 1 ∧ r.num.natAbs ≤ 6 := by
      rcases hc with rfl | rfl <;> rcases hq with rfl | rfl | rfl <;> decide +kernel
    exact fun r hr => bd_int (h r hr).1 (h r hr).2
end LK
end
/-! ## R22 -/
section
set_option Elab.async false
set_option linter.all false
set_option maxRecDepth 200000
set_option maxHeartbeats 2000000
set_option exponentiation.threshold 300
namespace LK
open PySem PV RP

theorem law_is : lawBody = [st 0, st 1, st 2, st 3, st 4, st 5, st 6, st 7, st 8, st 9, st 10, st 11, st 12, st 13, st 14, st 15, st 16, st 17, st 18, st 19, st 20, st 21] := rfl
theorem half_of {t l : Int} (h1 : -4 ≤ t ∧ t ≤ 4) (h2 : l = 1 ∨ l = 2) : ∃ h : Int, (t : Rat) / (l : Rat) = (h : Rat) / 2 ∧ h.natAbs ≤ 8 := by
  rcases h2 with rfl | rfl
  · refine ⟨2 * t, ?_, by omega⟩
    rw [Rat.intCast_mul]
    have e1 : ((1 : Int) : Rat) = 1 := rfl
    have e2 : ((2 : Int) : Rat) = 2 := rfl
    rw [e1, e2]; grind
  · exact ⟨t, rfl, by omega⟩
theorem half_bd {x : Rat} (h : ∃ h : Int, x = (h : Rat) / 2 ∧ h.natAbs ≤ 8) : Bd 2 8 x := by
  obtain ⟨k, rfl, hk⟩ := h
  exact ⟨k, rfl, hk, by decide⟩
theorem half_gd {x : Rat} (h : ∃ h : Int, x = (h : Rat) / 2 ∧ h.natAbs ≤ 8) : Gd 5 x := by
  have := (half_bd h).up (E := 16) (by decide)
  exact this.mono (by decide)
theorem half_fi {x : Rat} (h : ∃ h : Int, x = (h : Rat) / 2 ∧ h.natAbs ≤ 8) : Fi x := ((half_gd h).gp (by decide)).fi
theorem one_lb {c : Rat} {Q0 rs : List Rat} (K : Kd c Q0) (hf : Hf rs) (hl : rs.length ≤ 4) : LB 16 (2 ^ 16) 7 (one6 c Q0 rs) := by
  have h := fl_sz K.bd rs hf
  have hln : (one6 c Q0 rs).length ≤ 7 := by rw [fl_tr_len K.base.c0]; have := K.len; omega
  refine ⟨by decide, hln, fun r hr => ?_⟩
  have h1 := h r (trim_mem hr)
  have hc : rs.length = 0 ∨ rs.length = 1 ∨ rs.length = 2 ∨ rs.length = 3 ∨ rs.length = 4 := by omega
  rcases hc with e | e | e | e | e <;> rw [e] at h1
  · exact (h1.up (E := 16) (by decide)).mono (by decide)
  · exact (h1.up (E := 8) (by decide)).mono (by decide)
  · exact (h1.up (E := 4) (by decide)).mono (by decide)
  · exact (h1.up (E := 2) (by decide)).mono (by decide)
  · exact h1.mono (by decide)
theorem half_roll (n k : Nat) {G : Gs} (h : Dice (k + 2) G) {ρ : PV.Env} (h1 : ρ[1]? = some (some (.cell 0))) : ∃ r G', evE (Sa (n + 3)) ρ (.call 1 [.bin .sub (.call 34 [.var 1, .con (.int 9)]) (.con (.int 4)), .bin .add (.con (.int 1)) (.call 34 [.var 1, .con (.int 2)])]) G = .ok (pt r) G' ∧ (∃ h : Int, r = (h : Rat) / 2 ∧ h.natAbs ≤ 8) ∧ Dice k G' := by
  obtain ⟨t, G1, e1, t1, t2, g1⟩ := cal_roll (n + 2) (k + 1) (m := 9) (by unfold CC; omega) h
  obtain ⟨l, G2, e2, l1, l2, g2⟩ := cal_roll (n + 2) k (m := 2) (by unfold CC; omega) g1
  have hp := cal_part (n + 1) (t - 4) (1 + l) G2 (by omega) (ok_div (m := 2) (by omega) (by omega) (by decide))
  exact ⟨_, G2, x_call (x_es (x_bin (x_call (x_es (x_v h1) (x_es x_c x_es0)) e1) x_c (bs _ _)) (x_es (x_bin x_c (x_call (x_es (x_v h1) (x_es x_c x_es0)) e2) (ba _ _)) x_es0)) hp, half_of (by omega) (by omega), g2⟩
theorem two_roll (n k : Nat) (m a : Int) (hm : m = 2 * a + 1) (ha : 0 ≤ a ∧ a ≤ 8) {G : Gs} (h : Dice (k + 1) G) {ρ : PV.Env} (h1 : ρ[1]? = some (some (.cell 0))) : ∃ r G', evE (Sa (n + 3)) ρ (.call 1 [.bin .sub (.call 34 [.var 1, .con (.int m)]) (.con (.int a)), .con (.int 2)]) G = .ok (pt r) G' ∧ (∃ h : Int, r = (h : Rat) / 2 ∧ h.natAbs ≤ 8) ∧ Dice k G' := by
  obtain ⟨t, G1, e1, t1, t2, g1⟩ := cal_roll (n + 2) k (m := m) (by unfold CC; omega) h
  have hp := cal_part (n + 1) (t - a) 2 G1 (by omega) (ok_div (m := 2) (by omega) (by omega) (by decide))
  exact ⟨_, G1, x_call (x_es (x_bin (x_call (x_es (x_v h1) (x_es x_c x_es0)) e1) x_c (bs _ _)) (x_es x_c x_es0)) hp, ⟨t - a, rfl, by omega⟩, g1⟩
theorem s0 {G : Gs} (h : Dice 1000 G) (X0 : Option D) : ∃ rs G', evS (Sa 16) (st 0) [X0, some (.cell 0), none, none, none, none, none, none, none, none, none, none, none, none, none, none, none, none, none, none, none, none, none, none, none] G = .next [X0, some (.cell 0), some (.lst (rs.map pt)), none, none, none, none, none, none, none, none, none, none, none, none, none, none, none, none, none, none, none, none, none, none] G' ∧ Hf rs ∧ rs.length ≤ 4 ∧ Dice 990 G' := by
  obtain ⟨m, G1, e1, m1, m2, g1⟩ := cal_roll 15 999 (m := 5) (by unfold CC; omega) h
  have i1 : evI (Sa 16) [X0, some (.cell 0), none, none, none, none, none, none, none, none, none, none, none, none, none, none, none, none, none, none, none, none, none, none, none] (.rng1 (.call 34 [.var 1, .con (.int 5)])) G = .ok (rangeD 0 m) G1 := i_rng (x_call (x_es x_v (x_es x_c x_es0)) e1) (by omega)
  obtain ⟨ys, G2, e2, y1, y2, g2⟩ := comp_ex (S := Sa 16) (own := [12]) (tg := .nm 12) (el := .call 1 [.bin .sub (.call 34 [.var 1, .con (.int 9)]) (.con (.int 4)), .bin .add (.con (.int 1)) (.call 34 [.var 1, .con (.int 2)])]) (fun y => ∃ r, y = pt r ∧ (∃ h : Int, r = (h : Rat) / 2 ∧ h.natAbs ≤ 8)) 2 990 i1 (g1.mono (by rw [len_rng]; omega)) (by rw [len_rng]; omega) (fun d _ => ⟨[X0, some (.cell 0), none, none, none, none, none, none, none, none, none, none, some d, none, none, none, none, none, none, none, none, none, none, none, none], rfl, fun i G hi => by
    obtain ⟨r, G', f1, f2, f3⟩ := half_roll 13 i hi (ρ := [X0, some (.cell 0), none, none, none, none, none, none, none, none, none, none, some d, none, none, none, none, none, none, none, none, none, none, none, none]) rfl
    exact ⟨_, G', f1, ⟨r, rfl, f2⟩, f3⟩⟩)
  obtain ⟨l, rfl, hl⟩ := list_pt y2
  rw [List.length_map, len_rng] at y1
  exact ⟨l, G2, s_set e2, hl, by omega, g2⟩
theorem s1 {rs : List Rat} {G : Gs} (h : Dice 990 G) (X0 : Option D) : ∃ c G', evS (Sa 16) (st 1) [X0, some (.cell 0), some (.lst (rs.map pt)), none, none, none, none, none, none, none, none, none, none, none, none, none, none, none, none, none, none, none, none, none, none] G = .next [X0, some (.cell 0), some (.lst (rs.map pt)), some (cv (one6 c [] [])), none, none, none, none, none, none, none, none, none, none, none, none, none, none, none, none, none, none, none, none, none] G' ∧ (c = 2 ∨ c = -1) ∧ Dice 989 G' := by
  obtain ⟨m, G1, e1, m1, m2, g1⟩ := cal_roll 15 989 (m := 2) (by unfold CC; omega) h
  have key : ∀ c : Rat, (c = 2 ∨ c = -1) → ixD G1 (.lst [.tup [.int 2, .int 1], .tup [.int (0 - 1), .int 1]]) (.int m) = some (pt c) → evS (Sa 16) (st 1) [X0, some (.cell 0), some (.lst (rs.map pt)), none, none, none, none, none, none, none, none, none, none, none, none, none, none, none, none, none, none, none, none, none, none] G = .next [X0, some (.cell 0), some (.lst (rs.map pt)), some (cv (one6 c [] [])), none, none, none, none, none, none, none, none, none, none, none, none, none, none, none, none, none, none, none, none, none] G1 := fun c hc hix => by
    have fc : Fi c := by rcases hc with rfl | rfl; exact fi_small (k := 2) (by decide); exact fi_small (k := -1) (by decide)
    have f1 : FiL [(1 : Rat)] := fun r hr => by rw [List.mem_singleton.mp hr]; exact fi_small (k := 1) (by decide)
    have fs : FiL (scP c [1]) := fun r hr => by
      obtain ⟨y, hy, rfl⟩ := List.mem_map.mp hr
      rw [List.mem_singleton.mp hy]
      have : c * 1 = c := by grind
      first | (rw [this]; exact fc) | (rw [show (1 : Rat) * c = c by grind]; exact fc)
    have ec := cal_scaled 11 G1 f1 fc fs (by decide)
    have et : trim (scP c [1]) = one6 c [] [] := trim_ext fun x => by
      show ev (scP c [1]) x = ev (mulP [c] [1]) x
      simp only [ev_sc, ev_mul, ev_c]
    rw [et] at ec
    have a0 : evE (Sa 16) [X0, some (.cell 0), some (.lst (rs.map pt)), none, none, none, none, none, none, none, none, none, none, none, none, none, none, none, none, none, none, none, none, none, none] (.tup [.tup [.con (.int 1), .con (.int 1)]]) G = .ok (cv [1]) G := x_tup (x_es (x_tup (x_es x_c (x_es x_c x_es0))) x_es0)
    have a1 : evE (Sa 16) [X0, some (.cell 0), some (.lst (rs.map pt)), none, none, none, none, none, none, none, none, none, none, none, none, none, none, none, none, none, none, none, none, none, none] (.ix (.lst [.tup [.con (.int 2), .con (.int 1)], .tup [.bin .sub (.con (.int 0)) (.con (.int 1)), .con (.int 1)]]) (.call 34 [.var 1, .con (.int 2)])) G = .ok (pt c) G1 := x_ix (x_lst (x_es (x_tup (x_es x_c (x_es x_c x_es0))) (x_es (x_tup (x_es (x_bin x_c x_c (bs _ _)) (x_es x_c x_es0))) x_es0))) (x_call (x_es x_v (x_es x_c x_es0)) e1) hix
    exact s_set (x_call (x_es a0 (x_es a1 x_es0)) ec)
  have hm : m = 0 ∨ m = 1 := by omega
  rcases hm with rfl | rfl
  · exact ⟨2, G1, key 2 (.inl rfl) rfl, .inl rfl, g1⟩
  · exact ⟨-1, G1, key (-1) (.inr rfl) rfl, .inr rfl, g1⟩
theorem lin_lb {x : Rat} (h : ∃ h : Int, x = (h : Rat) / 2 ∧ h.natAbs ≤ 8) : LB 2 8 7 [0 - x, 1] := ⟨by decide, by simp, fun r hr => by
  have h1 := (half_bd h).neg
  rcases List.mem_cons.mp hr with rfl | hr
  · rwa [show -x = 0 - x by grind] at h1
  · rw [List.mem_singleton.mp hr]; exact ⟨2, by decide +kernel, by decide, by decide⟩⟩
theorem lim_mul : Lim (16 * 2 * (mulB (2 ^ 16) 8 7 + 2 ^ 16 + 8 + 1)) := .of (by decide +kernel)
theorem times_lin {c : Rat} (hc : c = 2 ∨ c = -1) {s : List Rat} {x : Rat} (hs : Hf s) (hl : s.length ≤ 4) (hx : ∃ h : Int, x = (h : Rat) / 2 ∧ h.natAbs ≤ 8) {G : Gs} (hG : Cl G) {ρ : PV.Env} (h3 : ρ[3]? = some (some (cv (one6 c [] s)))) (h4 : ρ[4]? = some (some (pt x))) : evE (Sa 16) ρ (.call 15 [.var 3, .call 11 [.lst [.call 3 [.tup [.con (.int 0), .con (.int 1)], .var 4], .tup [.con (.int 1), .con (.int 1)]]]]) G = .ok (cv (one6 c [] (x :: s))) G := by
  have fx := half_fi hx
  have lb := lin_lb hx
  have p0 : evE (Sa 16) ρ (.tup [.con (.int 0), .con (.int 1)]) G = .ok (pt 0) G := x_tup (x_es x_c (x_es x_c x_es0))
  have p1 : evE (Sa 16) ρ (.tup [.con (.int 1), .con (.int 1)]) G = .ok (pt 1) G := x_tup (x_es x_c (x_es x_c x_es0))
  have hf : FiL [0 - x, 1] := lb.fi (.of (by decide +kernel))
  have ec := cal_curve 12 G (x := .lst [pt (0 - x), pt 1]) (l := [0 - x, 1]) rfl hf (by simp)
  obtain ⟨em, _⟩ := cal_mul 11 hG (one_lb (kd1 hc) hs hl) lb.trim (by decide) lim_mul
  have et : trim (mulP (one6 c [] s) (trim [0 - x, 1])) = one6 c [] (x :: s) := trim_ext fun y => by
    show ev (mulP (one6 c [] s) (trim [0 - x, 1])) y = ev (mulP (lin x) (fl c ([] ++ [1]) s)) y
    rw [ev_mul, ev_mul, ev_lin, ev_trim, ev_trim]
    show _ * (0 - x + y * (1 + y * 0)) = _
    grind
  rw [et] at em
  exact x_call (x_es (x_v h3) (x_es (x_call (x_es (x_lst (x_es (x_call (x_es p0 (x_es (x_v h4) x_es0)) (cal_minus 13 G fi0 fx)) (x_es p1 x_es0))) x_es0) ec) x_es0)) em
theorem s2 {rs : List Rat} {c : Rat} (hc : c = 2 ∨ c = -1) (hf : Hf rs) (hl : rs.length ≤ 4) {G : Gs} (hG : Cl G) (X0 : Option D) : ∃ z4, evS (Sa 16) (st 2) [X0, some (.cell 0), some (.lst (rs.map pt)), some (cv (one6 c [] [])), none, none, none, none, none, none, none, none, none, none, none, none, none, none, none, none, none, none, none, none, none] G = .next [X0, some (.cell 0), some (.lst (rs.map pt)), some (cv (one6 c [] rs.reverse)), z4, none, none, none, none, none, none, none, none, none, none, none, none, none, none, none, none, none, none, none, none] G := by
  obtain ⟨ρ', G', e, rfl, z, rfl⟩ := forL_inv (fun d ρ1 G2 => match PV.assign ρ1 (.nm 4) d with | some ρ2 => evB (Sa 16) [.set (.nm 3) (.call 15 [.var 3, .call 11 [.lst [.call 3 [.tup [.con (.int 0), .con (.int 1)], .var 4], .tup [.con (.int 1), .con (.int 1)]]]])] ρ2 G2 | none => .bad) pt (fun s ρ G' => G = G' ∧ ∃ z4, ρ = [X0, some (.cell 0), some (.lst (rs.map pt)), some (cv (one6 c [] s.reverse)), z4, none, none, none, none, none, none, none, none, none, none, none, none, none, none, none, none, none, none, none, none]) rs [] [X0, some (.cell 0), some (.lst (rs.map pt)), some (cv (one6 c [] [])), none, none, none, none, none, none, none, none, none, none, none, none, none, none, none, none, none, none, none, none, none] G ⟨rfl, none, rfl⟩ fun s' x t ρ G' hs' ⟨hG', z, hρ⟩ => by
    subst hG' hρ
    have hs' : rs = s' ++ x :: t := hs'
    have hfs : Hf s'.reverse := fun r hr => hf r (by rw [hs']; exact List.mem_append_left _ (List.mem_reverse.mp hr))
    have hx := hf x (by rw [hs']; simp)
    have hls : s'.reverse.length ≤ 4 := by
      rw [hs', List.length_append] at hl
      rw [List.length_reverse]; omega
    have et := times_lin hc hfs hls hx hG (ρ := [X0, some (.cell 0), some (.lst (rs.map pt)), some (cv (one6 c [] s'.reverse)), some (pt x), none, none, none, none, none, none, none, none, none, none, none, none, none, none, none, none, none, none, none, none]) rfl rfl
    refine ⟨[X0, some (.cell 0), some (.lst (rs.map pt)), some (cv (one6 c [] (x :: s'.reverse))), some (pt x), none, none, none, none, none, none, none, none, none, none, none, none, none, none, none, none, none, none, none, none], G, ?_, rfl, some (pt x), by rw [List.reverse_append]; rfl⟩
    exact b_next (s_set et) rfl
  rw [List.nil_append] at e
  exact ⟨z, s_for (i_seq x_v rfl) e⟩
theorem quad_lb {q : Int} (hq : q = 1 ∨ q = 2 ∨ q = 3) : LB 2 8 7 [(q : Rat), 0, 1] := ⟨by decide, by simp, fun r hr => by
  rcases List.mem_cons.mp hr with rfl | hr
  · exact ⟨2 * q, by rw [Rat.intCast_mul]; have e2 : ((2 : Int) : Rat) = 2 := rfl; have e3 : ((2 : Nat) : Rat) = 2 := rfl; rw [e2, e3]; grind, by omega, by decide⟩
  · rcases List.mem_cons.mp hr with rfl | hr
    · exact ⟨0, by decide +kernel, by decide, by decide⟩
    · rw [List.mem_singleton.mp hr]; exact ⟨2, by decide +kernel, by decide, by decide⟩⟩
theorem s3 {rs : List Rat} {c : Rat} (hc : c = 2 ∨ c = -1) (hf : Hf rs) (hl : rs.length ≤ 4) {G : Gs} (h : Dice 989 G) (X0 z4 : Option D) : ∃ Q0 G', evS (Sa 16) (st 3) [X0, some (.cell 0), some (.lst (rs.map pt)), some (cv (one6 c [] rs.reverse)), z4, none, none, none, none, none, none, none, none, none, none, none, none, none, none, none, none, none, none, none, none] G = .next [X0, some (.cell 0), some (.lst (rs.map pt)), some (cv (one6 c Q0 rs.reverse)), z4, none, none, none, none, none, none, none, none, none, none, none, none, none, none, none, none, none, none, none, none] G' ∧ Kd c Q0 ∧ Dice 987 G' := by
  obtain ⟨m, G1, e1, m1, m2, g1⟩ := cal_roll 15 988 (m := 2) (by unfold CC; omega) h
  have hf' : Hf rs.reverse := fun r hr => hf r (List.mem_reverse.mp hr)
  have hl' : rs.reverse.length ≤ 4 := by rw [List.length_reverse]; exact hl
  by_cases hm : m = 0
  · subst hm
    obtain ⟨r, G2, e2, r1, r2, g2⟩ := cal_roll 15 987 (m := 3) (by unfold CC; omega) g1
    obtain ⟨q, hqr⟩ : ∃ q : Int, q = 1 + r := ⟨_, rfl⟩
    have hq : q = 1 ∨ q = 2 ∨ q = 3 := by omega
    have lb := quad_lb hq
    have hqR : (q : Rat) = 1 ∨ (q : Rat) = 2 ∨ (q : Rat) = 3 := by
      rcases hq with rfl | rfl | rfl
      · exact .inl rfl
      · exact .inr (.inl rfl)
      · exact .inr (.inr rfl)
    have p0 : evE (Sa 16) [X0, some (.cell 0), some (.lst (rs.map pt)), some (cv (one6 c [] rs.reverse)), z4, none, none, none, none, none, none, none, none, none, none, none, none, none, none, none, none, none, none, none, none] (.tup [.con (.int 0), .con (.int 1)]) G2 = .ok (pt 0) G2 := x_tup (x_es x_c (x_es x_c x_es0))
    have p1 : evE (Sa 16) [X0, some (.cell 0), some (.lst (rs.map pt)), some (cv (one6 c [] rs.reverse)), z4, none, none, none, none, none, none, none, none, none, none, none, none, none, none, none, none, none, none, none, none] (.tup [.con (.int 1), .con (.int 1)]) G2 = .ok (pt 1) G2 := x_tup (x_es x_c (x_es x_c x_es0))
    have pq : evE (Sa 16) [X0, some (.cell 0), some (.lst (rs.map pt)), some (cv (one6 c [] rs.reverse)), z4, none, none, none, none, none, none, none, none, none, none, none, none, none, none, none, none, none, none, none, none] (.tup [.bin .add (.con (.int 1)) (.call 34 [.var 1, .con (.int 3)]), .con (.int 1)]) G1 = .ok (pt (q : Rat)) G2 := by
      have := x_tup (S := Sa 16) (ρ := [X0, some (.cell 0), some (.lst (rs.map pt)), some (cv (one6 c [] rs.reverse)), z4, none, none, none, none, none, none, none, none, none, none, none, none, none, none, none, none, none, none, none, none]) (x_es (x_bin x_c (x_call (x_es (x_v (i := 1)) (x_es x_c x_es0)) e2) (ba 1 r)) (x_es (x_c (d := .int 1)) x_es0))
      rw [this, ← hqr]; rfl
    have ec := cal_curve 12 G2 (x := .lst [pt (q : Rat), pt 0, pt 1]) (l := [(q : Rat), 0, 1]) rfl (lb.fi (.of (by decide +kernel))) (by simp)
    obtain ⟨em, _⟩ := cal_mul 11 (Dice.cl g2) (one_lb (kd1 hc) hf' hl') lb.trim (by decide) lim_mul
    have et : trim (mulP (one6 c [] rs.reverse) (trim [(q : Rat), 0, 1])) = one6 c [(q : Rat), 0] rs.reverse := trim_ext fun y => by
      rw [ev_mul, ev_trim, ev_trim, ev_fl, ev_fl]
      show _ * ev [1] y * _ = _ * ev [(q : Rat), 0, 1] y
      rw [ev_one]; grind
    rw [et] at em
    refine ⟨[(q : Rat), 0], G2, s_itet (x_cmp (x_call (x_es x_v (x_es x_c x_es0)) e1) x_c rfl) (b_next (s_set (x_call (x_es x_v (x_es (x_call (x_es (x_lst (x_es pq (x_es p0 (x_es p1 x_es0)))) x_es0) ec) x_es0)) em)) rfl), kd2 hc hqR, g2⟩
  · exact ⟨[], G1, s_if0 (x_cmp (x_call (x_es x_v (x_es x_c x_es0)) e1) x_c (by rw [ceq, eqD_int, decide_eq_false hm])), kd1 hc, g1.mono (by omega)⟩
end LK
end
/-! ## R23 -/
section
set_option Elab.async false
set_option linter.all false
set_option maxRecDepth 200000
set_option maxHeartbeats 2000000
set_option exponentiation.threshold 300
namespace LK
open PySem PV RP

theorem run_x (S : PV.Sem) (f : Fn) {args : List D} {ρ : PV.Env} {G G1 : Gs} {c : Nat} (h : args.length = f.np) (hρ : args.map some ++ List.replicate (f.ns - f.np) none = ρ) (hb : evB S f.body ρ G = .exc c G1) : runFn S f args G = gcR G.length (.exc c G1) := by
  subst hρ
  unfold runFn
  rw [if_pos h, hb]
theorem s_raise {S : PV.Sem} {ρ : PV.Env} {c : Nat} {d : D} {G : Gs} : evS S (.raise c (.con d)) ρ G = .exc c G := by simp only [evS, evE, rgo]
theorem b_exc {S : PV.Sem} {s : St} {r : List St} {ρ : PV.Env} {G G1 : Gs} {c : Nat} (h1 : evS S s ρ G = .exc c G1) : evB S (s :: r) ρ G = .exc c G1 := by simp only [evB, h1, F.then]
theorem cal_hm_x (n : Nat) (G : Gs) {one : List Rat} {lo hi : Rat} (fl : Fi lo) (fh : Fi hi) (h : hi < lo) : (Sa (n + 2)).cal 23 [cv one, pt lo, pt hi] G = .exc 5 G := by
  have b : evB (Sa (n + 1)) m_how_many.body [some (cv one), some (pt lo), some (pt hi), none] G = .exc 5 G :=
    b_exc (s_itet (x_call (x_es x_v (x_es x_v x_es0)) ((cal_less n G fh fl).trans (by rw [decide_eq_true h]))) (b_exc s_raise))
  exact ((cal_at (n + 1) 23 (by decide) rfl _ G).trans (run_x (Sa (n + 1)) m_how_many (args := [cv one, pt lo, pt hi]) (ρ := [some (cv one), some (pt lo), some (pt hi), none]) rfl rfl b)).trans gc_exc
structure Ld (rs one S F : List Rat) (L : List (List Rat)) (c : Rat) (Q : List Rat) (M : Rat) : Prop where
  P : Pk one S F L c Q rs.reverse
  B : Bn one S M
  srt : Srt S
  lenR : rs.length ≤ 4
  lenS : S.length ≤ 4
theorem ld_of {rs S Q0 : List Rat} {c : Rat} (hc : c = 2 ∨ c = -1) (K : Kd c Q0) (hf : Hf rs) (hl : rs.length ≤ 4) (hS : Srt S) (hm : ∀ r, r ∈ S ↔ r ∈ rs) (hlS : S.length ≤ 4) : ∃ F L M, Ld rs (one6 c Q0 rs.reverse) S F L c (Q0 ++ [1]) M := by
  have hf' : Hf rs.reverse := fun r hr => hf r (List.mem_reverse.mp hr)
  have hl' : rs.reverse.length ≤ 4 := by rw [List.length_reverse]; exact hl
  obtain ⟨es, L, P0⟩ := pk_of K hf' hl'
  have ndS : S.Nodup := hS.imp fun h e => by rw [e] at h; exact absurd h (Rat.lt_irrefl)
  have hp : es.Perm S := (List.perm_ext_iff_of_nodup P0.st.nd ndS).mpr fun r => by rw [P0.mem, List.mem_reverse, hm]
  have P := P0.perm hp
  obtain ⟨G0, hlG, hev⟩ := fl_last (Q0 := Q0) K.base.c0 rs.reverse
  have hone : one6 c Q0 rs.reverse = G0 ++ [c] := by
    show trim _ = _
    rw [trim_ext hev, trim_snoc K.base.c0]
  have lb := one_lb K hf' hl'
  have hz : ∀ r ∈ S, ev (one6 c Q0 rs.reverse) r = 0 := fun r hr => one_zero P hr
  have lb2 := lb.2.2
  rw [hone] at hz lb2
  obtain ⟨M, B⟩ := bn_of hc lb2 (by have := K.len; omega) hz
  rw [← hone] at B
  exact ⟨_, L, M, P, B, hS, hl, hlS⟩
theorem RwS.at {S : List Rat} {lo hi : Rat} {l : List (Rat × Rat)} {s : List Rat} (h : RwS S lo hi l s) : ∀ k : Nat, k < l.length → ∃ a b r, l[k]? = some (a, b) ∧ s[k]? = some r ∧ a < r ∧ r ≤ b ∧ Nr S a b = 1 ∧ Gd 60 a ∧ Gd 60 b := by
  induction h with
  | nil _ => intro k hk; exact absurd hk (by simp)
  | @cons lo hi a b r l s h1 h2 h3 h4 h5 h6 _ ih =>
    intro k hk
    match k, hk with
    | 0, _ => exact ⟨a, b, r, rfl, rfl, h2, h3, h4, h5, h6⟩
    | k + 1, hk =>
      obtain ⟨a, b, r, x⟩ := ih k (by simpa using hk)
      exact ⟨a, b, r, x⟩
abbrev ppy (p : Rat × Rat) : PyData := .tuple [pyt p.1, pyt p.2]
theorem toPys_pp : ∀ l : List (Rat × Rat), toPys (l.map pp) = some (l.map ppy)
  | [] => rfl
  | p :: l => by
    show (match toPy (pp p), toPys (l.map pp) with | some p, some ps => some (p :: ps) | _, _ => none) = _
    rw [toPys_pp l]
    rfl
theorem lay_pp : ∀ l : List (Rat × Rat), PyData.canLayAll0 (l.map ppy) = true
  | [] => rfl
  | p :: l => by
    have e : PyData.canLayAll0 ((p :: l).map ppy) = (PyData.canLayAll0 [pyt p.1, pyt p.2] && PyData.canLayAll0 (l.map ppy)) := rfl
    rw [e, lay_pp l]
    rfl
theorem dep_pp : ∀ l : List (Rat × Rat), PyData.depthAll (l.map ppy) ≤ 2
  | [] => by decide
  | p :: l => by
    have e : PyData.depthAll ((p :: l).map ppy) = max 2 (PyData.depthAll (l.map ppy)) := rfl
    rw [e]
    have := dep_pp l
    omega
theorem eqv_pp : ∀ l : List (Rat × Rat), PyData.eqvAll (l.map ppy) (l.map ppy) = true
  | [] => rfl
  | p :: l => by
    have e : PyData.eqvAll ((p :: l).map ppy) ((p :: l).map ppy) = (PyData.eqvAll ([p.1, p.2].map pyt) ([p.1, p.2].map pyt) && PyData.eqvAll (l.map ppy) (l.map ppy)) := rfl
    rw [e, eqv_pp l, eqv_pt]
    rfl
theorem ne_rows (l : List (Rat × Rat)) : cmpD .ne (.lst (l.map pp)) (.lst (l.map pp)) = some false := by
  have d := dep_pp l
  have h1 : toPy (.lst (l.map pp)) = some (.list (l.map ppy)) := by
    show (toPys (l.map pp)).map PyData.list = _
    rw [toPys_pp]; rfl
  have h2 : SeqAt.shaped (.list (l.map ppy)) = true := by
    show (PyData.canLayAll0 (l.map ppy) && decide (PyData.depthAll (l.map ppy) + 1 ≤ 64)) = true
    rw [lay_pp, decide_eq_true (by omega)]
    rfl
  have e : eqD (.lst (l.map pp)) (.lst (l.map pp)) = some true := by
    unfold eqD
    rw [h1]
    show (if (SeqAt.shaped _ && SeqAt.shaped _) = true then some (PyData.eqv _ _) else none) = _
    rw [h2]
    exact congrArg some (eqv_pp l)
  rw [cne, e]; rfl
theorem ix_lst {G : Gs} {l : List Rat} {k : Nat} {r : Rat} (h : l[k]? = some r) : ixD G (.lst (l.map pt)) (.int (k : Int)) = some (pt r) := L2.atI_nat (by rw [List.getElem?_map, h]; rfl)
theorem ix_tup {G : Gs} {l : List Rat} {k : Nat} {r : Rat} (h : l[k]? = some r) : ixD G (cv l) (.int (k : Int)) = some (pt r) := L2.atI_nat (by rw [List.getElem?_map, h]; rfl)
theorem ix_pp {G : Gs} {l : List (Rat × Rat)} {k : Nat} {r : Rat × Rat} (h : l[k]? = some r) : ixD G (.tup (l.map pp)) (.int (k : Int)) = some (pp r) := L2.atI_nat (by rw [List.getElem?_map, h]; rfl)
theorem ne_len {a b : Nat} (h : a = b) : cmpD .ne (.int (a : Nat)) (.int (b : Nat)) = some false := by rw [h]; exact ne_int _
theorem len_lst {G : Gs} (l : List Rat) : prim G .len [.lst (l.map pt)] = some (.int (l.length : Nat)) := by
  show some (D.int ((l.map pt).length : Nat)) = _
  rw [List.length_map]
theorem len_pp {G : Gs} (l : List (Rat × Rat)) : prim G .len [.tup (l.map pp)] = some (.int (l.length : Nat)) := by
  show some (D.int ((l.map pp).length : Nat)) = _
  rw [List.length_map]
theorem rng_nat (n : Nat) : rangeD 0 (n : Int) = (List.range n).map fun (k : Nat) => D.int (k : Int) := by
  rw [rangeD_nat]
  exact List.map_congr_left fun k _ => by rw [Int.zero_add]
theorem nodup_srt {S : List Rat} (hS : Srt S) : S.Nodup := hS.imp fun h e => by rw [e] at h; exact absurd h (Rat.lt_irrefl)
theorem s4 {rs one : List Rat} (hf : Hf rs) (hl : rs.length ≤ 4) (G : Gs) (X0 z4 : Option D) : ∃ S, evS (Sa 16) (st 4) [X0, some (.cell 0), some (.lst (rs.map pt)), some (cv one), z4, none, none, none, none, none, none, none, none, none, none, none, none, none, none, none, none, none, none, none, none] G = .next [X0, some (.cell 0), some (.lst (rs.map pt)), some (cv one), z4, some (.lst (S.map pt)), none, none, none, none, none, none, none, none, none, none, none, none, none, none, none, none, none, none, none] G ∧ Srt S ∧ (∀ r, r ∈ S ↔ r ∈ rs) ∧ S.length ≤ 4 := by
  obtain ⟨S, vs, ks, e1, e2, e3, e4, e5⟩ := sort_pt (l := rs) (fun r hr => (half_bd (hf r hr)).mono (by decide)) (by omega)
  have ec : evE (Sa 16) [X0, some (.cell 0), some (.lst (rs.map pt)), some (cv one), z4, none, none, none, none, none, none, none, none, none, none, none, none, none, none, none, none, none, none, none, none] (.comp [4] (.tup [.var 4, .con (.int 1)]) (.nm 4) (.seq (.var 2)) []) G = .ok (.lst (rs.map fun r => D.tup [pt r, .int 1])) G :=
    comp_map rs pt (fun r => D.tup [pt r, .int 1]) (fun r => [X0, some (.cell 0), some (.lst (rs.map pt)), some (cv one), some (pt r), none, none, none, none, none, none, none, none, none, none, none, none, none, none, none, none, none, none, none, none]) (i_seq x_v rfl) (fun r _ => rfl) (fun r _ => x_tup (x_es x_v (x_es x_c x_es0))) (by rw [szl]; omega)
  have ed : evE (Sa 16) [X0, some (.cell 0), some (.lst (rs.map pt)), some (cv one), z4, none, none, none, none, none, none, none, none, none, none, none, none, none, none, none, none, none, none, none, none] (.dctP (.comp [4] (.tup [.var 4, .con (.int 1)]) (.nm 4) (.seq (.var 2)) [])) G = .ok (.dct ks vs) G := by
    simp only [evE] at ec ⊢
    rw [ec, rb]
    simp only [e1]
    rw [if_pos (by rw [List.length_map, szl]; omega)]
  refine ⟨S, s_set (t := .nm 5) ?_, e3, e4, by omega⟩
  simp only [evE] at ed ⊢
  rw [ed, rb, e2, rof]
theorem s5 {rs one S : List Rat} {G : Gs} (h : Dice 987 G) (X0 z4 : Option D) : ∃ lo hi G', evS (Sa 16) (st 5) [X0, some (.cell 0), some (.lst (rs.map pt)), some (cv one), z4, some (.lst (S.map pt)), none, none, none, none, none, none, none, none, none, none, none, none, none, none, none, none, none, none, none] G = .next [X0, some (.cell 0), some (.lst (rs.map pt)), some (cv one), z4, some (.lst (S.map pt)), some (pt lo), some (pt hi), none, none, none, none, none, none, none, none, none, none, none, none, none, none, none, none, none] G' ∧ (∃ h : Int, lo = (h : Rat) / 2 ∧ h.natAbs ≤ 8) ∧ (∃ h : Int, hi = (h : Rat) / 2 ∧ h.natAbs ≤ 8) ∧ Dice 985 G' := by
  obtain ⟨lo, G1, e1, h1, g1⟩ := two_roll 13 986 13 6 (by decide) (by decide) h (ρ := [X0, some (.cell 0), some (.lst (rs.map pt)), some (cv one), z4, some (.lst (S.map pt)), none, none, none, none, none, none, none, none, none, none, none, none, none, none, none, none, none, none, none]) rfl
  obtain ⟨hi, G2, e2, h2, g2⟩ := two_roll 13 985 13 6 (by decide) (by decide) g1 (ρ := [X0, some (.cell 0), some (.lst (rs.map pt)), some (cv one), z4, some (.lst (S.map pt)), none, none, none, none, none, none, none, none, none, none, none, none, none, none, none, none, none, none, none]) rfl
  exact ⟨lo, hi, G2, s_set (x_tup (x_es e1 (x_es e2 x_es0))), h1, h2, g2⟩
theorem inr_comp {S : List Rat} {lo hi : Rat} (hS : ∀ r ∈ S, Fi r) (hlen : S.length ≤ 4) (fl : Fi lo) (fh : Fi hi) (G : Gs) (X0 X1 X2 X3 X4 X8 X9 X10 X11 X12 X13 X14 X15 X16 X17 X18 X19 X20 X21 X22 X23 X24 : Option D) : evE (Sa 16) [X0, X1, X2, X3, X4, some (.lst (S.map pt)), some (pt lo), some (pt hi), X8, X9, X10, X11, X12, X13, X14, X15, X16, X17, X18, X19, X20, X21, X22, X23, X24] (.comp [4] (.var 4) (.nm 4) (.seq (.var 5)) [.and (.call 6 [.var 6, .var 4]) (.not (.call 6 [.var 7, .var 4]))]) G = .ok (.lst ((inr S lo hi).map pt)) G := by
  refine comp_filt S pt pt (fun r => decide (lo < r) && decide (r ≤ hi)) (fun r => [X0, X1, X2, X3, some (pt r), some (.lst (S.map pt)), some (pt lo), some (pt hi), X8, X9, X10, X11, X12, X13, X14, X15, X16, X17, X18, X19, X20, X21, X22, X23, X24]) (i_seq x_v rfl) (fun r _ => rfl) (fun r hr => t_one ?_) (fun r _ _ => x_v) (by rw [szl]; omega)
  have c1 := cal_less 15 G fl (hS r hr)
  have c2 := cal_less 15 G fh (hS r hr)
  by_cases h1 : lo < r
  · rw [decide_eq_true h1] at c1 ⊢
    have e : (true && decide (r ≤ hi)) = !decide (hi < r) := by
      by_cases h2 : r ≤ hi
      · rw [decide_eq_true h2, decide_eq_false (by grind)]; rfl
      · rw [decide_eq_false h2, decide_eq_true (by grind)]; rfl
    rw [e]
    exact x_andt (x_call (x_es x_v (x_es x_v x_es0)) c1) (x_not (x_call (x_es x_v (x_es x_v x_es0)) c2))
  · rw [decide_eq_false h1] at c1 ⊢
    exact x_andf (x_call (x_es x_v (x_es x_v x_es0)) c1)
section
variable {rs one S F Q : List Rat} {L : List (List Rat)} {c M : Rat} (D0 : Ld rs one S F L c Q M)
include D0
theorem Ld.fi : ∀ r ∈ S, Fi r := fun r hr => half_fi (D0.P.hes r hr)
theorem s6 {lo hi : Rat} (hlo : ∃ h : Int, lo = (h : Rat) / 2 ∧ h.natAbs ≤ 8) (hhi : ∃ h : Int, hi = (h : Rat) / 2 ∧ h.natAbs ≤ 8) (G : Gs) (X0 z4 : Option D) : evS (Sa 16) (st 6) [X0, some (.cell 0), some (.lst (rs.map pt)), some (cv one), z4, some (.lst (S.map pt)), some (pt lo), some (pt hi), none, none, none, none, none, none, none, none, none, none, none, none, none, none, none, none, none] G = .next [X0, some (.cell 0), some (.lst (rs.map pt)), some (cv one), z4, some (.lst (S.map pt)), some (pt lo), some (pt hi), some (.lst ((inr S lo hi).map pt)), none, none, none, none, none, none, none, none, none, none, none, none, none, none, none, none] G :=
  s_set (inr_comp D0.fi D0.lenS (half_fi hlo) (half_fi hhi) G (X0) (some (.cell 0)) (some (.lst (rs.map pt))) (some (cv one)) (z4) (none) (none) (none) (none) (none) (none) (none) (none) (none) (none) (none) (none) (none) (none) (none) (none) (none))
theorem s7 {lo hi : Rat} (hlo : ∃ h : Int, lo = (h : Rat) / 2 ∧ h.natAbs ≤ 8) (hhi : ∃ h : Int, hi = (h : Rat) / 2 ∧ h.natAbs ≤ 8) {G : Gs} (hG : Cl G) (X0 z4 : Option D) : evS (Sa 16) (st 7) [X0, some (.cell 0), some (.lst (rs.map pt)), some (cv one), z4, some (.lst (S.map pt)), some (pt lo), some (pt hi), some (.lst ((inr S lo hi).map pt)), none, none, none, none, none, none, none, none, none, none, none, none, none, none, none, none] G = .next [X0, some (.cell 0), some (.lst (rs.map pt)), some (cv one), z4, some (.lst (S.map pt)), some (pt lo), some (pt hi), some (.lst ((inr S lo hi).map pt)), none, none, none, none, none, none, none, none, none, none, none, none, none, none, none, none] G := by
  have hall := cal_all_of D0.P D0.B 5 hG
  have c2 : evE (Sa 16) [X0, some (.cell 0), some (.lst (rs.map pt)), some (cv one), z4, some (.lst (S.map pt)), some (pt lo), some (pt hi), some (.lst ((inr S lo hi).map pt)), none, none, none, none, none, none, none, none, none, none, none, none, none, none, none, none] (.cmp .ne (.call 25 [.var 3]) (.prim .len [.var 5])) G = .ok (.bl false) G := x_cmp (x_call (x_es x_v x_es0) hall) (x_prim (x_es x_v x_es0) (len_lst S)) (ne_len rfl)
  have hl := cal_less 15 G (half_fi hhi) (half_fi hlo)
  by_cases h : hi < lo
  · rw [decide_eq_true h] at hl
    have c1 : evE (Sa 16) [X0, some (.cell 0), some (.lst (rs.map pt)), some (cv one), z4, some (.lst (S.map pt)), some (pt lo), some (pt hi), some (.lst ((inr S lo hi).map pt)), none, none, none, none, none, none, none, none, none, none, none, none, none, none, none, none] (.cmp .ne (.told (.call 23 [.var 3, .var 6, .var 7])) (.ite (.call 6 [.var 7, .var 6]) (.con (.str "size")) (.prim .len [.var 8]))) G = .ok (.bl false) G :=
      x_cmp (x_toldx (c := 5) (r := "size") (x_call (x_es x_v (x_es x_v (x_es x_v x_es0))) (cal_hm_x 14 G (half_fi hlo) (half_fi hhi) h)) rfl) (x_itet (x_call (x_es x_v (x_es x_v x_es0)) hl) x_c) (by kernel_rfl)
    exact s_if0 (x_orf c1 c2)
  · rw [decide_eq_false h] at hl
    have hh := cal_hm D0.P 6 hG ((half_gd hlo).gp (by decide)) ((half_gd hhi).gp (by decide)) (lo := lo) (hi := hi) (by grind)
    rw [nr_inr] at hh
    have c1 : evE (Sa 16) [X0, some (.cell 0), some (.lst (rs.map pt)), some (cv one), z4, some (.lst (S.map pt)), some (pt lo), some (pt hi), some (.lst ((inr S lo hi).map pt)), none, none, none, none, none, none, none, none, none, none, none, none, none, none, none, none] (.cmp .ne (.told (.call 23 [.var 3, .var 6, .var 7])) (.ite (.call 6 [.var 7, .var 6]) (.con (.str "size")) (.prim .len [.var 8]))) G = .ok (.bl false) G :=
      x_cmp (x_told (x_call (x_es x_v (x_es x_v (x_es x_v x_es0))) hh)) (x_itef (x_call (x_es x_v (x_es x_v x_es0)) hl) (x_prim (x_es x_v x_es0) (len_lst (inr S lo hi)))) (ne_len rfl)
    exact s_if0 (x_orf c1 c2)
theorem s8 {lo hi : Rat} (G : Gs) (X0 z4 : Option D) : evS (Sa 16) (st 8) [X0, some (.cell 0), some (.lst (rs.map pt)), some (cv one), z4, some (.lst (S.map pt)), some (pt lo), some (pt hi), some (.lst ((inr S lo hi).map pt)), none, none, none, none, none, none, none, none, none, none, none, none, none, none, none, none] G = .next [X0, some (.cell 0), some (.lst (rs.map pt)), some (cv one), z4, some (.lst (S.map pt)), some (pt lo), some (pt hi), some (.lst ((inr S lo hi).map pt)), some (pt M), none, none, none, none, none, none, none, none, none, none, none, none, none, none, none] G :=
  s_set (x_call (x_es x_v x_es0) (D0.B.cal 12 G))
theorem s9 {lo hi : Rat} {G : Gs} (hG : Cl G) (X0 z4 : Option D) : evS (Sa 16) (st 9) [X0, some (.cell 0), some (.lst (rs.map pt)), some (cv one), z4, some (.lst (S.map pt)), some (pt lo), some (pt hi), some (.lst ((inr S lo hi).map pt)), some (pt M), none, none, none, none, none, none, none, none, none, none, none, none, none, none, none] G = .next [X0, some (.cell 0), some (.lst (rs.map pt)), some (cv one), z4, some (.lst (S.map pt)), some (pt lo), some (pt hi), some (.lst ((inr S lo hi).map pt)), some (pt M), none, none, none, none, none, none, none, none, none, none, none, none, none, none, none] G := by
  have P := D0.P
  have hp := P.plain 7 G hG
  have gM : Fi M := (D0.B.gd.gp (by decide)).fi
  have fab : ∀ r ∈ S, Fi (ab r) := fun r hr => ⟨by rw [(num_ab r).1]; have := (D0.fi r hr).a; split <;> omega, by rw [(num_ab r).2]; exact (D0.fi r hr).b⟩
  have c1 : evE (Sa 16) [X0, some (.cell 0), some (.lst (rs.map pt)), some (cv one), z4, some (.lst (S.map pt)), some (pt lo), some (pt hi), some (.lst ((inr S lo hi).map pt)), some (pt M), none, none, none, none, none, none, none, none, none, none, none, none, none, none, none] (.comp [4] (.var 4) (.nm 4) (.seq (.var 5)) [.not (.call 6 [.call 7 [.var 4], .var 9])]) G = .ok (.lst []) G :=
    comp_none S pt (fun r => [X0, some (.cell 0), some (.lst (rs.map pt)), some (cv one), some (pt r), some (.lst (S.map pt)), some (pt lo), some (pt hi), some (.lst ((inr S lo hi).map pt)), some (pt M), none, none, none, none, none, none, none, none, none, none, none, none, none, none, none]) (i_seq x_v rfl) (fun r _ => rfl) (fun r hr => by
      have hl := cal_less 15 G (fab r hr) gM
      rw [decide_eq_true (D0.B.root r hr)] at hl
      exact x_not (b := true) (x_call (x_es (x_call (x_es x_v x_es0) (cal_size 15 G r)) (x_es x_v x_es0)) hl))
  have c2 : evE (Sa 16) [X0, some (.cell 0), some (.lst (rs.map pt)), some (cv one), z4, some (.lst (S.map pt)), some (pt lo), some (pt hi), some (.lst ((inr S lo hi).map pt)), some (pt M), none, none, none, none, none, none, none, none, none, none, none, none, none, none, none] (.cmp .ne (.bin .sub (.prim .len [.call 22 [.var 3]]) (.con (.int 1))) (.bin .sub (.bin .sub (.bin .add (.prim .len [.var 5]) (.prim .len [.var 3])) (.con (.int 1))) (.prim .len [.var 2]))) G = .ok (.bl false) G := by
    refine x_cmp (x_bin (x_prim (x_es (x_call (x_es x_v x_es0) hp) x_es0) (len_cv F)) x_c (bs _ _)) (x_bin (x_bin (x_bin (x_prim (x_es x_v x_es0) (len_lst S)) (x_prim (x_es x_v x_es0) (len_cv one)) (ba _ _)) x_c (bs _ _)) (x_prim (x_es x_v x_es0) (len_lst rs)) (bs _ _)) ?_
    have := P.lenF
    rw [List.length_reverse] at this
    rw [show ((F.length : Nat) : Int) - 1 = ((S.length : Nat) : Int) + ((one.length : Nat) : Int) - 1 - ((rs.length : Nat) : Int) by omega]
    exact ne_int _
  have c3 : evE (Sa 16) [X0, some (.cell 0), some (.lst (rs.map pt)), some (cv one), z4, some (.lst (S.map pt)), some (pt lo), some (pt hi), some (.lst ((inr S lo hi).map pt)), some (pt M), none, none, none, none, none, none, none, none, none, none, none, none, none, none, none] (.comp [4] (.var 4) (.nm 4) (.seq (.var 5)) [.cmp .ne (.ix (.call 17 [.call 22 [.var 3], .var 4]) (.con (.int 0))) (.con (.int 0))]) G = .ok (.lst []) G :=
    comp_none S pt (fun r => [X0, some (.cell 0), some (.lst (rs.map pt)), some (cv one), some (pt r), some (.lst (S.map pt)), some (pt lo), some (pt hi), some (.lst ((inr S lo hi).map pt)), some (pt M), none, none, none, none, none, none, none, none, none, none, none, none, none, none, none]) (i_seq x_v rfl) (fun r _ => rfl) (fun r hr => by
      have hw := worth_at 12 G P.fitF ((half_gd (P.hes r hr)).gp (by decide))
      rw [(F_zero P).mpr hr] at hw
      exact x_cmp (x_ix (x_call (x_es (x_call (x_es x_v x_es0) hp) (x_es x_v x_es0)) hw) x_c (ix0 _ 0)) x_c rfl)
  exact s_if0 (x_orf (x_cmp c1 (x_lst x_es0) ne_nil) (x_orf c2 (x_cmp c3 (x_lst x_es0) ne_nil)))
theorem s10 {lo hi : Rat} {G : Gs} (hG : Cl G) (X0 z4 : Option D) : evS (Sa 16) (st 10) [X0, some (.cell 0), some (.lst (rs.map pt)), some (cv one), z4, some (.lst (S.map pt)), some (pt lo), some (pt hi), some (.lst ((inr S lo hi).map pt)), some (pt M), none, none, none, none, none, none, none, none, none, none, none, none, none, none, none] G = .next [X0, some (.cell 0), some (.lst (rs.map pt)), some (cv one), z4, some (.lst (S.map pt)), some (pt lo), some (pt hi), some (.lst ((inr S lo hi).map pt)), some (pt M), some (.tup ((spl S 15 (0 - M) M).map pp)), none, none, none, none, none, none, none, none, none, none, none, none, none, none] G :=
  s_set (x_call (x_es x_v x_es0) (cal_apart D0.P D0.B 4 hG))
theorem Ld.rw : RwS S (0 - M) M (spl S 15 (0 - M) M) S := by
  have h := spl_rw D0.srt (nodup_srt D0.srt) D0.P.hes 15 (0 - M) M (wkM D0.P D0.B)
  have e : inr S (0 - M) M = S := List.filter_eq_self.mpr fun r hr => by
    have h := D0.B.root r hr
    have h1 := ab_ge r
    simp only [Bool.and_eq_true, decide_eq_true_eq]
    constructor <;> grind
  rw [e] at h
  exact h
theorem s11 {lo hi : Rat} {G : Gs} (hG : Cl G) (X0 z4 : Option D) : evS (Sa 16) (st 11) [X0, some (.cell 0), some (.lst (rs.map pt)), some (cv one), z4, some (.lst (S.map pt)), some (pt lo), some (pt hi), some (.lst ((inr S lo hi).map pt)), some (pt M), some (.tup ((spl S 15 (0 - M) M).map pp)), none, none, none, none, none, none, none, none, none, none, none, none, none, none] G = .next [X0, some (.cell 0), some (.lst (rs.map pt)), some (cv one), z4, some (.lst (S.map pt)), some (pt lo), some (pt hi), some (.lst ((inr S lo hi).map pt)), some (pt M), some (.tup ((spl S 15 (0 - M) M).map pp)), none, none, none, none, none, none, none, none, none, none, none, none, none, none] G := by
  have hr := D0.rw
  have hlen := hr.len
  have c1 : evE (Sa 16) [X0, some (.cell 0), some (.lst (rs.map pt)), some (cv one), z4, some (.lst (S.map pt)), some (pt lo), some (pt hi), some (.lst ((inr S lo hi).map pt)), some (pt M), some (.tup ((spl S 15 (0 - M) M).map pp)), none, none, none, none, none, none, none, none, none, none, none, none, none, none] (.cmp .ne (.prim .len [.var 10]) (.prim .len [.var 5])) G = .ok (.bl false) G := x_cmp (x_prim (x_es x_v x_es0) (len_pp _)) (x_prim (x_es x_v x_es0) (len_lst S)) (ne_len hlen)
  have c2 : evE (Sa 16) [X0, some (.cell 0), some (.lst (rs.map pt)), some (cv one), z4, some (.lst (S.map pt)), some (pt lo), some (pt hi), some (.lst ((inr S lo hi).map pt)), some (pt M), some (.tup ((spl S 15 (0 - M) M).map pp)), none, none, none, none, none, none, none, none, none, none, none, none, none, none] (.comp [12] (.var 12) (.nm 12) (.rng1 (.prim .len [.var 10])) [.or (.not (.call 6 [.ix (.ix (.var 10) (.var 12)) (.con (.int 0)), .ix (.var 5) (.var 12)])) (.call 6 [.ix (.ix (.var 10) (.var 12)) (.con (.int 1)), .ix (.var 5) (.var 12)])]) G = .ok (.lst []) G := by
    refine comp_none (List.range (spl S 15 (0 - M) M).length) (fun (k : Nat) => D.int (k : Int)) (fun k => [X0, some (.cell 0), some (.lst (rs.map pt)), some (cv one), z4, some (.lst (S.map pt)), some (pt lo), some (pt hi), some (.lst ((inr S lo hi).map pt)), some (pt M), some (.tup ((spl S 15 (0 - M) M).map pp)), none, some (.int (k : Nat)), none, none, none, none, none, none, none, none, none, none, none, none]) ?_ (fun r _ => rfl) (fun k hk => ?_)
    · have := i_rng (S := Sa 16) (G := G) (ρ := [X0, some (.cell 0), some (.lst (rs.map pt)), some (cv one), z4, some (.lst (S.map pt)), some (pt lo), some (pt hi), some (.lst ((inr S lo hi).map pt)), some (pt M), some (.tup ((spl S 15 (0 - M) M).map pp)), none, none, none, none, none, none, none, none, none, none, none, none, none, none]) (x_prim (x_es (x_v (i := 10)) x_es0) (len_pp (spl S 15 (0 - M) M))) (by have := D0.lenS; omega)
      rw [this, rng_nat]
    · obtain ⟨a, b, r, h1, h2, h3, h4, h5, h6, h7⟩ := hr.at k (List.mem_range.mp hk)
      have fr : Fi r := D0.fi r (List.mem_of_getElem? h2)
      have l1 := cal_less 15 G (h6.gp (by decide)).fi fr
      have l2 := cal_less 15 G (h7.gp (by decide)).fi fr
      rw [decide_eq_true h3] at l1
      rw [decide_eq_false (by grind)] at l2
      exact x_orf (x_not (b := true) (x_call (x_es (x_ix (x_ix x_v x_v (ix_pp h1)) x_c rfl) (x_es (x_ix x_v x_v (ix_lst h2)) x_es0)) l1)) (x_call (x_es (x_ix (x_ix x_v x_v (ix_pp h1)) x_c rfl) (x_es (x_ix x_v x_v (ix_lst h2)) x_es0)) l2)
  have p0 : evE (Sa 16) [X0, some (.cell 0), some (.lst (rs.map pt)), some (cv one), z4, some (.lst (S.map pt)), some (pt lo), some (pt hi), some (.lst ((inr S lo hi).map pt)), some (pt M), some (.tup ((spl S 15 (0 - M) M).map pp)), none, none, none, none, none, none, none, none, none, none, none, none, none, none] (.tup [.con (.int 0), .con (.int 1)]) G = .ok (pt 0) G := x_tup (x_es x_c (x_es x_c x_es0))
  have c3 : evE (Sa 16) [X0, some (.cell 0), some (.lst (rs.map pt)), some (cv one), z4, some (.lst (S.map pt)), some (pt lo), some (pt hi), some (.lst ((inr S lo hi).map pt)), some (pt M), some (.tup ((spl S 15 (0 - M) M).map pp)), none, none, none, none, none, none, none, none, none, none, none, none, none, none] (.cmp .ne (.prim .list [.call 28 [.var 3, .call 3 [.tup [.con (.int 0), .con (.int 1)], .var 9], .var 9]]) (.prim .list [.var 10])) G = .ok (.bl false) G :=
    x_cmp (x_prim (d := .lst ((spl S 15 (0 - M) M).map pp)) (x_es (x_call (x_es x_v (x_es (x_call (x_es p0 (x_es x_v x_es0)) (cal_lowM D0.P D0.B 13 G)) (x_es x_v x_es0))) (cal_split D0.P 5 hG (by decide) (wkM D0.P D0.B))) x_es0) rfl) (x_prim (d := .lst ((spl S 15 (0 - M) M).map pp)) (x_es x_v x_es0) rfl) (ne_rows _)
  exact s_if0 (x_orf c1 (x_orf (x_cmp c2 (x_lst x_es0) ne_nil) c3))
theorem s12 {lo hi : Rat} {G : Gs} (hG : Cl G) (X0 z4 : Option D) : evS (Sa 16) (st 12) [X0, some (.cell 0), some (.lst (rs.map pt)), some (cv one), z4, some (.lst (S.map pt)), some (pt lo), some (pt hi), some (.lst ((inr S lo hi).map pt)), some (pt M), some (.tup ((spl S 15 (0 - M) M).map pp)), none, none, none, none, none, none, none, none, none, none, none, none, none, none] G = .next [X0, some (.cell 0), some (.lst (rs.map pt)), some (cv one), z4, some (.lst (S.map pt)), some (pt lo), some (pt hi), some (.lst ((inr S lo hi).map pt)), some (pt M), some (.tup ((spl S 15 (0 - M) M).map pp)), some (rv L), none, none, none, none, none, none, none, none, none, none, none, none, none] G :=
  s_set (x_call (x_es (x_call (x_es x_v x_es0) (D0.P.plain 7 G hG)) x_es0) (D0.P.rests 9 G hG))
theorem s13 {lo hi : Rat} {G : Gs} (hG : Cl G) (X0 z4 : Option D) : evS (Sa 16) (st 13) [X0, some (.cell 0), some (.lst (rs.map pt)), some (cv one), z4, some (.lst (S.map pt)), some (pt lo), some (pt hi), some (.lst ((inr S lo hi).map pt)), some (pt M), some (.tup ((spl S 15 (0 - M) M).map pp)), some (rv L), none, none, none, none, none, none, none, none, none, none, none, none, none] G = .next [X0, some (.cell 0), some (.lst (rs.map pt)), some (cv one), z4, some (.lst (S.map pt)), some (pt lo), some (pt hi), some (.lst ((inr S lo hi).map pt)), some (pt M), some (.tup ((spl S 15 (0 - M) M).map pp)), some (rv L), none, none, none, none, none, none, none, none, none, none, none, none, none] G := by
  have P := D0.P
  have hst := sturm P.st (lo := 0 - M) (hi := M) (by have := D0.B.pos; grind)
  rw [nr_all P D0.B] at hst
  have g1 := gdl P D0.B
  have h1 := cal_changes 10 G P.fl (g1.gp (by decide)) (by have := P.ll; omega)
  have h2 := cal_changes 10 G P.fl (D0.B.gd.gp (by decide)) (by have := P.ll; omega)
  have p0 : evE (Sa 16) [X0, some (.cell 0), some (.lst (rs.map pt)), some (cv one), z4, some (.lst (S.map pt)), some (pt lo), some (pt hi), some (.lst ((inr S lo hi).map pt)), some (pt M), some (.tup ((spl S 15 (0 - M) M).map pp)), some (rv L), none, none, none, none, none, none, none, none, none, none, none, none, none] (.tup [.con (.int 0), .con (.int 1)]) G = .ok (pt 0) G := x_tup (x_es x_c (x_es x_c x_es0))
  have c1 : evE (Sa 16) [X0, some (.cell 0), some (.lst (rs.map pt)), some (cv one), z4, some (.lst (S.map pt)), some (pt lo), some (pt hi), some (.lst ((inr S lo hi).map pt)), some (pt M), some (.tup ((spl S 15 (0 - M) M).map pp)), some (rv L), none, none, none, none, none, none, none, none, none, none, none, none, none] (.cmp .ne (.bin .sub (.call 21 [.var 11, .call 3 [.tup [.con (.int 0), .con (.int 1)], .var 9]]) (.call 21 [.var 11, .var 9])) (.prim .len [.var 5])) G = .ok (.bl false) G := by
    refine x_cmp (x_bin (x_call (x_es x_v (x_es (x_call (x_es p0 (x_es x_v x_es0)) (cal_lowM P D0.B 13 G)) x_es0)) h1) (x_call (x_es x_v (x_es x_v x_es0)) h2) (bs _ _)) (x_prim (x_es x_v x_es0) (len_lst S)) ?_
    rw [show ((Vc L (0 - M) : Nat) : Int) - ((Vc L M : Nat) : Int) = ((S.length : Nat) : Int) by omega]
    exact ne_int _
  obtain ⟨L', hL⟩ := P.Lh
  have c2 : evE (Sa 16) [X0, some (.cell 0), some (.lst (rs.map pt)), some (cv one), z4, some (.lst (S.map pt)), some (pt lo), some (pt hi), some (.lst ((inr S lo hi).map pt)), some (pt M), some (.tup ((spl S 15 (0 - M) M).map pp)), some (rv L), none, none, none, none, none, none, none, none, none, none, none, none, none] (.cmp .ne (.ix (.var 11) (.con (.int 0))) (.call 22 [.var 3])) G = .ok (.bl false) G := x_cmp (x_ix x_v x_c (show ixD G (rv L) (.int ((0 : Nat) : Int)) = some (cv F) from L2.atI_nat (by rw [hL]; rfl))) (x_call (x_es x_v x_es0) (P.plain 7 G hG)) (ne_cv rfl)
  exact s_if0 (x_orf c1 c2)
end
end LK
end
/-! ## R24 -/
section
set_option Elab.async false
set_option linter.all false
set_option maxRecDepth 200000
set_option maxHeartbeats 2000000
set_option exponentiation.threshold 300
namespace LK
open PySem PV RP

theorem gd_sub {e : Nat} {a b : Rat} (ha : Gd e a) (hb : Gd e b) (he : e ≤ 80) : Fi (a - b) := by
  have h1 : 2 ^ e < 2 ^ 4400 := Nat.pow_lt_pow_right (by decide) (by omega)
  have h2 : 2 ^ (e + 16) + 2 ^ (e + 16) < 2 ^ 4400 := by
    have := Nat.pow_succ 2 (e + 16)
    have h3 : 2 ^ (e + 17) < 2 ^ 4400 := Nat.pow_lt_pow_right (by decide) (by omega)
    rw [show e + 17 = (e + 16) + 1 by omega] at h3
    omega
  have := fi_add ha hb.neg h1 h2
  rwa [show a + -b = a - b by grind] at this
def nkBody : List St := match st 14 with
  | .for_ _ _ b => b
  | _ => []
theorem Sm.at {S : List Rat} {p : Rat} {ts s : List Rat} (h : Sm S p ts s) : (∀ r ∈ s, r ∈ S) → ∀ k, k < s.length → ∃ t r, ts[k]? = some t ∧ s[k]? = some r ∧ t < r ∧ t ∉ S ∧ (k = 0 → p ≤ t) ∧ (∀ j, k = j + 1 → ∃ q, s[j]? = some q ∧ q < t) := by
  induction h with
  | nil => intro _ k hk; exact absurd hk (by simp)
  | @cons p t r ts s h1 h2 h3 h4 ih =>
    intro hs k hk
    match k, hk with
    | 0, _ => exact ⟨t, r, rfl, rfl, h2, h3, fun _ => h1, fun j hj => absurd hj (by omega)⟩
    | k + 1, hk =>
      obtain ⟨t', r', a1, a2, a3, a4, a5, a6⟩ := ih (fun q hq => hs q (List.mem_cons_of_mem _ hq)) k (by simpa using hk)
      refine ⟨t', r', a1, a2, a3, a4, fun h => absurd h (by omega), fun j hj => ?_⟩
      have hj : k = j := by omega
      subst hj
      match k, a5, a6 with
      | 0, a5, _ =>
        refine ⟨r, rfl, ?_⟩
        have : r ≠ t' := fun e => a4 (by rw [← e]; exact hs r (List.mem_cons_self ..))
        have := a5 rfl
        grind
      | k + 1, _, a6 =>
        obtain ⟨q, b1, b2⟩ := a6 k rfl
        exact ⟨q, b1, b2⟩
theorem eq_lst_nil (l : List Rat) : cmpD .eq (.lst (l.map pt)) (.lst []) = some (decide (l = [])) := by
  have d := dep_pt l
  have h1 : toPy (.lst (l.map pt)) = some (.list (l.map pyt)) := by
    show (toPys (l.map pt)).map PyData.list = _
    rw [toPys_pt]; rfl
  have h2 : SeqAt.shaped (.list (l.map pyt)) = true := by
    show (PyData.canLayAll0 (l.map pyt) && decide (PyData.depthAll (l.map pyt) + 1 ≤ 64)) = true
    rw [lay_pt, decide_eq_true (by omega)]
    rfl
  rw [ceq]
  unfold eqD
  rw [h1]
  show (if (SeqAt.shaped _ && SeqAt.shaped (.list [])) = true then some (PyData.eqv _ _) else none) = _
  rw [h2]
  cases l <;> rfl
theorem num_neg {r : Rat} : r.num < 0 ↔ r < 0 := by
  rw [Rat.lt_iff]
  show _ ↔ _ * ((1 : Nat) : Int) < 0 * _
  omega
theorem mids_len : ∀ l : List Rat, (mids l).length = l.length - 1
  | [] => rfl
  | [_] => rfl
  | a :: b :: l => by
    show (mids (b :: l)).length + 1 = _
    rw [mids_len (b :: l)]; simp
theorem mids_at : ∀ (l : List Rat) (k : Nat), k + 1 < l.length → ∃ a b, l[k]? = some a ∧ l[k + 1]? = some b ∧ (mids l)[k]? = some ((a + b) / 2)
  | [], k, h => absurd h (by simp)
  | [_], k, h => absurd h (by simp)
  | a :: b :: l, 0, _ => ⟨a, b, rfl, rfl, rfl⟩
  | a :: b :: l, k + 1, h => mids_at (b :: l) k (by simpa using h)
theorem mids_map {l : List Rat} (f : Nat → Rat) (h : ∀ k, k + 1 < l.length → ∃ a b, l[k]? = some a ∧ l[k + 1]? = some b ∧ f k = (a + b) / 2) : (List.range (l.length - 1)).map f = mids l := by
  apply List.ext_getElem?
  intro k
  rw [List.getElem?_map]
  by_cases hk : k < l.length - 1
  · rw [List.getElem?_range hk]
    obtain ⟨a, b, h1, h2, h3⟩ := h k (by omega)
    obtain ⟨a', b', g1, g2, g3⟩ := mids_at l k (by omega)
    rw [g3]
    rw [h1] at g1; rw [h2] at g2
    cases g1; cases g2
    show some (f k) = _
    rw [h3]
  · rw [List.getElem?_eq_none (by rw [List.length_range]; omega), List.getElem?_eq_none (by rw [mids_len]; omega)]; rfl
section
variable {rs one S F Q : List Rat} {L : List (List Rat)} {c M : Rat} (D0 : Ld rs one S F L c Q M)
include D0
theorem nk_turn {lo hi : Rat} {G : Gs} (hG : Cl G) (X0 z4 y13 y14 : Option D) {k : Nat} (hk : k < (spl S 15 (0 - M) M).length) : ∃ a2 b2, evB (Sa 16) nkBody [X0, some (.cell 0), some (.lst (rs.map pt)), some (cv one), z4, some (.lst (S.map pt)), some (pt lo), some (pt hi), some (.lst ((inr S lo hi).map pt)), some (pt M), some (.tup ((spl S 15 (0 - M) M).map pp)), some (rv L), some (.int (k : Nat)), y13, y14, none, none, none, none, none, none, none, none, none, none] G = .next [X0, some (.cell 0), some (.lst (rs.map pt)), some (cv one), z4, some (.lst (S.map pt)), some (pt lo), some (pt hi), some (.lst ((inr S lo hi).map pt)), some (pt M), some (.tup ((spl S 15 (0 - M) M).map pp)), some (rv L), some (.int (k : Nat)), some (pt a2), some (pt b2), none, none, none, none, none, none, none, none, none, none] G := by
  obtain ⟨a, b, r, h1, h2, h3, h4, h5, h6, h7⟩ := D0.rw.at k hk
  have hrS : r ∈ S := List.mem_of_getElem? h2
  have fr : Fi r := D0.fi r hrS
  obtain ⟨a2, b2, e, g1, g2, l1, l2, n1, w1⟩ := cal_narrowed D0.P D0.srt 5 hG h6 h7 (by grind) h5
  obtain ⟨r1, r2⟩ := nr_sub h5 n1 l1 l2 hrS h3 h4
  have fa := (h6.gp (by decide)).fi
  have fb := (h7.gp (by decide)).fi
  have fa2 := (g1.gp (by decide)).fi
  have fb2 := (g2.gp (by decide)).fi
  have c1 := cal_less 15 G fa2 fr
  have c2 := cal_less 15 G fb2 fr
  rw [decide_eq_true r1] at c1
  rw [decide_eq_false (by grind)] at c2
  have p8 : evE (Sa 16) [X0, some (.cell 0), some (.lst (rs.map pt)), some (cv one), z4, some (.lst (S.map pt)), some (pt lo), some (pt hi), some (.lst ((inr S lo hi).map pt)), some (pt M), some (.tup ((spl S 15 (0 - M) M).map pp)), some (rv L), some (.int (k : Nat)), some (pt a2), some (pt b2), none, none, none, none, none, none, none, none, none, none] (.tup [.con (.int 8), .con (.int 1)]) G = .ok (pt 8) G := x_tup (x_es x_c (x_es x_c x_es0))
  have m1 := cal_minus 13 G fb2 fa2
  have m2 := cal_times 13 G (gd_sub g2 g1 (by decide)) (fi_small (k := 8) (by decide))
  have m3 := cal_minus 13 G fb fa
  have c3 : evE (Sa 16) [X0, some (.cell 0), some (.lst (rs.map pt)), some (cv one), z4, some (.lst (S.map pt)), some (pt lo), some (pt hi), some (.lst ((inr S lo hi).map pt)), some (pt M), some (.tup ((spl S 15 (0 - M) M).map pp)), some (rv L), some (.int (k : Nat)), some (pt a2), some (pt b2), none, none, none, none, none, none, none, none, none, none] (.cmp .ne (.call 4 [.call 3 [.var 14, .var 13], .tup [.con (.int 8), .con (.int 1)]]) (.call 3 [.ix (.ix (.var 10) (.var 12)) (.con (.int 1)), .ix (.ix (.var 10) (.var 12)) (.con (.int 0))])) G = .ok (.bl false) G :=
    x_cmp (x_call (x_es (x_call (x_es x_v (x_es x_v x_es0)) m1) (x_es p8 x_es0)) m2) (x_call (x_es (x_ix (x_ix x_v x_v (ix_pp h1)) x_c rfl) (x_es (x_ix (x_ix x_v x_v (ix_pp h1)) x_c rfl) x_es0)) m3) (ne_pt (by
      have e8 : ((8 : Int) : Rat) = 8 := rfl
      rw [w1]; grind))
  refine ⟨a2, b2, ?_⟩
  refine b_next (s_set (t := .tp [.nm 13, .nm 14]) (x_call (x_es x_v (x_es (x_ix (x_ix x_v x_v (ix_pp h1)) x_c rfl) (x_es (x_ix (x_ix x_v x_v (ix_pp h1)) x_c rfl) (x_es x_c x_es0)))) e)) (b_next (s_if0 (x_orf (x_not (b := true) (x_call (x_es x_v (x_es (x_ix x_v x_v (ix_lst h2)) x_es0)) c1)) (x_orf (x_call (x_es x_v (x_es (x_ix x_v x_v (ix_lst h2)) x_es0)) c2) c3))) rfl)
theorem s14 {lo hi : Rat} {G : Gs} (hG : Cl G) (X0 z4 : Option D) : ∃ z12 z13 z14, evS (Sa 16) (st 14) [X0, some (.cell 0), some (.lst (rs.map pt)), some (cv one), z4, some (.lst (S.map pt)), some (pt lo), some (pt hi), some (.lst ((inr S lo hi).map pt)), some (pt M), some (.tup ((spl S 15 (0 - M) M).map pp)), some (rv L), none, none, none, none, none, none, none, none, none, none, none, none, none] G = .next [X0, some (.cell 0), some (.lst (rs.map pt)), some (cv one), z4, some (.lst (S.map pt)), some (pt lo), some (pt hi), some (.lst ((inr S lo hi).map pt)), some (pt M), some (.tup ((spl S 15 (0 - M) M).map pp)), some (rv L), z12, z13, z14, none, none, none, none, none, none, none, none, none, none] G := by
  obtain ⟨ρ', G', e, rfl, z12, z13, z14, rfl⟩ := forL_inv (fun d ρ1 G2 => match PV.assign ρ1 (.nm 12) d with | some ρ2 => evB (Sa 16) nkBody ρ2 G2 | none => .bad) (fun k : Nat => D.int (k : Int)) (fun s ρ G' => G = G' ∧ ∃ z12 z13 z14, ρ = [X0, some (.cell 0), some (.lst (rs.map pt)), some (cv one), z4, some (.lst (S.map pt)), some (pt lo), some (pt hi), some (.lst ((inr S lo hi).map pt)), some (pt M), some (.tup ((spl S 15 (0 - M) M).map pp)), some (rv L), z12, z13, z14, none, none, none, none, none, none, none, none, none, none]) (List.range (spl S 15 (0 - M) M).length) [] [X0, some (.cell 0), some (.lst (rs.map pt)), some (cv one), z4, some (.lst (S.map pt)), some (pt lo), some (pt hi), some (.lst ((inr S lo hi).map pt)), some (pt M), some (.tup ((spl S 15 (0 - M) M).map pp)), some (rv L), none, none, none, none, none, none, none, none, none, none, none, none, none] G ⟨rfl, none, none, none, rfl⟩ fun s' k t ρ G' hs' ⟨hG', z12, z13, z14, hρ⟩ => by
    subst hG' hρ
    have hk : k ∈ List.range (spl S 15 (0 - M) M).length := by rw [show List.range (spl S 15 (0 - M) M).length = s' ++ k :: t from hs']; simp
    obtain ⟨a2, b2, e⟩ := nk_turn D0 (lo := lo) (hi := hi) hG X0 z4 z13 z14 (List.mem_range.mp hk)
    exact ⟨_, _, e, rfl, _, _, _, rfl⟩
  have hlen := D0.rw.len
  have i := i_rng (S := Sa 16) (G := G) (ρ := [X0, some (.cell 0), some (.lst (rs.map pt)), some (cv one), z4, some (.lst (S.map pt)), some (pt lo), some (pt hi), some (.lst ((inr S lo hi).map pt)), some (pt M), some (.tup ((spl S 15 (0 - M) M).map pp)), some (rv L), none, none, none, none, none, none, none, none, none, none, none, none, none]) (x_prim (x_es (x_v (i := 10)) x_es0) (len_pp (spl S 15 (0 - M) M))) (by have := D0.lenS; omega)
  rw [rng_nat] at i
  exact ⟨z12, z13, z14, s_for i e⟩
theorem s15 {lo hi : Rat} (hlo : ∃ h : Int, lo = (h : Rat) / 2 ∧ h.natAbs ≤ 8) (hhi : ∃ h : Int, hi = (h : Rat) / 2 ∧ h.natAbs ≤ 8) {G : Gs} (hG : Cl G) (X0 z4 z12 z13 z14 : Option D) : ∃ z15 z16 z17, evS (Sa 16) (st 15) [X0, some (.cell 0), some (.lst (rs.map pt)), some (cv one), z4, some (.lst (S.map pt)), some (pt lo), some (pt hi), some (.lst ((inr S lo hi).map pt)), some (pt M), some (.tup ((spl S 15 (0 - M) M).map pp)), some (rv L), z12, z13, z14, none, none, none, none, none, none, none, none, none, none] G = .next [X0, some (.cell 0), some (.lst (rs.map pt)), some (cv one), z4, some (.lst (S.map pt)), some (pt lo), some (pt hi), some (.lst ((inr S lo hi).map pt)), some (pt M), some (.tup ((spl S 15 (0 - M) M).map pp)), some (rv L), z12, z13, z14, z15, z16, z17, none, none, none, none, none, none, none] G := by
  have P := D0.P
  have hl := cal_less 15 G (half_fi hhi) (half_fi hlo)
  by_cases hlt : hi < lo
  · rw [decide_eq_true hlt] at hl
    exact ⟨none, none, none, s_if0 (x_not (b := true) (x_call (x_es x_v (x_es x_v x_es0)) hl))⟩
  · rw [decide_eq_false hlt] at hl
    have hle : lo ≤ hi := by grind
    have hin : ∀ r ∈ inr S lo hi, ∃ h : Int, r = (h : Rat) / 2 ∧ h.natAbs ≤ 8 := fun r hr => P.hes r (mem_inr.mp hr).1
    have hln : (inr S lo hi).length ≤ 4 := Nat.le_trans (List.length_filter_le ..) D0.lenS
    have hh : ∀ r ∈ lo :: hi :: inr S lo hi, ∃ h : Int, r = (h : Rat) / 2 ∧ h.natAbs ≤ 8 := fun r hr => by
      rcases List.mem_cons.mp hr with rfl | hr
      · exact hlo
      · rcases List.mem_cons.mp hr with rfl | hr
        · exact hhi
        · exact hin r hr
    obtain ⟨m, vs, ks, d1, d2, d3, d4, d5⟩ := sort_pt (l := lo :: hi :: inr S lo hi) (fun r hr => (half_bd (hh r hr)).mono (by decide)) (by simp only [List.length_cons]; omega)
    have hmm : ∀ r ∈ m, ∃ h : Int, r = (h : Rat) / 2 ∧ h.natAbs ≤ 8 := fun r hr => hh r ((d4 r).mp hr)
    have hml : m.length ≤ 6 := by simp only [List.length_cons] at d5; omega
    have ec : evE (Sa 16) [X0, some (.cell 0), some (.lst (rs.map pt)), some (cv one), z4, some (.lst (S.map pt)), some (pt lo), some (pt hi), some (.lst ((inr S lo hi).map pt)), some (pt M), some (.tup ((spl S 15 (0 - M) M).map pp)), some (rv L), z12, z13, z14, none, none, none, none, none, none, none, none, none, none] (.comp [24] (.tup [.var 24, .con (.int 1)]) (.nm 24) (.seq (.bin .add (.lst [.var 6, .var 7]) (.var 8))) []) G = .ok (.lst ((lo :: hi :: inr S lo hi).map fun r => D.tup [pt r, .int 1])) G :=
      comp_map (lo :: hi :: inr S lo hi) pt (fun r => D.tup [pt r, .int 1]) (fun r => [X0, some (.cell 0), some (.lst (rs.map pt)), some (cv one), z4, some (.lst (S.map pt)), some (pt lo), some (pt hi), some (.lst ((inr S lo hi).map pt)), some (pt M), some (.tup ((spl S 15 (0 - M) M).map pp)), some (rv L), z12, z13, z14, none, none, none, none, none, none, none, none, none, some (pt r)]) (i_seq (x_bin (d := .lst ((lo :: hi :: inr S lo hi).map pt)) (x_lst (x_es x_v (x_es x_v x_es0))) x_v (by
        show (if _ then some (D.lst ([pt lo, pt hi] ++ (inr S lo hi).map pt)) else none) = _
        rw [if_pos (by rw [List.length_map, szl]; simp only [List.length_cons, List.length_nil]; omega)]; rfl)) rfl) (fun r _ => rfl) (fun r _ => x_tup (x_es x_v (x_es x_c x_es0))) (by rw [szl]; simp only [List.length_cons]; omega)
    have ed : evE (Sa 16) [X0, some (.cell 0), some (.lst (rs.map pt)), some (cv one), z4, some (.lst (S.map pt)), some (pt lo), some (pt hi), some (.lst ((inr S lo hi).map pt)), some (pt M), some (.tup ((spl S 15 (0 - M) M).map pp)), some (rv L), z12, z13, z14, none, none, none, none, none, none, none, none, none, none] (.dctP (.comp [24] (.tup [.var 24, .con (.int 1)]) (.nm 24) (.seq (.bin .add (.lst [.var 6, .var 7]) (.var 8))) [])) G = .ok (.dct ks vs) G := by
      simp only [evE] at ec ⊢
      rw [ec, rb]
      simp only [d1]
      rw [if_pos (by rw [List.length_map, szl]; simp only [List.length_cons]; omega)]
    have es : evE (Sa 16) [X0, some (.cell 0), some (.lst (rs.map pt)), some (cv one), z4, some (.lst (S.map pt)), some (pt lo), some (pt hi), some (.lst ((inr S lo hi).map pt)), some (pt M), some (.tup ((spl S 15 (0 - M) M).map pp)), some (rv L), z12, z13, z14, none, none, none, none, none, none, none, none, none, none] (.sortQ (.dctP (.comp [24] (.tup [.var 24, .con (.int 1)]) (.nm 24) (.seq (.bin .add (.lst [.var 6, .var 7]) (.var 8))) [])) 10 2) G = .ok (.lst (m.map pt)) G := by
      simp only [evE] at ed ⊢
      rw [ed, rb, d2, rof]
    have hcov := marks_cov d3 (lo := lo) (hi := hi) (fun x => by rw [d4, List.mem_cons, List.mem_cons]) hle
    have f2 : Fi (2 : Rat) := fi_small (k := 2) (by decide)
    have em : evE (Sa 16) [X0, some (.cell 0), some (.lst (rs.map pt)), some (cv one), z4, some (.lst (S.map pt)), some (pt lo), some (pt hi), some (.lst ((inr S lo hi).map pt)), some (pt M), some (.tup ((spl S 15 (0 - M) M).map pp)), some (rv L), z12, z13, z14, some (.lst (m.map pt)), none, none, none, none, none, none, none, none, none] (.comp [12] (.call 5 [.call 2 [.ix (.var 15) (.var 12), .ix (.var 15) (.bin .add (.var 12) (.con (.int 1)))], .tup [.con (.int 2), .con (.int 1)]]) (.nm 12) (.rng1 (.bin .sub (.prim .len [.var 15]) (.con (.int 1)))) []) G = .ok (.lst ((mids m).map pt)) G := by
      have hm0 : m ≠ [] := fun e => by
        have := (d4 lo).mpr (List.mem_cons_self ..)
        rw [e] at this; exact nomatch this
      have hm1 := List.length_pos_iff.mpr hm0
      have i := i_rng (S := Sa 16) (G := G) (ρ := [X0, some (.cell 0), some (.lst (rs.map pt)), some (cv one), z4, some (.lst (S.map pt)), some (pt lo), some (pt hi), some (.lst ((inr S lo hi).map pt)), some (pt M), some (.tup ((spl S 15 (0 - M) M).map pp)), some (rv L), z12, z13, z14, some (.lst (m.map pt)), none, none, none, none, none, none, none, none, none]) (j := ((m.length - 1 : Nat) : Int)) (x_bin (x_prim (x_es (x_v (i := 15)) x_es0) (len_lst m)) (x_c (d := .int 1)) (by rw [bs]; congr 2; omega)) (by omega)
      rw [rng_nat] at i
      have key : ∀ k, k + 1 < m.length → ∃ a b, m[k]? = some a ∧ m[k + 1]? = some b ∧ (m.getD k 0 + m.getD (k + 1) 0) / 2 = (a + b) / 2 := fun k hk => ⟨_, _, getD_of (by omega), getD_of hk, rfl⟩
      rw [← mids_map _ key, List.map_map]
      refine comp_map (List.range (m.length - 1)) (fun (k : Nat) => D.int (k : Int)) (fun k => pt ((m.getD k 0 + m.getD (k + 1) 0) / 2)) (fun k => [X0, some (.cell 0), some (.lst (rs.map pt)), some (cv one), z4, some (.lst (S.map pt)), some (pt lo), some (pt hi), some (.lst ((inr S lo hi).map pt)), some (pt M), some (.tup ((spl S 15 (0 - M) M).map pp)), some (rv L), some (.int (k : Nat)), z13, z14, some (.lst (m.map pt)), none, none, none, none, none, none, none, none, none]) i (fun r _ => rfl) (fun k hk => ?_) (by rw [szl, List.length_range]; omega)
      have hk := List.mem_range.mp hk
      have h1 := getD_of (l := m) (k := k) (by omega)
      have h2 := getD_of (l := m) (k := k + 1) (by omega)
      have g1 := half_gd (hmm _ (List.mem_of_getElem? h1))
      have g2 := half_gd (hmm _ (List.mem_of_getElem? h2))
      have p2 : evE (Sa 16) [X0, some (.cell 0), some (.lst (rs.map pt)), some (cv one), z4, some (.lst (S.map pt)), some (pt lo), some (pt hi), some (.lst ((inr S lo hi).map pt)), some (pt M), some (.tup ((spl S 15 (0 - M) M).map pp)), some (rv L), some (.int (k : Nat)), z13, z14, some (.lst (m.map pt)), none, none, none, none, none, none, none, none, none] (.tup [.con (.int 2), .con (.int 1)]) G = .ok (pt 2) G := x_tup (x_es x_c (x_es x_c x_es0))
      have e1 := cal_plus 13 G (g1.gp (by decide)).fi (g2.gp (by decide)).fi
      have fs : Fi (m.getD k 0 + m.getD (k + 1) 0) := by
        have := gd_sub g1 g2.neg (by decide)
        rwa [show m.getD k 0 - -m.getD (k + 1) 0 = m.getD k 0 + m.getD (k + 1) 0 by grind] at this
      have e2 := cal_over 13 G fs f2 (by decide +kernel) (.inl (by decide +kernel))
      exact x_call (x_es (x_call (x_es (x_ix x_v x_v (ix_lst h1)) (x_es (x_ix x_v (x_bin x_v x_c (ba _ _)) (ix_lst (k := k + 1) h2)) x_es0)) e1) (x_es p2 x_es0)) e2
    have eT : evE (Sa 16) [X0, some (.cell 0), some (.lst (rs.map pt)), some (cv one), z4, some (.lst (S.map pt)), some (pt lo), some (pt hi), some (.lst ((inr S lo hi).map pt)), some (pt M), some (.tup ((spl S 15 (0 - M) M).map pp)), some (rv L), z12, z13, z14, some (.lst (m.map pt)), none, none, none, none, none, none, none, none, none] (.bin .add (.var 15) (.comp [12] (.call 5 [.call 2 [.ix (.var 15) (.var 12), .ix (.var 15) (.bin .add (.var 12) (.con (.int 1)))], .tup [.con (.int 2), .con (.int 1)]]) (.nm 12) (.rng1 (.bin .sub (.prim .len [.var 15]) (.con (.int 1)))) [])) G = .ok (.lst ((m ++ mids m).map pt)) G := x_bin x_v em (by
        have hml2 := mids_len m
        show (if _ then some (D.lst (m.map pt ++ (mids m).map pt)) else none) = _
        rw [if_pos (by rw [List.length_map, List.length_map, szl]; omega), List.map_append])
    have hW : Wk (15, lo, hi) := by
      have g1 := half_gd hlo
      have g2 := half_gd hhi
      refine ⟨⟨5, by dsimp only; omega, g1, g2⟩, hle, ?_⟩
      have b1 := (ab_ge lo).2
      have b2 := (ab_ge hi).1
      have b3 := bd_le (half_bd hlo)
      have b4 := bd_le (half_bd hhi)
      have e : hw 15 = 16384 := by decide +kernel
      have e2 : (((8 : Nat) : Rat) / ((2 : Nat) : Rat)) = 4 := by decide +kernel
      rw [e2] at b3 b4
      dsimp only
      rw [e]; grind
    obtain ⟨T, nb, cT⟩ := cal_nb P D0.srt 3 hG hW (by have := D0.lenS; omega)
    obtain ⟨ts, sm, q1, q2⟩ := cal_samples P D0.srt 4 hG hW (by have := D0.lenS; omega)
    have hall := cov_same P cT hcov
    have cF : evE (Sa 16) [X0, some (.cell 0), some (.lst (rs.map pt)), some (cv one), z4, some (.lst (S.map pt)), some (pt lo), some (pt hi), some (.lst ((inr S lo hi).map pt)), some (pt M), some (.tup ((spl S 15 (0 - M) M).map pp)), some (rv L), z12, z13, z14, some (.lst (m.map pt)), some (.lst ((m ++ mids m).map pt)), none, none, none, none, none, none, none, none] (.comp [24] (.var 24) (.nm 24) (.seq (.var 16)) [.cmp .lt (.ix (.call 17 [.var 3, .var 24]) (.con (.int 0))) (.con (.int 0))]) G = .ok (.lst (((m ++ mids m).filter fun t => decide (ev one t < 0)).map pt)) G := by
      have hml2 := mids_len m
      refine comp_filt (m ++ mids m) pt pt (fun t => decide (ev one t < 0)) (fun t => [X0, some (.cell 0), some (.lst (rs.map pt)), some (cv one), z4, some (.lst (S.map pt)), some (pt lo), some (pt hi), some (.lst ((inr S lo hi).map pt)), some (pt M), some (.tup ((spl S 15 (0 - M) M).map pp)), some (rv L), z12, z13, z14, some (.lst (m.map pt)), some (.lst ((m ++ mids m).map pt)), none, none, none, none, none, none, none, some (pt t)]) (i_seq x_v rfl) (fun r _ => rfl) (fun t ht => t_one ?_) (fun r _ _ => x_v) (by rw [szl, List.length_append]; omega)
      have gt : Gp t := by
        rcases List.mem_append.mp ht with h | h
        · exact (half_gd (hmm t h)).gp (by decide)
        · obtain ⟨k, hk⟩ := List.mem_iff_getElem?.mp h
          have hkl := (List.getElem?_eq_some_iff.mp hk).1
          rw [mids_len] at hkl
          obtain ⟨a, b, h1, h2, h3⟩ := mids_at m k (by omega)
          rw [h3] at hk
          cases hk
          exact ((half_gd (hmm _ (List.mem_of_getElem? h1))).mid (half_gd (hmm _ (List.mem_of_getElem? h2)))).gp (by decide)
      exact x_cmp (x_ix (x_call (x_es x_v (x_es x_v x_es0)) (worth_at 12 G P.fit gt)) x_c (ix0 _ _)) x_c (by rw [clt]; congr 1; exact decide_eq_decide.mpr num_neg)
    have c1 : evE (Sa 16) [X0, some (.cell 0), some (.lst (rs.map pt)), some (cv one), z4, some (.lst (S.map pt)), some (pt lo), some (pt hi), some (.lst ((inr S lo hi).map pt)), some (pt M), some (.tup ((spl S 15 (0 - M) M).map pp)), some (rv L), z12, z13, z14, some (.lst (m.map pt)), some (.lst ((m ++ mids m).map pt)), none, none, none, none, none, none, none, none] (.cmp .ne (.call 29 [.var 3, .var 6, .var 7]) (.cmp .eq (.comp [24] (.var 24) (.nm 24) (.seq (.var 16)) [.cmp .lt (.ix (.call 17 [.var 3, .var 24]) (.con (.int 0))) (.con (.int 0))]) (.lst []))) G = .ok (.bl false) G := by
      refine x_cmp (x_call (x_es x_v (x_es x_v (x_es x_v x_es0))) nb) (x_cmp cF (x_lst x_es0) (eq_lst_nil _)) (ne_bl ?_)
      rw [hall, Bool.eq_iff_iff, decide_eq_true_iff, List.filter_eq_nil_iff, List.all_eq_true]
      constructor
      · intro h a ha hc
        have := of_decide_eq_true (h a ha)
        have := of_decide_eq_true hc
        grind
      · intro h a ha
        have := h a ha
        exact decide_eq_true (by
          refine Rat.not_lt.mp fun hn => this (decide_eq_true hn))
    have hsl := q1.len
    have c2 : evE (Sa 16) [X0, some (.cell 0), some (.lst (rs.map pt)), some (cv one), z4, some (.lst (S.map pt)), some (pt lo), some (pt hi), some (.lst ((inr S lo hi).map pt)), some (pt M), some (.tup ((spl S 15 (0 - M) M).map pp)), some (rv L), z12, z13, z14, some (.lst (m.map pt)), some (.lst ((m ++ mids m).map pt)), some (cv (lo :: hi :: ts)), none, none, none, none, none, none, none] (.cmp .ne (.sl (.var 17) none (some (.con (.int 2)))) (.tup [.var 6, .var 7])) G = .ok (.bl false) G :=
      x_cmp (x_sl x_v o_none (o_some x_c) (sl_cv (lo :: hi :: ts) 2)) (x_tup (x_es x_v (x_es x_v x_es0))) (ne_cv (l := [lo, hi]) (m := [lo, hi]) rfl)
    have c3 : evE (Sa 16) [X0, some (.cell 0), some (.lst (rs.map pt)), some (cv one), z4, some (.lst (S.map pt)), some (pt lo), some (pt hi), some (.lst ((inr S lo hi).map pt)), some (pt M), some (.tup ((spl S 15 (0 - M) M).map pp)), some (rv L), z12, z13, z14, some (.lst (m.map pt)), some (.lst ((m ++ mids m).map pt)), some (cv (lo :: hi :: ts)), none, none, none, none, none, none, none] (.cmp .ne (.prim .len [.var 17]) (.bin .add (.con (.int 2)) (.prim .len [.var 8]))) G = .ok (.bl false) G := by
      refine x_cmp (x_prim (x_es x_v x_es0) (len_cv (lo :: hi :: ts))) (x_bin x_c (x_prim (x_es x_v x_es0) (len_lst (inr S lo hi))) (ba _ _)) ?_
      rw [show (2 : Int) + (((inr S lo hi).length : Nat) : Int) = (((lo :: hi :: ts).length : Nat) : Int) by simp only [List.length_cons]; omega]
      exact ne_int _
    have c4 : evE (Sa 16) [X0, some (.cell 0), some (.lst (rs.map pt)), some (cv one), z4, some (.lst (S.map pt)), some (pt lo), some (pt hi), some (.lst ((inr S lo hi).map pt)), some (pt M), some (.tup ((spl S 15 (0 - M) M).map pp)), some (rv L), z12, z13, z14, some (.lst (m.map pt)), some (.lst ((m ++ mids m).map pt)), some (cv (lo :: hi :: ts)), none, none, none, none, none, none, none] (.comp [12] (.var 12) (.nm 12) (.rng1 (.prim .len [.var 8])) [.or (.not (.call 6 [.ix (.var 17) (.bin .add (.var 12) (.con (.int 2))), .ix (.var 8) (.var 12)])) (.or (.and (.cmp .gt (.var 12) (.con (.int 0))) (.not (.call 6 [.ix (.var 8) (.bin .sub (.var 12) (.con (.int 1))), .ix (.var 17) (.bin .add (.var 12) (.con (.int 2)))]))) (.and (.cmp .eq (.var 12) (.con (.int 0))) (.call 6 [.ix (.var 17) (.con (.int 2)), .var 6])))]) G = .ok (.lst []) G := by
      refine comp_none (List.range (inr S lo hi).length) (fun (k : Nat) => D.int (k : Int)) (fun k => [X0, some (.cell 0), some (.lst (rs.map pt)), some (cv one), z4, some (.lst (S.map pt)), some (pt lo), some (pt hi), some (.lst ((inr S lo hi).map pt)), some (pt M), some (.tup ((spl S 15 (0 - M) M).map pp)), some (rv L), some (.int (k : Nat)), z13, z14, some (.lst (m.map pt)), some (.lst ((m ++ mids m).map pt)), some (cv (lo :: hi :: ts)), none, none, none, none, none, none, none]) ?_ (fun r _ => rfl) (fun k hk => ?_)
      · have i := i_rng (S := Sa 16) (G := G) (ρ := [X0, some (.cell 0), some (.lst (rs.map pt)), some (cv one), z4, some (.lst (S.map pt)), some (pt lo), some (pt hi), some (.lst ((inr S lo hi).map pt)), some (pt M), some (.tup ((spl S 15 (0 - M) M).map pp)), some (rv L), z12, z13, z14, some (.lst (m.map pt)), some (.lst ((m ++ mids m).map pt)), some (cv (lo :: hi :: ts)), none, none, none, none, none, none, none]) (x_prim (x_es (x_v (i := 8)) x_es0) (len_lst (inr S lo hi))) (by omega)
        rw [rng_nat] at i
        exact i
      · have hk := List.mem_range.mp hk
        obtain ⟨t, r, a1, a2, a3, a4, a5, a6⟩ := q1.at (fun r hr => (mem_inr.mp hr).1) k hk
        have ft : Fi t := ((q2 t (List.mem_of_getElem? a1)).gp (by decide)).fi
        have fr : Fi r := half_fi (hin r (List.mem_of_getElem? a2))
        have l1 := cal_less 15 G ft fr
        rw [decide_eq_true a3] at l1
        have a1' : (lo :: hi :: ts)[k + 2]? = some t := a1
        have it : evE (Sa 16) [X0, some (.cell 0), some (.lst (rs.map pt)), some (cv one), z4, some (.lst (S.map pt)), some (pt lo), some (pt hi), some (.lst ((inr S lo hi).map pt)), some (pt M), some (.tup ((spl S 15 (0 - M) M).map pp)), some (rv L), some (.int (k : Nat)), z13, z14, some (.lst (m.map pt)), some (.lst ((m ++ mids m).map pt)), some (cv (lo :: hi :: ts)), none, none, none, none, none, none, none] (.ix (.var 17) (.bin .add (.var 12) (.con (.int 2)))) G = .ok (pt t) G := x_ix x_v (x_bin x_v x_c (ba _ _)) (ix_tup (k := k + 2) a1')
        refine x_orf (x_not (b := true) (x_call (x_es it (x_es (x_ix x_v x_v (ix_lst a2)) x_es0)) l1)) ?_
        match k, a1, a2, a1', a5, a6, it with
        | 0, a1, a2, a1', a5, a6, it =>
          have l2 := cal_less 15 G ft (half_fi hlo)
          rw [decide_eq_false (by have := a5 rfl; grind)] at l2
          exact x_orf (x_andf (x_cmp x_v x_c rfl)) (x_andt (x_cmp x_v x_c rfl) (x_call (x_es (x_ix x_v x_c (ix_tup (k := 2) a1')) (x_es x_v x_es0)) l2))
        | k + 1, a1, a2, a1', a5, a6, it =>
          obtain ⟨q, b1, b2⟩ := a6 k rfl
          have fq : Fi q := half_fi (hin q (List.mem_of_getElem? b1))
          have l2 := cal_less 15 G fq ft
          rw [decide_eq_true b2] at l2
          have iq : evE (Sa 16) [X0, some (.cell 0), some (.lst (rs.map pt)), some (cv one), z4, some (.lst (S.map pt)), some (pt lo), some (pt hi), some (.lst ((inr S lo hi).map pt)), some (pt M), some (.tup ((spl S 15 (0 - M) M).map pp)), some (rv L), some (.int ((k + 1 : Nat) : Int)), z13, z14, some (.lst (m.map pt)), some (.lst ((m ++ mids m).map pt)), some (cv (lo :: hi :: ts)), none, none, none, none, none, none, none] (.ix (.var 8) (.bin .sub (.var 12) (.con (.int 1)))) G = .ok (pt q) G := x_ix x_v (x_bin x_v x_c (d := .int ((k : Nat) : Int)) (by rw [bs]; congr 2; omega)) (ix_lst b1)
          exact x_orf (x_andt (x_cmp x_v x_c (by rw [cgt, decide_eq_true (by omega)])) (x_not (b := true) (x_call (x_es iq (x_es it x_es0)) l2))) (x_andf (x_cmp x_v x_c (by rw [ceq, eqD_int, decide_eq_false (by omega)])))
    refine ⟨some (.lst (m.map pt)), some (.lst ((m ++ mids m).map pt)), some (cv (lo :: hi :: ts)), s_itet (x_not (b := false) (x_call (x_es x_v (x_es x_v x_es0)) hl)) ?_⟩
    exact b_next (s_set es) (b_next (s_set eT) (b_next (s_if0 c1) (b_next (s_set (x_call (x_es x_v (x_es x_v (x_es x_v x_es0))) sm)) (b_next (s_if0 (x_orf c2 (x_orf c3 (x_cmp c4 (x_lst x_es0) ne_nil)))) rfl))))
end
end LK
end
/-! ## R25 -/
section
set_option Elab.async false
set_option linter.all false
set_option maxRecDepth 200000
set_option maxHeartbeats 2000000
set_option exponentiation.threshold 300
namespace LK
open PySem PV RP

theorem s16 {one : List Rat} {G : Gs} (h : Dice 985 G) (X0 X2 X4 X5 X6 X7 X8 X9 X10 X11 X12 X13 X14 X15 X16 X17 X18 X19 X20 X21 X22 X23 X24 : Option D) : ∃ at_ G', evS (Sa 16) (st 16) [X0, some (.cell 0), X2, some (cv one), X4, X5, X6, X7, X8, X9, X10, X11, X12, X13, X14, X15, X16, X17, X18, X19, X20, X21, X22, X23, X24] G = .next [X0, some (.cell 0), X2, some (cv one), X4, X5, X6, X7, X8, X9, X10, X11, X12, X13, X14, X15, X16, X17, some (pt at_), X19, X20, X21, X22, X23, X24] G' ∧ (∃ h : Int, at_ = (h : Rat) / 2 ∧ h.natAbs ≤ 8) ∧ Dice 984 G' := by
  obtain ⟨r, G1, e1, h1, g1⟩ := two_roll 13 984 9 4 (by decide) (by decide) h (ρ := [X0, some (.cell 0), X2, some (cv one), X4, X5, X6, X7, X8, X9, X10, X11, X12, X13, X14, X15, X16, X17, X18, X19, X20, X21, X22, X23, X24]) rfl
  exact ⟨r, G1, s_set e1, h1, g1⟩
section
variable {rs one S F Q : List Rat} {L : List (List Rat)} {c M : Rat} (D0 : Ld rs one S F L c Q M)
include D0
theorem s17 {at_ : Rat} (ha : ∃ h : Int, at_ = (h : Rat) / 2 ∧ h.natAbs ≤ 8) (G : Gs) (X0 X2 X4 X5 X6 X7 X8 X9 X10 X11 X12 X13 X14 X15 X16 X17 X19 X20 X21 X22 X23 X24 : Option D) : evS (Sa 16) (st 17) [X0, some (.cell 0), X2, some (cv one), X4, X5, X6, X7, X8, X9, X10, X11, X12, X13, X14, X15, X16, X17, some (pt at_), X19, X20, X21, X22, X23, X24] G = .next [X0, some (.cell 0), X2, some (cv one), X4, X5, X6, X7, X8, X9, X10, X11, X12, X13, X14, X15, X16, X17, some (pt at_), some (.int (ev one at_).num), X20, X21, X22, X23, X24] G :=
  s_set (x_ix (x_call (x_es x_v (x_es x_v x_es0)) (worth_at 12 G D0.P.fit ((half_gd ha).gp (by decide)))) x_c (ix0 _ _))
theorem s18 {at_ : Rat} (ha : ∃ h : Int, at_ = (h : Rat) / 2 ∧ h.natAbs ≤ 8) (G : Gs) (X0 X2 X4 X5 X6 X7 X8 X9 X10 X11 X12 X13 X14 X15 X16 X17 X20 X21 X22 X23 X24 : Option D) : evS (Sa 16) (st 18) [X0, some (.cell 0), X2, some (cv one), X4, X5, X6, X7, X8, X9, X10, X11, X12, X13, X14, X15, X16, X17, some (pt at_), some (.int (ev one at_).num), X20, X21, X22, X23, X24] G = .next [X0, some (.cell 0), X2, some (cv one), X4, X5, X6, X7, X8, X9, X10, X11, X12, X13, X14, X15, X16, X17, some (pt at_), some (.int (ev one at_).num), X20, X21, X22, X23, X24] G := by
  have hs := cal_sign 11 G D0.P.fit ((half_gd ha).gp (by decide))
  generalize ev one at_ = v at hs ⊢
  have sc := sg_cases v
  rcases sc with h | h | h
  · have hv := sg_zero.mp h
    rw [h] at hs
    have h0 : v.num = 0 := num_zero.mpr hv
    exact s_if0 (x_cmp (x_call (x_es x_v (x_es x_v x_es0)) hs) (x_itet (x_cmp x_v x_c (by rw [ceq, eqD_int, decide_eq_true h0])) x_c) (ne_int 0))
  · have hv := num_pos.mpr (sg_pos.mp h)
    rw [h] at hs
    exact s_if0 (x_cmp (x_call (x_es x_v (x_es x_v x_es0)) hs) (x_itef (x_cmp x_v x_c (by rw [ceq, eqD_int, decide_eq_false (by omega)])) (x_itet (x_cmp x_v x_c (by rw [cgt, decide_eq_true hv])) x_c)) (ne_int 1))
  · have hv := num_neg.mpr (sg_neg.mp h)
    rw [h] at hs
    exact s_if0 (x_cmp (x_call (x_es x_v (x_es x_v x_es0)) hs) (x_itef (x_cmp x_v x_c (by rw [ceq, eqD_int, decide_eq_false (by omega)])) (x_itef (x_cmp x_v x_c (by rw [cgt, decide_eq_false (by omega)])) (x_bin x_c x_c (bs 0 1)))) (ne_int (-1)))
end
theorem s19 (G : Gs) (X0 X2 X3 X4 X5 X6 X7 X8 X9 X10 X11 X12 X13 X14 X15 X16 X17 X18 X19 X20 X21 X22 X23 X24 : Option D) : evS (Sa 16) (st 19) [X0, some (.cell 0), X2, X3, X4, X5, X6, X7, X8, X9, X10, X11, X12, X13, X14, X15, X16, X17, X18, X19, X20, X21, X22, X23, X24] G = .next [X0, some (.cell 0), X2, X3, X4, X5, X6, X7, X8, X9, X10, X11, X12, X13, X14, X15, X16, X17, X18, X19, some (cv [3]), some (.lst []), X22, X23, X24] G := s_set (x_tup (x_es (x_tup (x_es (x_tup (x_es x_c (x_es x_c x_es0))) x_es0)) (x_es (x_lst x_es0) x_es0)))
def tnBody : List St := match st 20 with
  | .for_ _ _ b => b
  | _ => []
def BI : Nat → Nat
  | 0 => 3
  | i + 1 => mulB (BI i) 144 20
theorem opts_bd : ∀ f ∈ opts, f.1.length ≤ 3 ∧ (∀ r ∈ f.1, r.den * (36 / r.den) = 36 ∧ r.num.natAbs * (36 / r.den) ≤ 144) ∧ (f.2.den ≤ 36 ∧ f.2.num.natAbs ≤ 1000) ∧ 0 < ev f.1 100 := by decide +kernel
theorem fac_lb {f : List Rat × Rat} (h : f ∈ opts) : LB 36 144 20 f.1 := by
  obtain ⟨h1, h2, _, _⟩ := opts_bd f h
  refine ⟨by decide, by omega, fun r hr => ?_⟩
  obtain ⟨a, b⟩ := h2 r hr
  have hp : 0 < 36 / r.den := Nat.pos_of_ne_zero fun e => by rw [e] at a; omega
  have := (fi_bd r).up hp
  rw [a] at this
  exact this.mono b
theorem fac_fi {f : List Rat × Rat} (h : f ∈ opts) : Fi f.2 := by
  obtain ⟨_, _, ⟨a, b⟩, _⟩ := opts_bd f h
  have e : (1001 : Nat) < 2 ^ 10 := by decide
  have e2 : 2 ^ 10 ≤ 2 ^ 4400 := Nat.pow_le_pow_right (by decide) (by decide)
  generalize 2 ^ 10 = t at e e2
  exact ⟨Nat.lt_of_lt_of_le (show f.2.num.natAbs < t by omega) e2, Nat.lt_of_lt_of_le (show f.2.den < t by omega) e2⟩
theorem prF_ne {fs : List (List Rat × Rat)} (h : ∀ f ∈ fs, f ∈ opts) : trim (prF fs) ≠ [] := fun e => by
  have key : ∀ fs : List (List Rat × Rat), (∀ f ∈ fs, f ∈ opts) → 0 < ev (prF fs) 100 := fun fs => by
    induction fs with
    | nil => intro _; show (0 : Rat) < 3 + 100 * 0; decide +kernel
    | cons f fs ih =>
      intro h
      show 0 < ev (mulP f.1 (prF fs)) 100
      rw [ev_mul]
      exact Rat.mul_pos (opts_bd f (h f (List.mem_cons_self ..))).2.2.2 (ih fun g hg => h g (List.mem_cons_of_mem _ hg))
  have := key fs h
  rw [← ev_trim, e] at this
  exact absurd this (by decide +kernel)
theorem prF_len : ∀ {fs : List (List Rat × Rat)}, (∀ f ∈ fs, f ∈ opts) → (prF fs).length ≤ 1 + 3 * fs.length
  | [], _ => by decide
  | f :: fs, h => by
    have hfs : ∀ g ∈ fs, g ∈ opts := fun g hg => h g (List.mem_cons_of_mem _ hg)
    have ih := prF_len hfs
    have h1 := (opts_bd f (h f (List.mem_cons_self ..))).1
    have hne : prF fs ≠ [] := fun e => prF_ne hfs (by rw [e]; rfl)
    rcases mul_len f.1 (prF fs) with h2 | h2
    · show (mulP f.1 (prF fs)).length ≤ _
      rw [List.length_cons]; omega
    · exact absurd h2 hne
theorem facR_mem {k : Int} (h : -4 ≤ k ∧ k ≤ 4) : facR k ∈ opts := by
  refine List.mem_append_left _ (List.mem_map.mpr ⟨k, ?_, rfl⟩)
  have : k = -4 ∨ k = -3 ∨ k = -2 ∨ k = -1 ∨ k = 0 ∨ k = 1 ∨ k = 2 ∨ k = 3 ∨ k = 4 := by omega
  rcases this with rfl | rfl | rfl | rfl | rfl | rfl | rfl | rfl | rfl <;> decide
theorem facQ_mem {j i : Int} (h : -2 ≤ j ∧ j ≤ 2) (h2 : 1 ≤ i ∧ i ≤ 3) : facQ j i ∈ opts := by
  refine List.mem_append_right _ (List.mem_flatMap.mpr ⟨j, ?_, List.mem_map.mpr ⟨i, ?_, rfl⟩⟩)
  · have : j = -2 ∨ j = -1 ∨ j = 0 ∨ j = 1 ∨ j = 2 := by omega
    rcases this with rfl | rfl | rfl | rfl | rfl <;> decide
  · have : i = 1 ∨ i = 2 ∨ i = 3 := by omega
    rcases this with rfl | rfl | rfl <;> decide
theorem sm_fi {t l : Int} (ht : t.natAbs ≤ 9) (hl : 1 ≤ l ∧ l ≤ 9) : Fi ((t : Rat) / (l : Rat)) := by
  have e1 : (l : Rat) = ((l.toNat : Nat) : Rat) := by rw [← Rat.intCast_natCast]; congr 1; omega
  have h : Bd l.toNat 9 ((t : Rat) / (l : Rat)) := ⟨t, by rw [e1], by omega, by omega⟩
  have e : (10 : Nat) < 2 ^ 10 := by decide
  have e2 : 2 ^ 10 ≤ 2 ^ 4400 := Nat.pow_le_pow_right (by decide) (by decide)
  generalize 2 ^ 10 = t at e e2
  exact h.fi (Nat.lt_of_lt_of_le (by omega : l.toNat < t) e2) (Nat.lt_of_lt_of_le (by omega : 9 < t) e2)
/-- one more factor -/
theorem more {fs : List (List Rat × Rat)} {f : List Rat × Rat} (hf : f ∈ opts) (hfs : ∀ g ∈ fs, g ∈ opts) (hl : fs.length ≤ 2) (lb : LB (36 ^ fs.length) (BI fs.length) 20 (trim (prF fs))) {G : Gs} (hG : Cl G) {l : List Rat} (hlf : l = f.1) : (Sa 16).cal 11 [.lst (l.map pt)] G = .ok (cv (trim l)) G ∧ (Sa 16).cal 15 [cv (trim (prF fs)), cv (trim l)] G = .ok (cv (trim (prF (f :: fs)))) G ∧ LB (36 ^ (f :: fs).length) (BI (f :: fs).length) 20 (trim (prF (f :: fs))) := by
  subst hlf
  have lf := fac_lb hf
  have hlen := (opts_bd f hf).1
  have ec := cal_curve 12 G (x := .lst (f.1.map pt)) (l := f.1) rfl (lf.fi (.of (by decide +kernel))) (by omega)
  have lim : Lim (36 ^ fs.length * 36 * (mulB (BI fs.length) 144 20 + BI fs.length + 144 + 1)) := by
    have : fs.length = 0 ∨ fs.length = 1 ∨ fs.length = 2 := by omega
    rcases this with e | e | e <;> rw [e] <;> exact .of (by decide +kernel)
  obtain ⟨em, F, hF, hB⟩ := cal_mul 11 hG lb lf.trim (by decide) lim
  have et : trim (mulP (trim (prF fs)) (trim f.1)) = trim (prF (f :: fs)) := trim_ext fun x => by
    show _ = ev (mulP f.1 (prF fs)) x
    rw [ev_mul, ev_mul, ev_trim, ev_trim, Rat.mul_comm]
  rw [et] at em hF
  refine ⟨ec, em, ⟨Nat.pow_pos (by decide), ?_, fun r hr => ?_⟩⟩
  · have h1 := prF_len (fs := f :: fs) fun g hg => (List.mem_cons.mp hg).elim (fun e => e ▸ hf) (hfs g)
    have h2 := trim_len (prF (f :: fs))
    rw [List.length_cons] at h1
    omega
  · rw [← hF] at hr
    have := hB r (trim_mem hr)
    rwa [List.length_cons, Nat.pow_succ]
theorem cat (l : List Rat) (x : Rat) (h : l.length ≤ 10) : binD .add (.lst (l.map pt)) (.lst [pt x]) = some (.lst ((l ++ [x]).map pt)) := by
  show (if (l.map pt).length + [pt x].length ≤ sizeLine then some (D.lst (l.map pt ++ [pt x])) else none) = _
  rw [if_pos (by rw [List.length_map, szl, List.length_singleton]; omega), List.map_append]; rfl
theorem tn_turn (k : Nat) {fs : List (List Rat × Rat)} (hfs : ∀ g ∈ fs, g ∈ opts) (hl : fs.length ≤ 2) (lb : LB (36 ^ fs.length) (BI fs.length) 20 (trim (prF fs))) {G : Gs} (h : Dice (k + 3) G) (X0 X2 X3 X4 X5 X6 X7 X8 X9 X10 X11 X12 X13 X14 X15 X16 X17 X18 X19 X22 X23 X24 : Option D) :
    ∃ f y4 y13 y14 y23 G', evB (Sa 16) tnBody [X0, some (.cell 0), X2, X3, X4, X5, X6, X7, X8, X9, X10, X11, X12, X13, X14, X15, X16, X17, X18, X19, some (cv (trim (prF fs))), some (.lst ((fs.map (·.2)).reverse.map pt)), X22, X23, X24] G = .next [X0, some (.cell 0), X2, X3, y4, X5, X6, X7, X8, X9, X10, X11, X12, y13, y14, X15, X16, X17, X18, X19, some (cv (trim (prF (f :: fs)))), some (.lst (((f :: fs).map (·.2)).reverse.map pt)), X22, y23, X24] G' ∧ f ∈ opts ∧ LB (36 ^ (f :: fs).length) (BI (f :: fs).length) 20 (trim (prF (f :: fs))) ∧ Dice k G' := by
  obtain ⟨m, G1, e1, m1, m2, g1⟩ := cal_roll 15 (k + 2) (m := 2) (by unfold CC; omega) h
  have hll : ((fs.map (·.2)).reverse).length ≤ 10 := by rw [List.length_reverse, List.length_map]; omega
  by_cases hm : m = 0
  · subst hm
    obtain ⟨t, G2, e2, t1, t2, g2⟩ := cal_roll 15 (k + 1) (m := 9) (by unfold CC; omega) g1
    have hp := cal_part 14 (t - 4) 3 G2 (by omega) (ok_div (m := 2) (by omega) (by omega) (by decide))
    obtain ⟨x, hx⟩ : ∃ x : Rat, x = ((t - 4 : Int) : Rat) / ((3 : Int) : Rat) := ⟨_, rfl⟩
    rw [← hx] at hp
    have fx : Fi x := by rw [hx]; exact sm_fi (by omega) (by decide)
    have hf := facR_mem (k := t - 4) (by omega)
    have hfx : facR (t - 4) = ([-x, 1], x * x) := by rw [hx]; rfl
    obtain ⟨a1, a2, a3⟩ := more hf hfs hl lb (Dice.cl g2) (l := [0 - x, 1]) (by rw [hfx]; show [0 - x, 1] = [-x, 1]; rw [show 0 - x = -x by grind])
    refine ⟨facR (t - 4), some (pt x), X13, X14, X23, G2, ?_, hf, a3, g2.mono (by omega)⟩
    have p0 : evE (Sa 16) [X0, some (.cell 0), X2, X3, some (pt x), X5, X6, X7, X8, X9, X10, X11, X12, X13, X14, X15, X16, X17, X18, X19, some (cv (trim (prF fs))), some (.lst ((fs.map (·.2)).reverse.map pt)), X22, X23, X24] (.tup [.con (.int 0), .con (.int 1)]) G2 = .ok (pt 0) G2 := x_tup (x_es x_c (x_es x_c x_es0))
    have p1 : evE (Sa 16) [X0, some (.cell 0), X2, X3, some (pt x), X5, X6, X7, X8, X9, X10, X11, X12, X13, X14, X15, X16, X17, X18, X19, some (cv (trim (prF fs))), some (.lst ((fs.map (·.2)).reverse.map pt)), X22, X23, X24] (.tup [.con (.int 1), .con (.int 1)]) G2 = .ok (pt 1) G2 := x_tup (x_es x_c (x_es x_c x_es0))
    have c1 : evE (Sa 16) [X0, some (.cell 0), X2, X3, some (pt x), X5, X6, X7, X8, X9, X10, X11, X12, X13, X14, X15, X16, X17, X18, X19, some (cv (trim (prF fs))), some (.lst ((fs.map (·.2)).reverse.map pt)), X22, X23, X24] (.bin .add (.var 21) (.lst [.call 4 [.var 4, .var 4]])) G2 = .ok (.lst ((((facR (t - 4)) :: fs).map (·.2)).reverse.map pt)) G2 := by
      rw [List.map_cons, List.reverse_cons, hfx]
      exact x_bin x_v (x_lst (x_es (x_call (x_es x_v (x_es x_v x_es0)) (cal_times 13 G2 fx fx)) x_es0)) (cat _ _ hll)
    have c2 : evE (Sa 16) [X0, some (.cell 0), X2, X3, some (pt x), X5, X6, X7, X8, X9, X10, X11, X12, X13, X14, X15, X16, X17, X18, X19, some (cv (trim (prF fs))), some (.lst ((fs.map (·.2)).reverse.map pt)), X22, X23, X24] (.call 15 [.var 20, .call 11 [.lst [.call 3 [.tup [.con (.int 0), .con (.int 1)], .var 4], .tup [.con (.int 1), .con (.int 1)]]]]) G2 = .ok (cv (trim (prF (facR (t - 4) :: fs)))) G2 :=
      x_call (x_es x_v (x_es (x_call (x_es (x_lst (x_es (x_call (x_es p0 (x_es x_v x_es0)) (cal_minus 13 G2 fi0 fx)) (x_es p1 x_es0))) x_es0) a1) x_es0)) a2
    exact b_next (s_itet (x_cmp (x_call (x_es x_v (x_es x_c x_es0)) e1) x_c rfl) (b_next (s_set (x_call (x_es (x_bin (x_call (x_es x_v (x_es x_c x_es0)) e2) x_c (bs _ _)) (x_es x_c x_es0)) hp)) (b_next (s_set (t := .tp [.nm 21, .nm 20]) (x_tup (x_es c1 (x_es c2 x_es0)))) rfl))) rfl
  · obtain ⟨t, G2, e2, t1, t2, g2⟩ := cal_roll 15 (k + 1) (m := 5) (by unfold CC; omega) g1
    obtain ⟨u, G3, e3, u1, u2, g3⟩ := cal_roll 15 k (m := 3) (by unfold CC; omega) g2
    have hp := cal_part 14 (t - 2) 2 G2 (by omega) (ok_div (m := 2) (by omega) (by omega) (by decide))
    have hq := cal_part 14 (1 + u) 2 G3 (by omega) (ok_div (m := 2) (by omega) (by omega) (by decide))
    obtain ⟨x, hx⟩ : ∃ x : Rat, x = ((t - 2 : Int) : Rat) / ((2 : Int) : Rat) := ⟨_, rfl⟩
    obtain ⟨y, hy⟩ : ∃ y : Rat, y = ((1 + u : Int) : Rat) / ((2 : Int) : Rat) := ⟨_, rfl⟩
    rw [← hx] at hp
    rw [← hy] at hq
    have fx : Fi x := by rw [hx]; exact sm_fi (by omega) (by decide)
    have fy : Fi y := by rw [hy]; exact sm_fi (by omega) (by decide)
    have f2 : Fi (-2 : Rat) := fi_small (k := -2) (by decide)
    have hf := facQ_mem (j := t - 2) (i := 1 + u) (by omega) (by omega)
    have hfx : facQ (t - 2) (1 + u) = ([x * x + y * y, -2 * x, 1], x * x + y * y) := by rw [hx, hy]; rfl
    have fxx : Fi (x * x) := Bd.fi' (D := 4) (B := 4) ⟨(t - 2) * (t - 2), by rw [hx, Rat.intCast_mul]; have e2 : ((2 : Int) : Rat) = 2 := rfl; have e4 : ((4 : Nat) : Rat) = 4 := rfl; rw [e2, e4]; grind, by
      have : t = 0 ∨ t = 1 ∨ t = 2 ∨ t = 3 ∨ t = 4 := by omega
      rcases this with rfl | rfl | rfl | rfl | rfl <;> decide, by decide⟩ (by decide) (by decide) lim_mul
    have fyy : Fi (y * y) := Bd.fi' (D := 4) (B := 9) ⟨(1 + u) * (1 + u), by rw [hy, Rat.intCast_mul]; have e2 : ((2 : Int) : Rat) = 2 := rfl; have e4 : ((4 : Nat) : Rat) = 4 := rfl; rw [e2, e4]; grind, by
      have : u = 0 ∨ u = 1 ∨ u = 2 := by omega
      rcases this with rfl | rfl | rfl <;> decide, by decide⟩ (by decide) (by decide) lim_mul
    obtain ⟨a1, a2, a3⟩ := more hf hfs hl lb (Dice.cl g3) (l := [x * x + y * y, -2 * x, 1]) (by rw [hfx])
    refine ⟨facQ (t - 2) (1 + u), X4, some (pt x), some (pt y), some (pt (x * x + y * y)), G3, ?_, hf, a3, g3⟩
    have m2' : evE (Sa 16) [X0, some (.cell 0), X2, X3, X4, X5, X6, X7, X8, X9, X10, X11, X12, some (pt x), some (pt y), X15, X16, X17, X18, X19, some (cv (trim (prF fs))), some (.lst ((fs.map (·.2)).reverse.map pt)), X22, some (pt (x * x + y * y)), X24] (.tup [.bin .sub (.con (.int 0)) (.con (.int 2)), .con (.int 1)]) G3 = .ok (pt (-2)) G3 := x_tup (x_es (x_bin x_c x_c (bs 0 2)) (x_es x_c x_es0))
    have p1 : evE (Sa 16) [X0, some (.cell 0), X2, X3, X4, X5, X6, X7, X8, X9, X10, X11, X12, some (pt x), some (pt y), X15, X16, X17, X18, X19, some (cv (trim (prF fs))), some (.lst ((fs.map (·.2)).reverse.map pt)), X22, some (pt (x * x + y * y)), X24] (.tup [.con (.int 1), .con (.int 1)]) G3 = .ok (pt 1) G3 := x_tup (x_es x_c (x_es x_c x_es0))
    have c1 : evE (Sa 16) [X0, some (.cell 0), X2, X3, X4, X5, X6, X7, X8, X9, X10, X11, X12, some (pt x), some (pt y), X15, X16, X17, X18, X19, some (cv (trim (prF fs))), some (.lst ((fs.map (·.2)).reverse.map pt)), X22, some (pt (x * x + y * y)), X24] (.bin .add (.var 21) (.lst [.var 23])) G3 = .ok (.lst ((((facQ (t - 2) (1 + u)) :: fs).map (·.2)).reverse.map pt)) G3 := by
      rw [List.map_cons, List.reverse_cons, hfx]
      exact x_bin x_v (x_lst (x_es x_v x_es0)) (cat _ _ hll)
    have c2 : evE (Sa 16) [X0, some (.cell 0), X2, X3, X4, X5, X6, X7, X8, X9, X10, X11, X12, some (pt x), some (pt y), X15, X16, X17, X18, X19, some (cv (trim (prF fs))), some (.lst ((fs.map (·.2)).reverse.map pt)), X22, some (pt (x * x + y * y)), X24] (.call 15 [.var 20, .call 11 [.lst [.var 23, .call 4 [.tup [.bin .sub (.con (.int 0)) (.con (.int 2)), .con (.int 1)], .var 13], .tup [.con (.int 1), .con (.int 1)]]]]) G3 = .ok (cv (trim (prF (facQ (t - 2) (1 + u) :: fs)))) G3 :=
      x_call (x_es x_v (x_es (x_call (x_es (x_lst (x_es x_v (x_es (x_call (x_es m2' (x_es x_v x_es0)) (cal_times 13 G3 f2 fx)) (x_es p1 x_es0)))) x_es0) a1) x_es0)) a2
    refine b_next (s_itef (x_cmp (x_call (x_es x_v (x_es x_c x_es0)) e1) x_c (by rw [ceq, eqD_int, decide_eq_false hm])) ?_) rfl
    refine b_next (s_set (t := .tp [.nm 13, .nm 14]) (x_tup (x_es (x_call (x_es (x_bin (x_call (x_es x_v (x_es x_c x_es0)) e2) x_c (bs _ _)) (x_es x_c x_es0)) hp) (x_es (x_call (x_es (x_bin x_c (x_call (x_es x_v (x_es x_c x_es0)) e3) (ba _ _)) (x_es x_c x_es0)) hq) x_es0)))) ?_
    refine b_next (s_set (x_call (x_es (x_call (x_es x_v (x_es x_v x_es0)) (cal_times 13 G3 fx fx)) (x_es (x_call (x_es x_v (x_es x_v x_es0)) (cal_times 13 G3 fy fy)) x_es0)) (cal_plus 13 G3 fxx fyy))) ?_
    exact b_next (s_set (t := .tp [.nm 21, .nm 20]) (x_tup (x_es c1 (x_es c2 x_es0)))) rfl
theorem s20 {G : Gs} (h : Dice 984 G) (X0 X2 X3 X4 X5 X6 X7 X8 X9 X10 X11 X12 X13 X14 X15 X16 X17 X18 X19 X22 X23 X24 : Option D) : ∃ fs y4 y13 y14 y22 y23 G', evS (Sa 16) (st 20) [X0, some (.cell 0), X2, X3, X4, X5, X6, X7, X8, X9, X10, X11, X12, X13, X14, X15, X16, X17, X18, X19, some (cv [3]), some (.lst []), X22, X23, X24] G = .next [X0, some (.cell 0), X2, X3, y4, X5, X6, X7, X8, X9, X10, X11, X12, y13, y14, X15, X16, X17, X18, X19, some (cv (trim (prF fs))), some (.lst ((fs.map (·.2)).reverse.map pt)), y22, y23, X24] G' ∧ (∀ f ∈ fs, f ∈ opts) ∧ 1 ≤ fs.length ∧ fs.length ≤ 3 ∧ Dice 900 G' := by
  obtain ⟨r, G1, e1, r1, r2, g1⟩ := cal_roll 15 983 (m := 3) (by unfold CC; omega) h
  obtain ⟨ρ', G', e, fs, hfs, hlen, lb, hd, y4, y13, y14, y22, y23, rfl⟩ := forL_inv (fun d ρ1 G2 => match PV.assign ρ1 (.nm 22) d with | some ρ2 => evB (Sa 16) tnBody ρ2 G2 | none => .bad) (fun k : Nat => D.int (k : Int)) (fun s ρ G' => ∃ fs, (∀ f ∈ fs, f ∈ opts) ∧ fs.length = s.length ∧ LB (36 ^ fs.length) (BI fs.length) 20 (trim (prF fs)) ∧ Dice (900 + 3 * (10 - s.length)) G' ∧ ∃ y4 y13 y14 y22 y23, ρ = [X0, some (.cell 0), X2, X3, y4, X5, X6, X7, X8, X9, X10, X11, X12, y13, y14, X15, X16, X17, X18, X19, some (cv (trim (prF fs))), some (.lst ((fs.map (·.2)).reverse.map pt)), y22, y23, X24]) (List.range (1 + r).toNat) [] [X0, some (.cell 0), X2, X3, X4, X5, X6, X7, X8, X9, X10, X11, X12, X13, X14, X15, X16, X17, X18, X19, some (cv [3]), some (.lst []), X22, X23, X24] G1 ⟨[], (fun f hf => nomatch hf), rfl, ⟨by decide, by decide, fun r hr => by
      have hr := trim_mem hr
      rw [List.mem_singleton.mp hr]; exact Bd.int (k := 3) (by decide)⟩, g1.mono (by decide), X4, X13, X14, X22, X23, rfl⟩ fun s' k t ρ G' hs' ⟨fs, hfs, hlen, lb, hd, y4, y13, y14, y22, y23, hρ⟩ => by
    subst hρ
    have hsl : s'.length + 1 ≤ 3 := by
      have := congrArg List.length hs'
      rw [List.nil_append, List.length_range, List.length_append, List.length_cons] at this
      omega
    obtain ⟨f, w4, w13, w14, w23, G2, e2, hf, lb2, g2⟩ := tn_turn (900 + 3 * (10 - (s'.length + 1))) hfs (by omega) lb (hd.mono (by omega)) X0 X2 X3 y4 X5 X6 X7 X8 X9 X10 X11 X12 y13 y14 X15 X16 X17 X18 X19 (some (.int (k : Int))) y23 X24
    exact ⟨_, G2, e2, f :: fs, fun g hg => (List.mem_cons.mp hg).elim (fun e => e ▸ hf) (hfs g), by rw [List.length_cons, List.length_append, List.length_singleton, hlen], lb2, by rw [List.length_append, List.length_singleton]; exact g2, w4, w13, w14, some (.int (k : Int)), w23, rfl⟩
  rw [List.nil_append] at hlen hd
  rw [List.length_range] at hlen hd
  have i : evI (Sa 16) [X0, some (.cell 0), X2, X3, X4, X5, X6, X7, X8, X9, X10, X11, X12, X13, X14, X15, X16, X17, X18, X19, some (cv [3]), some (.lst []), X22, X23, X24] (.rng1 (.bin .add (.con (.int 1)) (.call 34 [.var 1, .con (.int 3)]))) G = .ok (rangeD 0 (1 + r)) G1 := i_rng (x_bin x_c (x_call (x_es x_v (x_es x_c x_es0)) e1) (ba _ _)) (by omega)
  rw [show (1 + r : Int) = (((1 + r).toNat : Nat) : Int) by omega, rng_nat] at i
  refine ⟨fs, y4, y13, y14, y22, y23, G', s_for i ?_, hfs, by omega, by omega, hd.mono (by omega)⟩
  exact e
theorem s21 {fs : List (List Rat × Rat)} (hfs : ∀ f ∈ fs, f ∈ opts) (h1 : 1 ≤ fs.length) (h3 : fs.length ≤ 3) (G : Gs) (X0 X2 X3 X4 X5 X6 X7 X8 X9 X10 X11 X12 X13 X14 X15 X16 X17 X18 X19 X22 X23 X24 : Option D) : evS (Sa 16) (st 21) [X0, some (.cell 0), X2, X3, X4, X5, X6, X7, X8, X9, X10, X11, X12, X13, X14, X15, X16, X17, X18, X19, some (cv (trim (prF fs))), some (.lst ((fs.map (·.2)).reverse.map pt)), X22, X23, X24] G = .next [X0, some (.cell 0), X2, X3, X4, X5, X6, X7, X8, X9, X10, X11, X12, X13, X14, X15, X16, X17, X18, X19, some (cv (trim (prF fs))), some (.lst ((fs.map (·.2)).reverse.map pt)), X22, X23, X24] G := by
  have hi := cal_inside 11 G (prF_ne hfs) (ic_of hfs h1 h3)
  have f1 : Fi (1 : Rat) := fi_small (k := 1) (by decide)
  obtain ⟨zs, hzs⟩ : ∃ zs : List Rat, zs = (fs.map (·.2)).reverse := ⟨_, rfl⟩
  have fz : ∀ t ∈ zs, Fi t := fun t ht => by
    rw [hzs] at ht
    obtain ⟨f, hf, rfl⟩ := List.mem_map.mp (List.mem_reverse.mp ht)
    exact fac_fi (hfs f hf)
  have lz : zs.length ≤ 3 := by rw [hzs, List.length_reverse, List.length_map]; exact h3
  have fin : (fs.all fun f => decide (f.2 < 1)) = decide (zs.filter (fun t => !decide (t < 1)) = []) := by
    rw [Bool.eq_iff_iff, decide_eq_true_iff, List.filter_eq_nil_iff, List.all_eq_true, hzs]
    constructor
    · intro h t ht
      obtain ⟨f, hf, rfl⟩ := List.mem_map.mp (List.mem_reverse.mp ht)
      rw [h f hf]; decide
    · intro h f hf
      have := h f.2 (List.mem_reverse.mpr (List.mem_map.mpr ⟨f, hf, rfl⟩))
      simpa using this
  rw [← hzs]
  generalize (fs.all fun f => decide (f.2 < 1)) = bb at hi fin
  generalize trim (prF fs) = pf at hi
  have cF : evE (Sa 16) [X0, some (.cell 0), X2, X3, X4, X5, X6, X7, X8, X9, X10, X11, X12, X13, X14, X15, X16, X17, X18, X19, some (cv pf), some (.lst (zs.map pt)), X22, X23, X24] (.comp [23] (.var 23) (.nm 23) (.seq (.var 21)) [.not (.call 6 [.var 23, .tup [.con (.int 1), .con (.int 1)]])]) G = .ok (.lst ((zs.filter fun t => !decide (t < 1)).map pt)) G := by
    refine comp_filt zs pt pt (fun t => !decide (t < 1)) (fun t => [X0, some (.cell 0), X2, X3, X4, X5, X6, X7, X8, X9, X10, X11, X12, X13, X14, X15, X16, X17, X18, X19, some (cv pf), some (.lst (zs.map pt)), X22, some (pt t), X24]) (i_seq x_v rfl) (fun r _ => rfl) (fun t ht => t_one ?_) (fun r _ _ => x_v) (by rw [szl]; omega)
    have p1 : evE (Sa 16) [X0, some (.cell 0), X2, X3, X4, X5, X6, X7, X8, X9, X10, X11, X12, X13, X14, X15, X16, X17, X18, X19, some (cv pf), some (.lst (zs.map pt)), X22, some (pt t), X24] (.tup [.con (.int 1), .con (.int 1)]) G = .ok (pt 1) G := x_tup (x_es x_c (x_es x_c x_es0))
    exact x_not (x_call (x_es x_v (x_es p1 x_es0)) (cal_less 15 G (fz t ht) f1))
  have hc := x_cmp (S := Sa 16) (o := .ne) (x_call (S := Sa 16) (x_es (S := Sa 16) (ρ := [X0, some (.cell 0), X2, X3, X4, X5, X6, X7, X8, X9, X10, X11, X12, X13, X14, X15, X16, X17, X18, X19, some (cv pf), some (.lst (zs.map pt)), X22, X23, X24]) (x_v (i := 20)) x_es0) hi) (x_cmp (o := .eq) cF (x_lst x_es0) (eq_lst_nil _)) (ne_bl fin)
  exact s_if0 hc
end LK
end
/-! ## R26 -/
section
set_option Elab.async false
set_option linter.all false
set_option maxRecDepth 200000
set_option maxHeartbeats 2000000
set_option exponentiation.threshold 300
namespace LK
open PySem PV RP

theorem cases1 (x y z : Int) : (Sa 16).cal 37 [] [some (.lst [.int x, .int y, .int z])] = .ok (.bl true) [some (.lst [.int x, .int y, .int z])] := by kernel_rfl
theorem t_end (X0 X1 X2 X3 X4 X5 X6 X7 X8 X9 X10 X11 X12 X13 X14 X15 X16 X17 X18 X19 X20 X21 X22 X23 X24 : Option D) (x y z : Int) : evB (Sa 16) (m_law.body.drop 1) [X0, X1, X2, X3, X4, X5, X6, X7, X8, X9, X10, X11, X12, X13, X14, X15, X16, X17, X18, X19, X20, X21, X22, X23, X24] [some (.lst [.int x, .int y, .int z])] = .ret (.bl true) [some (.lst [.int x, .int y, .int z])] := b_ret (s_ret (x_call x_es0 (cases1 x y z)))
theorem body (X0 : Option D) {G : Gs} (hG : Dice 1000 G) : ∃ (z2 z3 z4 z5 z6 z7 z8 z9 z10 z11 z12 z13 z14 z15 z16 z17 z18 z19 z20 z21 z22 z23 z24 : Option D) (x y z : Int), evB (Sa 16) lawBody [X0, some (.cell 0), none, none, none, none, none, none, none, none, none, none, none, none, none, none, none, none, none, none, none, none, none, none, none] G = .next [X0, some (.cell 0), z2, z3, z4, z5, z6, z7, z8, z9, z10, z11, z12, z13, z14, z15, z16, z17, z18, z19, z20, z21, z22, z23, z24] [some (.lst [.int x, .int y, .int z])] := by
  rw [law_is]
  obtain ⟨rs, G1, e0, hf, hl, g0⟩ := s0 hG X0
  obtain ⟨c, G2, e1, hc, g1⟩ := s1 (rs := rs) g0 X0
  obtain ⟨z4a, e2⟩ := s2 hc hf hl (Dice.cl g1) X0
  obtain ⟨Q0, G3, e3, K, g3⟩ := s3 hc hf hl g1 X0 z4a
  obtain ⟨z4, hz4⟩ : ∃ z4, z4 = z4a := ⟨_, rfl⟩
  subst hz4
  obtain ⟨S, e4, hS, hm, hlS⟩ := s4 (one := one6 c Q0 rs.reverse) hf hl G3 X0 z4
  obtain ⟨F, L, M, D0⟩ := ld_of hc K hf hl hS hm hlS
  obtain ⟨lo, hi, G4, e5, hlo, hhi, g5⟩ := s5 (rs := rs) (one := one6 c Q0 rs.reverse) (S := S) g3 X0 z4
  have cl := Dice.cl g5
  have e6 := s6 D0 hlo hhi G4 X0 z4
  have e7 := s7 D0 hlo hhi cl X0 z4
  have e8 := s8 D0 (lo := lo) (hi := hi) G4 X0 z4
  have e9 := s9 D0 (lo := lo) (hi := hi) cl X0 z4
  have e10 := s10 D0 (lo := lo) (hi := hi) cl X0 z4
  have e11 := s11 D0 (lo := lo) (hi := hi) cl X0 z4
  have e12 := s12 D0 (lo := lo) (hi := hi) cl X0 z4
  have e13 := s13 D0 (lo := lo) (hi := hi) cl X0 z4
  obtain ⟨z12, z13, z14, e14⟩ := s14 D0 (lo := lo) (hi := hi) cl X0 z4
  obtain ⟨z15, z16, z17, e15⟩ := s15 D0 hlo hhi cl X0 z4 z12 z13 z14
  obtain ⟨at_, G5, e16, hat, g16⟩ := s16 (one := one6 c Q0 rs.reverse) g5 (X0) (some (.lst (rs.map pt))) (z4) (some (.lst (S.map pt))) (some (pt lo)) (some (pt hi)) (some (.lst ((inr S lo hi).map pt))) (some (pt M)) (some (.tup ((spl S 15 (0 - M) M).map pp))) (some (rv L)) (z12) (z13) (z14) (z15) (z16) (z17) (none) (none) (none) (none) (none) (none) (none)
  have e17 := s17 D0 hat G5 (X0) (some (.lst (rs.map pt))) (z4) (some (.lst (S.map pt))) (some (pt lo)) (some (pt hi)) (some (.lst ((inr S lo hi).map pt))) (some (pt M)) (some (.tup ((spl S 15 (0 - M) M).map pp))) (some (rv L)) (z12) (z13) (z14) (z15) (z16) (z17) (none) (none) (none) (none) (none) (none)
  have e18 := s18 D0 hat G5 (X0) (some (.lst (rs.map pt))) (z4) (some (.lst (S.map pt))) (some (pt lo)) (some (pt hi)) (some (.lst ((inr S lo hi).map pt))) (some (pt M)) (some (.tup ((spl S 15 (0 - M) M).map pp))) (some (rv L)) (z12) (z13) (z14) (z15) (z16) (z17) (none) (none) (none) (none) (none)
  have e19 := s19 G5 (X0) (some (.lst (rs.map pt))) (some (cv (one6 c Q0 rs.reverse))) (z4) (some (.lst (S.map pt))) (some (pt lo)) (some (pt hi)) (some (.lst ((inr S lo hi).map pt))) (some (pt M)) (some (.tup ((spl S 15 (0 - M) M).map pp))) (some (rv L)) (z12) (z13) (z14) (z15) (z16) (z17) (some (pt at_)) (some (.int (ev (one6 c Q0 rs.reverse) at_).num)) (none) (none) (none) (none) (none)
  obtain ⟨fs, y4, y13, y14, y22, y23, G6, e20, hfs, f1, f3, g20⟩ := s20 g16 (X0) (some (.lst (rs.map pt))) (some (cv (one6 c Q0 rs.reverse))) (z4) (some (.lst (S.map pt))) (some (pt lo)) (some (pt hi)) (some (.lst ((inr S lo hi).map pt))) (some (pt M)) (some (.tup ((spl S 15 (0 - M) M).map pp))) (some (rv L)) (z12) (z13) (z14) (z15) (z16) (z17) (some (pt at_)) (some (.int (ev (one6 c Q0 rs.reverse) at_).num)) (none) (none) (none)
  have e21 := s21 hfs f1 f3 G6 (X0) (some (.lst (rs.map pt))) (some (cv (one6 c Q0 rs.reverse))) (y4) (some (.lst (S.map pt))) (some (pt lo)) (some (pt hi)) (some (.lst ((inr S lo hi).map pt))) (some (pt M)) (some (.tup ((spl S 15 (0 - M) M).map pp))) (some (rv L)) (z12) (y13) (y14) (z15) (z16) (z17) (some (pt at_)) (some (.int (ev (one6 c Q0 rs.reverse) at_).num)) (y22) (y23) (none)
  obtain ⟨x, y, z, hG6, _⟩ := g20
  subst hG6
  exact ⟨_, _, _, _, _, _, _, _, _, _, _, _, _, _, _, _, _, _, _, _, _, _, _, x, y, z, b_next e0 (b_next e1 (b_next e2 (b_next e3 (b_next e4 (b_next e5 (b_next e6 (b_next e7 (b_next e8 (b_next e9 (b_next e10 (b_next e11 (b_next e12 (b_next e13 (b_next e14 (b_next e15 (b_next e16 (b_next e17 (b_next e18 (b_next e19 (b_next e20 (b_next e21 (rfl))))))))))))))))))))))⟩
theorem law_true (ns : List Int) (h1 : ns.length ≤ 63) (h2 : ∀ z ∈ ns, Builtin.Int.intBits z ≤ 1048576) : ∃ Gz, (semAt prog (16 + 1)).cal 38 [.frz (ns.map .int)] [] = .ok (.bl true) Gz := by
  obtain ⟨G, e, hG⟩ := cal_rounds 14 ns (bits_lt h2)
  obtain ⟨z2, z3, z4, z5, z6, z7, z8, z9, z10, z11, z12, z13, z14, z15, z16, z17, z18, z19, z20, z21, z22, z23, z24, x, y, z, b⟩ := body (some (.frz (ns.map .int))) (hG.mono (by decide))
  have t := t_end (some (.frz (ns.map .int))) (some (.cell 0)) z2 z3 z4 z5 z6 z7 z8 z9 z10 z11 z12 z13 z14 z15 z16 z17 z18 z19 z20 z21 z22 z23 z24 x y z
  have a : evB (Sa 16) m_law.body [some (.frz (ns.map .int)), none, none, none, none, none, none, none, none, none, none, none, none, none, none, none, none, none, none, none, none, none, none, none, none] [] = .ret (.bl true) [some (.lst [.int x, .int y, .int z])] := by
    refine b_next (s_for (i_seq (x_call (x_es x_v (x_es x_c x_es0)) e) rfl) (forL_next b rfl)) t
  have r := run_d m_law (args := [.frz (ns.map .int)]) (S := Sa 16) (ρ := [some (.frz (ns.map .int)), none, none, none, none, none, none, none, none, none, none, none, none, none, none, none, none, none, none, none, none, none, none, none, none]) (G := []) rfl rfl a
  refine ⟨[], ((cal_at 16 38 (by decide) rfl _ []).trans r).trans ?_⟩
  rfl
end LK
end
/-! ## K06c -/
section
set_option Elab.async false
set_option linter.all false
set_option maxRecDepth 200000
set_option maxHeartbeats 0
namespace LK
open PySem L2 LamX PyProof.Rows RZ PV
/-! the end -/
abbrev Rw : PySem.W.OpenRow := PySem.W.OpenLaw.row PySem.Challenge.rw_stepwright_k06_roots_counted
abbrev hk : PySem.W.Hook := He.hookX 4 fal fnl [] tfl exl
def ob (s : PySem.W.SharedT) : He.AlX := He.obsX 4 fal fnl [] tfl exl (HandSHeadRun.getT s)
theorem ob_eq (s : PySem.W.SharedT) : ob s = hk.obs s.abs := He.obsX_eq (HandSHeadRun.getT_eq s)
def loose0 : List PySem.Str := ["__name__", "StepFault", "BadPart", "BadTree", "BadTable", "BadField", "BadPaper", "BadSize", "BadText", "BadStore", "NoSuch", "shared", "part", "plus", "minus"]
def loose1 : List PySem.Str := ["times", "over", "is_less", "size_of", "small_row", "halfway", "greatest", "curve", "power_of", "part_at", "scaled_curve", "multiplied", "divided", "worth", "slope"]
def loose2 : List PySem.Str := ["shared_curve", "rests", "changes", "plain", "how_many", "bound", "all_of", "narrowed", "apart", "split", "never_below", "samples", "sign_at", "inside_circle", "_law_dice"]
def loose3 : List PySem.Str := ["_law_roll", "_law_rounds", "_law_told", "_law_cases1"]
abbrev loose : List PySem.Str := loose0 ++ loose1 ++ loose2 ++ loose3
abbrev qv : Program := PySem.W.view Rw.prog [0, 54]
theorem run (w : World) : HandSHeadRun.RunEqI Rw qv hk ob 8000 loose w := by
  unfold HandSHeadRun.RunEqI
  kernel_rfl
section
variable {P : Program} {w : World} {K : PySem.W.Frag} {mg : Str → Option Value} {base h : Heap}
theorem law_ok (X : K.In h) (G : h.Ns mainGlobals mg) (c : Says w h K) (TB_law : TabB base mg (He.cT K ("law", none)).1 (He.cT K ("law", none)).2) (TB_law_cases1 : TabB base mg (He.cT K ("_law_cases1", none)).1 (He.cT K ("_law_cases1", none)).2) (n : Nat) {fd : FuncData} (F : FunD K "law" "law" (defArgs s_law) (defBody s_law) (defScope s_law) [] [] (He.fAd K ("law", none)) fd) : FnOk P w K mg base (L2.CX P w) (3 * n + 1 + 3) (He.fAd K ("law", none)) fd ["script"] (spC K (qq P w K) (semAt prog (n + 1)) 38 1) := by
  have T := txt (P := P) X G c
  have Fs := fns (P := P) X G c TB_law TB_law_cases1 n
  exact fn_stepC (fn := m_law) F sc_law (fun _ _ => rfl) rfl rfl (by decide) (fun cdv A outer s H E hc hr => b_law T rfl rfl Fs hr TB_law (code_law c hc) (List.mem_cons_self ..) (uni_law c) (told_at n) rfl)
theorem tabs_of {K : PySem.W.Frag} {H : Hp} (h : ∀ p ∈ ([He.cT K ("law", none), He.cT K ("_law_cases1", none)] : List (Addr × Addr)), H p.2 = some (.tbl #[])) : Tabs (qq P w K).T H := by
  have one : ∀ (a : Addr) (x : Str), H a = some (.tbl #[]) → TabS H a x := fun a x e => ⟨#[], e, by first | exact TriplesOk.nil | exact trivial | (intro _ h; cases h) | simp [TriplesOk], fun pos cv e => by cases e⟩
  intro p hp
  rcases List.mem_cons.mp hp with rfl | hp
  · exact one _ _ (h _ (List.mem_cons_self ..))
  rcases List.mem_cons.mp hp with rfl | hp
  · exact one _ _ (h _ (List.mem_cons_of_mem _ (List.mem_cons_self ..)))
  cases hp
theorem facts {fa : Addr} (X : K.In h) (G : h.Ns mainGlobals mg) (hfa : mg ("law" : Str) = some (.ref fa)) (c : Says w h K)
    (lw : ∀ ns : List Int, ns.length ≤ 63 → (∀ z ∈ ns, Builtin.Int.intBits z ≤ 1048576) → ∃ Gz, (semAt prog (16 + 1)).cal 38 [.frz (ns.map .int)] [] = .ok (.bl true) Gz) :
    LamX.LawAtS PySem.Challenge.rw_stepwright_k06_roots_counted w K (L2.CX (PySem.Challenge.rw_stepwright_k06_roots_counted).prog w) (3 * 16 + 1 + 3) 63 "script" mg fa h := by
  obtain ⟨fd, F⟩ := c.t.d.def_ 38 (d := dd_law)
  have e := hfa.symm.trans (glo X G c 38 "law")
  cases e
  have b := FunD.bindsA (ps := ["script"]) F fun _ _ _ _ _ _ us hl => match us, hl with | [_], _ => rfl
  refine ⟨fd, [He.cT K ("law", none), He.cT K ("_law_cases1", none)], spC K (qq (PySem.Challenge.rw_stepwright_k06_roots_counted).prog w K) (semAt prog (16 + 1)) 38 1, fun p hp => ?_, fun p hp => ?_, fun p hp => ?_, fun s v => b s [v] rfl, fun H a ns hl hb ht hS => ?_, fun base KB GB hTB => ?_⟩
  · exact (by
      rcases List.mem_cons.mp hp with rfl | hp
      · exact c.empty ("law", none) (List.mem_cons_self ..)
      rcases List.mem_cons.mp hp with rfl | hp
      · exact c.empty ("_law_cases1", none) (List.mem_cons_of_mem _ (List.mem_cons_self ..))
      cases hp)
  · exact (by
      rcases List.mem_cons.mp hp with rfl | hp
      · exact c.out ("law", none) (List.mem_cons_self ..)
      rcases List.mem_cons.mp hp with rfl | hp
      · exact c.out ("_law_cases1", none) (List.mem_cons_of_mem _ (List.mem_cons_self ..))
      cases hp)
  · exact (by
      rcases List.mem_cons.mp hp with rfl | hp
      · exact PySem.W.codeHd_of_K X (c.hd ("law", none) (List.mem_cons_self ..))
      rcases List.mem_cons.mp hp with rfl | hp
      · exact PySem.W.codeHd_of_K X (c.hd ("_law_cases1", none) (List.mem_cons_of_mem _ (List.mem_cons_self ..)))
      cases hp)
  · obtain ⟨Gz, h⟩ := lw ns hl hb
    exact law_start (tabs_of ht) hS h
  · exact law_ok X G c (hTB _ (List.mem_cons_self ..)) (hTB _ (List.mem_cons_of_mem _ (List.mem_cons_self ..))) 16 F
end
end LK
open PySem PySem.W PySem.Calls PyProof.Rows
theorem end_of (lw : ∀ ns : List Int, ns.length ≤ 63 → (∀ z ∈ ns, Builtin.Int.intBits z ≤ 1048576) → ∃ Gz, (PV.semAt LK.prog (16 + 1)).cal 38 [.frz (ns.map .int)] [] = .ok (.bl true) Gz) : PySem.Challenge.rw_stepwright_k06_roots_counted.Holds := by
  w_on; o_law
  refine HandSHeadRun.head_imp (r := OpenLaw.row PySem.Challenge.rw_stepwright_k06_roots_counted) (q := LK.qv) (H := LK.hk) (ob := LK.ob) (M := 8000) (loose := LK.loose) (d := HandSHeadRun.topDef (OpenLaw.row PySem.Challenge.rw_stepwright_k06_roots_counted).prog 54) (kwd := []) LK.ob_eq
    LK.run (by kernel_rfl) (by kernel_rfl) (by kernel_rfl) (by rfl) (by first | assumption | decide +kernel) (by decide +kernel) ⟨rfl, rfl, rfl, rfl, rfl, by decide +kernel⟩ ?hw ?hc
  case hw => w_witness2
  case hc =>
    refine LamX.walk_ofTsE (l := PySem.Challenge.rw_stepwright_k06_roots_counted) (n := 63) (k := 3 * 16 + 1 + 3) (x := "script") (CX := fun w => L2.CX (PySem.Challenge.rw_stepwright_k06_roots_counted).prog w) rfl (by decide) (by kernel_rfl) ⟨rfl, by decide, by decide⟩ ?F ?C
    case C =>
      intro w H s e s' h
      obtain ⟨_, _, _, _, _, _, _, _, _, _, _, _, z⟩ := h
      exact z.elim
    case F =>
      intro w mg fa h Y G hmg0
      obtain ⟨K, KX, c⟩ := Y
      have hmg : mg ("law" : PySem.Str) = some (.ref fa) := by
        have e : (HandSHeadRun.topDef (OpenLaw.row PySem.Challenge.rw_stepwright_k06_roots_counted).prog 54).name = ("law" : PySem.Str) := by kernel_rfl
        rw [← e]
        exact hmg0
      exact ⟨K, KX, LK.facts KX G hmg c lw⟩
end
theorem PySem.Challenge.cw_stepwright_k06_roots_counted_holds : PySem.Challenge.rw_stepwright_k06_roots_counted.Holds := by
  exact end_of LK.law_true
