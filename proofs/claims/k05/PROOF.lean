import PyProof.Rows.All
import HandS.Iter
import HandS.List
import KE.GoesEnum
import KE.KRevSl
import HandS.ForMost
import HandS.TupAny
import HandS.TupMul
import HandS.Deep
import HandS.IsInst
import HandS.Wide
import HandS.Walk
import HandS.StrMore
import HandS.Style
import HandS.Conv
import HandS.Star
import HandS.Property
import HandS.ClsMeth
import HandS.SlotsOwn
import KE.KFmtOwn
import PyProof.InstNe
import HandS.GenList
import HandS.Strs
import HandS.Ends
import PySem.Challenge.RW_seldomflip_k05_whole_growths_in_a_row
import HandS.FStr
import HandS.HeadNt
set_option Elab.async false
set_option linter.all false
set_option maxRecDepth 100000
namespace Sfl
open PySem PySem.Spec PyProof.Rows L2

/-! ### own rules: great powers, repr of a truth, a tuple turned round, enumerate over a tuple -/
def CPowW (i j : Int) : Prop := 0 ≤ j ∧ (Builtin.Int.intBits i : Int) * j ≤ 2 ^ 27
section
variable {X : Cx}
theorem op_powW : OpR X (binaryOp .Pow) (rI CPowW fun i j => .int (i ^ j.toNat)) :=
  opI fun _ _ _ _ _ _ _ hc q => pow_int hc.1 hc.2 q
theorem call_repr_bl : CallR X (.builtin "repr") (fun xs H Q => ∃ b : Bool, xs = [.bl b] ∧ Q (.str (if b then "True" else "False")) H) := by
  intro pins s σ H xs us Q I r h
  obtain ⟨b, rfl, q⟩ := h
  cases r with
  | cons r1 r2 =>
    cases r2
    cases r1
    exact PySem.P.repr_of_bool ⟨.str _, H, I.tok _, ⟨_, rfl⟩, q⟩
end

theorem revPick (xs : Array Value) :
    ((List.range xs.size).filterMap fun (k : Nat) => xs[(((xs.size : Int) - 1) + (k : Int) * -1).toNat]?) = xs.toList.reverse := by
  have e : ((List.range xs.size).filterMap fun (k : Nat) => xs[(((xs.size : Int) - 1) + (k : Int) * -1).toNat]?)
      = (((List.range xs.size).map (fun k => xs.size - 1 - k)).filterMap (xs[·]?)) := by
    rw [List.filterMap_map]
    have key : ∀ l : List Nat, (∀ k ∈ l, k < xs.size) →
        l.filterMap (fun (k : Nat) => xs[(((xs.size : Int) - 1) + (k : Int) * -1).toNat]?) = l.filterMap ((fun i => xs[i]?) ∘ fun k => xs.size - 1 - k) := by
      intro l
      induction l with
      | nil => intro _; rfl
      | cons a r ih =>
        intro hl
        have ha : a < xs.size := hl a List.mem_cons_self
        have e1 : (((xs.size : Int) - 1) + (a : Int) * -1).toNat = xs.size - 1 - a := by omega
        rw [List.filterMap_cons, List.filterMap_cons, ih fun k hk => hl k (List.mem_cons_of_mem _ hk), e1]
        rfl
    exact key _ fun k hk => List.mem_range.mp hk
  rw [e, PySem.W.krv_range, List.filterMap_reverse, PySem.W.krv_all]

theorem revSlice {prog : Program} {w : World} {A : Around} {E : Value → Shared → Prop} {s : Shared}
    {t sl : Addr} {items : Array Value} {vl vu vs : Value} {Q : Value → Shared → Prop}
    (ht : IsTup s.heap t items) (hs : s.heap.IsSliceOf sl vl vu vs)
    (pl : IsPart vl none) (pu : IsPart vu none) (ps : IsPart vs (some (-1)))
    (hsz : items.size ≤ sizeLine)
    (h : Q (.ref s.heap.objs.size)
      { s with heap := s.heap.push { cls := .type "tuple", data := .seq items.toList.reverse.toArray } }) :
    wpAny (model prog w) A (getItem (.ref t) (.ref sl)) Q E s := by
  obtain ⟨os, hos, hcs, hds⟩ := id hs
  have hTs : s.TypeIs (.ref sl) "slice" := ⟨os, hos, hcs⟩
  unfold getItem
  try with_reducible refine wpAny_holding ?_
  first
    | refine wpAny_bind (wpAny_pure ?_)
    | skip
  refine wpAny_bind
    (wpAny_sequenceKey ht.typeIs (by decide) ?_)
  refine wpAny_bind (wpAny_callSpecial?_slot
    (name := Str.ofString "__getitem__") ht.typeIs
    PyProof.Rows.slot_tuple_getitem
    (wpAny_call_entry
      PyProof.Rows.slot_tuple_getitem ht.typeIs
      entry_tuple_getitem ?_ (args_tuple_getitem _ _)))
  show wpAny _ _ (Builtin.Tuple.tupleItemsOf
    (.ref t) >>= _) _ _ s
  refine wpAny_bind (tupleItemsOf_ ht ?_)
  refine wpAny_bind (wpAny_typeOf hTs ?_)
  rw [if_pos (by decide)]
  have hap : wpAny (model prog w) A.in1 (Builtin.Slice.sliceApplied (.ref sl) (pure (items.size : Int)))
      (fun r s' => r = ((items.size : Int) - 1, -1, items.size) ∧ s' = s) E s := by
    unfold Builtin.Slice.sliceApplied Builtin.Slice.sliceFields
    refine wpAny_bind (wpAny_bind (wpAny_field hos hds (x := vl) rfl ?_))
    refine wpAny_bind (wpAny_field hos hds (x := vu) rfl ?_)
    refine wpAny_bind (wpAny_field hos hds (x := vs) rfl (wpAny_pure ?_))
    refine wpAny_bind (HT.slicePart_ ps ?_)
    show wpAny _ _ (if ((-1 : Int) == 0) = true then _ else _) _ _ s
    rw [if_neg (by decide)]
    refine wpAny_bind (HT.slicePart_ pl ?_)
    refine wpAny_bind (HT.slicePart_ pu ?_)
    refine wpAny_bind (wpAny_pure ?_)
    refine wpAny_pure ⟨?_, rfl⟩
    show (((items.size : Int) - 1, (-1 : Int), Builtin.Slice.slicePlaces ((items.size : Int) - 1) (-1) (-1)) : Int × Int × Nat) = _
    have : Builtin.Slice.slicePlaces ((items.size : Int) - 1) (-1) (-1) = items.size := by
      unfold Builtin.Slice.slicePlaces
      rw [if_neg (by decide)]
      rw [show (-(-1) : Int) = 1 by decide, Int.ediv_one]
      split <;> omega
    rw [this]
  refine wpAny_bind (thn hap fun r s1 hr => ?_)
  obtain ⟨rfl, rfl⟩ := hr
  show wpAny _ _ (if (((items.size : Int) - 1) == 0 && (-1 : Int) == 1 && items.size == items.size) = true then _ else _) _ _ _
  rw [if_neg (by simp)]
  rw [revPick]
  have hsz2 : sizeOk (.seq items.toList.reverse.toArray) := by
    show items.toList.reverse.toArray.size ≤ sizeLine
    simpa using hsz
  first
    | exact wpAny_bind (m := Builtin.Tuple.tupleExact _)
        (wpAny_newObj_type (wpAny_pure ⟨_, rfl, wpAny_pure h⟩) hsz2)
    | exact wpAny_bind (m := Builtin.Tuple.tupleExact _)
        (wpAny_newObj_type (wpAny_bind
          (wpAny_pure (wpAny_pure ⟨_, rfl, wpAny_pure h⟩))) hsz2)
    | exact wpAny_bind (wpAny_bind (m := Builtin.Tuple.tupleExact _)
        (wpAny_newObj_type (wpAny_pure
          (wpAny_pure ⟨_, rfl, wpAny_pure h⟩)) hsz2))
    | exact wpAny_bind (wpAny_bind (m := Builtin.Tuple.tupleExact _)
        (wpAny_newObj_type
          (wpAny_pure ⟨_, rfl, wpAny_pure h⟩) hsz2))

abbrev sliceLaid (s : Shared) (u v z : Value) : Shared := { s with heap := s.heap.push { cls := .type "slice", data := .fields #[u, v, z] } }
/-- t[::-1] of a tuple -/
def tRevT (K : PySem.W.Frag) (te : TE) : TE := fun σ H Q => te σ H fun x H1 => ∃ a xs, x = .ref a ∧ SqT K H1 a xs ∧
  ∀ p, H1 p = none → Q (.ref p) (upd H1 p (.tup xs.reverse))
theorem pe_revT {X : Cx} {e : Expr} {te : TE} {k : Nat} {p1 p2 p3 pos : Pos} (he : PE X e te) :
    PE X (.Subscript e (.Slice none none (some (.UnaryOp .USub (.Constant (.int 1) k p1) p2)) p3) pos) (tRevT X.K te) := by
  refine ⟨fun pins s σ H Q I h => ?_⟩
  refine Subscript_ (thn (he.run pins s σ H _ I h)
    fun v s1 ⟨x, H1, I1, r1, q1⟩ => ?_)
  obtain ⟨a, xs, ex, hx, q⟩ := q1
  subst ex
  cases r1
  have hst : PO X (some (.UnaryOp .USub (.Constant (.int 1) k p1) p2))
      (tPart (tUn (rU fun i => .int (-i)) (tC (.int 1)))) :=
    po_some (pe_un un_neg pe_int)
  refine wpAny_Slice (thn (po_none.run pins s1 σ H1
    (fun o H2 => o = none ∧ H2 = H1) I1 ⟨rfl, rfl⟩)
    fun vl s2 ⟨l, H2, I2, pl, el, e2⟩ => ?_)
  subst el e2
  refine thn (po_none.run pins s2 σ H2
    (fun o H3 => o = none ∧ H3 = H2) I2 ⟨rfl, rfl⟩)
    fun vu s3 ⟨u, H3, I3, pu, eu, e3⟩ => ?_
  subst eu e3
  refine thn (hst.run pins s3 σ H3
    (fun o H4 => o = some (-1) ∧ H4 = H3) I3
    ⟨1, rfl, -1, rfl, rfl, rfl⟩)
    fun vs s4 ⟨o, H4, I4, ps, eo, e4⟩ => ?_
  subst eo e4
  have I5 : L2.Inv X pins σ H4 (sliceLaid s4 vl vu vs) := I4.kept (t' := s4.toks) fun b ob q => Heap.get?_push_of_some _ q
  obtain ⟨its, r, ht, hz⟩ := I5.tuple hx
  have hlen := r.length
  show wpAny (model X.prog X.w) X.A (subscriptTail e (.Slice none none
    (some (.UnaryOp .USub (.Constant (.int 1) k p1) p2)) p3)
    (.ref a) (.ref s4.heap.objs.size)) (EP X pins σ Q) X.xe (sliceLaid s4 vl vu vs)
  refine tail_any (ops := [.ref a, .ref s4.heap.objs.size])
    ht.typeIs PyProof.Rows.slot_tuple_getitem.lookup ?_
    (by with_unfolding_all rfl)
  refine revSlice ht (Heap.IsSliceOf.new _ vl vu vs) pl pu ps
    (by rw [List.size_toArray]; omega) ?_
  refine ⟨.ref _, _, I5.laid (t' := s4.toks) (o := .tup xs.reverse)
    (fun b ob q => Heap.get?_push_of_some _ q) (Nat.le_refl _) ?_,
    rfl, q _ (I5.hok.fresh (Nat.le_refl _))⟩
  exact ⟨by rw [List.length_reverse]; exact hz, _, r.reverse, IsTup.new _ _⟩
end Sfl
namespace Sfl
open PySem PySem.Spec PyProof.Rows L2

abbrev enumLaid (s : Shared) (t : Addr) : Shared := { s with heap := (s.heap.push { cls := .type "tuple_iterator", data := .fields #[.ref t, .int 0 0] }).push { cls := .type "enumerate", data := .fields #[.none, .bool false, .ref s.heap.objs.size, rawInt 0, .none, .none] } }
set_option maxHeartbeats 1000000 in
theorem enumNewT (t : Addr) (items : Array Value) :
    Meets (Builtin.«enumerate.__new__» ⟨[.type "enumerate", .ref t], []⟩) (fun _ R s => s.heap.IsTuple t items ∧
      R (.ok (.ret (.ref (s.heap.push { cls := .type "tuple_iterator", data := .fields #[.ref t, .int 0 0] }).objs.size)))
        (enumLaid s t)) :=
  .of_wp fun prog w A R s h => by
    obtain ⟨hp, g, d, tk, os⟩ := s
    obtain ⟨h1, h⟩ := h
    have hsub := sub_enumerate
    have q1 : ∀ {A' : Around} {E : Value → Shared → Prop} {Q : Value → Shared → Prop},
        Q (.ref hp.objs.size) ⟨hp.push { cls := .type "tuple_iterator", data := .fields #[.ref t, .int 0 0] }, g, d, tk, os⟩ →
        wpAny (model prog w) A' (pyIter (.ref t)) Q E ⟨hp, g, d, tk, os⟩ := fun q => wpAny_pyIter_tuple h1 q
    wp_walk using q1
    refine wpAny_stack_any fun st => wpAny_pure ?_
    split
    · rename_i c _ _ _ _ _
      cases (c == Value.type "enumerate") <;>
        (wp_walk using q1; exact ⟨_, rfl, h⟩)
    · wp_walk using q1
      exact ⟨_, rfl, h⟩

theorem call_enumT {prog : Program} {w : World} {A : Around} {E : Value → Shared → Prop} {s : Shared} {t : Addr} {items : Array Value} {Q : Value → Shared → Prop} (hL : s.heap.IsTuple t items)
    (h : ∀ h', IsEnum h' (s.heap.objs.size + 1) s.heap.objs.size 0 .none → h'.IsTupleIter s.heap.objs.size t 0 →
      (∀ b o, s.heap.get? b = some o → h'.get? b = some o) → Q (.ref (s.heap.objs.size + 1)) { s with heap := h' }) :
    wpAny (model prog w) A (call (.type "enumerate") [.ref t]) Q E s := by
  refine callType_new F.called_enumerate (by decide)
    (F.typeCall_enumerate_1 _) (F.newCall_enumerate_1 _)
    (fun obj => F.args_object_init_2 obj _)
    F.entry_enumerate_new (enumNewT t items) ⟨hL, ?_⟩
  generalize ho : ({ cls := .type "tuple_iterator", data := .fields #[.ref t, .int 0 0] } : Obj) = oi
  have hf : oi.isFreed = false := by rw [← ho]; rfl
  have hz : (s.heap.push oi).objs.size = s.heap.objs.size + 1 := Heap.size_push ..
  unfold enumLaid
  rw [ho, hz]
  generalize hq : ({ cls := .type "enumerate", data := .fields #[.none, .bool false, .ref s.heap.objs.size, rawInt 0, .none, .none] } : Obj) = oe
  have he : IsEnum ((s.heap.push oi).push oe) (s.heap.objs.size + 1) s.heap.objs.size 0 .none := by
    have := Heap.get?_push_size (s.heap.push oi) (o := oe) (by rw [← hq]; rfl)
    rw [hz] at this
    show Heap.get? _ _ = some _
    rw [this, ← hq]
  refine ⟨⟨_, he, rfl⟩, h _ he ⟨oi, Heap.get?_push_of_some _ (Heap.get?_push_size _ hf), by rw [← ho], by rw [← ho]; rfl⟩ ?_⟩
  · exact fun b o x => Heap.get?_push_of_some _ (Heap.get?_push_of_some _ x)

/-- enumerate over the tuple at a: each item in a new pair -/
def ItEt (K : PySem.W.Frag) (a : Addr) : It :=
  ⟨fun i H => ∃ (xs : List V) (x : V), SqT K H a xs ∧ xs[i]? = some x,
    fun i H v H' => ∃ T x, v = .ref T ∧ H T = none ∧ H' = upd H T (.tup [.int (i : Nat), x]) ∧ ∀ xs, SqT K H a xs → xs[i]? = some x,
    fun i H => ∃ xs : List V, SqT K H a xs ∧ xs.length = i⟩
theorem turn_enumT {P : Program} {w : World} {K : PySem.W.Frag} {elts : List Expr} {kk : Nat} {tpos : Pos} (a e it : Addr) :
    Turn P w K (.Tuple elts kk tpos) (ItEt K a) [e, it] e
      (fun i h => (∃ old, IsEnum h e it ((i : Nat) : Int) old) ∧ h.IsTupleIter it a i ∧ e ≠ it ∧ a ≠ it ∧ e ≠ a) where
  mem := by simp
  obj := fun i h st b hb => by
    obtain ⟨⟨old, he⟩, ⟨o, ho, hc, hd⟩, _⟩ := st
    have e' : b = e ∨ b = it := by simpa using hb
    rcases e' with z | z <;> subst z
    · exact ⟨_, he, fun v q => nomatch q⟩
    · refine ⟨o, ho, fun v q => ?_⟩
      rw [hd] at q
      cases q
  keep := fun i h h' st k => by
    obtain ⟨⟨old, he⟩, hi, hne⟩ := st
    exact ⟨⟨old, k e (by simp) _ he⟩, hi.at fun o q => k it (by simp) o q, hne⟩
  item := by
    intro X hP hw hK hc i pins s σ H E I hf st hg
    subst hP hw hK
    obtain ⟨⟨old, he⟩, hit, hne, hat, hea⟩ := st
    obtain ⟨xs, x, hq, hx⟩ := hg
    obtain ⟨its, rv, p, hz⟩ := I.tuple hq
    obtain ⟨u, hu, ru⟩ := rv.get hx
    have hel : e < s.heap.objs.size := Heap.lt_size he
    have hil : it < s.heap.objs.size := by
      obtain ⟨_, q, _⟩ := hit
      exact Heap.lt_size q
    have D := Draws.tuple (prog := X.prog) (w := X.w) (A := X.A.in1) (I.ok.hd hc) it a hat its.toArray
    have hlt : i < its.toArray.size := by
      have := (List.getElem?_eq_some_iff.mp hu).1
      simpa using this
    refine wpAny_pyNext_enum_itemD D he ⟨hit, p⟩ hlt hne (by simp [hne, hea]) fun u' h' tk hP ho hst' hT hsz hk => ?_
    have eu : u' = u := by
      have : its.toArray[i]? = some u := by simpa using hu
      rw [this] at hP
      exact (Option.some.inj hP).symm
    subst eu
    refine ⟨_, rfl, wpAny_letOwnedTupleGo_enum (s := { s with heap := h', toks := tk + 1 }) ho fun h'' he' sb => ?_⟩
    have hT2 : h''.get? s.heap.objs.size = some { cls := .type "tuple", data := .seq #[.int i tk, u'] } := (sb.2 _ (Nat.ne_of_gt hel)).trans hT
    generalize hH2 : upd H s.heap.objs.size (.tup [.int (i : Nat), x]) = H2
    have new : ObjOk X.prog X.w H2 h'' s.heap.objs.size (.tup [.int (i : Nat), x]) :=
      ⟨by show 2 ≤ sizeLine; decide, [.int i tk, u'], .cons ⟨_, rfl⟩ (.cons ru .nil), ⟨_, hT2, rfl, _, rfl⟩⟩
    have I1 : L2.Inv X pins σ H2 { s with heap := h'', toks := tk + 1 } := by
      subst hH2
      exact I.turnedNew (ch := [e, it]) (fun b ob hb q => (sb.2 b (fun z => hb (by simp [z]))).trans
        (hk b ob (fun z => hb (by simp [z])) (fun z => hb (by simp [z])) q)) hf (Nat.le_refl _) new
    refine ⟨.ref s.heap.objs.size, _, I1, rfl, ⟨_, x, rfl, I.hok.fresh (Nat.le_refl _), hH2.symm, fun ys hy => ?_⟩, ⟨⟨u', ?_⟩, ?_, hne, hat, hea⟩, fun b hb => ?_⟩
    · rw [I.tuple_inj hy hq]
      exact hx
    · have e1 : ((i + 1 : Nat) : Int) = (i : Int) + 1 := by omega
      rw [e1]
      exact he'
    · exact hst'.1.at fun o q => (sb.2 it (Ne.symm hne)).trans q
    · have hb' : b < s.heap.objs.size := by
        have e' : b = e ∨ b = it := by simpa using hb
        rcases e' with z | z <;> subst z
        · exact hel
        · exact hil
      rw [← hH2, upd_ne (Nat.ne_of_lt hb')]
      exact (hf b hb).1
  done := by
    intro X hP hw hK hc i pins s σ H E I hf st hg
    subst hP hw hK
    obtain ⟨⟨old, he⟩, hit, hne, hat, hea⟩ := st
    obtain ⟨xs, hq, hx⟩ := hg
    obtain ⟨its, rv, p, hz⟩ := I.tuple hq
    obtain ⟨f0, f1, f2, f3, f4, f5⟩ := hf it (by simp)
    have hl := rv.length
    have D := Draws.tuple (prog := X.prog) (w := X.w) (A := X.A.in1) (I.ok.hd hc) it a hat its.toArray
    have en : its.toArray.size = i := by simpa using hl.symm.trans hx
    refine wpAny_pyNext_enum_endD D he ⟨by rw [en]; exact hit, p⟩ fun h' eb => ?_
    exact ⟨rfl, I.turned (t' := s.toks) (fun b o hb q => eb b o hb q) f0 f1 f3 f4 f5⟩
  self := fun A i s Q E st h => by
    obtain ⟨⟨_, he⟩, _⟩ := st
    exact wpAny_pyIter_enum he h
def iEnumT (K : PySem.W.Frag) (ta : TA) : TI := fun σ H R => ta σ H fun vs H1 => ∃ a xs, vs = [.ref a] ∧ SqT K H1 a xs ∧ R (ItEt K a) H1
theorem pi_enumT {X : Cx} {e : Expr} {ta : TA} {p pos tpos : Pos} {elts : List Expr} {kk : Nat} (hg : Gl X "enumerate") (hm : X.mg "enumerate" = none) (ha : PA X [e] ta)
    (hs : starEach [e] X.env = [(false, eval e X.env)] := by rfl) :
    PI X (.Tuple elts kk tpos) (.Call (.Name "enumerate" p) [e] [] pos) (iEnumT X.K ta) := by
  refine ⟨fun pins s σ H R I h => ?_⟩
  refine Call_ (ld_blt I hg hm boot_enumerate (PyProof.Rows.callWith_type1
    (thn (ha.run pos pins s σ H _ I h) fun us s1 ⟨vs, H1, I1, r1, q1⟩ => ?_) hs rfl))
  obtain ⟨a, xs, ex, hq, q⟩ := q1
  subst ex
  cases r1 with
  | cons r rr =>
    cases rr
    cases r
    obtain ⟨its, rv, p', hz⟩ := I1.tuple hq
    have hal : a < s1.heap.objs.size := by
      obtain ⟨o, e, _⟩ := id p'
      exact Heap.lt_size e
    refine call_enumT p' fun h' he hit hk => wpAny_pyIter_enum he ?_
    have I2 : L2.Inv X pins σ H1 { s1 with heap := h' } := I1.kept (t' := s1.toks) hk
    refine ⟨s1.heap.objs.size + 1, [s1.heap.objs.size + 1, s1.heap.objs.size], _, _, H1, rfl, I2,
      turn_enumT a (s1.heap.objs.size + 1) s1.heap.objs.size,
      ⟨⟨.none, he⟩, hit, Nat.succ_ne_self _, Nat.ne_of_lt hal, (Nat.ne_of_lt (Nat.lt_succ_of_lt hal)).symm⟩, fun b hb => ?_, q⟩
    have hle : s1.heap.objs.size ≤ b := by
      have e' : b = s1.heap.objs.size + 1 ∨ b = s1.heap.objs.size := by simpa using hb
      rcases e' with z | z <;> subst z
      · exact Nat.le_add_right _ _
      · exact Nat.le_refl _
    exact I1.fpOk hle (I1.hok.fresh hle)
end Sfl
namespace Sfl
open PySem PySem.Spec PyProof.Rows L2
theorem for_enumT {K : PySem.W.Frag} {a : Addr} {xs : List V} {g : TG} {tb : TS} {D : Ends} {σ : L2.St} {H : Hp} (Pv : Nat → L2.St → Hp → Prop) (h0 : Pv 0 σ H) (hl : ∀ i σ H, i ≤ xs.length → Pv i σ H → SqT K H a xs)
    (hs : ∀ (i : Nat) (x : V) (T : Addr) (σ : L2.St) (H : Hp), xs[i]? = some x → Pv i σ H → H T = none →
      g (.ref T) σ (upd H T (.tup [.int (i : Nat), x])) fun σ2 H2 => tb { D with nx := Pv (i + 1), ct := Pv (i + 1), bk := D.nx } σ2 H2)
    (hd : ∀ σ H, Pv xs.length σ H → D.nx σ H) :
    ∃ W : Nat → Nat → L2.St → Hp → Prop, (∃ m, W 0 m σ H) ∧ ∀ i m σ H, W i m σ H →
      ((ItEt K a).stop i H ∧ D.nx σ H) ∨ ((ItEt K a).go i H ∧ ∃ N : L2.St → Hp → Prop, (∀ σ' H', N σ' H' → ∃ m', m' < m ∧ W (i + 1) m' σ' H') ∧
        ∀ v H', (ItEt K a).yld i H v H' → g v σ H' fun σ2 H2 => tb { D with nx := N, ct := N, bk := D.nx } σ2 H2) := by
  refine ⟨fun i m σ H => m = xs.length - i ∧ i ≤ xs.length ∧ Pv i σ H, ⟨xs.length, by simp, Nat.zero_le _, h0⟩, ?_⟩
  rintro i m σ H ⟨rfl, hi, p⟩
  have q := hl i σ H hi p
  by_cases hlt : i < xs.length
  · refine .inr ⟨⟨xs, xs[i], q, by simp [hlt]⟩, Pv (i + 1), fun σ' H' p' => ⟨xs.length - (i + 1), by omega, rfl, hlt, p'⟩, fun v H' y => ?_⟩
    obtain ⟨T, x, rfl, hT, rfl, f⟩ := y
    exact hs i x T σ H (f xs q) p hT
  · have e : i = xs.length := by omega
    subst e
    exact .inl ⟨⟨xs, q, rfl⟩, hd σ H p⟩
/-- .. with a break: what holds behind the loop is shown once -/
theorem for_enumTB {K : PySem.W.Frag} {a : Addr} {xs : List V} {g : TG} {tb : TS} {D : Ends} {σ : L2.St} {H : Hp} (Pv : Nat → L2.St → Hp → Prop) (Bk : L2.St → Hp → Prop) (h0 : Pv 0 σ H) (hl : ∀ i σ H, i ≤ xs.length → Pv i σ H → SqT K H a xs)
    (hs : (∀ σ H, Bk σ H → D.nx σ H) → ∀ (i : Nat) (x : V) (T : Addr) (σ : L2.St) (H : Hp), xs[i]? = some x → Pv i σ H → H T = none →
      g (.ref T) σ (upd H T (.tup [.int (i : Nat), x])) fun σ2 H2 => tb { D with nx := Pv (i + 1), ct := Pv (i + 1), bk := D.nx } σ2 H2)
    (hd : ∀ σ H, Pv xs.length σ H → Bk σ H) (hb : ∀ σ H, Bk σ H → D.nx σ H) :
    ∃ W : Nat → Nat → L2.St → Hp → Prop, (∃ m, W 0 m σ H) ∧ ∀ i m σ H, W i m σ H →
      ((ItEt K a).stop i H ∧ D.nx σ H) ∨ ((ItEt K a).go i H ∧ ∃ N : L2.St → Hp → Prop, (∀ σ' H', N σ' H' → ∃ m', m' < m ∧ W (i + 1) m' σ' H') ∧
        ∀ v H', (ItEt K a).yld i H v H' → g v σ H' fun σ2 H2 => tb { D with nx := N, ct := N, bk := D.nx } σ2 H2) :=
  for_enumT Pv h0 hl (hs hb) fun σ H p => hb σ H (hd σ H p)
end Sfl
namespace Sfl
open PySem PySem.Spec PyProof.Rows L2

/-! ### plain words -/
def Nm (z : Str) : Bool := if z.length > 8 then false else (if Txt.isascii z then (if Txt.isalpha z then Txt.islower z else false) else false)
def nV (n : Nat) : V := .int (n : Nat)
/-- a tuple of texts stands at p -/
abbrev Tp (H : Hp) (p : Addr) (l : List Str) : Prop := H p = some (.tup (l.map V.str))
abbrev Ip (H : Hp) (p : Addr) (l : List Nat) : Prop := H p = some (.tup (l.map nV))
/-- all but a is as it was -/
def Kp (a : Addr) (H H' : Hp) : Prop := ∀ b o, b ≠ a → H b = some o → H' b = some o
theorem Kp.refl (a : Addr) (H : Hp) : Kp a H H := fun _ _ _ h => h
theorem Kp.trans {a : Addr} {H H1 H2 : Hp} (x : Kp a H H1) (y : Kp a H1 H2) : Kp a H H2 := fun b o n h => y b o n (x b o n h)
theorem Kp.of {a : Addr} {H H' : Hp} (s : Same H H') : Kp a H H' := fun b o _ h => s b o h
theorem same_upd {H : Hp} {p : Addr} {o : HO} (h : H p = none) : Same H (upd H p o) := fun b x e => by
  rw [upd_ne (ne_of_none e h)]
  exact e
theorem kp_upd {H : Hp} {a : Addr} {o : HO} : Kp a H (upd H a o) := fun b x n e => by
  rw [upd_ne n]
  exact e
/-- greedy places -/
def gr : List Str → List Str → Nat → List Nat
  | [], _, _ => []
  | _ :: _, [], _ => []
  | x :: xs, y :: ys, i => if y = x then i :: gr xs ys (i + 1) else gr (x :: xs) ys (i + 1)
theorem gr_nil (o : List Str) (i : Nat) : gr [] o i = [] := by
  cases o <;> rfl
theorem gr_end (l : List Str) (i : Nat) : gr l [] i = [] := by
  cases l <;> rfl
theorem gr_le : ∀ (l o : List Str) (i : Nat), (gr l o i).length ≤ l.length
  | [], o, i => by rw [gr_nil]; exact Nat.le_refl _
  | x :: xs, [], i => Nat.zero_le _
  | x :: xs, y :: ys, i => by
    unfold gr
    by_cases h : y = x
    · rw [if_pos h]
      exact Nat.succ_le_succ (gr_le xs ys (i + 1))
    · rw [if_neg h]
      exact gr_le (x :: xs) ys (i + 1)
/-- one turn -/
theorem gr_step {l o : List Str} {k i : Nat} {y : Str} (hk : k < l.length) (hi : o[i]? = some y) :
    gr (l.drop k) (o.drop i) i = if y = l[k] then i :: gr (l.drop (k + 1)) (o.drop (i + 1)) (i + 1) else gr (l.drop k) (o.drop (i + 1)) (i + 1) := by
  obtain ⟨h1, h2⟩ := List.getElem?_eq_some_iff.mp hi
  have e1 : l.drop k = l[k] :: l.drop (k + 1) := List.drop_eq_getElem_cons hk
  have e2 : o.drop i = y :: o.drop (i + 1) := by
    rw [List.drop_eq_getElem_cons h1, h2]
  rw [e1, e2]
  rfl
/-! ### rules that name the written part -/
def rLenK (K : PySem.W.Frag) : List V → Hp → VK → Prop := fun xs H Q => ∃ p ys, xs = [.ref p] ∧ (SqL K H p ys ∨ SqT K H p ys) ∧ Q (.int ys.length) H
theorem lenK {X : Cx} (K : PySem.W.Frag) (h : X.K = K := by rfl) : CallR X (.builtin "len") (rLenK K) := by
  subst h
  exact call_len_seq
theorem ixTK {X : Cx} (K : PySem.W.Frag) (h : X.K = K := by rfl) : IxR X (rIxT K) := by
  subst h
  exact ix_tup
theorem ixLK {X : Cx} (K : PySem.W.Frag) (h : X.K = K := by rfl) : IxR X (rIxL K) := by
  subst h
  exact ix_list
theorem catK {X : Cx} (K : PySem.W.Frag) (h : X.K = K := by rfl) : OpR X (binaryOp .Add) (rCatA K) := by
  subst h
  exact op_catA
theorem minK {X : Cx} (K : PySem.W.Frag) (hc : X.calm = true := by rfl) (h : X.K = K := by rfl) : CallR X (.builtin "min") (rMin K) := by
  subst h
  exact cr_min hc
theorem maxK {X : Cx} (K : PySem.W.Frag) (hc : X.calm = true := by rfl) (h : X.K = K := by rfl) : CallR X (.builtin "max") (rMax K) := by
  subst h
  exact cr_max hc
end Sfl
namespace Sfl
open PySem PySem.Spec PyProof.Rows L2
theorem sqt {K : PySem.W.Frag} {H : Hp} {p : Addr} {xs : List V} (h : H p = some (.tup xs)) : SqT K H p xs := .inl (.inl h)
theorem sql {K : PySem.W.Frag} {H : Hp} {p : Addr} {xs : List V} (h : H p = some (.lst xs)) : SqL K H p xs := .inl (.inl h)
/-! ### slices and sums of tuples, whatever object they are -/
def rSlS : V → Option Int → Option Int → Hp → VK → Prop := fun x lo hi H Q => ∃ a xs, x = .ref a ∧ H a = some (.tup xs) ∧
  ∀ p H', Same H H' → H' p = some (.tup (cutV xs lo hi)) → Q (.ref p) H'
theorem cutV_whole {xs : List V} {lo hi : Option Int} (h : HT.sIx xs.length 0 lo = 0 ∧ HT.sIx xs.length xs.length hi = xs.length) : cutV xs lo hi = xs := by
  unfold cutV
  rw [h.1, h.2, List.drop_zero, Nat.sub_zero, List.take_length]
theorem sl_tupS {X : Cx} : SlR X rSlS := by
  intro pins s σ H x v vl vu lo hi sl Q I rx hs pl pu h
  obtain ⟨a, xs, rfl, hx, q⟩ := h
  refine sl_tupA pins s σ H _ v vl vu lo hi sl Q I rx hs pl pu ⟨a, xs, rfl, sqt hx, fun hw => ?_, fun hw p hp => ?_⟩
  · exact q a H (Same.refl H) (by rw [cutV_whole hw]; exact hx)
  · exact q p _ (same_upd hp) upd_same
def rCatS : R2 := fun x y H Q => ∃ a b xs ys, x = .ref a ∧ y = .ref b ∧ H a = some (.tup xs) ∧ H b = some (.tup ys) ∧ xs.length + ys.length ≤ sizeLine ∧
  ∀ p H', Same H H' → H' p = some (.tup (xs ++ ys)) → Q (.ref p) H'
theorem op_catS {X : Cx} : OpR X (binaryOp .Add) rCatS := by
  intro pins s σ H x y v u Q I rx ry h
  obtain ⟨a, b, xs, ys, rfl, rfl, ha, hb, hz, q⟩ := h
  refine op_catA pins s σ H _ _ v u Q I rx ry ⟨a, b, xs, ys, rfl, rfl, sqt ha, sqt hb, hz, fun e => ?_, fun _ e => ?_, fun _ _ p hp => ?_⟩
  · subst e
    exact q b H (Same.refl H) hb
  · subst e
    exact q a H (Same.refl H) (by rw [List.append_nil]; exact ha)
  · exact q p _ (same_upd hp) upd_same
theorem cut_take (xs : List V) (k : Nat) (h : k ≤ xs.length) : cutV xs none (some (k : Int)) = xs.take k := by
  unfold cutV
  rw [HT.sIx_none, HT.sIx_nat, Nat.min_eq_left h, Nat.sub_zero, List.drop_zero]
theorem cut_drop (xs : List V) (k : Nat) (h : k ≤ xs.length) : cutV xs (some (k : Int)) none = xs.drop k := by
  unfold cutV
  rw [HT.sIx_none, HT.sIx_nat, Nat.min_eq_left h]
  apply List.take_of_length_le
  rw [List.length_drop]
  exact Nat.le_refl _
/-! ### data -/
theorem all_strs {K : PySem.W.Frag} {H : Hp} : ∀ l : List Str, DpAll K H (l.map V.str) (l.map PyData.str)
  | [] => .nil
  | x :: r => .cons (.str x) (all_strs r)
theorem all_ints {K : PySem.W.Frag} {H : Hp} : ∀ l : List Nat, DpAll K H (l.map nV) (l.map fun n => PyData.int (n : Nat))
  | [] => .nil
  | x :: r => .cons (.int _) (all_ints r)
theorem dp_tp {K : PySem.W.Frag} {H : Hp} {p : Addr} {l : List Str} (h : Tp H p l) : Dp K H (.ref p) (.tuple (l.map PyData.str)) := .tup (sqt h) (all_strs l)
theorem dp_ip {K : PySem.W.Frag} {H : Hp} {p : Addr} {l : List Nat} (h : Ip H p l) : Dp K H (.ref p) (.tuple (l.map fun n => PyData.int (n : Nat))) := .tup (sqt h) (all_ints l)
theorem nm_ok {z : Str} (h : Nm z = true) : PyData.strOk z = true := by
  unfold Nm at h
  by_cases c : z.length > 8
  · rw [if_pos c] at h
    cases h
  · rw [if_neg c] at h
    cases e : Txt.isascii z with
    | false =>
      rw [e] at h
      cases h
    | true =>
      unfold Txt.isascii at e
      unfold PyData.strOk
      rw [Array.all_eq_true] at e ⊢
      intro i hi
      have := e i hi
      simp only [decide_eq_true_eq] at this ⊢
      omega
theorem flat_strs : ∀ l : List Str, (∀ z ∈ l, PyData.strOk z = true) → PyData.canLayAll0 (l.map PyData.str) = true ∧ PyData.depthAll (l.map PyData.str) = 0
  | [], _ => ⟨rfl, rfl⟩
  | x :: r, h => by
    have ih := flat_strs r fun z hz => h z (List.mem_cons_of_mem _ hz)
    have hx := h x List.mem_cons_self
    constructor
    · show (PyData.canLay0 (.str x) && PyData.canLayAll0 (r.map PyData.str)) = true
      rw [ih.1]
      show (PyData.strOk x && true) = true
      rw [hx]
      rfl
    · show max (PyData.depth (.str x)) (PyData.depthAll (r.map PyData.str)) = 0
      rw [ih.2]
      rfl
theorem flat_ints : ∀ l : List Nat, PyData.canLayAll0 (l.map fun n => PyData.int (n : Nat)) = true ∧ PyData.depthAll (l.map fun n => PyData.int (n : Nat)) = 0
  | [] => ⟨rfl, rfl⟩
  | x :: r => by
    have ih := flat_ints r
    constructor
    · show (PyData.canLay0 (.int x) && PyData.canLayAll0 (r.map fun n => PyData.int (n : Nat))) = true
      rw [ih.1]
      rfl
    · show max (PyData.depth (.int x)) (PyData.depthAll (r.map fun n => PyData.int (n : Nat))) = 0
      rw [ih.2]
      rfl
theorem shaped_of {d : PyData} {n : Nat} (h : d.canLay0 = true) (h2 : d.depth = n) (h3 : n ≤ 64) : SeqAt.shaped d = true := by
  unfold SeqAt.shaped
  rw [h, h2, decide_eq_true h3]
  rfl
theorem shL {ds : List PyData} (h : PyData.canLayAll0 ds = true ∧ PyData.depthAll ds = 0) : SeqAt.shaped (.list ds) = true :=
  shaped_of (n := 1) h.1 (by show PyData.depthAll ds + 1 = 1; rw [h.2]) (by decide)
theorem shT {ds : List PyData} (h : PyData.canLayAll0 ds = true ∧ PyData.depthAll ds = 0) : SeqAt.shaped (.tuple ds) = true :=
  shaped_of (n := 1) h.1 (by show PyData.depthAll ds + 1 = 1; rw [h.2]) (by decide)
/-- a list, or a tuple, of these things -/
def It' (H : Hp) (p : Addr) (xs : List V) : Prop := H p = some (.lst xs) ∨ H p = some (.tup xs)
theorem It'.kp {a p : Addr} {H H' : Hp} {xs : List V} (h : It' H p xs) (x : Kp a H H') (hn : p ≠ a) : It' H' p xs := by
  rcases h with h | h
  · exact .inl (x p _ hn h)
  · exact .inr (x p _ hn h)
theorem It'.same {p : Addr} {H H' : Hp} {xs : List V} (h : It' H p xs) (x : Same H H') : It' H' p xs := by
  rcases h with h | h
  · exact .inl (x p _ h)
  · exact .inr (x p _ h)
theorem It'.sq {K : PySem.W.Frag} {H : Hp} {p : Addr} {xs : List V} (h : It' H p xs) : SqL K H p xs ∨ SqT K H p xs := by
  rcases h with h | h
  · exact .inl (sql h)
  · exact .inr (sqt h)
theorem It'.ix {K : PySem.W.Frag} {H : Hp} {p : Addr} {xs : List V} {i : Nat} {v : V} {Q : VK} (h : It' H p xs) (hv : xs[i]? = some v) (q : Q v H) : rIx K (.ref p) (.int (i : Int)) H Q := by
  rcases h with h | h
  · exact .inl ⟨p, xs, _, v, rfl, rfl, sql h, atI_nat hv, q⟩
  · exact .inr (.inl ⟨p, xs, _, v, rfl, rfl, sqt h, atI_nat hv, q⟩)
end Sfl
namespace Sfl
open PySem PySem.Spec PyProof.Rows L2
theorem piLK {X : Cx} {tg l : Expr} {tl : TE} (K : PySem.W.Frag) (hl : PE X l tl) (h : X.K = K := by rfl) : PI X tg l (iList K tl) := by
  subst h
  exact pi_list hl
theorem piTK {X : Cx} {tg l : Expr} {tl : TE} (K : PySem.W.Frag) (hl : PE X l tl) (h : X.K = K := by rfl) : PI X tg l (iTup K tl) := by
  subst h
  exact pi_tup hl
/-! ### parts of the text -/
def asgVal (s : Stmt) : Expr := match s with
  | .Assign _ v _ => v
  | _ => .Constant .none 0 ⟨0, 0, 0, 0⟩
def callArg (e : Expr) (i : Nat) : Expr := match e with
  | .Call _ as _ _ => as.getD i (.Constant .none 0 ⟨0, 0, 0, 0⟩)
  | _ => .Constant .none 0 ⟨0, 0, 0, 0⟩
def lcScope (e : Expr) : Scope := match e with
  | .ListComp _ _ sc _ => sc
  | _ => { kind := .function, names := [], isGenerator := false, isCoroutine := false }
def inBlock (e : Expr) (sc : Scope) : Scope := relS (lcScope e) sc
end Sfl
namespace Sfl
open PySem PySem.Spec PyProof.Rows L2
/-- list(range(a, b, c)) -/
def stepV (i c : Int) (n : Nat) : List V := (List.range n).map fun k => V.int (i + (k : Nat) * c)
def tLst3 (ta : TA) : TE := fun σ H Q => ta σ H fun vs H1 => ∃ (i j c : Int) (n : Nat), vs = [.int i, .int j, .int c] ∧ RgC i j c n ∧ n ≤ 2 ^ 24 ∧
  ∀ q, H1 q = none → Q (.ref q) (upd H1 q (.lst (stepV i c n)))
theorem pe_list3 {X : Cx} {a b c : Expr} {ta : TA} {p pos p2 pos2 : Pos} (hc : X.calm = true) (hg : Gl X "range") (hm : X.mg "range" = none) (hg2 : Gl X "list") (hm2 : X.mg "list" = none) (ha : PA X [a, b, c] ta)
    (hs : starEach [a, b, c] X.env = (false, eval a X.env) :: starEach [b, c] X.env := by rfl) (hpl : (backTo pos (starEach [b, c] X.env)).any (·.1) = false := by rfl)
    (na : starEach [.Call (.Name "range" p) [a, b, c] [] pos] X.env = (false, eval (.Call (.Name "range" p) [a, b, c] [] pos) X.env) :: starEach [] X.env := by rfl) :
    PE X (.Call (.Name "list" p2) [.Call (.Name "range" p) [a, b, c] [] pos] [] pos2) (tLst3 ta) := by
  refine ⟨fun pins s σ H Q I h => ?_⟩
  refine Call_ (ld_blt I hg2 hm2 boot_list (PyProof.Rows.callWith_type1 (args_cons (thn (Q := fun x s' => ∃ r i j k t u v n H', x = Value.ref r ∧ IsRange s'.heap r i j k t u v ∧ L2.Inv X pins σ H' s' ∧ RgC i j k n ∧ n ≤ 2 ^ 24 ∧
      ∀ q, H' q = none → Q (.ref q) (upd H' q (.lst (stepV i k n)))) ?_ fun x s1 h1 => args_nil ?_) na) na))
  · refine Call_ (ld_blt I hg hm boot_range (PyProof.Rows.callWith_type1 (thn (ha.run pos pins s σ H _ I h)
      fun us s1 ⟨vs, H1, I1, r1, q1⟩ => ?_) hs hpl))
    obtain ⟨i, j, k, n, e, hR, hn, q⟩ := q1
    subst e
    obtain ⟨c0, c1, c2, c3⟩ := id hR
    cases r1 with
    | cons r rr =>
      cases rr with
      | cons r' rr =>
        cases rr with
        | cons r'' rr =>
          cases rr
          obtain ⟨t, rfl⟩ := r
          obtain ⟨t', rfl⟩ := r'
          obtain ⟨t'', rfl⟩ := r''
          refine call_range_3 c0 ?_ (.inl (PyProof.noPylong_small c1))
          exact ⟨_, i, j, k, _, _, _, n, H1, rfl, IsRange.new .., I1.kept (t' := s1.toks) fun b o e => Heap.get?_push_of_some _ e, hR, hn, q⟩
  · obtain ⟨r, i, j, k, t, u, v, n, H1, ex, hr, I1, ⟨c0, c1, c2, c3⟩, hn, q⟩ := h1
    subst ex
    refine call_list_range (n := n) (I1.ok.hd hc) hr c2 c3 hn fun h' tk acc c' hk e' hi => ?_
    have hv : Vals (stepV i k n) acc.toList := by
      have e : acc.toList.length = n := by
        rw [Array.length_toList]
        exact hi.1
      unfold stepV
      rw [← e]
      refine vals_of_get acc.toList _ fun j' u' hj => ?_
      obtain ⟨t2, rfl⟩ := hi.2 j' u' (by rw [← hj, Array.getElem?_toList])
      exact ⟨t2, rfl⟩
    have hlen : (stepV i k n).length = n := by
      unfold stepV
      rw [List.length_map, List.length_range]
    have new : ObjOk X.prog X.w (upd H1 s1.heap.objs.size (.lst (stepV i k n))) h' s1.heap.objs.size (.lst (stepV i k n)) := by
      refine ⟨?_, acc.toList, c', hv, ?_⟩
      · rw [hlen, sizeLine_eq]
        omega
      · rw [Array.toArray_toList]
        exact e'
    exact ⟨.ref s1.heap.objs.size, _, I1.laid hk (Nat.le_refl _) new, rfl, q _ (I1.hok.fresh (Nat.le_refl _))⟩
end Sfl
namespace Sfl
open PySem PySem.Spec PyProof.Rows L2
section
variable {prog : Program} {w : World} {A : Around} {E : Value → Shared → Prop} {s : Shared} {K : PySem.W.Frag} {x C f : Addr} {ox : Obj} {od : Option Obj}
open PySem.W in
theorem truthy_len {Q : Bool → Shared → Prop} (X : K.In s.heap) (I : InstAt s.heap x ox C od) (hb : findIn K (.ref C) "__bool__" = some none) (hs : findIn K (.ref C) "__len__" = some (some (.ref f))) (hf : isFn K (.ref f) = true)
    (h : wpAny (model prog w) A.in1 (call (.ref f) [.ref x]) (fun v s' => ∃ n t, v = .int n t ∧ (0 ≤ n ∧ n < 2 ^ 63) ∧ ∀ tk, Q (n != 0) { s' with toks := tk }) E s) : wpAny (model prog w) A (truthy (.ref x)) Q E s := by
  unfold truthy
  refine wpAny_bind (m := callSpecial? (.ref x) (Str.ofString "__bool__")) (wpAny_bind (wpAny_bind (I.type.here ((looks_findIn X hb).here (wpAny_pure ?_)))))
  refine wpAny_bind (wpAny_bind (I.type.here ((looks_findIn X hs).here ?_)))
  refine wpAny_bind (wpAny_runValue ?_)
  refine codeAny_builtin entry_len ?_
  rw [Around.under_plainId plain_len _]
  unfold Builtin.«len»
  refine wpAny_bind (m := oneArg "len" _) (wpAny_pure ?_)
  refine wpAny_bind (m := callSpecial? (.ref x) (Str.ofString "__len__")) (special_fn X I hs (beq_iff_eq.mp hf) (wpAny_mono h (fun r s' hr => ?_) fun _ _ y => y))
  obtain ⟨n, u, rfl, ⟨h0, h1⟩, hq⟩ := hr
  refine wpAny_bind (wpAny_holding (wpAny_pure ?_))
  refine wpAny_bind (wpAny_letGo ?_)
  show wpAny _ _ (if n < 0 then _ else _) _ _ _
  rw [if_neg (by omega)]
  show wpAny _ _ (if n ≥ 2 ^ 63 then _ else _) _ _ _
  rw [if_neg (by omega)]
  exact wpAny_bind (wpAny_mkInt (wpAny_pure (wpAny_pure (hq _))))
open PySem.W in
theorem bool_own {Q : Value → Shared → Prop} (X : K.In s.heap) (I : InstAt s.heap x ox C od) (hb : findIn K (.ref C) "__bool__" = some none) (hs : findIn K (.ref C) "__len__" = some (some (.ref f))) (hf : isFn K (.ref f) = true)
    (h : wpAny (model prog w) A.in1.in1.in1 (call (.ref f) [.ref x]) (fun v s' => ∃ n t, v = .int n t ∧ (0 ≤ n ∧ n < 2 ^ 63) ∧ ∀ tk, Q (.bool (n != 0)) { s' with toks := tk }) E s) : wpAny (model prog w) A (call (.type "bool") [.ref x]) Q E s := by
  refine callType_codes (T := "bool") (Bi := Builtin.«object.__init__») (Q₁ := fun r s₁ => ∃ b, r = .bool b ∧ Q r s₁) PySem.F.called_bool (PySem.F.typeCall_bool_1 _) PySem.F.entry_object_init ?_ ?_
  · refine codeAny_of_tree ?_
    show wpAny _ A.in1.in1 (do checkBuiltinCall "bool.__new__" ⟨[.type "bool", .ref x], []⟩; again (.builtin "bool.__new__" ⟨[.type "bool", .ref x], []⟩)) _ _ s
    refine wpAny_bind (wpAny_of_eq (PySem.F.newCall_bool_1 _) (wpAny_pure ⟨plainId_quiet (by decide +kernel) _, codeAny_builtin PySem.F.entry_bool_new ?_⟩))
    rw [Around.under_plainId (by decide +kernel) _]
    unfold Builtin.«bool.__new__»
    refine wpAny_bind (wpAny_of_eq (a := true) (by rfl) ?_)
    refine PySem.W.KFB.if_not rfl ?_
    refine wpAny_bind (wpAny_of_eq (a := true) PySem.F.conv_sub_bool ?_)
    refine PySem.W.KFB.if_not rfl ?_
    refine wpAny_bind (wpAny_of_eq (a := [.ref x]) (by rfl) ?_)
    refine wpAny_bind (wpAny_mono (truthy_len (Q := fun b s₁ => Q (.bool b) s₁) X I hb hs hf h) (fun b s1 q => ?_) fun _ _ y => y)
    exact wpAny_pure ⟨b, rfl, q⟩
  · rintro obj s₁ ⟨b, rfl, hq⟩
    exact ⟨rfl, PySem.F.args_object_init_2 _ _, object_init_meets PySem.F.called_bool.init.lookup PySem.F.called_bool.made (by decide) prog w A.in1 _ s₁ ⟨rfl, rfl, hq⟩⟩
open PySem.W in
theorem str_own {Q : Value → Shared → Prop} (hu : A.in1.in1.units < cLine) (X : K.In s.heap) (I : InstAt s.heap x ox C od) (hs : findIn K (.ref C) "__str__" = some (some (.ref f))) (hf : isFn K (.ref f) = true)
    (h : wpAny (model prog w) A.in1.in1 (call (.ref f) [.ref x]) (fun v s' => ∃ y t, v = .str y t ∧ Q v s') E s) : wpAny (model prog w) A (call (.type "str") [.ref x]) Q E s := by
  refine callType_codes (T := "str") (Bi := Builtin.«object.__init__») (Q₁ := fun z s₁ => ∃ y t, z = .str y t ∧ Q z s₁) PySem.F.called_str (PySem.F.typeCall_str_1 _) PySem.F.entry_object_init ?_ ?_
  · refine codeAny_of_tree ?_
    show wpAny _ A.in1.in1 (do checkBuiltinCall "str.__new__" ⟨[.type "str", .ref x], []⟩; again (.builtin "str.__new__" ⟨[.type "str", .ref x], []⟩)) _ _ s
    refine wpAny_bind (wpAny_of_eq (PySem.F.newCall_str_1 _) (wpAny_pure ⟨plainId_quiet (by decide +kernel) _, codeAny_builtin PySem.F.entry_str_new ?_⟩))
    rw [Around.under_plainId (by decide +kernel) _, str_new_tree]
    refine wpAny_bind (wpAny_pure (wpAny_bind (wpAny_of_eq isSubtype_str_str ?_)))
    have key : wpAny (model prog w) A.in1.in1 (PySem.Builtin.Str.strOf (.ref x)) (fun z s₁ => ∃ y t, z = .str y t ∧ Q z s₁) E s := by
      unfold PySem.Builtin.Str.strOf
      rw [show Builtin.Str.isExactStr (.ref x) = false from rfl]
      refine wpAny_bind (m := cRoomFor _ _) (wpAny_cRoomFor hu ?_)
      refine wpAny_bind (m := callSpecial? (.ref x) (Str.ofString "__str__")) (special_fn X I hs (beq_iff_eq.mp hf) (wpAny_mono h (fun z s1 hz => ?_) fun _ _ q => q))
      obtain ⟨y, t, rfl, hq⟩ := hz
      exact wpAny_pure ⟨y, t, rfl, hq⟩
    exact wpAny_bind (wpAny_mono key (fun z s₁ hz => wpAny_pure hz) fun _ _ q => q)
  · rintro obj s₁ ⟨y, t, rfl, hq⟩
    exact ⟨typeIs_str _ _ _, PySem.F.args_object_init_2 _ _, object_init_meets PySem.F.called_str.init.lookup PySem.F.called_str.made (by decide) prog w A.in1 _ s₁ ⟨typeIs_str _ _ _, rfl, hq⟩⟩
end
section
variable {prog : Program} {w : World} {A : Around} {E : Value → Shared → Prop} {s : Shared} {K : PySem.W.Frag} {x C f : Addr} {ox : Obj} {od : Option Obj}
open PySem.W in
theorem ifBound_B {M : Model} {name : Str} {id : String} {args : List Value} {Q : Option Value → Shared → Prop} (X : K.In s.heap) (I : InstAt s.heap x ox C od) (hs : findIn K (.ref C) name = some (some (.builtin id)))
    (hb : ∀ self, bindSpecial (.builtin id) self = pure (.builtin id, [self])) (h : wpAny M A (call (.builtin id) (.ref x :: args)) (fun v => Q (some v)) E s) : wpAny M A (callSpecialIfBound? (.ref x) name args) Q E s := by
  simp only [callSpecialIfBound?, bindSpecialIfBound?]
  refine wpAny_holding (wpAny_bind (wpAny_bind (wpAny_bind (I.type.here ((looks_findIn X hs).here ?_)))))
  refine wpAny_bind (wpAny_askSetting (wpAny_ite ?_))
  have fin : wpAny M A (call (.builtin id) ([.ref x] ++ args) >>= fun v => pure (some v)) Q E s := wpAny_bind (wpAny_mono h (fun v s' z => wpAny_pure z) fun _ _ z => z)
  split
  · exact wpAny_bind ((Looks.of_pure (hb _)).here (wpAny_pure (by exact fin)))
  · exact wpAny_tryCatch (wpAny_bind ((Looks.of_pure (hb _)).here (wpAny_pure (by exact fin))))
open PySem.W in
theorem ne_own {b tb : Value} {Q : Value → Shared → Prop} (hu : A.units + 1 < cLine) (X : K.In s.heap) (I : InstAt s.heap x ox C od) (hb : Looks (model prog w) s.heap (typeOf b) tb) (hn : notFirst K C tb = true) (hm : mroIn K C (.type "object") = some true)
    (hs : findIn K (.ref C) (cmpInfo .NotEq).2.1 = some (some (.builtin "object.__ne__"))) (he : findIn K (.ref C) "__eq__" = some (some (.ref f))) (hf : isFn K (.ref f) = true)
    (h : wpAny (model prog w) A.in1 (call (.ref f) [.ref x, b]) (fun v s' => ∃ k, v = .bool k ∧ Q (.bool (!k)) s') E s) : wpAny (model prog w) A (richCompare .NotEq (.ref x) b) Q E s := by
  have one : wpAny (model prog w) A (tryCompare (.ref x) (cmpInfo .NotEq).2.1 b) (fun r s' => ∃ v, r = some v ∧ Q v s') E s := by
    unfold tryCompare
    refine wpAny_bind (ifBound_B X I hs PySem.F.cmp_object.ne.bind (wpAny_call (codeAny_call_builtin PySem.F.cmp_object.ne.plain PySem.F.cmpEntry_ne
      (check_slot (i := "object.__ne__") (owner := "object") (n := "__ne__") PySem.F.cmpKind_ne PySem.F.cmpSplit_ne (I.type.andThen (looks_mroIn X hm)) (PySem.F.cmpArgs_ne _ _) ?_))))
    unfold Builtin.«object.__ne__»
    refine wpAny_bind (m := slotArgs "__ne__" 1 _) (wpAny_pure ?_)
    refine wpAny_bind (m := cRoomFor _ _) (wpAny_cRoomFor hu ?_)
    refine wpAny_bind (m := callSpecialIfBound? (.ref x) (Str.ofString "__eq__") _) (ifBound_K X I he hf (wpAny_mono h (fun r s' hq => ?_) fun _ _ y => y))
    obtain ⟨k, rfl, q⟩ := hq
    exact wpAny_bind (wpAny_truthy_bool (wpAny_pure (wpAny_pure ⟨_, rfl, q⟩)))
  unfold richCompare
  simp only [oneThing_ref]
  refine wpAny_holding (wpAny_bind (wpAny_cRoomFor (Nat.lt_of_succ_lt hu) ?_))
  refine wpAny_bind (I.type.here (wpAny_bind (hb.here ?_)))
  split
  · rename_i q
    have e : subIn K tb (.ref C) = some false := by
      rcases Bool.or_eq_true_iff.mp hn with e | e
      · rw [beq_iff_eq.mp e] at q
        simp at q
      · exact beq_iff_eq.mp e
    refine wpAny_bind ((looks_subIn X e).here ?_)
    simp only [Bool.false_eq_true, if_false]
    refine wpAny_bind (wpAny_mono one (fun r s' z => ?_) fun _ _ e => e)
    obtain ⟨v, rfl, hq⟩ := z
    exact wpAny_pure hq
  · refine wpAny_bind (wpAny_pure ?_)
    simp only [Bool.false_eq_true, if_false]
    refine wpAny_bind (wpAny_mono one (fun r s' z => ?_) fun _ _ e => e)
    obtain ⟨v, rfl, hq⟩ := z
    exact wpAny_pure hq
end

/-! ### rules -/
/-- what the text's class has, for ==, !=, bool, len, str, + -/
structure OwnC (K : PySem.W.Frag) (C : Addr) : Prop where
  mro : PySem.W.mroIn K C (.type "object") = some true
  first : PySem.W.selfFirst K C = true
section
variable {X : Cx} {CX : CXT} {pins : List (Addr × Obj)} {σ : L2.St} {H : Hp} {s : Shared} {a C dx g : Addr} {fs : List (Str × V)} {n : Nat} {sp : Sp} {E : XK}
theorem ins_at (I : Inv X pins σ H s) (h : H a = some (.ins C dx fs)) : ∃ ox od, PySem.W.InstAt s.heap a ox C (some od) := by
  obtain ⟨mA, O, _⟩ := ins_get I.hok h
  obtain ⟨od, J, _⟩ := O.look
  exact ⟨_, od, J⟩
/-- len(x), bool(x), str(x) of an instance with its own defs -/
def rLenO (C : Addr) (sp : Sp) (E : XK) : List V → Hp → VK → Prop := fun xs H Q => ∃ a dx fs, xs = [V.ref a] ∧ H a = some (.ins C dx fs) ∧ sp [.ref a] H (fun z H' => ∃ i : Int, z = .int i ∧ (0 ≤ i ∧ i < 2 ^ 63) ∧ Q (.int i) H') E
def rBoolO (C : Addr) (sp : Sp) (E : XK) : List V → Hp → VK → Prop := fun xs H Q => ∃ a dx fs, xs = [V.ref a] ∧ H a = some (.ins C dx fs) ∧ sp [.ref a] H (fun z H' => ∃ i : Int, z = .int i ∧ (0 ≤ i ∧ i < 2 ^ 63) ∧ Q (.bl (i != 0)) H') E
def rStrO (C : Addr) (sp : Sp) (E : XK) : List V → Hp → VK → Prop := fun xs H Q => ∃ a dx fs, xs = [V.ref a] ∧ H a = some (.ins C dx fs) ∧ sp [.ref a] H (fun z H' => ∃ y : Str, z = .str y ∧ Q (.str y) H') E
theorem call_lenO (hs : PySem.W.findIn X.K (.ref C) "__len__" = some (some (.ref g))) (hf : PySem.W.isFn X.K (.ref g) = true) (F : FnR X.prog X.w X.K X.mg X.base CX n g sp) (hr : Room (n + 1) X.A) (hx : Passes CX X E) : CallR X (.builtin "len") (rLenO C sp E) := by
  intro pins s σ H xs us Q I r h
  obtain ⟨a, dx, fs, rfl, ha, q⟩ := h
  obtain ⟨u, rfl, ru⟩ := vals1 r
  cases (show u = Value.ref a from ru)
  obtain ⟨ox, od, J⟩ := ins_at I ha
  obtain ⟨m, hF⟩ := I.fr
  refine PySem.W.len_K hF I.ok.mod.kin J hs hf (wpAny_mono (wpAny_call (SlX.run_at (us := [.ref a]) (ws := [.ref a]) F hr.in1 I.env0.in1 hx I (.cons rfl .nil) q)) (fun v s' z => ?_) fun _ _ y => y)
  obtain ⟨z', H', I', rz, i, ei, hi, qz⟩ := z
  subst ei
  obtain ⟨t, e⟩ := (show ∃ t, v = Value.int i t from rz)
  subst e
  exact ⟨hi, .int i, H', I'.tok _, ⟨_, rfl⟩, qz⟩
theorem call_boolO (hb : PySem.W.findIn X.K (.ref C) "__bool__" = some none) (hs : PySem.W.findIn X.K (.ref C) "__len__" = some (some (.ref g))) (hf : PySem.W.isFn X.K (.ref g) = true) (F : FnR X.prog X.w X.K X.mg X.base CX n g sp)
    (hr : Room (n + 3) X.A) (hx : Passes CX X E) : CallR X (.type "bool") (rBoolO C sp E) := by
  intro pins s σ H xs us Q I r h
  obtain ⟨a, dx, fs, rfl, ha, q⟩ := h
  obtain ⟨u, rfl, ru⟩ := vals1 r
  cases (show u = Value.ref a from ru)
  obtain ⟨ox, od, J⟩ := ins_at I ha
  have hr3 : Room n X.A.in1.in1.in1 := (show Room (n + 1) X.A.in1.in1 from (show Room (n + 2) X.A.in1 from hr.in1).in1).in1
  refine bool_own I.kIn J hb hs hf (wpAny_mono (wpAny_call (SlX.run_at (us := [.ref a]) (ws := [.ref a]) F hr3 I.env0.in1.in1.in1 hx I (.cons rfl .nil) q)) (fun v s' z => ?_) fun _ _ y => y)
  obtain ⟨z', H', I', rz, i, ei, hi, qz⟩ := z
  subst ei
  obtain ⟨t, e⟩ := (show ∃ t, v = Value.int i t from rz)
  subst e
  exact ⟨i, t, rfl, hi, fun tk => ⟨.bl (i != 0), H', I'.tok _, rfl, qz⟩⟩
theorem call_strO (hs : PySem.W.findIn X.K (.ref C) "__str__" = some (some (.ref g))) (hf : PySem.W.isFn X.K (.ref g) = true) (F : FnR X.prog X.w X.K X.mg X.base CX n g sp) (hr : Room (n + 2) X.A) (hx : Passes CX X E) : CallR X (.type "str") (rStrO C sp E) := by
  intro pins s σ H xs us Q I r h
  obtain ⟨a, dx, fs, rfl, ha, q⟩ := h
  obtain ⟨u, rfl, ru⟩ := vals1 r
  cases (show u = Value.ref a from ru)
  obtain ⟨ox, od, J⟩ := ins_at I ha
  have hr2 : Room n X.A.in1.in1 := (show Room (n + 1) X.A.in1 from hr.in1).in1
  refine str_own hr2.units0 I.kIn J hs hf (wpAny_mono (wpAny_call (SlX.run_at (us := [.ref a]) (ws := [.ref a]) F hr2 I.env0.in1.in1 hx I (.cons rfl .nil) q)) (fun v s' z => ?_) fun _ _ y => y)
  obtain ⟨z', H', I', rz, i, ei, qz⟩ := z
  subst ei
  obtain ⟨t, e⟩ := (show ∃ t, v = Value.str i t from rz)
  subst e
  exact ⟨i, t, rfl, .str i, H', I', ⟨_, rfl⟩, qz⟩
/-- x op y of two instances of C -/
def rOwnO (C : Addr) (sp : Sp) (E : XK) : R2 := fun x y H Q => ∃ a dx fs b dy gs, x = .ref a ∧ y = .ref b ∧ H a = some (.ins C dx fs) ∧ H b = some (.ins C dy gs) ∧ sp [x, y] H Q E
theorem op_addO (hs : PySem.W.findIn X.K (.ref C) (PySem.dunder Operator.Add.info.2) = some (some (.ref g))) (hc : PySem.W.selfFirst X.K C = true) (hf : PySem.W.isFn X.K (.ref g) = true) (F : FnR X.prog X.w X.K X.mg X.base CX n g sp) (hr : Room n X.A) (hx : Passes CX X E) :
    OpR X (binaryOp .Add) (rOwnO C sp E) := by
  intro pins s σ H x y v u Q I rx ry h
  obtain ⟨a, dx, fs, b, dy, gs, rfl, rfl, ha, hb, q⟩ := h
  cases (show v = Value.ref a from rx)
  cases (show u = Value.ref b from ry)
  obtain ⟨ox, od, J⟩ := ins_at I ha
  obtain ⟨ox', od', J'⟩ := ins_at I hb
  obtain ⟨m, hF⟩ := I.fr
  refine PySem.W.binop_K hF I.ok.mod.kin J J'.type hc hs hf (wpAny_mono (wpAny_call (run_fnR (us := [.ref a, .ref b]) (vs := [.ref a, .ref b]) F hr hx I (.cons rfl (.cons rfl .nil)) q)) (fun z s' hz => ?_) fun _ _ y => y)
  obtain ⟨z', H', I', rz, qz⟩ := hz
  exact SlX.cmpback rz ⟨z', H', I', rz, qz⟩
theorem op_eqO (hs : PySem.W.findIn X.K (.ref C) (cmpInfo .Eq).2.1 = some (some (.ref g))) (hf : PySem.W.isFn X.K (.ref g) = true) (F : FnR X.prog X.w X.K X.mg X.base CX n g sp) (hr : Room n X.A) (hx : Passes CX X E) :
    OpR X (compareOp .Eq) (rOwnO C sp E) := by
  intro pins s σ H x y v u Q I rx ry h
  obtain ⟨a, dx, fs, b, dy, gs, rfl, rfl, ha, hb, q⟩ := h
  cases (show v = Value.ref a from rx)
  cases (show u = Value.ref b from ry)
  obtain ⟨ox, od, J⟩ := ins_at I ha
  obtain ⟨ox', od', J'⟩ := ins_at I hb
  obtain ⟨m, hF⟩ := I.fr
  show wpAny _ _ (richCompare .Eq (.ref a) (.ref b)) _ _ _
  refine PySem.W.cmp_K (op := .Eq) (tb := .ref C) hr.units0 hF I.ok.mod.kin J J'.type (by unfold PySem.W.notFirst; simp) hs hf ?_
  refine wpAny_mono (wpAny_call (run_fnR (us := [.ref a, .ref b]) (vs := [.ref a, .ref b]) F hr hx I (.cons rfl (.cons rfl .nil)) q)) (fun z s' hz => ?_) fun _ _ y => y
  obtain ⟨z', H', I', rz, qz⟩ := hz
  exact SlX.cmpback rz ⟨z', H', I', rz, qz⟩
/-- x == y, y a tuple -/
def rOwnT (C : Addr) (sp : Sp) (E : XK) : R2 := fun x y H Q => ∃ a dx fs b ys, x = .ref a ∧ y = .ref b ∧ H a = some (.ins C dx fs) ∧ H b = some (.tup ys) ∧ sp [x, y] H Q E
theorem op_eqT (hs : PySem.W.findIn X.K (.ref C) (cmpInfo .Eq).2.1 = some (some (.ref g))) (hf : PySem.W.isFn X.K (.ref g) = true) (hn : PySem.W.notFirst X.K C (.type "tuple") = true) (F : FnR X.prog X.w X.K X.mg X.base CX n g sp) (hr : Room n X.A) (hx : Passes CX X E) :
    OpR X (compareOp .Eq) (rOwnT C sp E) := by
  intro pins s σ H x y v u Q I rx ry h
  obtain ⟨a, dx, fs, b, ys, rfl, rfl, ha, hb, q⟩ := h
  cases (show v = Value.ref a from rx)
  cases (show u = Value.ref b from ry)
  obtain ⟨ox, od, J⟩ := ins_at I ha
  obtain ⟨m, hF⟩ := I.fr
  obtain ⟨_, its, rv, o, h1, h2, n2, h3⟩ := (show ObjOk X.prog X.w H s.heap b (.tup ys) from I.hok b _ hb)
  show wpAny _ _ (richCompare .Eq (.ref a) (.ref b)) _ _ _
  refine PySem.W.cmp_K (op := .Eq) (tb := .type "tuple") hr.units0 hF I.ok.mod.kin J ?_ hn hs hf ?_
  · exact h2 ▸ (PySem.W.Looks.ld h1).andThen .now
  refine wpAny_mono (wpAny_call (run_fnR (us := [.ref a, .ref b]) (vs := [.ref a, .ref b]) F hr hx I (.cons rfl (.cons rfl .nil)) q)) (fun z s' hz => ?_) fun _ _ y => y
  obtain ⟨z', H', I', rz, qz⟩ := hz
  exact SlX.cmpback rz ⟨z', H', I', rz, qz⟩
def rNeO (C : Addr) (sp : Sp) (E : XK) : R2 := fun x y H Q => ∃ a dx fs b dy gs, x = .ref a ∧ y = .ref b ∧ H a = some (.ins C dx fs) ∧ H b = some (.ins C dy gs) ∧ sp [x, y] H (fun z H' => ∃ k : Bool, z = .bl k ∧ Q (.bl (!k)) H') E
theorem op_neO (hs : PySem.W.findIn X.K (.ref C) (cmpInfo .NotEq).2.1 = some (some (.builtin "object.__ne__"))) (he : PySem.W.findIn X.K (.ref C) "__eq__" = some (some (.ref g))) (hf : PySem.W.isFn X.K (.ref g) = true) (hm : PySem.W.mroIn X.K C (.type "object") = some true)
    (F : FnR X.prog X.w X.K X.mg X.base CX n g sp) (hr : Room (n + 1) X.A) (hx : Passes CX X E) : OpR X (compareOp .NotEq) (rNeO C sp E) := by
  intro pins s σ H x y v u Q I rx ry h
  obtain ⟨a, dx, fs, b, dy, gs, rfl, rfl, ha, hb, q⟩ := h
  cases (show v = Value.ref a from rx)
  cases (show u = Value.ref b from ry)
  obtain ⟨ox, od, J⟩ := ins_at I ha
  obtain ⟨ox', od', J'⟩ := ins_at I hb
  show wpAny _ _ (richCompare .NotEq (.ref a) (.ref b)) _ _ _
  refine ne_own (tb := .ref C) (show X.A.in1.units < cLine from hr.in1.units0) I.kIn J J'.type (by unfold PySem.W.notFirst; simp) hm hs he hf ?_
  refine wpAny_mono (wpAny_call (SlX.run_at (us := [.ref a, .ref b]) (ws := [.ref a, .ref b]) F hr.in1 I.env0.in1 hx I (.cons rfl (.cons rfl .nil)) q)) (fun z s' hz => ?_) fun _ _ y => y
  obtain ⟨z', H', I', rz, k, ek, qz⟩ := hz
  subst ek
  exact ⟨k, rz, .bl (!k), H', I', rfl, qz⟩
end
section
variable {X : Cx} {CX : CXT} {k : Nat} {f C : Addr} {sp : Sp} {E : XK} {x : Str} {fe e : Expr} {es : List Expr} {tf : TE} {t : TA} {p pos : Pos}
/-- C(e, .., *y) -/
theorem pe_makeS (M : Mk X.K C f) (F : FnR X.prog X.w X.K X.mg X.base CX k f sp) (hr : Room (k + 1) X.A) (hg : Gl X x) (hm : X.mg x = some (.ref C)) (hx : Passes CX X E) (ha : PA X (e :: es) t) (hdb : (x == ("__debug__" : Str)) = false := by decide)
    (he : starEach (e :: es) X.env = (false, eval e X.env) :: starEach es X.env := by rfl) (hst : (backTo pos (starEach es X.env)).any (·.1) = true := by rfl) : PE X (.Call (.Name x p) (e :: es) [] pos) (StX.tMakeR C sp E t) := by
  refine ⟨fun pins s σ H Q I h => ?_⟩
  refine wpAny_Call_Name_kw (ld_glob I hg hm ?_ hdb)
  refine PySem.W.callWith_S2 (h₀ := X.base) I.ok.mod.kin M.kp (thn (ha.run pos pins s σ H _ I h) fun us s1 ⟨vs, H1, I1, r, q⟩ => ⟨I1.kIn, ?_⟩) he hst
  exact StX.run_makeR M F hr hx I1 r q
/-- c(e, .., *y), c an expression whose value is the class at C -/
def tMakeV (C : Addr) (sp : Sp) (E : XK) (tf : TE) (t : TA) : TE := fun σ H Q => tf σ H fun y H1 => y = V.ref C ∧ StX.tMakeR C sp E t σ H1 Q
theorem pe_makeV (hf : PE X fe tf) (M : Mk X.K C f) (F : FnR X.prog X.w X.K X.mg X.base CX k f sp) (hr : Room (k + 1) X.A) (hx : Passes CX X E) (ha : PA X (e :: es) t)
    (ht : eval (.Call fe (e :: es) [] pos) X.env = (do callWith pos (← eval fe X.env) [] (backTo pos (starEach (e :: es) X.env)) (backToKw pos (keywordEach [] X.env))) := by rfl)
    (he : starEach (e :: es) X.env = (false, eval e X.env) :: starEach es X.env := by rfl) (hst : (backTo pos (starEach es X.env)).any (·.1) = true := by rfl) : PE X (.Call fe (e :: es) [] pos) (tMakeV C sp E tf t) := by
  refine ⟨fun pins s σ H Q I h => ?_⟩
  refine Call_ (thn (hf.run pins s σ H _ I h) fun u s1 ⟨y, H1, I1, ry, ey, q⟩ => ?_) ht
  subst ey
  obtain rfl : u = Value.ref C := ry
  refine PySem.W.callWith_S2 (h₀ := X.base) I1.ok.mod.kin M.kp (thn (ha.run pos pins s1 σ H1 _ I1 q) fun us s2 ⟨vs, H2, I2, r, q2⟩ => ⟨I2.kIn, ?_⟩) he hst
  exact StX.run_makeR M F hr hx I2 r q2
end
end Sfl
namespace Sfl
open PySem PySem.Spec PyProof.Rows L2 GenW
section
variable {M : Model} {A : Around} {R : GenEnd} {Y : Protocol} {n : Nat} {s₀ : Shared} {c : Code} {fs : List Frame} {s : Shared} {env : Env}
  {gd : Bool → Bool} {lv : List Value → List Value}
theorem seg_bindW {α β : Type} {m : Sem α} {k : α → Sem β} {K : β → Sem PySem.Fin} {H : Value → Sem PySem.Fin}
    (h : wpAny M (A.over c fs) m (fun a s' => Seg M A R Y n s₀ c ((k a).wrap K H gd lv) fs s') (fun x s' => Seg M A R Y n s₀ c (H x) fs s') s) :
    Seg M A R Y n s₀ c ((m >>= k).wrap K H gd lv) fs s := by
  rw [Sem.bind_eq_wrap', Sem.wrap_wrap]
  exact seg_wrap h
theorem seg_If {test : Expr} {body orelse : List Stmt} {pos : Pos} {K : Flow → Sem PySem.Fin} {H : Value → Sem PySem.Fin}
    (h : wpAny M (A.over c fs) (isTrue test env (eval test env)) (fun b s' => if b = true then Seg M A R Y n s₀ c ((execs body env).wrap K H gd lv) fs s' else Seg M A R Y n s₀ c ((execs orelse env).wrap K H gd lv) fs s')
      (fun x s' => Seg M A R Y n s₀ c (H x) fs s') s) : Seg M A R Y n s₀ c ((exec (.If test body orelse pos) env).wrap K H gd lv) fs s := by
  rw [exec_If]
  refine seg_bindW (wpAny_standAt ?_)
  refine seg_bindW (wpAny_mono h (fun b s' hb => ?_) fun _ _ x => x)
  cases b with
  | true =>
    rw [if_pos rfl] at hb
    exact hb
  | false =>
    rw [if_neg Bool.false_ne_true] at hb
    exact hb
theorem seg_For {target iter : Expr} {body : List Stmt} {pos : Pos} {K : Flow → Sem PySem.Fin} {H : Value → Sem PySem.Fin}
    (h : wpAny M (A.over c fs) (eval iter env) (fun x s₁ => wpAny M (A.over c fs) (pyIter x) (fun it s₂ => ∀ p, Seg M A R Y n s₀ (.forLoop target it body [] env) (M.den (.forLoop target it body [] env))
      (.ret (fun r => ((match r with | .ok f => (.pure f : Sem Flow) | .error e => .raise e).onRaise (cameBack env)).wrap K H gd lv) none (gd false) (lv []) c p [] :: fs) s₂) (fun x s' => Seg M A R Y n s₀ c (H x) fs s') s₁) (fun x s' => Seg M A R Y n s₀ c (H x) fs s') s)
    (hs : ∀ x, foldedSetIterable iter env x = pure x) : Seg M A R Y n s₀ c ((exec (.For target iter body [] pos) env).wrap K H gd lv) fs s := by
  rw [exec_For]
  refine seg_bindW (wpAny_standAt ?_)
  refine seg_bindW (wpAny_mono h (fun x s1 h1 => ?_) fun _ _ x => x)
  rw [hs x]
  refine seg_bindW (wpAny_pure ?_)
  refine seg_bindW (wpAny_standAt ?_)
  refine seg_bindW (wpAny_holding (wpAny_mono h1 (fun it s2 h2 => ?_) fun _ _ x => x))
  exact seg_call h2
end
section
variable {prog : Program} {w : World} {A : Around} {R : GenEnd} {Y : Protocol} {n : Nat} {s₀ : Shared} {fs : List Frame} {s : Shared} {env : Env}
abbrev noteE (env : Env) (x : Value) : Sem PySem.Fin := (do noteFrame x env; theTreesLotGoes x : Sem Unit).bind fun _ => (Sem.raise x : Sem PySem.Fin)
abbrev forK (c0 : Code) : Flow → Sem PySem.Fin := fun f => match f with
  | .next | .cont => .pure (.again c0)
  | .brk => .pure (.done .next)
  | .ret v => .pure (.done (.ret v))
theorem seg_forLoop {target : Expr} {it : Value} {body : List Stmt}
    (h : wpAny (model prog w) (A.over (.forLoop target it body [] env) fs) (pyNext it) (fun r s₁ => match r with
      | none => Seg (model prog w) A R Y n s₀ (.block [] env) (.pure (.done .next)) fs s₁
      | some v => wpAny (model prog w) (A.over (.forLoop target it body [] env) fs) (letOwnedTupleGo target it v) (fun _ s₂ => wpAny (model prog w) (A.over (.forLoop target it body [] env) fs) (assign target env v) (fun _ s₃ =>
          Seg (model prog w) A R Y n s₀ (.forLoop target it body [] env) ((execs body env).wrap (forK (.forLoop target it body [] env)) (noteE env) id id) fs s₃)
            (fun x s' => Seg (model prog w) A R Y n s₀ (.forLoop target it body [] env) (noteE env x) fs s') s₂) (fun x s' => Seg (model prog w) A R Y n s₀ (.forLoop target it body [] env) (noteE env x) fs s') s₁)
      (fun x s' => Seg (model prog w) A R Y n s₀ (.forLoop target it body [] env) (noteE env x) fs s') s) :
    Seg (model prog w) A R Y n s₀ (.forLoop target it body [] env) ((model prog w).den (.forLoop target it body [] env)) fs s := by
  show Seg _ A R Y n s₀ _ ((forTurn target it body [] env).onRaise (fun x => do noteFrame x env; theTreesLotGoes x)) fs s
  rw [Sem.onRaise_eq_wrap]
  unfold forTurn
  refine seg_bindW (wpAny_standAt ?_)
  refine seg_bindW (wpAny_onRaise (wpAny_mono h (fun r s1 h1 => ?_) fun x s' hx => ?_))
  · cases r with
    | none => exact seg_again rfl h1
    | some v =>
      refine seg_bindW (wpAny_mono h1 (fun _ s2 h2 => ?_) fun x s' hx => ?_)
      · refine seg_bindW (wpAny_mono h2 (fun _ s3 h3 => ?_) fun x s' hx => ?_)
        · rw [Sem.bind_eq_wrap', Sem.wrap_wrap]
          refine Eq.mp (congrArg (fun t => Seg _ A R Y n s₀ _ t fs s3) (Sem.wrap_congr (execs body env) _ _ (fun f => ?_) (fun e => ?_))) h3
          · cases f <;> rfl
          · rfl
        · exact hx
      · exact hx
  · exact wpAny_standAt hx
end

section
variable {X : Cx}
def tGIf (t : TT) (a b : TGn) : TGn := fun D ys σ H => t σ H fun k H1 => if k = true then a D ys σ H1 else b D ys σ H1
theorem gs_if {test : Expr} {body orelse : List Stmt} {pos : Pos} {t : TT} {a b : TGn} (hc : PT X test t) (ha : GSs X body a) (hb : GSs X orelse b) : GS X (.If test body orelse pos) (tGIf t a b) := by
  refine ⟨fun A S ip R n ys s₀ c fs K J gd lv s σ H D g hn k hI ht => ?_⟩
  obtain ⟨acc, cc, r, I⟩ := hI
  refine seg_If ?_
  rw [g.over]
  refine wpAny_mono (hc.run _ s σ H _ I ht) (fun q s' hq => ?_) fun x s' hx => k.exc n s₀ x s' hx
  obtain ⟨H2, I2, q2⟩ := hq
  cases q with
  | true =>
    rw [if_pos rfl] at q2 ⊢
    exact ha.run A S ip R n ys s₀ c fs K J gd lv s' σ H2 D g hn k ⟨acc, cc, r, I2⟩ q2
  | false =>
    rw [if_neg Bool.false_ne_true] at q2 ⊢
    exact hb.run A S ip R n ys s₀ c fs K J gd lv s' σ H2 D g hn k ⟨acc, cc, r, I2⟩ q2
/-- for, with yields in its body -/
def tGFor (wi : TI) (g : TG) (tb : TGn) : TGn := fun D ys σ H => wi σ H fun Jt H1 => ∃ W : Nat → Nat → List V → L2.St → Hp → Prop, (∃ m, W 0 m ys σ H1) ∧ ∀ i m ys σ H, W i m ys σ H →
  (Jt.stop i H ∧ D.nx ys σ H) ∨ (Jt.go i H ∧ ∃ N : List V → L2.St → Hp → Prop, (∀ ys' σ' H', N ys' σ' H' → ∃ m', m' < m ∧ W (i + 1) m' ys' σ' H') ∧
    ∀ x H', Jt.yld i H x H' → g x σ H' fun σ2 H2 => tb { D with nx := N, ct := N, bk := D.nx } ys σ2 H2)
theorem fpOk_pins {b : Addr} {H H' : Hp} {S : Addr} {o o' : Obj} {ip : List (Addr × Obj)} (h : FpOk X ((S, o) :: ip) H b) (hn : H' b = none) : FpOk X ((S, o') :: ip) H' b := by
  obtain ⟨_, h1, h2, h3, h4, h5⟩ := h
  refine ⟨hn, h1, h2, h3, h4, fun p hp => ?_⟩
  rcases List.mem_append.mp hp with z | z
  · exact h5 p (List.mem_append_left _ z)
  · rcases List.mem_cons.mp z with z | z
    · subst z
      exact h5 (S, o) (List.mem_append_right _ List.mem_cons_self)
    · exact h5 p (List.mem_append_right _ (List.mem_cons_of_mem _ z))
theorem fpOk_ne {b : Addr} {H : Hp} {S : Addr} {o : Obj} {ip : List (Addr × Obj)} (h : FpOk X ((S, o) :: ip) H b) : b ≠ S := fun e => h.2.2.2.2.2 (S, o) (List.mem_append_right _ List.mem_cons_self) e.symm
theorem gs_for {iter tg : Expr} {body : List Stmt} {wi : TI} {g : TG} {tb : TGn} {pos : Pos} (hp : PassesOwn (model X.prog X.w) X.A X.env X.xe) (hc : X.calm = true) (hi : PI X tg iter wi) (hg : PG X tg g) (hb : GSs X body tb)
    (hs : ∀ x, foldedSetIterable iter X.env x = pure x := by intro _; rfl) : GS X (.For tg iter body [] pos) (tGFor wi g tb) := by
  refine ⟨fun A S ip R n ys s₀ c fs K J gd lv s σ H D gc hn k hI ht => ?_⟩
  obtain ⟨acc, cc, r, I⟩ := hI
  refine seg_For ?_ hs
  rw [gc.over]
  refine wpAny_mono (hi.run _ s σ H _ I ht) (fun v s1 h1 => wpAny_mono h1 (fun itv s2 h2 => ?_) fun x s' hx => k.exc n s₀ x s' hx) fun x s' hx => k.exc n s₀ x s' hx
  obtain ⟨it, fp, tn, Jt, H2, e, I2, T, st2, f2, W, ⟨m0, w0⟩, turn⟩ := h2
  subst e
  intro p
  have gl := fun (kk : Result → Sem PySem.Fin) (cl : Code) (hw : cl.weight = 0) (hu : cl.cUnits = 0) => gc_loop (k := kk) (c' := cl) (l := lv []) (kp := []) (p := p) gc hw hu
  have loop : ∀ (m i n : Nat) (ys : List V) (s₀ s : Shared) (σ : L2.St) (H : Hp), n + ys.length = sizeLine → W i m ys σ H → GI X S ip ys σ H s → tn i s.heap → (∀ b ∈ fp, H b = none) →
      Seg (model X.prog X.w) A R (GY X S) n s₀ (.forLoop tg (.ref it) body [] X.env) ((model X.prog X.w).den (.forLoop tg (.ref it) body [] X.env))
        (.ret (fun r => ((match r with | .ok f => (.pure f : Sem Flow) | .error e => .raise e).onRaise (cameBack X.env)).wrap K J gd lv) none (gd false) (lv []) c p [] :: fs) s := by
    intro m
    induction m using Nat.strongRecOn with
    | ind m ih =>
      intro i n ys s₀ s σ H hn w hI st3 fr3
      have ee : ∀ (n : Nat) (s₀ : Shared) (x : Value) (s' : Shared), X.xe x s' → Seg (model X.prog X.w) A R (GY X S) n s₀ (.forLoop tg (.ref it) body [] X.env) (noteE X.env x)
          (.ret (fun r => ((match r with | .ok f => (.pure f : Sem Flow) | .error e => .raise e).onRaise (cameBack X.env)).wrap K J gd lv) none (gd false) (lv []) c p [] :: fs) s' := fun n s₀ x s' hx => by
        unfold noteE
        rw [Sem.bind_eq_wrap]
        refine seg_wrap ?_
        rw [(gl _ (.forLoop tg (.ref it) body [] X.env) rfl rfl).over]
        refine wpAny_bind (wpAny_mono (hp x s' hx) (fun _ s'' hcb => wpAny_theTreesLotGoes ?_) fun y s'' hcb => ?_)
        · exact seg_leaf (.error x) (seg_cameBack gc k hcb)
        · exact seg_leaf (.error y) (seg_cameBack gc k hcb)
      refine seg_forLoop ?_
      rw [(gl _ (.forLoop tg (.ref it) body [] X.env) rfl rfl).over]
      obtain ⟨acc3, cc3, r3, I3⟩ := hI
      have stat : ∀ {H' : Hp}, (∀ b ∈ fp, H' b = none) → ∀ b ∈ fp, FpOk X ((S, lstObj acc3 cc3) :: ip) H' b := fun hn b hb => fpOk_pins (f2 b hb) (hn b hb)
      rcases turn i m ys σ H w with ⟨stop, qn⟩ | ⟨go, N, hN, step⟩
      · refine wpAny_mono (T.done X rfl rfl rfl hc i _ s σ H X.xe I3 (stat fr3) st3 stop) (fun r s4 ⟨hr, I4⟩ => ?_) fun x s' hx => ee n s₀ x s' hx
        subst hr
        exact seg_leaf (.ok .next) (k.ok n ys s₀ s4 .next hn ⟨σ, H, ⟨acc3, cc3, r3, I4⟩, qn⟩)
      · refine wpAny_mono (T.item X rfl rfl rfl hc i _ s σ H X.xe I3 (stat fr3) st3 go) (fun r s4 ⟨u, hr, h4⟩ => ?_) fun x s' hx => ee n s₀ x s' hx
        subst hr
        refine wpAny_mono h4 (fun _ s5 ⟨x, H5, I5, r5, y5, st5, fr5⟩ => ?_) fun x s' hx => ee n s₀ x s' hx
        have I5' := I5.pinned (stat fr5) (T.obj _ _ st5)
        refine wpAny_mono (hg.run _ s5 σ H5 x u _ I5' r5 (step x H5 y5)) (fun _ s6 ⟨σ6, H6, I6, q6⟩ => ?_) fun x s' hx => ee n s₀ x s' hx
        have gcl := gl (fun r => ((match r with | .ok f => (.pure f : Sem Flow) | .error e => .raise e).onRaise (cameBack X.env)).wrap K J gd lv) (.forLoop tg (.ref it) body [] X.env) rfl rfl
        refine hb.run A S (ip ++ pinsAt fp s5.heap) R n ys s₀ _ _ _ _ id id s6 σ6 H6 { D with nx := N, ct := N, bk := D.nx } ⟨gcl.pn, fun q hq => ?_, gcl.apart, gcl.over, gcl.split, gcl.guard, gcl.gd⟩ hn
          ⟨fun n' ys' s₀' s7 f hn' hs => ?_, fun n' s₀' x s7 hx => ee n' s₀' x s7 hx⟩ ⟨acc3, cc3, r3, I6⟩ q6
        · rcases List.mem_append.mp hq with z | z
          · exact gcl.ip q z
          · exact fpOk_ne (f2 _ (of_pinsAt z).1)
        · have again : ∀ {σ7 : L2.St} {H7 : Hp}, GI X S (ip ++ pinsAt fp s5.heap) ys' σ7 H7 s7 → N ys' σ7 H7 → Seg (model X.prog X.w) A R (GY X S) n' s₀' (.forLoop tg (.ref it) body [] X.env) (.pure (.again (.forLoop tg (.ref it) body [] X.env)))
              (.ret (fun r => ((match r with | .ok f => (.pure f : Sem Flow) | .error e => .raise e).onRaise (cameBack X.env)).wrap K J gd lv) none (gd false) (lv []) c p [] :: fs) s7 := fun {σ7 H7} G7 n7 => by
            obtain ⟨acc7, cc7, r7, I7⟩ := G7
            obtain ⟨m', hm, w7⟩ := hN ys' σ7 H7 n7
            have I7' : Inv X (((S, lstObj acc7 cc7) :: ip) ++ pinsAt fp s5.heap) σ7 H7 s7 := I7
            refine seg_again rfl (ih m' hm (i + 1) n' ys' s₀' s7 σ7 H7 hn' w7 ⟨acc7, cc7, r7, I7'.unpinned⟩ (T.keep _ _ _ st5 fun b hb o e => (I7'.pin (b, o) (List.mem_append_right _ (List.mem_append_right _ (mem_pinsAt hb e)))).1) fun b hb => ?_)
            obtain ⟨o, e, d⟩ := T.obj _ _ st5 b hb
            exact (I7'.pin (b, o) (List.mem_append_right _ (List.mem_append_right _ (mem_pinsAt hb e)))).2.1
          have un : ∀ {σ7 : L2.St} {H7 : Hp}, GI X S (ip ++ pinsAt fp s5.heap) ys' σ7 H7 s7 → GI X S ip ys' σ7 H7 s7 := fun {σ7 H7} G7 => by
            obtain ⟨acc7, cc7, r7, I7⟩ := G7
            have I7' : Inv X (((S, lstObj acc7 cc7) :: ip) ++ pinsAt fp s5.heap) σ7 H7 s7 := I7
            exact ⟨acc7, cc7, r7, I7'.unpinned⟩
          cases f with
          | next =>
            obtain ⟨σ7, H7, G7, n7⟩ := hs
            exact again G7 n7
          | cont =>
            obtain ⟨σ7, H7, G7, n7⟩ := hs
            exact again G7 n7
          | brk =>
            obtain ⟨σ7, H7, G7, q7⟩ := hs
            exact seg_leaf (.ok .next) (k.ok n' ys' s₀' s7 .next hn' ⟨σ7, H7, un G7, q7⟩)
          | ret v =>
            obtain ⟨x7, σ7, H7, G7, r7, q7⟩ := hs
            exact seg_leaf (.ok (.ret v)) (k.ok n' ys' s₀' s7 (.ret v) hn' ⟨x7, σ7, H7, un G7, r7, q7⟩)
  exact loop m0 0 n ys s₀ s2 σ H2 hn w0 ⟨acc, cc, r, I2⟩ st2 fun b hb => (f2 b hb).1
end
end Sfl
namespace Sfl
open PySem PySem.Spec PyProof.Rows L2
/-! ### o.f as one of several targets -/
def gFld (K : PySem.W.Frag) (ta : TE) (f : Str) : TG := fun y σ H Q => ta σ H fun x H1 => ∃ a C dx fs, x = .ref a ∧ H1 a = some (.ins C dx fs) ∧ Cls K C ∧ NoAttr K C f ∧ fs.length < 1000 ∧ Q σ (upd H1 a (.ins C dx (putF f y fs)))
theorem pg_fld {X : Cx} {o : Expr} {f : Str} {pos : Pos} {ta : TE} (ho : PE X o ta) : PG X (.Attribute o f pos) (gFld X.K ta f) := by
  refine ⟨fun pins s σ H y u Q I ry h => ?_⟩
  rw [assign_Attribute]
  refine wpAny_bind (wpAny_holding (thn (ho.run pins s σ H _ I h) fun ov s1 ⟨x, H1, I1, rx, a, C, dx, fs, ex, ea, c, n, l, q⟩ => ?_))
  subst ex
  obtain rfl : ov = Value.ref a := rx
  refine wpAny_bind (wpAny_standAt (wpAny_bind (wpAny_holding ?_)))
  exact setattr_ok I1 ea c n l ry fun s2 I2 => wpAny_release ⟨σ, _, I2, q⟩
/-! ### t.index(v), t a tuple of plain things -/
def rIndexT (K : PySem.W.Frag) : V → List V → Hp → VK → Prop := fun x xs H Q => ∃ (p : Addr) (ys : List V) (y : V) (j : Nat) (z : V), x = .ref p ∧ xs = [y] ∧ SqT K H p ys ∧ flatV y = true ∧ ys.all flatV = true ∧ ys[j]? = some z ∧ eqV z y = true ∧
  (∀ (m : Nat) (z' : V), m < j → ys[m]? = some z' → eqV z' y = false) ∧ Q (.int (j : Nat)) H
theorem mt_tupIndex {X : Cx} : MtR X "tuple.index" (rIndexT X.K) := by
  intro pins s σ H x xs v us Q I rx rxs h
  obtain ⟨p, ys, y, j, z, rfl, rfl, hq, fy, fys, hz, hzj, hno, q⟩ := h
  cases rx
  obtain ⟨uy, rfl, ry⟩ := vals1 rxs
  obtain ⟨its, rv, ⟨⟨cls, dd, dt, sl⟩, ho, hc, n, hd⟩, hlen⟩ := I.tuple hq
  simp only at hc hd
  subst hc hd
  have hvl := rv.length
  obtain ⟨u, hu, ru⟩ := rv.get hz
  obtain ⟨hjl, hje⟩ := List.getElem?_eq_some_iff.mp hu
  have hj : j < its.toArray.size := by simpa using hjl
  refine call_meets PySem.F.slot_tuple_index ⟨_, ho, rfl⟩ PySem.F.entry_tuple_index (PySem.F.args_tuple_index_2 _ _) (TI.tuple_indexAt p its.toArray n dd sl uy (eqU y) j hj ?_ ?_)
    ⟨ho, fun w hw => mem_eqAt ry fy rv fys w (by simpa using hw), ⟨.int (j : Nat), H, I.tok _, ⟨_, rfl⟩, q⟩⟩
  · rw [show its.toArray[j] = u by simpa using hje, eqU_of ru (flat_at fys hz)]
    exact hzj
  · intro m hm hmj
    have hml : m < its.length := by simpa using hm
    have hy' : ys[m]? = some (ys[m]'(by omega)) := List.getElem?_eq_getElem (by omega)
    obtain ⟨u2, hu2, ru2⟩ := rv.get hy'
    rw [show its.toArray[m] = u2 by simpa using (List.getElem?_eq_some_iff.mp hu2).2, eqU_of ru2 (flat_at fys hy')]
    exact hno m _ hmj hy'
/-! ### a tuple whose object is known -/
def Kt (H : Hp) (p : Addr) (ys : List V) : Prop := ∃ ob : Obj, H p = some (.frz ob (.tup ys)) ∧ ob.dict = none ∧ ob.cls = .type "tuple"
theorem Kt.sq {K : PySem.W.Frag} {H : Hp} {p : Addr} {ys : List V} (h : Kt H p ys) : SqT K H p ys := by
  obtain ⟨ob, e, _⟩ := h
  exact .inl (.inr ⟨ob, e⟩)
theorem Kt.same {H H' : Hp} {p : Addr} {ys : List V} (h : Kt H p ys) (s : Same H H') : Kt H' p ys := by
  obtain ⟨ob, e, r⟩ := h
  exact ⟨ob, s _ _ e, r⟩
section
variable {X : Cx}
theorem call_tupleF : CallR X (.type "tuple") (fun xs H Q => ∃ p ys, xs = [.ref p] ∧ SqL X.K H p ys ∧ ∀ l ob, H l = none → ob.dict = none → ob.cls = .type "tuple" → Q (.ref l) (upd H l (.frz ob (.tup ys)))) := by
  intro pins s σ H xs us Q I r h
  obtain ⟨p, ys, rfl, hq, q⟩ := h
  obtain ⟨u, rfl, rx⟩ := vals1 r
  cases rx
  obtain ⟨its, rv, pl, hz⟩ := I.list hq
  have hl := rv.length
  refine call_tuple_list pl.isList (fun h' kp => ?_) (by simp only [List.size_toArray] <;> omega)
  have I1 : Inv X pins σ H { s with heap := h' } := I.kept (t' := s.toks) kp
  have I2 : Inv X pins σ (upd H h'.objs.size (.frz { cls := .type "tuple", data := .seq its.toArray } (.tup ys))) { s with heap := h'.push { cls := .type "tuple", data := .seq its.toArray } } :=
    I1.laid (t' := s.toks) (fun b o e => Heap.get?_push_of_some _ e) (Nat.le_refl _) (show ObjOk X.prog X.w _ _ _ (.frz _ (.tup ys)) from ⟨Heap.get?_push_size _ rfl, hz, its, rv, IsTup.new _ _⟩)
  exact ⟨.ref h'.objs.size, _, I2, rfl, q _ _ (I1.hok.fresh (Nat.le_refl _)) rfl rfl⟩
def tBMF (r : V → List V → Hp → VK → Prop) (to : TE) (t : TA) : TE := fun σ H Q => to σ H fun x H1 => (∃ p ys, x = .ref p ∧ Kt H1 p ys) ∧ t σ H1 fun xs H2 => r x xs H2 Q
theorem pe_bmF {o e : Expr} {es : List Expr} {to : TE} {t : TA} {name : Str} {apos cpos : Pos} {id : String} {r : V → List V → Hp → VK → Prop} (slot : Slot "tuple" name id) (hty : typeOf (.builtin id) = pure (.type "method_descriptor")) (hm : MtR X id r) (ho : PE X o to) (ha : PA X (e :: es) t)
    (hbase : attributeBase o name X.env (eval o X.env) = eval o X.env := by rfl)
    (hfew : ((backTo cpos (starEach (e :: es) X.env)).all (fun x => !x.1) && (backToKw cpos (keywordEach [] X.env)).all (fun x => x.1.isSome)
      && decide ((e :: es).length + ([] : List Keyword).length + (if ([] : List Keyword).isEmpty then 0 else 1) < 30)) = true := by rfl)
    (hline : (apos.endLine == cpos.line) = true := by rfl) (hs : starEach (e :: es) X.env = (false, eval e X.env) :: starEach es X.env := by rfl) (hplain : (backTo cpos (starEach es X.env)).any (·.1) = false := by rfl) :
    PE X (.Call (.Attribute o name apos) (e :: es) [] cpos) (tBMF r to t) := by
  refine ⟨fun pins s σ H Q I h => wpAny_Call_method_late hbase hfew hline rfl (thn (ho.run pins s σ H _ I h) fun v s1 ⟨x, H1, I1, r1, hk, q1⟩ => ?_)⟩
  obtain ⟨p, ys, rfl, ob, hp, hd, hc⟩ := hk
  cases (show v = Value.ref p from r1)
  have hg := (I1.hok p _ hp).1
  refine ⟨"tuple", id, PySem.F.plainAttrs_tuple, slot, hty, ⟨ob, hg, hc⟩, fun a ea => ?_, ?_⟩
  · cases ea
    exact ⟨ob, hg, hd⟩
  have hA := ha.run cpos pins s1 σ H1 _ I1 q1
  rw [hs] at hA ⊢
  refine Calls.callWith_builtin ((congrArg (false || ·) hplain).trans rfl) (Calls.evalArgs_plain ?_)
  exact thn hA fun us s2 ⟨vs, H2, I2, r2, q2⟩ => hm pins s2 σ H2 (.ref p) vs (.ref p) us Q I2 r1 r2 q2
end
end Sfl
namespace Sfl
open PySem PySem.Spec PyProof.Rows L2
/-! ### calls made where no repr is under way -/
structure FnG (P : Program) (w : World) (K : PySem.W.Frag) (mg : Str → Option Value) (base : Heap) (k : Nat) (f : Addr) (fd : FuncData) (ps : List Str) (sp : Sp) : Prop where
  len : ∀ vs H Q E, sp vs H Q E → vs.length = ps.length
  run : ∀ (A : Around) (outer : List Env) (s : Shared) (H : Hp) (args : Args) (us : List Value) (vs : List V) (Q : VK) (E : XK), A.guards = some [] → Room k A → Env0 P w K mg base A outer s H → BindsTo s fd args (ps.zip us) → Vals vs us → sp vs H Q E →
    codeAny (model P w) A (.call (.ref f) args) (CR CX0 outer P w H s Q E) s
section
variable {P : Program} {w : World} {K : PySem.W.Frag} {mg : Str → Option Value} {base : Heap}
theorem FnG.mono {j k : Nat} {f : Addr} {fd : FuncData} {ps : List Str} {sp : Sp} (F : FnG P w K mg base j f fd ps sp) (h : j ≤ k) : FnG P w K mg base k f fd ps sp :=
  ⟨F.len, fun A outer s H args us vs Q E g hr => F.run A outer s H args us vs Q E g (hr.mono h)⟩
theorem fun_okG {x qual : Str} {st : Stmt} {f : Addr} {fd : FuncData} {N ps : List Str} {k : Nat} {sp : Sp} (F : Fun K x qual st f fd) (S : FnScope N ps (defScope st)) (len : ∀ vs H Q E, sp vs H Q E → vs.length = ps.length)
    (hbody : ∀ (cdv : Value) (A : Around) (outer : List Env) (s : Shared) (H : Hp) (vs : List V) (Q : VK) (E : XK), A.guards = some [] → Room k (A.deeper (envOfC qual (defScope st) s.heap.objs.size f cdv)) → sp vs H Q E →
      ∃ t, PSs (cxOf CX0 P w K mg base N qual (defScope st) f cdv A outer s H E).nox (defBody st) t ∧ t { nx := fun _ H' => Q .non H', rt := Q } (start N vs) H) : FnG P w K mg base (k + 1) f fd ps sp := by
  obtain ⟨oc, od, kV, doc, pm, an, cdv, ct, osl, rfl, lk, hcd⟩ := F.ex
  refine ⟨len, fun A outer s H args us vs Q E g hr e0 hb r hsp => ?_⟩
  refine StX.run_bnd lk hcd S hr e0 (G := fun xs H2 => xs = vs ∧ H2 = H) (fun A' Ex Q' hq => hb _ _ _ _ ?_) fun s2 H2 xs hG hr' => ?_
  · exact hq s H vs us e0 Un.refl rfl (fun _ _ z => z) r (len _ _ _ _ hsp) ⟨rfl, rfl⟩
  · obtain ⟨rfl, rfl⟩ := hG
    obtain ⟨t, ht, hq⟩ := hbody cdv A outer s2 _ _ Q E g hr' hsp
    exact ⟨t, ht.nox, hq⟩
end
section
variable {X : Cx} {k : Nat} {f : Addr} {fd : FuncData} {ps : List Str} {sp : Sp} {dvs : List V} {ds : List Value} {E : XK} {x : Str} {e : Expr} {es : List Expr} {t : TA} {p pos : Pos}
theorem run_fnG {pins : List (Addr × Obj)} {σ : L2.St} {H : Hp} {s : Shared} {Q : VK} {us : List Value} {vs : List V} (F : FnG X.prog X.w X.K X.mg X.base k f fd ps sp) (g : X.A.guards = some []) (hr : Room k X.A) (hb : Binds X.K fd ps ds) (hd : Vals dvs ds)
    (I : Inv X pins σ H s) (r : Vals vs us) (h : sp (vs ++ dvs) H Q E) : wpAny (model X.prog X.w) X.A (call (.ref f) us) (EP X pins σ Q) X.xe s := by
  have r2 : Vals (vs ++ dvs) (us ++ ds) := r.append hd
  refine wpAny_call (codeAny_mono (F.run X.A X.stack s H ⟨us, []⟩ (us ++ ds) (vs ++ dvs) Q E g hr I.env0 (hb s us I.kIn (by rw [← r2.length]; exact F.len _ _ _ _ h)) r2 h) fun z s' hz => ?_)
  cases z with
  | error e => exact False.elim hz
  | ok fl =>
    cases fl with
    | ret u => exact I.after hz
    | next => exact False.elim hz
    | brk => exact False.elim hz
    | cont => exact False.elim hz
theorem pe_callG (F : FnG X.prog X.w X.K X.mg X.base k f fd ps sp) (g : X.A.guards = some []) (hr : Room k X.A) (hg : Gl X x) (hm : X.mg x = some (.ref f)) (hk : PySem.W.keepIn X.K (.ref f) = true) (hb : Binds X.K fd ps ds) (hd : Vals dvs ds)
    (ha : PA X (e :: es) t) (hdb : (x == ("__debug__" : Str)) = false := by decide) (he : starEach (e :: es) X.env = (false, eval e X.env) :: starEach es X.env := by rfl) (hpl : (backTo pos (starEach es X.env)).any (·.1) = false := by rfl) :
    PE X (.Call (.Name x p) (e :: es) [] pos) (tCall sp dvs E t) := by
  refine ⟨fun pins s σ H Q I h => wpAny_Call_Name_kw (ld_glob I hg hm ?_ hdb)⟩
  exact PySem.W.callWith_K (h₀ := X.base) I.ok.mod.kin hk (thn (ha.run pos pins s σ H _ I h) fun us s1 ⟨vs, H1, I1, r, q⟩ => ⟨I1.kIn, run_fnG F g hr hb hd I1 r q⟩) he hpl
/-- repr(xs), a list of plain things -/
def rReprD (K : PySem.W.Frag) : List V → Hp → VK → Prop := fun xs H Q => ∃ (a : Addr) (d : PyData), xs = [.ref a] ∧ Dp K H (.ref a) d ∧ d.showable = true ∧ d.hasDict = false ∧ d.depth ≤ 60 ∧ d.shown.length ≤ sizeLine ∧ Q (.str d.shown) H
theorem call_reprD (g : X.A.guards = some []) (hu : X.A.units + 64 < cLine) : CallR X (.builtin "repr") (rReprD X.K) := by
  intro pins s σ H xs us Q I r h
  obtain ⟨a, d, rfl, hd, h1, h2, h3, h4, q⟩ := h
  obtain ⟨u, rfl, ru⟩ := vals1 r
  cases (show u = Value.ref a from ru)
  obtain ⟨as, hr⟩ := Dp.reads I d (.ref a) (.ref a) hd rfl
  exact repr_of_reads' hr h1 (PyData.noDict_hsm h2) g (by omega) (fun _ _ z => z) (fun h' v tk hk => ⟨.str d.shown, H, I.kept (t' := tk) hk, ⟨_, rfl⟩, q⟩) h4
end
/-! ### the head -/
theorem law_callG {P : Program} {w : World} {K : PySem.W.Frag} {mg mb : Str → Option Value} {k : Nat} {fa a : Addr} {fd : FuncData} {x : Str} {sp : Sp} {s₁ : Shared} {vs : List Value} {ns : List Int}
    (KX : K.In s₁.heap) (hns : s₁.heap.Ns mainGlobals mg) (hb : s₁.heap.Ns builtinsNs mb) (hbb : ∀ x : Str, x ≠ "__name__" → mb x = bootBuiltins x) (hlim : s₁.heap.NoLimit) (hg : s₁.gens = #[])
    (ha : s₁.heap.get? a = some { cls := .type "list", data := .seq vs.toArray }) (hi : IntsAre vs ns) (hl : ns.length ≤ sizeLine) (hr : Room k callerA)
    (F : ∀ base : Heap, K.In base → base.Ns mainGlobals mg → FnG P w K mg base k fa fd [x] sp) (hbind : ∀ (s : Shared) (u : Value), BindsTo s fd ⟨[u], []⟩ [(x, u)])
    (hsp : ∀ H : Hp, Only H → SqL K H a (ns.map V.int) → sp [.ref a] H (fun v _ => v = .bl true) fun _ _ _ => False) :
    codeAny (model P w) callerA (.call (.ref fa) ⟨[.ref a], []⟩) (fun r s' => r = .ok (.ret (.bool true)) ∧ OldK s₁.heap s'.heap ∧ s'.os = s₁.os ∧ AllBare s'.gens) s₁ := by
  have rV := vals_ints hi
  have main : ∀ H : Hp, Only H → SqL K H a (ns.map V.int) → HOk P w H s₁.heap → (∀ b, H b ≠ none → b = a) → (H a ≠ none → K.lookup a = none) →
      codeAny (model P w) callerA (.call (.ref fa) ⟨[.ref a], []⟩) (fun r s' => r = .ok (.ret (.bool true)) ∧ OldK s₁.heap s'.heap ∧ s'.os = s₁.os ∧ AllBare s'.gens) s₁ := by
    intro H hO hS hok hA hK
    have only : ∀ {b : Addr}, (b = a → False) → H b = none := fun {b} nb => by
      cases q : H b with
      | none => rfl
      | some u => exact absurd (hA b (fun z => by rw [q] at z; cases z)) nb
    have nsK : ∀ {b : Addr} {m : Str → Option Value}, s₁.heap.Ns b m → (hidT s₁.heap H).Ns b m := fun {b m} ⟨o, es, ep, e, d, r⟩ => ⟨o, es, ep, hidT_get e (only fun eq => by
      rw [eq, ha] at e
      cases e
      exact nomatch (show Data.seq vs.toArray _ = Data.dict es ep from d)), d, r⟩
    have hKb : K.In (hidT s₁.heap H) := fun b o e => hidT_get (KX b o e) (by
      cases q : H b with
      | none => rfl
      | some u =>
        have nz : H b ≠ none := fun z => by rw [q] at z; cases z
        have eb := hA b nz
        rw [eb] at nz e
        rw [hK nz] at e
        cases e)
    have hM : Mod K mg (hidT s₁.heap H) := ⟨hKb, nsK hns, ⟨mb, nsK hb, hbb⟩, let ⟨mc, h1, h2⟩ := hlim; ⟨mc, nsK h1, h2⟩⟩
    have nil : ∀ b : Addr, b ∉ frs [] := fun b z => by cases z
    have en : Env0 P w K mg (hidT s₁.heap H) callerA [] s₁ H := ⟨rfl, hM, fun b o e => of_hidT e, Nat.le_of_eq (hidT_size _ _), trivial, fun b z => absurd z (nil b), hok, .of_eq hg⟩
    refine codeAny_mono ((F _ hKb (nsK hns)).run callerA [] s₁ H ⟨[.ref a], []⟩ [.ref a] [.ref a] _ _ rfl hr en (hbind s₁ (.ref a)) (.cons rfl .nil) (hsp H hO hS)) fun r s' h => ?_
    cases r with
    | error e => exact False.elim h
    | ok fl =>
      cases fl with
      | next => exact False.elim h
      | brk => exact False.elim h
      | cont => exact False.elim h
      | ret u =>
        obtain ⟨v, H', os, bare, un, hok', r', q⟩ := h
        cases (show v = .bl true from q)
        cases (show u = Value.bool true from r')
        refine ⟨rfl, OldK.of_keep fun b o e => ?_, os, bare⟩
        rcases hO b with z | ⟨ob, xs, z⟩
        · exact un.keep b o e z (nil b) (fun y => by cases y)
        · have e1 := (hok b _ z).1
          rw [e] at e1
          cases e1
          exact (hok' b _ (un.frzs b _ _ z)).1
  cases hk : K.lookup a with
  | some o =>
    have e := KX a o hk
    rw [ha] at e
    cases e
    refine main (fun _ => none) (fun _ => .inl rfl) (.inr ⟨_, vs.toArray, _, hk, rfl, rfl, rfl, by rw [List.size_toArray, hi.length]; exact hl, by simpa using rV⟩) (fun b u z => nomatch (show (none : Option HO) = some u from z)) (fun b z => absurd rfl z) fun z => absurd rfl z
  | none =>
    refine main (fun b => if b = a then some (.frz { cls := .type "list", data := .seq vs.toArray } (.lst (ns.map V.int))) else none) (fun b => ?_) (.inl (.inr ⟨{ cls := .type "list", data := .seq vs.toArray }, if_pos rfl⟩)) (fun b u z => ?_) (fun b z => ?_) fun _ => hk
    · by_cases eb : b = a
      · exact .inr ⟨_, _, if_pos eb⟩
      · exact .inl (if_neg eb)
    · by_cases eb : b = a
      · cases (if_pos eb).symm.trans z
        subst eb
        exact ⟨ha, by rw [List.length_map]; exact hl, vs, _, rV, ha⟩
      · cases (if_neg eb).symm.trans z
    · by_cases eb : b = a
      · exact eb
      · exact absurd (if_neg eb) z
theorem walk_ofG {l : PySem.W.OpenLaw} {n k : Nat} {q : Program} {loose : List Str} {XP : (Str → Option Value) → Heap → Prop} {YP : World → Heap → Prop} {d : DefRec} {K : Params → PySem.W.Frag} {sp : World → Sp} {x : Str}
    (hn : l.most = some n) (hn2 : n ≤ sizeLine) (hdf : d.params.defaults = []) (hr : Room k callerA) (hY : ∀ (w : World) (h : Heap), YP w h → (K w.params).In h)
    (F : ∀ (w : World) (mg : Str → Option Value) (fa : Addr) (h : Heap), (K w.params).In h → h.Ns mainGlobals mg → mg d.name = some (.ref fa) →
      ∃ fd : FuncData, (∀ (s : Shared) (u : Value), BindsTo s fd ⟨[u], []⟩ [(x, u)]) ∧ ∀ base : Heap, (K w.params).In base → base.Ns mainGlobals mg → FnG l.prog w (K w.params) mg base k fa fd [x] (sp w))
    (hsp : ∀ (w : World) (H : Hp) (a : Addr) (ns : List Int), ns.length ≤ n → Only H → SqL (K w.params) H a (ns.map V.int) → sp w [.ref a] H (fun v _ => v = .bl true) fun _ _ _ => False) :
    PySem.W.WalkO q loose XP YP l.row.toRowW d [] (fun f vs => PySem.call f vs) := by
  refine Att.attach_call hn hdf fun w s₀ s₁ mg mb fa o pm cd doc a vs ns G Y ho hd hcd hmg hobj hints hlen hg => ?_
  obtain ⟨fd, hb, hF⟩ := F w mg fa _ (hY w _ Y) G.T.g hmg
  exact law_callG (hY w _ Y) G.T.g G.T.b G.T.builtins G.T.nolimit hg hobj hints (Nat.le_trans hlen hn2) hr hF hb fun H hO hS => hsp w H a ns hlen hO hS
end Sfl
namespace Sfl
open PySem PySem.Spec PyProof.Rows L2
def topS (i : Nat) : Stmt := PySem.Challenge.pw_seldomflip_k05_whole_growths_in_a_row.main.body.getD i (.Pass ⟨0, 0, 0, 0⟩)
abbrev sIsName : Stmt := topS 9
abbrev sFirstWay : Stmt := topS 12
abbrev sIsAnyLog : Stmt := topS 17
abbrev sCheckLog : Stmt := topS 18
abbrev sFirstPlaces : Stmt := topS 20
abbrev sDice : Stmt := topS 24
abbrev sRoll : Stmt := topS 25
abbrev sPick : Stmt := topS 26
abbrev sMixed : Stmt := topS 27
abbrev sLetters : Stmt := topS 28
abbrev sLog : Stmt := topS 29
abbrev sLaw : Stmt := topS 35
abbrev sIsWhole : Stmt := topS 8
abbrev sCheckNumber : Stmt := topS 10
abbrev sGrownBy : Stmt := topS 13
abbrev sInsertionsOf : Stmt := topS 14
abbrev sCheckEvents : Stmt := topS 19
abbrev sIsInsertion : Stmt := topS 21
abbrev sMade : Stmt := topS 30
abbrev sLaid : Stmt := topS 31
abbrev sTold : Stmt := topS 32
abbrev sSteps : Stmt := topS 33
abbrev sJoined : Stmt := topS 34
abbrev mInit : Stmt := inClass (topS 22) 0
abbrev mBetween : Stmt := inClass (topS 22) 1
abbrev mBegin : Stmt := inClass (topS 22) 2
abbrev mEnd : Stmt := inClass (topS 22) 3
abbrev mKept : Stmt := inClass (topS 22) 4
abbrev mCall : Stmt := inClass (topS 22) 5
abbrev mOrigin : Stmt := inClass (topS 22) 6
abbrev mAdd : Stmt := inClass (topS 22) 7
abbrev mSteps : Stmt := inClass (topS 22) 8
abbrev mLen : Stmt := inClass (topS 22) 9
abbrev mEq : Stmt := inClass (topS 22) 10
abbrev mStr : Stmt := inClass (topS 22) 11

/-- what the top leaves of the built-in names -/
structure Bn (mg : Str → Option Value) : Prop where
  len : mg "len" = none
  enum : mg "enumerate" = none
  tuple : mg "tuple" = none
  isi : mg "isinstance" = none
  str : mg "str" = none
  all : mg "all" = none
  range : mg "range" = none
  min : mg "min" = none
  max : mg "max" = none
  list : mg "list" = none
  sorted : mg "sorted" = none
  abs : mg "abs" = none
  int : mg "int" = none
  repr : mg "repr" = none
  bool : mg "bool" = none
  signs : ∃ t, mg "MAX_SIGNS" = some (.int 8 t)
  events : ∃ t, mg "MAX_EVENTS" = some (.int 200 t)

section
variable {P : Program} {w : World} {K : PySem.W.Frag} {mg : Str → Option Value} {base : Heap}

/-! ### is_name -/
theorem scIsName : FnScope ["value"] ["value"] (defScope sIsName) := ⟨rfl, rfl, rfl, by decide +kernel, rfl, by decide +kernel, by decide +kernel⟩
def spIsName : Sp := fun vs H Q _ => ∃ z : Str, vs = [.str z] ∧ z.length ≤ sizeLine ∧ Q (.bl (Nm z)) H
theorem ok_isName {f : Addr} {fd : FuncData} {k : Nat} (F : Fun K "is_name" "is_name" sIsName f fd) (B : Bn mg) : FnOk P w K mg base CX0 (k + 1) f fd ["value"] spIsName := by
  refine F.ok scIsName (fun vs H Q E h => ?_) (fun cdv A outer s H vs Q E hr h => ?_)
  · obtain ⟨z, rfl, _⟩ := h
    rfl
  · obtain ⟨z, rfl, hz, q⟩ := h
    obtain ⟨tS, gS⟩ := B.signs
    refine ⟨_, pss_cons (ps_if (PW.pt (pw_or (pt_not (pt_val (pe_callB call_isi (by rfl) B.isi (by decide +kernel) (pa_cons (pv 0) (pa_cons (pe_bltn (v := .ty "str") (by rfl) B.str (by decide +kernel) rfl) pa_nil)))))
        (pw_or1 (pt_cmpR op_gt (pe_callB call_len_str (by rfl) B.len PySem.boot_len (pa_cons (pv 0) pa_nil)) (pe_glob (v := .int 8) rfl gS ⟨_, rfl⟩) (nomark _)))))
        (pss_one (ps_ret pe_bl)) pss_nil)
      (pss_one (ps_ret (pe_and (pe_m0 PySem.F.slot_str_isascii PySem.F.type_str_isascii mt_isascii (pv 0))
        (pe_and (pe_m0 PySem.F.slot_str_isalpha PySem.F.type_str_isalpha mt_isalpha (pv 0))
        (pe_one (pe_m0 PySem.F.slot_str_islower PySem.F.type_str_islower mt_islower (pv 0))))))), ?_⟩
    refine ⟨_, rfl, .str z, .ty "str", _, .type "str", true, rfl, .ty _, .base (.str _), kit_ty (by decide +kernel), _, rfl, iteF ?_⟩
    refine ⟨_, rfl, z, rfl, hz, _, _, rfl, rfl, _, rfl, ?_⟩
    have hq : Nm z = if z.length > 8 then false else (if Txt.isascii z then (if Txt.isalpha z then Txt.islower z else false) else false) := rfl
    refine ite2 (fun hc => ?_) (fun hc => ?_)
    · have h8 : z.length > 8 := by
        have := of_decide_eq_true hc
        omega
      rw [if_pos h8] at hq
      rw [hq] at q
      exact q
    · have h8 : ¬ z.length > 8 := fun z' => hc (decide_eq_true (by omega))
      rw [if_neg h8] at hq
      rw [hq] at q
      refine ⟨_, rfl, ⟨_, rfl⟩, z, rfl, rfl, trivial, _, rfl, ?_⟩
      cases e1 : Txt.isascii z with
      | false =>
        rw [e1] at q
        exact iteF q
      | true =>
        rw [e1] at q
        refine iteT ⟨_, rfl, ⟨_, rfl⟩, z, rfl, rfl, trivial, _, rfl, ?_⟩
        cases e2 : Txt.isalpha z with
        | false =>
          rw [e2] at q
          exact iteF q
        | true =>
          rw [e2] at q
          exact iteT ⟨_, rfl, ⟨_, rfl⟩, z, rfl, rfl, trivial, q⟩
end
end Sfl
namespace Sfl
open PySem PySem.Spec PyProof.Rows L2
section
variable {P : Program} {w : World} {K : PySem.W.Frag} {mg : Str → Option Value} {base : Heap}
theorem get_map {α β : Type} {f : α → β} {xs : List α} {i : Nat} (h : i < xs.length) : (xs.map f)[i]? = some (f xs[i]) := by
  rw [List.getElem?_map, List.getElem?_eq_getElem h]
  rfl
theorem get_map' {α β : Type} {f : α → β} {xs : List α} {i : Nat} {y : β} (h : (xs.map f)[i]? = some y) : ∃ x, xs[i]? = some x ∧ f x = y := by
  rw [List.getElem?_map] at h
  cases e : xs[i]? with
  | none => rw [e] at h; cases h
  | some x => rw [e] at h; exact ⟨x, rfl, Option.some.inj h⟩
theorem get_lt {α : Type} {xs : List α} {i : Nat} {x : α} (h : xs[i]? = some x) : i < xs.length := (List.getElem?_eq_some_iff.mp h).1
/-! ### first_way -/
theorem scFirstWay : FnScope ["log", "other", "places", "at", "event"] ["log", "other"] (defScope sFirstWay) := ⟨rfl, rfl, rfl, by decide +kernel, rfl, by decide +kernel, by decide +kernel⟩
def spFirstWay : Sp := fun vs H Q _ => ∃ (lo ot : Addr) (l o : List Str), vs = [.ref lo, .ref ot] ∧ Tp H lo l ∧ Tp H ot o ∧ l.length ≤ 1000 ∧
  (∀ H', Same H H' → (gr l o 0).length ≠ l.length → Q .non H') ∧
  (∀ H' p, Same H H' → (gr l o 0).length = l.length → H p = none → Ip H' p (gr l o 0) → Q (.ref p) H')
theorem ok_firstWay {f : Addr} {fd : FuncData} {k : Nat} (F : Fun K "first_way" "first_way" sFirstWay f fd) (B : Bn mg) : FnOk P w K mg base CX0 (k + 1) f fd ["log", "other"] spFirstWay := by
  refine F.ok scFirstWay (fun vs H Q E h => ?_) (fun cdv A outer s H vs Q E hr h => ?_)
  · obtain ⟨lo, ot, l, o, rfl, _⟩ := h
    rfl
  · obtain ⟨lo, ot, l, o, rfl, hl, ho, hlen, q0, q1⟩ := h
    refine ⟨_, pss_cons (ps_set (i := 2) scFirstWay.nd rfl (.inl rfl) (pe_lst pa_nil))
      (pss_cons (ps_for PassesOwn.never rfl (pi_enumT (by rfl) B.enum (pa_cons (pv 1) pa_nil))
          (pg_tup rfl (pgs_cons (pg_name (i := 3) scFirstWay.nd rfl (.inl rfl)) (pgs_cons (pg_name (i := 4) scFirstWay.nd rfl (.inl rfl)) pgs_nil)))
        (pss_cons (ps_if (pt_cmpR op_eq (pe_callB call_len_seq (by rfl) B.len PySem.boot_len (pa_cons (pv 2) pa_nil)) (pe_callB call_len_seq (by rfl) B.len PySem.boot_len (pa_cons (pv 0) pa_nil)) (nomark _))
            (pss_one ps_break) pss_nil)
        (pss_one (ps_if (pt_cmpR op_eq (pv 4) (pe_ix ix_tup (pv 0) (pe_callB call_len_seq (by rfl) B.len PySem.boot_len (pa_cons (pv 2) pa_nil)) (fun _ _ => rfl)) (nomark _))
            (pss_one (ps_expr (pe_bm PySem.F.plainAttrs_list PySem.F.slot_list_append PySem.F.type_list_append mt_append (pv 2) (pa_cons (pv 3) pa_nil)))) pss_nil))))
      (pss_one (ps_ret (pe_ifExp (pt_cmpR op_eq (pe_callB call_len_seq (by rfl) B.len PySem.boot_len (pa_cons (pv 2) pa_nil)) (pe_callB call_len_seq (by rfl) B.len PySem.boot_len (pa_cons (pv 0) pa_nil)) (nomark _))
        (pe_callTy call_tuple_of (by rfl) B.tuple (by decide +kernel) (pa_cons (pv 2) pa_nil)) pe_non)))), ?_⟩
    refine ⟨Nat.zero_le _, fun pl np => ?_⟩
    have s1 : Same H (upd H pl (.lst [])) := same_upd np
    refine ⟨.ref ot, rfl, ot, o.map V.str, rfl, sqt (s1 _ _ ho), ?_⟩
    refine for_enumTB (xs := o.map V.str) (fun i σ H3 => ∃ y3 y4 ps, σ = [some (.ref lo), some (.ref ot), some (.ref pl), y3, y4] ∧ Same H H3 ∧
        H3 pl = some (.lst (List.map nV ps)) ∧ gr l o 0 = ps ++ gr (l.drop ps.length) (o.drop i) i ∧ ps.length ≤ l.length)
      (fun σ H3 => ∃ y3 y4, σ = [some (.ref lo), some (.ref ot), some (.ref pl), y3, y4] ∧ Same H H3 ∧ H3 pl = some (.lst (List.map nV (gr l o 0))))
      ?_ ?_ ?_ ?_ ?_
    · exact ⟨none, none, [], rfl, s1, upd_same, rfl, Nat.zero_le _⟩
    · rintro i σ H3 hi ⟨y3, y4, ps, rfl, sm, _⟩
      exact sqt (sm _ _ ho)
    · rintro hb i x T σ H3 hx ⟨y3, y4, ps, rfl, sm, hp, hg, hle⟩ nT
      obtain ⟨y, hy, rfl⟩ := get_map' hx
      have nTp : pl ≠ T := ne_of_none hp nT
      have smT : Same H3 (upd H3 T (.tup [.int (i : Nat), .str y])) := same_upd nT
      refine ⟨T, [.int (i : Nat), .str y], rfl, .inl (.inl upd_same), rfl, _, _, rfl, _, _, rfl, rfl, ?_⟩
      have hp2 := smT _ _ hp
      have hl2 := smT _ _ (sm _ _ hl)
      refine ⟨.ref pl, rfl, pl, _, rfl, .inl (sql hp2), .ref lo, rfl, lo, _, rfl, .inr (sqt hl2), rfl, _, rfl, ?_⟩
      rw [List.length_map, List.length_map]
      refine ite2 (fun hc => ?_) (fun hc => ?_)
      · have e : ps.length = l.length := by
          have := V.int.inj (of_decide_eq_true hc)
          omega
        refine hb _ _ ⟨_, _, rfl, sm.trans smT, ?_⟩
        rw [e, List.drop_length, gr_nil, List.append_nil] at hg
        rw [hg]
        exact hp2
      · have hlt : ps.length < l.length := by
          rcases Nat.lt_or_ge ps.length l.length with h | h
          · exact h
          · exact absurd (decide_eq_true (by rw [Nat.le_antisymm hle h])) hc
        refine ⟨.str y, rfl, .ref lo, rfl, .ref pl, rfl, pl, _, rfl, .inl (sql hp2), lo, _, _, .str l[ps.length], rfl, rfl, sqt hl2, ?_, rfl, _, rfl, ?_⟩
        · rw [List.length_map]
          exact atI_nat (get_map hlt)
        · rw [gr_step hlt hy] at hg
          refine ite2 (fun hc2 => ?_) (fun hc2 => ?_)
          · have ey : y = l[ps.length] := V.str.inj (of_decide_eq_true hc2)
            rw [if_pos ey] at hg
            refine ⟨.ref pl, rfl, .inl ⟨rfl, _, .inl (.inl hp2)⟩, .int (i : Nat), rfl, pl, _, _, rfl, rfl, hp2, ?_, ?_⟩
            · rw [List.length_map]
              exact small1000 (by omega)
            · refine ⟨_, _, ps ++ [i], rfl, fun b z e => ?_, ?_, ?_, ?_⟩
              · have nb : b ≠ pl := ne_of_none e np
                rw [upd_ne nb]
                exact smT _ _ (sm _ _ e)
              · rw [upd_same, List.map_append]
                rfl
              · rw [hg, List.length_append, List.append_assoc]
                rfl
              · rw [List.length_append]
                exact hlt
          · have ey : ¬ y = l[ps.length] := fun z => hc2 (decide_eq_true (by rw [z]))
            rw [if_neg ey] at hg
            exact ⟨_, _, ps, rfl, sm.trans smT, hp2, hg, hle⟩
    · rintro σ H3 ⟨y3, y4, ps, rfl, sm, hp, hg, hle⟩
      refine ⟨_, _, rfl, sm, ?_⟩
      rw [List.length_map, List.drop_length, gr_end, List.append_nil] at hg
      rw [hg]
      exact hp
    · rintro σ H3 ⟨y3, y4, rfl, sm, hp⟩
      refine ⟨.ref pl, rfl, pl, _, rfl, .inl (sql hp), .ref lo, rfl, lo, _, rfl, .inr (sqt (sm _ _ hl)), rfl, _, rfl, ?_⟩
      rw [List.length_map, List.length_map]
      refine ite2 (fun hc => ?_) (fun hc => ?_)
      · have e : (gr l o 0).length = l.length := by
          have := V.int.inj (of_decide_eq_true hc)
          omega
        refine ⟨.ref pl, rfl, pl, _, rfl, .inl ⟨sql hp, fun p hn => ?_⟩⟩
        exact q1 _ p (sm.trans (same_upd hn)) e (sm.free hn) upd_same
      · exact q0 _ sm fun e => hc (decide_eq_true (by rw [e]))
end
end Sfl

namespace Sfl
open PySem PySem.Spec PyProof.Rows L2
theorem gr_lt : ∀ (l o : List Str) (i n : Nat), n ∈ gr l o i → i ≤ n ∧ n < i + o.length
  | [], o, i, n, h => by
    rw [gr_nil] at h
    cases h
  | x :: xs, [], i, n, h => by cases h
  | x :: xs, y :: ys, i, n, h => by
    unfold gr at h
    rw [List.length_cons]
    by_cases e : y = x
    · rw [if_pos e] at h
      rcases List.mem_cons.mp h with h | h
      · omega
      · have := gr_lt xs ys (i + 1) n h
        omega
    · rw [if_neg e] at h
      have := gr_lt (x :: xs) ys (i + 1) n h
      omega
/-- the last places -/
def las (l o : List Str) : List Nat := ((gr l.reverse o.reverse 0).reverse).map fun n => o.length - 1 - n
/-- a def of the text as its callers see it -/
def Cal (P : Program) (w : World) (K : PySem.W.Frag) (mg : Str → Option Value) (base : Heap) (k : Nat) (x : Str) (ps : List Str) (sp : Sp) : Prop :=
  ∃ (f : Addr) (fd : FuncData), FnOk P w K mg base CX0 k f fd ps sp ∧ mg x = some (.ref f) ∧ PySem.W.keepIn K (.ref f) = true ∧ Binds K fd ps []
section
variable {P : Program} {w : World} {K : PySem.W.Frag} {mg : Str → Option Value} {base : Heap}
theorem Cal.mono {j k : Nat} {x : Str} {ps : List Str} {sp : Sp} (C : Cal P w K mg base j x ps sp) (h : j ≤ k) : Cal P w K mg base k x ps sp := by
  obtain ⟨f, fd, G, g, kp, b⟩ := C
  exact ⟨f, fd, G.mono h, g, kp, b⟩

end
end Sfl

namespace Sfl
open PySem PySem.Spec PyProof.Rows L2
theorem nm_len {z : Str} (h : Nm z = true) : z.length ≤ 8 := by
  unfold Nm at h
  by_cases c : z.length > 8
  · rw [if_pos c] at h
    cases h
  · omega
theorem nm_line {z : Str} (h : Nm z = true) : z.length ≤ sizeLine := Nat.le_trans (nm_len h) (by decide)
/-- a log that is passed -/
structure Lg (l : List Str) : Prop where
  len : l.length ≤ 200
  nm : ∀ z ∈ l, Nm z = true
theorem Lg.k {l : List Str} (h : Lg l) : l.length ≤ 1000 := Nat.le_trans h.len (by decide)
section
variable {P : Program} {w : World} {K : PySem.W.Frag} {mg : Str → Option Value} {base : Heap}
theorem scIsAnyLog : FnScope ["value", "event"] ["value"] (defScope sIsAnyLog) := ⟨rfl, rfl, rfl, by decide +kernel, rfl, by decide +kernel, by decide +kernel⟩
def spIsAnyLog : Sp := fun vs H Q _ => ∃ (p : Addr) (l : List Str), vs = [.ref p] ∧ Tp H p l ∧ Lg l ∧ ∀ H', Same H H' → Q (.bl true) H'
theorem ok_isAnyLog {f : Addr} {fd : FuncData} {k : Nat} (F : Fun K "is_any_log" "is_any_log" sIsAnyLog f fd) (B : Bn mg) (C1 : Cal P w K mg base k "is_name" ["value"] spIsName) :
    FnOk P w K mg base CX0 (k + 1) f fd ["value"] spIsAnyLog := by
  obtain ⟨f1, fd1, G1, g1, kp1, b1⟩ := C1
  refine F.ok scIsAnyLog (fun vs H Q E h => ?_) (fun cdv A outer s H vs Q E hr h => ?_)
  · obtain ⟨p, l, rfl, _⟩ := h
    rfl
  · obtain ⟨p, l, rfl, hp, hl, q⟩ := h
    obtain ⟨tS, gS⟩ := B.events
    refine ⟨_, pss_cons (ps_if (PW.pt (pw_or (pt_not (pt_val (pe_callB call_isi (by rfl) B.isi (by decide +kernel) (pa_cons (pv 0) (pa_cons (pe_bltn (v := .ty "tuple") (by rfl) B.tuple (by decide +kernel) rfl) pa_nil)))))
        (pw_or1 (pt_cmpR op_gt (pe_callB call_len_seq (by rfl) B.len PySem.boot_len (pa_cons (pv 0) pa_nil)) (pe_glob (v := .int 200) rfl gS ⟨_, rfl⟩) (nomark _)))))
        (pss_one (ps_ret pe_bl)) pss_nil)
      (pss_one (ps_ret (pe_callB (cr_all rfl) (by rfl) B.all (by decide +kernel) (pa_cons
        (pe_lc (own := [("event", 1)]) (g := gName 1) (tt := tYes) rfl scIsAnyLog.nd (pi_tup (pv 0)) (blkOk_by (own := [("event", 1)]) (N := ["value", "event"]) (sc := defScope sIsAnyLog) (by decide +kernel))
          (fun _ _ _ _ _ => pg_name (i := 1) scIsAnyLog.nd rfl (Or.inl rfl)) (fun _ _ _ _ _ => pts_nil)
          (fun _ _ _ _ _ => pe_call G1 hr (by rfl) g1 kp1 b1 .nil pass0 (pa_cons (pv 1) pa_nil))) pa_nil)))), ?_⟩
    refine ⟨_, rfl, .ref p, .ty "tuple", _, .type "tuple", true, rfl, .ty _, .base (.tup hp), kit_ty (by decide +kernel), _, rfl, iteF ?_⟩
    refine ⟨_, rfl, p, _, rfl, .inr (sqt hp), _, _, rfl, rfl, _, rfl, ?_⟩
    rw [List.length_map]
    refine ite2 (fun hc => ?_) (fun _ => ?_)
    · have := of_decide_eq_true hc
      have := hl.len
      omega
    · refine ⟨.ref p, rfl, p, rfl, ⟨_, sqt hp⟩, fun D nD => ?_⟩
      refine lc_tup (xs := l.map V.str) (fun i H4 => Same H H4 ∧ H4 D = some (.lst ((List.replicate i true).map V.bl)))
        ⟨same_upd nD, by rw [upd_same]; rfl⟩ (fun i H4 hi hp4 => sqt (hp4.1 _ _ hp)) (fun i x H4 hx hp4 => ?_) (fun H4 hp4 => ?_)
      · obtain ⟨sm, hD⟩ := hp4
        obtain ⟨z, hz, rfl⟩ := get_map' hx
        have nz := hl.nm z (List.mem_of_getElem? hz)
        refine ⟨rfl, .str z, rfl, z, rfl, nm_line nz, _, hD, ?_, ?_, ?_⟩
        · rw [List.length_map, List.length_replicate]
          have := get_lt hz
          have := hl.len
          exact small1000 (by omega)
        · intro b u e
          rw [upd_ne (ne_of_none e nD)]
          exact sm _ _ e
        · rw [upd_same, nz, List.replicate_succ', List.map_append]
          rfl
      · obtain ⟨sm, hD⟩ := hp4
        refine ⟨D, List.replicate (l.map V.str).length true, rfl, sql hD, ?_⟩
        have e : (List.replicate (l.map V.str).length true).all id = true := by simp
        rw [e]
        exact q _ sm
theorem scCheckLog : FnScope ["value"] ["value"] (defScope sCheckLog) := ⟨rfl, rfl, rfl, by decide +kernel, rfl, by decide +kernel, by decide +kernel⟩
def spCheckLog : Sp := fun vs H Q _ => ∃ (p : Addr) (l : List Str), vs = [.ref p] ∧ Tp H p l ∧ Lg l ∧ ∀ H', Same H H' → Q .non H'
theorem ok_checkLog {f : Addr} {fd : FuncData} {k : Nat} (F : Fun K "check_log" "check_log" sCheckLog f fd) (C1 : Cal P w K mg base k "is_any_log" ["value"] spIsAnyLog) :
    FnOk P w K mg base CX0 (k + 1) f fd ["value"] spCheckLog := by
  obtain ⟨f1, fd1, G1, g1, kp1, b1⟩ := C1
  refine F.ok scCheckLog (fun vs H Q E h => ?_) (fun cdv A outer s H vs Q E hr h => ?_)
  · obtain ⟨p, l, rfl, _⟩ := h
    rfl
  · obtain ⟨p, l, rfl, hp, hl, q⟩ := h
    refine ⟨_, pss_one (ps_if (pt_not (pt_val (pe_call G1 hr (by rfl) g1 kp1 b1 .nil pass0 (pa_cons (pv 0) pa_nil)))) (pss_one ps_never) pss_nil), ?_⟩
    exact ⟨_, rfl, p, l, rfl, hp, hl, fun H' sm => ⟨_, rfl, iteF (q H' sm)⟩⟩
theorem scFirstPlaces : FnScope ["log", "other"] ["log", "other"] (defScope sFirstPlaces) := ⟨rfl, rfl, rfl, by decide +kernel, rfl, by decide +kernel, by decide +kernel⟩
def spFirstPlaces : Sp := fun vs H Q _ => ∃ (lo ot : Addr) (l o : List Str), vs = [.ref lo, .ref ot] ∧ Tp H lo l ∧ Tp H ot o ∧ Lg l ∧ Lg o ∧
  (∀ H', Same H H' → (gr l o 0).length ≠ l.length → Q .non H') ∧
  (∀ H' p, Same H H' → (gr l o 0).length = l.length → H p = none → Ip H' p (gr l o 0) → Q (.ref p) H')
theorem ok_firstPlaces {f : Addr} {fd : FuncData} {k : Nat} (F : Fun K "first_places" "first_places" sFirstPlaces f fd) (C1 : Cal P w K mg base k "check_log" ["value"] spCheckLog) (C2 : Cal P w K mg base k "first_way" ["log", "other"] spFirstWay) :
    FnOk P w K mg base CX0 (k + 1) f fd ["log", "other"] spFirstPlaces := by
  obtain ⟨f1, fd1, G1, g1, kp1, b1⟩ := C1
  obtain ⟨f2, fd2, G2, g2, kp2, b2⟩ := C2
  refine F.ok scFirstPlaces (fun vs H Q E h => ?_) (fun cdv A outer s H vs Q E hr h => ?_)
  · obtain ⟨lo, ot, l, o, rfl, _⟩ := h
    rfl
  · obtain ⟨lo, ot, l, o, rfl, hl, ho, Ll, Lo, q0, q1⟩ := h
    refine ⟨_, pss_cons (ps_expr (pe_call G1 hr (by rfl) g1 kp1 b1 .nil pass0 (pa_cons (pv 0) pa_nil)))
      (pss_cons (ps_expr (pe_call G1 hr (by rfl) g1 kp1 b1 .nil pass0 (pa_cons (pv 1) pa_nil)))
      (pss_one (ps_ret (pe_call G2 hr (by rfl) g2 kp2 b2 .nil pass0 (pa_cons (pv 0) (pa_cons (pv 1) pa_nil)))))), ?_⟩
    refine ⟨_, rfl, lo, l, rfl, hl, Ll, fun H1 s1 => ⟨_, rfl, ot, o, rfl, s1 _ _ ho, Lo, fun H2 s2 => ⟨_, rfl, _, rfl, lo, ot, l, o, rfl, s2 _ _ (s1 _ _ hl), s2 _ _ (s1 _ _ ho), Ll.k, fun H3 s3 e => ?_, fun H3 p s3 e hn hp => ?_⟩⟩⟩
    · exact q0 _ ((s1.trans s2).trans s3) e
    · exact q1 _ p ((s1.trans s2).trans s3) e ((s1.trans s2).free hn) hp
end
end Sfl

namespace Sfl
open PySem PySem.Spec PyProof.Rows L2
/-- dice stand at a: three numbers, the last one counts the rolls -/
def Dc (H : Hp) (a : Addr) (m : Nat) : Prop := ∃ i j k : Int, H a = some (.lst [.int i, .int j, .int k]) ∧ 0 ≤ k ∧ k ≤ (m : Int)
theorem Dc.mono {H : Hp} {a : Addr} {m n : Nat} (d : Dc H a m) (h : m ≤ n) : Dc H a n := by
  obtain ⟨i, j, k, e, h0, h1⟩ := d
  exact ⟨i, j, k, e, h0, by omega⟩
theorem Dc.same {H H' : Hp} {a : Addr} {m : Nat} (d : Dc H a m) (s : Same H H') : Dc H' a m := by
  obtain ⟨i, j, k, e, h0, h1⟩ := d
  exact ⟨i, j, k, s _ _ e, h0, h1⟩
theorem Dc.ne {H : Hp} {a p : Addr} {m : Nat} {xs : List V} (d : Dc H a m) (h : H p = some (.tup xs)) : p ≠ a := by
  obtain ⟨i, j, k, e, h0, h1⟩ := d
  exact ne_of h e (by intro z; cases z)
theorem Dc.new {H : Hp} {a p : Addr} {m : Nat} (d : Dc H a m) (h : H p = none) : p ≠ a := by
  obtain ⟨i, j, k, e, h0, h1⟩ := d
  exact (ne_of_none e h).symm
theorem Kp.tup {a p : Addr} {H H' : Hp} {m : Nat} {xs : List V} (x : Kp a H H') (d : Dc H a m) (h : H p = some (.tup xs)) : H' p = some (.tup xs) := x p _ (d.ne h) h
theorem Kp.new {a p : Addr} {H H' : Hp} {m : Nat} (x : Kp a H H') (d : Dc H a m) (h : H' p = none) (hp : p ≠ a) : H p = none := by
  cases e : H p with
  | none => rfl
  | some o =>
    have := x p o hp e
    rw [h] at this
    cases this
def mmax : Nat := 1000000
theorem two_bound {q one k : Int} {m : Nat} (h0 : 0 ≤ q) (h1 : q < 18014398509481951) (h2 : 0 ≤ one) (h3 : one < 36028797018963913) (h4 : 0 ≤ k) (h5 : k ≤ (m : Int)) (h6 : m ≤ mmax + 1) :
    (q * one + 374761393 * k).natAbs < 2 ^ 200 := by
  have a1 : q * one ≤ 18014398509481951 * 36028797018963913 := Int.mul_le_mul (by omega) (by omega) h2 (by omega)
  have a2 : 0 ≤ q * one := Int.mul_nonneg h0 h2
  have h6' : m ≤ 1000001 := h6
  have e : (2 : Nat) ^ 200 = 1606938044258990275541962092341162602522202993782792835301376 := by decide +kernel
  rw [e]
  omega
section
variable {P : Program} {w : World} {K : PySem.W.Frag} {mg : Str → Option Value} {base : Heap}
theorem scRoll : FnScope ["dice", "size", "found", "one", "two"] ["dice", "size"] (defScope sRoll) := ⟨rfl, rfl, rfl, by decide +kernel, rfl, by decide +kernel, by decide +kernel⟩
def spRoll : Sp := fun vs H Q _ => ∃ (a : Addr) (n : Int) (m : Nat), vs = [.ref a, .int n] ∧ Dc H a m ∧ m ≤ mmax ∧ 0 < n ∧ n < 1073741824 ∧
  ∀ H' r, Kp a H H' → Dc H' a (m + 1) → 0 ≤ r → r < n → Q (.int r) H'
theorem ok_roll {f : Addr} {fd : FuncData} {k : Nat} (F : Fun K "_law_roll" "_law_roll" sRoll f fd) (B : Bn mg) : FnOk P w K mg base CX0 (k + 1) f fd ["dice", "size"] spRoll := by
  refine F.ok scRoll (fun vs H Q E h => ?_) (fun cdv A outer s H vs Q E hr h => ?_)
  · obtain ⟨a, n, m, rfl, _⟩ := h
    rfl
  · obtain ⟨a, n, m, rfl, hd, hm, hn0, hn1, q⟩ := h
    obtain ⟨i, j, kk, ha, hk0, hk1⟩ := id hd
    refine ⟨_, pss_cons (ps_if (pt_cmpR op_gt (pe_ix ix_list (pv 0) pe_int (fun _ _ => rfl)) pe_int (nomark _))
        (pss_cons (ps_set (i := 2) scRoll.nd rfl (.inl rfl) (pe_op op_mod (pe_callTy call_int1 (by rfl) B.int (by decide +kernel) (pa_cons (pe_ix ix_list (pv 0) pe_int (fun _ _ => rfl)) pa_nil)) (pv 1)))
        (pss_cons (ps_asg (pe_op op_fdivN (pe_ix ix_list (pv 0) pe_int (fun _ _ => rfl)) (pv 1)) (pg_sub (pv 0) pe_int set_list))
        (pss_one (ps_ret (pv 2))))) pss_nil)
      (pss_cons (ps_asg (pe_op op_add (pe_ix ix_list (pv 0) pe_int (fun _ _ => rfl)) pe_int) (pg_sub (pv 0) pe_int set_list))
      (pss_cons (ps_set (i := 3) scRoll.nd rfl (.inl rfl) (pe_op op_mod (pe_callTy call_int1 (by rfl) B.int (by decide +kernel) (pa_cons (pe_op op_add (pe_ix ix_list (pv 0) pe_int (fun _ _ => rfl)) (pe_op op_mul pe_int (pe_ix ix_list (pv 0) pe_int (fun _ _ => rfl)))) pa_nil)) pe_int))
      (pss_cons (ps_set (i := 4) scRoll.nd rfl (.inl rfl) (pe_op op_add (pe_op op_mul (pe_op op_mod (pe_callTy call_int1 (by rfl) B.int (by decide +kernel) (pa_cons (pe_op op_mul (pv 3) (pv 3)) pa_nil)) pe_int) (pv 3)) (pe_op op_mul pe_int (pe_ix ix_list (pv 0) pe_int (fun _ _ => rfl)))))
      (pss_one (ps_ret (pe_op op_mod (pe_callTy call_int1 (by rfl) B.int (by decide +kernel) (pa_cons (pe_op op_fdiv (pe_op op_mod (pe_callTy call_int1 (by rfl) B.int (by decide +kernel) (pa_cons (pe_op op_add (pe_op op_mulW (pv 4) (pv 4)) (pe_ix ix_list (pv 0) pe_int (fun _ _ => rfl))) pa_nil)) pe_int) pe_int) pa_nil)) (pv 1))))))), ?_⟩
    have at0 : ∀ x y z : V, atI [x, y, z] 0 = some x := fun _ _ _ => rfl
    have at1 : ∀ x y z : V, atI [x, y, z] 1 = some y := fun _ _ _ => rfl
    have at2 : ∀ x y z : V, atI [x, y, z] 2 = some z := fun _ _ _ => rfl
    refine ⟨.ref a, rfl, a, _, 0, _, rfl, rfl, sql ha, at0 _ _ _, i, 0, rfl, rfl, _, rfl, ite2 (fun hc => ?_) (fun hc => ?_)⟩
    · refine ⟨.ref a, rfl, a, _, 0, _, rfl, rfl, sql ha, at0 _ _ _, .inl ⟨i, rfl, .int n, rfl, i, n, rfl, rfl, hn0, ?_⟩⟩
      refine ⟨.ref a, rfl, a, _, 0, _, rfl, rfl, sql ha, at0 _ _ _, .int n, rfl, i, n, rfl, rfl, ⟨by omega, by omega⟩, ?_⟩
      refine ⟨.ref a, rfl, a, _, 0, 0, rfl, rfl, ha, rfl, .int (i % n), rfl, ?_⟩
      exact q _ _ kp_upd ⟨_, j, kk, upd_same, hk0, by omega⟩ (Int.emod_nonneg _ (by omega)) (Int.emod_lt_of_pos _ hn0)
    · refine ⟨.ref a, rfl, a, _, 2, _, rfl, rfl, sql ha, at2 _ _ _, kk, 1, rfl, rfl, .ref a, rfl, a, _, 2, 2, rfl, rfl, ha, rfl, ?_⟩
      generalize hH2 : upd H a _ = H2
      have h2 : H2 a = some (.lst [.int i, .int j, .int (kk + 1)]) := by
        rw [← hH2]
        exact upd_same
      have k2 : Kp a H H2 := by
        rw [← hH2]
        exact kp_upd
      refine ⟨.ref a, rfl, a, _, 1, _, rfl, rfl, sql h2, at1 _ _ _, .ref a, rfl, a, _, 2, _, rfl, rfl, sql h2, at2 _ _ _, _, _, rfl, rfl, .inl (by decide), _, _, rfl, rfl, .inl ⟨_, rfl, _, _, rfl, rfl, (show (0 : Int) < 36028797018963913 by decide), ?_⟩⟩
      generalize ho : (j + 1442695041 * (kk + 1)) % 36028797018963913 = one
      have o0 : 0 ≤ one := by rw [← ho]; exact Int.emod_nonneg _ (by decide)
      have o1 : one < 36028797018963913 := by rw [← ho]; exact Int.emod_lt_of_pos _ (by decide)
      refine ⟨.int one, (by rw [← ho]; rfl), .int one, (by rw [← ho]; rfl), one, one, rfl, rfl, .inl ⟨by omega, by omega⟩, .inl ⟨_, rfl, _, _, rfl, rfl, (show (0 : Int) < 18014398509481951 by decide), ?_⟩⟩
      generalize hqq : (one * one) % 18014398509481951 = qq
      have q0 : 0 ≤ qq := by rw [← hqq]; exact Int.emod_nonneg _ (by decide)
      have q1 : qq < 18014398509481951 := by rw [← hqq]; exact Int.emod_lt_of_pos _ (by decide)
      refine ⟨.int one, (by rw [← ho]; rfl), qq, one, (by rw [← hqq]), rfl, .inl ⟨by omega, by omega⟩, .ref a, rfl, a, _, 2, _, rfl, rfl, sql h2, at2 _ _ _, _, _, rfl, rfl, .inl (by decide), _, _, rfl, rfl, ?_⟩
      have hb := two_bound (m := m + 1) q0 q1 o0 o1 (show 0 ≤ kk + 1 by omega) (by omega) (by omega)
      generalize ht : qq * one + 374761393 * (kk + 1) = two at hb
      refine ⟨.int two, (by rw [← ht, ← hqq, ← ho]; rfl), .int two, (by rw [← ht, ← hqq, ← ho]; rfl), two, two, rfl, rfl, wide_mul hb hb (by decide) (by decide) (by decide), .ref a, rfl, a, _, 1, _, rfl, rfl, sql h2, at1 _ _ _, _, _, rfl, rfl, .inl ⟨_, rfl, _, _, rfl, rfl, (show (0 : Int) < 1125899906842597 by decide), _, _, rfl, rfl, (show (0 : Int) < 1024 ∧ (1024 : Int) < 1073741824 by decide), .inl ⟨_, rfl, .int n, rfl, _, n, rfl, rfl, hn0, ?_⟩⟩⟩
      exact q _ _ k2 ⟨_, _, _, h2, by omega, by omega⟩ (Int.emod_nonneg _ (by omega)) (Int.emod_lt_of_pos _ hn0)
end
end Sfl

namespace Sfl
open PySem PySem.Spec PyProof.Rows L2
theorem pow_a : L2.CPow 10 61 := ⟨by decide, by decide, by decide⟩
theorem pow_b : L2.CPow 10 18 := ⟨by decide, by decide, by decide⟩
theorem pow_ok : CPowW ((10 : Int) ^ (61 : Int).toNat) 11 := by
  constructor <;> decide +kernel
theorem pow_pos11 : (0 : Int) < ((10 : Int) ^ (61 : Int).toNat) ^ (11 : Int).toNat := by decide +kernel
section
variable {P : Program} {w : World} {K : PySem.W.Frag} {mg : Str → Option Value} {base : Heap}
theorem scDice : FnScope ["script", "spot", "cell", "great", "mixed"] ["script", "spot"] (defScope sDice) := ⟨rfl, rfl, rfl, by decide +kernel, rfl, by decide +kernel, by decide +kernel⟩
def spDice (K : PySem.W.Frag) : Sp := fun vs H Q _ => ∃ (sc : Addr) (ns : List Int) (i : Nat), vs = [.ref sc, .int (i : Nat)] ∧ SqL K H sc (ns.map V.int) ∧ i ≤ 100 ∧
  ∀ H' p, Same H H' → H p = none → Dc H' p 0 → Q (.ref p) H'
theorem ok_dice {f : Addr} {fd : FuncData} {k : Nat} (F : Fun K "_law_dice" "_law_dice" sDice f fd) (B : Bn mg) : FnOk P w K mg base CX0 (k + 1) f fd ["script", "spot"] (spDice K) := by
  refine F.ok scDice (fun vs H Q E h => ?_) (fun cdv A outer s H vs Q E hr h => ?_)
  · obtain ⟨sc, ns, i, rfl, _⟩ := h
    rfl
  · obtain ⟨sc, ns, i, rfl, hs, hi, q⟩ := h
    refine ⟨_, pss_cons (ps_set (i := 2) scDice.nd rfl (.inl rfl) (pe_ifExp (pt_cmpR op_lt (pv 1) (pe_callB call_len_seq (by rfl) B.len PySem.boot_len (pa_cons (pv 0) pa_nil)) (nomark _))
          (pe_ix ix_list (pv 0) (pv 1) (fun _ _ => rfl)) (pe_op op_add (pe_op op_mul pe_int (pv 1)) pe_int)))
      (pss_cons (ps_set (i := 3) scDice.nd rfl (.inl rfl) (pe_op op_mod (pe_callTy call_int1 (by rfl) B.int (by decide +kernel) (pa_cons (pe_callB call_abs (by rfl) B.abs (by decide +kernel) (pa_cons (pv 2) pa_nil)) pa_nil))
          (pe_op op_powW (pe_op op_pow pe_int pe_int) pe_int)))
      (pss_cons (ps_set (i := 4) scDice.nd rfl (.inl rfl) (pe_op op_add (pe_op op_add (pe_op op_add (pe_op op_mul (pv 3) pe_int) (pe_op op_mul pe_int (pv 1)))
          (pe_op op_mul pe_int (pe_callTy call_int1 (by rfl) B.int (by decide +kernel) (pa_cons (pe_cmpR op_lt (pv 2) pe_int (nomark _)) pa_nil)))) pe_int))
      (pss_cons (ps_set (i := 4) scDice.nd rfl (.inl rfl) (pe_op op_mod (pe_callTy call_int1 (by rfl) B.int (by decide +kernel) (pa_cons (pv 4) pa_nil)) pe_int))
      (pss_one (ps_ret (pe_lst (pa_cons (pe_callB (call_max2 rfl) (by rfl) B.max (by decide +kernel) (pa_cons pe_int (pa_cons (pe_op op_add (pe_op op_sub (pv 3) (pe_op op_pow pe_int pe_int)) pe_int) pa_nil))) (pa_cons (pv 4) (pa_cons pe_int pa_nil))))))))), ?_⟩
    refine ⟨.int (i : Nat), rfl, .ref sc, rfl, sc, _, rfl, .inl hs, _, _, rfl, rfl, _, rfl, ?_⟩
    rw [List.length_map]
    refine ite2 (fun hc => ?_) (fun hc => ?_)
    · have hlt : i < ns.length := by
        have := of_decide_eq_true hc
        omega
      refine ⟨.ref sc, rfl, .int (i : Nat), rfl, sc, _, _, .int ns[i], rfl, rfl, hs, atI_nat (get_map hlt), ?_⟩
      refine ⟨.int ns[i], rfl, ns[i], rfl, .inl ⟨_, rfl, 10, 61, rfl, rfl, pow_a, _, 11, rfl, rfl, pow_ok, _, _, rfl, rfl, pow_pos11, ?_⟩⟩
      refine ⟨_, rfl, _, _, rfl, rfl, .inr ⟨by decide, by decide⟩, .int (i : Nat), rfl, _, _, rfl, rfl, .inl ⟨by decide, by decide⟩, _, _, rfl, rfl, .int ns[i], rfl, _, _, rfl, rfl, .inr ⟨_, rfl, _, _, rfl, rfl, .inl ⟨by decide, by decide⟩, _, _, rfl, rfl, _, _, rfl, rfl, ?_⟩⟩
      refine ⟨_, rfl, .inl ⟨_, rfl, _, _, rfl, rfl, (show (0 : Int) < 2305843009213693951 by decide), ?_⟩⟩
      refine ⟨_, rfl, 10, 18, rfl, rfl, pow_b, _, _, rfl, rfl, _, _, rfl, rfl, _, _, rfl, _, rfl, (show 3 ≤ sizeLine by decide), fun p hp => ?_⟩
      exact q _ p (same_upd hp) hp ⟨_, _, 0, upd_same, by decide, by decide⟩
    · refine ⟨.int (i : Nat), rfl, 31, _, rfl, rfl, .inl ⟨by decide, by decide⟩, _, _, rfl, rfl, ?_⟩
      refine ⟨_, rfl, _, rfl, .inl ⟨_, rfl, 10, 61, rfl, rfl, pow_a, _, 11, rfl, rfl, pow_ok, _, _, rfl, rfl, pow_pos11, ?_⟩⟩
      refine ⟨_, rfl, _, _, rfl, rfl, .inr ⟨by decide, by decide⟩, .int (i : Nat), rfl, _, _, rfl, rfl, .inl ⟨by decide, by decide⟩, _, _, rfl, rfl, _, rfl, _, _, rfl, rfl, .inr ⟨_, rfl, _, _, rfl, rfl, .inl ⟨by decide, by decide⟩, _, _, rfl, rfl, _, _, rfl, rfl, ?_⟩⟩
      refine ⟨_, rfl, .inl ⟨_, rfl, _, _, rfl, rfl, (show (0 : Int) < 2305843009213693951 by decide), ?_⟩⟩
      refine ⟨_, rfl, 10, 18, rfl, rfl, pow_b, _, _, rfl, rfl, _, _, rfl, rfl, _, _, rfl, _, rfl, (show 3 ≤ sizeLine by decide), fun p hp => ?_⟩
      exact q _ p (same_upd hp) hp ⟨_, _, 0, upd_same, by decide, by decide⟩
end
end Sfl

namespace Sfl
open PySem PySem.Spec PyProof.Rows L2
section
variable {P : Program} {w : World} {K : PySem.W.Frag} {mg : Str → Option Value} {base : Heap}
/-! ### _law_pick -/
theorem scPick : FnScope ["dice", "items"] ["dice", "items"] (defScope sPick) := ⟨rfl, rfl, rfl, by decide +kernel, rfl, by decide +kernel, by decide +kernel⟩
def spPick : Sp := fun vs H Q _ => ∃ (a it : Addr) (xs : List V) (m : Nat), vs = [.ref a, .ref it] ∧ Dc H a m ∧ m ≤ mmax ∧ It' H it xs ∧ it ≠ a ∧ 0 < xs.length ∧ xs.length ≤ 1000 ∧
  ∀ (H' : Hp) (i : Nat) (x : V), xs[i]? = some x → Kp a H H' → Dc H' a (m + 1) → Q x H'
theorem ok_pick {f : Addr} {fd : FuncData} {k : Nat} (F : Fun K "_law_pick" "_law_pick" sPick f fd) (B : Bn mg) (C1 : Cal P w K mg base k "_law_roll" ["dice", "size"] spRoll) :
    FnOk P w K mg base CX0 (k + 1) f fd ["dice", "items"] spPick := by
  obtain ⟨f1, fd1, G1, g1, kp1, b1⟩ := C1
  refine F.ok scPick (fun vs H Q E h => ?_) (fun cdv A outer s H vs Q E hr h => ?_)
  · obtain ⟨a, it, xs, m, rfl, _⟩ := h
    rfl
  · obtain ⟨a, it, xs, m, rfl, hd, hm, hit, hne, h0, h1, q⟩ := h
    refine ⟨_, pss_one (ps_ret (pe_ix ix_seq (pv 1) (pe_call G1 hr (by rfl) g1 kp1 b1 .nil pass0 (pa_cons (pv 0) (pa_cons (pe_callB call_len_seq (by rfl) B.len PySem.boot_len (pa_cons (pv 1) pa_nil)) pa_nil))) (fun _ _ => rfl))), ?_⟩
    refine ⟨.ref it, rfl, .ref a, rfl, .ref it, rfl, it, xs, rfl, hit.sq, a, _, m, rfl, hd, hm, by omega, by omega, fun H' r hk hd' r0 r1 => ?_⟩
    have hlt : r.toNat < xs.length := by omega
    have er : r = ((r.toNat : Nat) : Int) := by omega
    rw [er]
    exact (hit.kp hk hne).ix (List.getElem?_eq_getElem hlt) (q H' _ _ (List.getElem?_eq_getElem hlt) hk hd')
/-! ### _law_mixed, of texts -/
theorem scMixed : FnScope ["dice", "items", "left", "found"] ["dice", "items"] (defScope sMixed) := ⟨rfl, rfl, rfl, by decide +kernel, rfl, by decide +kernel, by decide +kernel⟩
def spMixed : Sp := fun vs H Q _ => ∃ (a it : Addr) (l : List Str) (m : Nat), vs = [.ref a, .ref it] ∧ Dc H a m ∧ m + l.length ≤ mmax ∧ It' H it (l.map V.str) ∧ it ≠ a ∧ l.length ≤ 1000 ∧ (∀ z ∈ l, PyData.strOk z = true) ∧
  ∀ H' p r, List.Perm r l → Kp a H H' → Dc H' a (m + l.length) → H p = none → H' p = some (.lst (r.map V.str)) → Q (.ref p) H'
theorem erase_perm : ∀ {α : Type} {l : List α} {k : Nat} {x : α}, l[k]? = some x → List.Perm (x :: l.eraseIdx k) l
  | _, [], k, x, h => by simp at h
  | _, y :: r, 0, x, h => by
    have e : y = x := Option.some.inj h
    subst e
    exact List.Perm.refl _
  | _, y :: r, k + 1, x, h => by
    have ih := erase_perm (l := r) (k := k) (x := x) h
    show List.Perm (x :: y :: r.eraseIdx k) (y :: r)
    exact (List.Perm.swap y x _).trans (List.Perm.cons y ih)
theorem map_erase {α β : Type} (f : α → β) : ∀ (l : List α) (k : Nat), (l.map f).eraseIdx k = (l.eraseIdx k).map f
  | [], _ => rfl
  | _ :: _, 0 => rfl
  | x :: r, k + 1 => by
    show f x :: (r.map f).eraseIdx k = f x :: (r.eraseIdx k).map f
    rw [map_erase f r k]
theorem ok_mixed {f : Addr} {fd : FuncData} {k : Nat} (F : Fun K "_law_mixed" "_law_mixed" sMixed f fd) (B : Bn mg) (C1 : Cal P w K mg base k "_law_roll" ["dice", "size"] spRoll) :
    FnOk P w K mg base CX0 (k + 1) f fd ["dice", "items"] spMixed := by
  obtain ⟨f1, fd1, G1, g1, kp1, b1⟩ := C1
  refine F.ok scMixed (fun vs H Q E h => ?_) (fun cdv A outer s H vs Q E hr h => ?_)
  · obtain ⟨a, it, l, m, rfl, _⟩ := h
    rfl
  · obtain ⟨a, it, l, m, rfl, hd, hm, hit, hne, hlen, hok, q⟩ := h
    refine ⟨_, pss_cons (ps_par (i := 2) (j := 3) (by rfl) scMixed.nd rfl rfl (by decide) rfl rfl (pa_cons (pe_callTy call_list_of (by rfl) B.list (by decide +kernel) (pa_cons (pv 1) pa_nil)) (pa_cons (pe_lst pa_nil) pa_nil)) (by rfl))
      (pss_cons (ps_while PassesOwn.never (pt_cmpR (op_neD hr.units) (pv 2) (pe_lst pa_nil) (nomark _))
        (pss_one (ps_expr (pe_bm PySem.F.plainAttrs_list PySem.F.slot_list_append PySem.F.type_list_append mt_append (pv 3) (pa_cons
          (pe_bm PySem.F.plainAttrs_list PySem.F.slot_list_pop PySem.F.type_list_pop mt_popAt (pv 2) (pa_cons
            (pe_call G1 hr (by rfl) g1 kp1 b1 .nil pass0 (pa_cons (pv 0) (pa_cons (pe_callB call_len_seq (by rfl) B.len PySem.boot_len (pa_cons (pv 2) pa_nil)) pa_nil))) pa_nil)) pa_nil)))))
      (pss_one (ps_ret (pv 3)))), ?_⟩
    refine ⟨.ref it, rfl, it, l.map V.str, rfl, hit.sq, fun lf nlf => ⟨Nat.zero_le _, fun fo nfo => ⟨_, _, rfl, ?_⟩⟩⟩
    have nla : lf ≠ a := hd.new nlf
    have s1 := same_upd (o := .lst (l.map V.str)) nlf
    have s2 := s1.trans (same_upd (o := .lst []) nfo)
    have nfa : fo ≠ a := (hd.same s1).new nfo
    have nlo : lf ≠ fo := ne_of_none upd_same nfo
    refine while_by (fun σ H3 => ∃ (lf' r : List Str), σ = [some (.ref a), some (.ref it), some (.ref lf), some (.ref fo)] ∧ H3 lf = some (.lst (lf'.map V.str)) ∧ H3 fo = some (.lst (r.map V.str)) ∧
        List.Perm (r ++ lf') l ∧ Kp a H H3 ∧ Dc H3 a (m + r.length))
      (fun _ H3 => match H3 lf with
        | some (.lst xs) => xs.length
        | _ => 0) ?_ ?_ ?_
    · refine ⟨l, [], rfl, ?_, upd_same, List.Perm.refl _, Kp.of s2, (hd.same s2).mono (Nat.le_add_right _ _)⟩
      rw [upd_ne nlo, upd_same]
    · rintro σ H3 ⟨lf', r, rfl, hl3, hf3, hp, hk, hd3⟩
      have hpl := hp.length_eq
      rw [List.length_append] at hpl
      have hok' : ∀ z ∈ lf', PyData.strOk z = true := fun z hz => hok z (hp.subset (List.mem_append_right _ hz))
      refine ⟨.ref lf, rfl, Nat.zero_le _, fun t nt => ?_⟩
      have s4 := same_upd (o := .lst []) nt
      refine ⟨_, _, .lst (sql (s4 _ _ hl3)) (all_strs lf'), .lst (sql upd_same) .nil, shL (flat_strs lf' hok'), rfl, _, rfl, ?_⟩
      cases lf' with
      | nil =>
        refine iteF ⟨.ref fo, rfl, ?_⟩
        rw [List.append_nil] at hp
        refine q _ fo r hp (hk.trans (Kp.of s4)) ?_ (s1.free nfo) (s4 _ _ hf3)
        have := (hd3.same s4)
        rw [hp.length_eq] at this
        exact this
      | cons x rest =>
        refine iteT ⟨.ref fo, rfl, .inl ⟨rfl, _, .inl (.inl (s4 _ _ hf3))⟩, .ref lf, rfl, .inl ⟨rfl, _, .inl (.inl (s4 _ _ hl3))⟩, ?_⟩
        refine ⟨.ref a, rfl, .ref lf, rfl, lf, _, rfl, .inl (sql (s4 _ _ hl3)), a, _, _, rfl, hd3.same s4, ?_, ?_, ?_, fun H5 i hk5 hd5 i0 i1 => ?_⟩
        · rw [List.length_cons] at hpl
          omega
        · rw [List.length_map, List.length_cons]
          omega
        · rw [List.length_map]
          rw [List.length_cons] at hpl ⊢
          omega
        rw [List.length_map] at i1
        have hlt : i.toNat < (x :: rest).length := by omega
        have hl5 := hk5 _ _ nla (s4 _ _ hl3)
        have hf5 := hk5 _ _ nfa (s4 _ _ hf3)
        generalize hall : x :: rest = all at *
        have hy : all[i.toNat]? = some all[i.toNat] := List.getElem?_eq_getElem hlt
        refine ⟨lf, _, i, i.toNat, .str all[i.toNat], rfl, rfl, hl5, by omega, by omega, ?_, ?_, ?_⟩
        · rw [List.length_map]
          unfold seqIndex?
          rw [if_neg (show ¬ i < 0 by omega)]
          show (if (decide (0 ≤ i) && decide (i < all.length)) = true then some i.toNat else none) = some i.toNat
          rw [decide_eq_true i0, decide_eq_true (show i < (all.length : Int) by omega)]
          rfl
        · exact get_map hlt
        · have hf6 : (upd H5 lf (.lst ((all.map V.str).eraseIdx i.toNat))) fo = some (.lst (r.map V.str)) := by
            rw [upd_ne nlo.symm]
            exact hf5
          refine ⟨fo, _, _, rfl, rfl, hf6, ?_, ?_, ?_⟩
          · rw [List.length_map]
            exact small1000 (by omega)
          · refine ⟨all.eraseIdx i.toNat, r ++ [all[i.toNat]], rfl, ?_, ?_, ?_, ?_, ?_⟩
            · rw [upd_ne nlo, upd_same, map_erase]
            · rw [upd_same, List.map_append]
              rfl
            · rw [List.append_assoc]
              exact ((erase_perm hy).append_left r).trans hp
            · intro b o nb e
              have n1 : b ≠ fo := ne_of_none (s1 _ _ e) nfo
              have n2 : b ≠ lf := ne_of_none e nlf
              rw [upd_ne n1, upd_ne n2]
              exact hk5 _ _ nb (s4 _ _ (hk _ _ nb e))
            · obtain ⟨u1, u2, u3, e, v0, v1⟩ := hd5
              refine ⟨u1, u2, u3, ?_, v0, ?_⟩
              · rw [upd_ne nfa.symm, upd_ne nla.symm]
                exact e
              · rw [List.length_append]
                show u3 ≤ ((m + (r.length + 1) : Nat) : Int)
                omega
          · rw [upd_ne nlo, upd_same, hl3]
            show ((all.map V.str).eraseIdx i.toNat).length < (all.map V.str).length
            rw [List.length_eraseIdx, List.length_map, if_pos hlt]
            omega
    · intro σ H3 Q1 Q2 hm h
      obtain ⟨v, e1, h1, h2⟩ := h
      refine ⟨v, e1, h1, fun p hp => ?_⟩
      obtain ⟨d, e, c1, c2, c3, c4, k', c5, c6⟩ := h2 p hp
      exact ⟨d, e, c1, c2, c3, c4, k', c5, hm _ _ c6⟩
end
end Sfl

namespace Sfl
open PySem PySem.Spec PyProof.Rows L2
structure Pool (l : List Str) : Prop where
  len : l.length = 4
  nm : ∀ z ∈ l, Nm z = true
  nd : l.Nodup
theorem pool1 : Pool ["a", "b", "c", "d"] := ⟨rfl, by decide +kernel, by decide +kernel⟩
theorem pool2 : Pool ["a", "ab", "b", "ba"] := ⟨rfl, by decide +kernel, by decide +kernel⟩
theorem pool3 : Pool ["log", "logs", "none", "yes"] := ⟨rfl, by decide +kernel, by decide +kernel⟩
theorem pool4 : Pool ["p", "q", "zzzzzzzz", "r"] := ⟨rfl, by decide +kernel, by decide +kernel⟩
/-- letters as they are drawn -/
structure Lt (ls : List Str) (top : Nat) : Prop where
  pos : 0 < ls.length
  len : ls.length ≤ top
  le4 : ls.length ≤ 4
  nm : ∀ z ∈ ls, Nm z = true
  nd : ls.Nodup
  so : sortedS ls = true
theorem pool_of {H : Hp} {t1 t2 t3 t4 : Addr} {i : Nat} {x : V} (h1 : Tp H t1 ["a", "b", "c", "d"]) (h2 : Tp H t2 ["a", "ab", "b", "ba"]) (h3 : Tp H t3 ["log", "logs", "none", "yes"]) (h4 : Tp H t4 ["p", "q", "zzzzzzzz", "r"])
    (h : [V.ref t1, .ref t2, .ref t3, .ref t4][i]? = some x) : ∃ t l, x = .ref t ∧ Tp H t l ∧ Pool l := by
  match i, h with
  | 0, h => exact ⟨t1, _, (Option.some.inj h).symm, h1, pool1⟩
  | 1, h => exact ⟨t2, _, (Option.some.inj h).symm, h2, pool2⟩
  | 2, h => exact ⟨t3, _, (Option.some.inj h).symm, h3, pool3⟩
  | 3, h => exact ⟨t4, _, (Option.some.inj h).symm, h4, pool4⟩
theorem int_of {i : Nat} {x : V} (h : [V.int 0, .int 1, .int 1, .int 1, .int 2, .int 2, .int 3][i]? = some x) : ∃ j : Nat, x = .int (j : Nat) ∧ j ≤ 3 := by
  match i, h with
  | 0, h => exact ⟨0, (Option.some.inj h).symm, by decide⟩
  | 1, h => exact ⟨1, (Option.some.inj h).symm, by decide⟩
  | 2, h => exact ⟨1, (Option.some.inj h).symm, by decide⟩
  | 3, h => exact ⟨1, (Option.some.inj h).symm, by decide⟩
  | 4, h => exact ⟨2, (Option.some.inj h).symm, by decide⟩
  | 5, h => exact ⟨2, (Option.some.inj h).symm, by decide⟩
  | 6, h => exact ⟨3, (Option.some.inj h).symm, by decide⟩
section
variable {P : Program} {w : World} {K : PySem.W.Frag} {mg : Str → Option Value} {base : Heap}
theorem scLetters : FnScope ["dice", "top", "pools", "pool"] ["dice", "top"] (defScope sLetters) := ⟨rfl, rfl, rfl, by decide +kernel, rfl, by decide +kernel, by decide +kernel⟩
def spLetters : Sp := fun vs H Q _ => ∃ (a : Addr) (top m : Nat), vs = [.ref a, .int (top : Nat)] ∧ Dc H a m ∧ m + 6 ≤ mmax ∧ 1 ≤ top ∧ top ≤ 4 ∧
  ∀ H' p ls, Lt ls top → Kp a H H' → Dc H' a (m + 6) → H p = none → Tp H' p ls → Q (.ref p) H'
theorem ok_letters {f : Addr} {fd : FuncData} {k : Nat} (F : Fun K "_law_letters" "_law_letters" sLetters f fd) (B : Bn mg)
    (C1 : Cal P w K mg base k "_law_pick" ["dice", "items"] spPick) (C2 : Cal P w K mg base k "_law_mixed" ["dice", "items"] spMixed) :
    FnOk P w K mg base CX0 (k + 1) f fd ["dice", "top"] spLetters := by
  obtain ⟨f1, fd1, G1, g1, kp1, b1⟩ := C1
  obtain ⟨f2, fd2, G2, g2, kp2, b2⟩ := C2
  refine F.ok scLetters (fun vs H Q E h => ?_) (fun cdv A outer s H vs Q E hr h => ?_)
  · obtain ⟨a, top, m, rfl, _⟩ := h
    rfl
  · obtain ⟨a, top, m, rfl, hd, hm, ht1, ht4, q⟩ := h
    refine ⟨_, pss_cons (ps_set (i := 2) scLetters.nd rfl (.inl rfl) (pe_lst (pa_cons (pe_tup (pa_cons pe_str (pa_cons pe_str (pa_cons pe_str (pa_cons pe_str pa_nil)))))
          (pa_cons (pe_tup (pa_cons pe_str (pa_cons pe_str (pa_cons pe_str (pa_cons pe_str pa_nil)))))
          (pa_cons (pe_tup (pa_cons pe_str (pa_cons pe_str (pa_cons pe_str (pa_cons pe_str pa_nil))))) pa_nil)))))
      (pss_cons (ps_set (i := 2) scLetters.nd rfl (.inl rfl) (pe_op op_cat (pv 2) (pe_lst (pa_cons (pe_tup (pa_cons pe_str (pa_cons pe_str (pa_cons pe_str (pa_cons pe_str pa_nil))))) pa_nil))))
      (pss_cons (ps_set (i := 3) scLetters.nd rfl (.inl rfl) (pe_call G2 hr (by rfl) g2 kp2 b2 .nil pass0 (pa_cons (pv 0) (pa_cons (pe_call G1 hr (by rfl) g1 kp1 b1 .nil pass0 (pa_cons (pv 0) (pa_cons (pv 2) pa_nil))) pa_nil))))
      (pss_one (ps_ret (pe_callTy call_tuple_of (by rfl) B.tuple (by decide +kernel) (pa_cons (pe_callB cr_sortedS (by rfl) B.sorted (by decide +kernel) (pa_cons
        (pe_slice sl_list (pv 3) po_none (po_some (pe_op op_add pe_int (pe_callB (call_min2 rfl) (by rfl) B.min (by decide +kernel) (pa_cons (pe_op op_sub (pv 1) pe_int)
          (pa_cons (pe_call G1 hr (by rfl) g1 kp1 b1 .nil pass0 (pa_cons (pv 0) (pa_cons (pe_lst (pa_cons pe_int (pa_cons pe_int (pa_cons pe_int (pa_cons pe_int (pa_cons pe_int (pa_cons pe_int (pa_cons pe_int pa_nil)))))))) pa_nil))) pa_nil)))))) pa_nil)) pa_nil)))))), ?_⟩
    have h4 : 4 ≤ sizeLine := by decide
    -- pools
    refine ⟨h4, fun t1 n1 => ⟨h4, fun t2 n2 => ⟨h4, fun t3 n3 => ⟨(show 3 ≤ sizeLine by decide), fun pl npl => ?_⟩⟩⟩⟩
    have s1 := same_upd (o := .tup [.str "a", .str "b", .str "c", .str "d"]) n1
    have s2 := same_upd (o := .tup [.str "a", .str "ab", .str "b", .str "ba"]) n2
    have s3 := same_upd (o := .tup [.str "log", .str "logs", .str "none", .str "yes"]) n3
    have s4 := same_upd (o := .lst [.ref t1, .ref t2, .ref t3]) npl
    have s14 := s1.trans (s2.trans (s3.trans s4))
    refine ⟨.ref pl, rfl, h4, fun t4 n4 => ⟨(show 1 ≤ sizeLine by decide), fun l1 nl1 => ?_⟩⟩
    have s5 := same_upd (o := .tup [.str "p", .str "q", .str "zzzzzzzz", .str "r"]) n4
    have s6 := same_upd (o := .lst [.ref t4]) nl1
    refine ⟨pl, l1, [.ref t1, .ref t2, .ref t3], [.ref t4], rfl, rfl, s6 _ _ (s5 _ _ upd_same), upd_same, h4, fun pp npp => ?_⟩
    have s7 := same_upd (o := .lst ([.ref t1, .ref t2, .ref t3] ++ [.ref t4])) npp
    have sA := s14.trans (s5.trans (s6.trans s7))
    have e1 := s7 _ _ (s6 _ _ (s5 _ _ (s4 _ _ (s3 _ _ (s2 _ _ (upd_same (H := H) (a := t1) (o := .tup [.str "a", .str "b", .str "c", .str "d"])))))))
    have e2 := s7 _ _ (s6 _ _ (s5 _ _ (s4 _ _ (s3 _ _ (upd_same (a := t2) (o := .tup [.str "a", .str "ab", .str "b", .str "ba"]))))))
    have e3 := s7 _ _ (s6 _ _ (s5 _ _ (s4 _ _ (upd_same (a := t3) (o := .tup [.str "log", .str "logs", .str "none", .str "yes"])))))
    have e4 := s7 _ _ (s6 _ _ (upd_same (a := t4) (o := .tup [.str "p", .str "q", .str "zzzzzzzz", .str "r"])))
    have dA := hd.same sA
    have npa : pp ≠ a := (hd.same (s14.trans (s5.trans s6))).new npp
    generalize hHA : upd _ pp _ = HA at *
    have epp : HA pp = some (.lst [.ref t1, .ref t2, .ref t3, .ref t4]) := by
      rw [← hHA]
      exact upd_same
    -- pool
    refine ⟨.ref a, rfl, .ref a, rfl, .ref pp, rfl, a, pp, _, m, rfl, dA, by omega, .inl epp, npa, (show 0 < 4 by decide), (show 4 ≤ 1000 by decide), fun HB i x hx kB dB => ?_⟩
    obtain ⟨t, l, rfl, ht, pl'⟩ := pool_of (kB.tup dA e1) (kB.tup dA e2) (kB.tup dA e3) (kB.tup dA e4) hx
    refine ⟨a, t, l, m + 1, rfl, dB, by rw [pl'.len]; omega, .inr ht, dB.ne ht, by rw [pl'.len]; decide, fun z hz => nm_ok (pl'.nm z hz), fun HC p r hp kC dC np hr => ?_⟩
    have npaC : p ≠ a := dB.new np
    rw [pl'.len] at dC
    -- the slice
    refine ⟨.ref p, rfl, ?_⟩
    refine ⟨.int (top : Nat), rfl, (top : Int), 1, rfl, rfl, .ref a, rfl, (show 7 ≤ sizeLine by decide), fun l7 nl7 => ?_⟩
    have s8 := same_upd (o := .lst [.int 0, .int 1, .int 1, .int 1, .int 2, .int 2, .int 3]) nl7
    refine ⟨a, l7, _, m + 1 + 4, rfl, dC.same s8, by omega, .inl upd_same, dC.new nl7, (show 0 < 7 by decide), (show 7 ≤ 1000 by decide), fun HD i2 x2 hx2 kD dD => ?_⟩
    obtain ⟨j, rfl, hj⟩ := int_of hx2
    have hpD := kD p _ npaC (s8 _ _ hr)
    generalize hkk : 1 + min (top - 1) j = kk
    refine ⟨_, _, rfl, 1, _, rfl, rfl, ((kk : Nat) : Int), ?_, p, _, rfl, sql hpD, fun p9 n9 => ?_⟩
    · show V.int (1 + (if ((j : Nat) : Int) < ((top : Nat) : Int) - 1 then ((j : Nat) : Int) else ((top : Nat) : Int) - 1)) = V.int ((kk : Nat) : Int)
      congr 1
      split <;> omega
    have hrl : r.length = 4 := hp.length_eq.trans pl'.len
    have hk1 : 1 ≤ kk := by omega
    have hkt : kk ≤ top := by omega
    have hk4 : kk ≤ 4 := by omega
    rw [cut_take _ _ (by rw [List.length_map, hrl]; exact hk4), ← List.map_take]
    refine ⟨p9, r.take kk, rfl, sql upd_same, ?_, fun ys p10 perm so n10 => ?_⟩
    · rw [List.length_take]
      omega
    refine ⟨p10, _, rfl, .inl ⟨sql upd_same, fun p11 n11 => ?_⟩⟩
    have s9 := (same_upd (o := .lst ((r.take kk).map V.str)) n9).trans ((same_upd (o := .lst (ys.map V.str)) n10).trans (same_upd (o := .tup (ys.map V.str)) n11))
    have kAll : Kp a H HD := (Kp.of sA).trans (kB.trans (kC.trans ((Kp.of s8).trans kD)))
    have n11' : p11 ≠ a := by
      have := ((dD.same (same_upd (o := .lst ((r.take kk).map V.str)) n9)).same (same_upd (o := .lst (ys.map V.str)) n10)).new n11
      exact this
    refine q _ p11 ys ?_ (kAll.trans (Kp.of s9)) (dD.same s9) ?_ upd_same
    · have hl : ys.length = kk := by
        rw [perm.length_eq, List.length_take]
        omega
      have hsub : ∀ z ∈ ys, z ∈ l := fun z hz => hp.subset (List.mem_of_mem_take (perm.subset hz))
      exact ⟨by omega, by omega, by omega, fun z hz => pl'.nm z (hsub z hz), perm.nodup_iff.mpr ((hp.nodup_iff.mpr pl'.nd).sublist (List.take_sublist kk r)), so⟩
    · refine kAll.new hd ?_ n11'
      have := ((same_upd (o := .lst ((r.take kk).map V.str)) n9).trans (same_upd (o := .lst (ys.map V.str)) n10)).free n11
      exact this
end
end Sfl

namespace Sfl
open PySem PySem.Spec PyProof.Rows L2
section
variable {P : Program} {w : World} {K : PySem.W.Frag} {mg : Str → Option Value} {base : Heap}
theorem mmax_le {m : Nat} (h : m ≤ mmax) : m ≤ 1000000 := h
/-! ### _law_log -/
theorem scLog : FnScope ["dice", "letters", "top", "turn"] ["dice", "letters", "top"] (defScope sLog) := ⟨rfl, rfl, rfl, by decide +kernel, rfl, by decide +kernel, by decide +kernel⟩
def spLog : Sp := fun vs H Q _ => ∃ (a lt : Addr) (ls : List Str) (top m : Nat), vs = [.ref a, .ref lt, .int (top : Nat)] ∧ Dc H a m ∧ m + top + 1 ≤ mmax ∧ Tp H lt ls ∧ 0 < ls.length ∧ ls.length ≤ 1000 ∧ top ≤ 1000 ∧
  ∀ H' p l, l.length ≤ top → (∀ z ∈ l, z ∈ ls) → Kp a H H' → Dc H' a (m + top + 1) → H p = none → Tp H' p l → Q (.ref p) H'
theorem ok_log {f : Addr} {fd : FuncData} {k : Nat} (F : Fun K "_law_log" "_law_log" sLog f fd) (B : Bn mg)
    (C1 : Cal P w K mg base k "_law_pick" ["dice", "items"] spPick) (C2 : Cal P w K mg base k "_law_roll" ["dice", "size"] spRoll) :
    FnOk P w K mg base CX0 (k + 1) f fd ["dice", "letters", "top"] spLog := by
  obtain ⟨f1, fd1, G1, g1, kp1, b1⟩ := C1
  obtain ⟨f2, fd2, G2, g2, kp2, b2⟩ := C2
  refine F.ok scLog (fun vs H Q E h => ?_) (fun cdv A outer s H vs Q E hr h => ?_)
  · obtain ⟨a, lt, ls, top, m, rfl, _⟩ := h
    rfl
  · obtain ⟨a, lt, ls, top, m, rfl, hd, hm, hlt, h0, h1, htop, q⟩ := h
    refine ⟨_, pss_one (ps_ret (pe_callTy call_tuple_of (by rfl) B.tuple (by decide +kernel) (pa_cons
        (pe_lc (own := [("turn", 3)]) (g := gName 3) (tt := tYes) rfl scLog.nd (pi_range1 rfl B.range (pa_cons (pe_call G2 hr (by rfl) g2 kp2 b2 .nil pass0 (pa_cons (pv 0) (pa_cons (pe_op op_add (pv 2) pe_int) pa_nil))) pa_nil))
          (blkOk_by (own := [("turn", 3)]) (N := ["dice", "letters", "top", "turn"]) (sc := defScope sLog) (by decide +kernel))
          (fun _ _ _ _ _ => pg_name (i := 3) scLog.nd rfl (Or.inl rfl)) (fun _ _ _ _ _ => pts_nil)
          (fun _ _ _ _ _ => pe_call G1 hr (by rfl) g1 kp1 b1 .nil pass0 (pa_cons (pv 0) (pa_cons (pv 1) pa_nil)))) pa_nil))), ?_⟩
    refine ⟨.ref a, rfl, .int (top : Nat), rfl, (top : Int), 1, rfl, rfl, a, (top : Int) + 1, m, rfl, hd, by omega, by omega, by omega, fun H1 r k1 d1 r0 r1 => ?_⟩
    refine ⟨r, rfl, by omega, by omega, fun D nD => ?_⟩
    have nDa : D ≠ a := d1.new nD
    refine lc_range (lo := 0) (n := r.toNat) (fun i H4 => ∃ l : List Str, H4 D = some (.lst (l.map V.str)) ∧ l.length = i ∧ (∀ z ∈ l, z ∈ ls) ∧ Kp a H1 H4 ∧ Dc H4 a (m + 1 + i)) ?_ ?_ ?_
    · exact ⟨[], upd_same, rfl, (fun z hz => by cases hz), Kp.of (same_upd nD), d1.same (same_upd nD)⟩
    · rintro i H4 hi ⟨l, hD, hl, hsub, hk, hd4⟩
      have hltt : Tp H4 lt ls := hk.tup d1 (k1.tup hd hlt)
      refine ⟨rfl, .ref a, rfl, .ref lt, rfl, a, lt, _, m + 1 + i, rfl, hd4, by omega, .inr hltt, hd4.ne hltt, by rw [List.length_map]; exact h0, by rw [List.length_map]; exact h1, fun H5 j x hx k5 d5 => ?_⟩
      obtain ⟨z, hz, rfl⟩ := get_map' hx
      have hD5 := k5 _ _ nDa hD
      refine ⟨_, hD5, ?_, l ++ [z], ?_, ?_, ?_, ?_, ?_⟩
      · rw [List.length_map]
        exact small1000 (by omega)
      · rw [upd_same, List.map_append]
        rfl
      · rw [List.length_append, hl]
        rfl
      · intro y hy
        rcases List.mem_append.mp hy with hy | hy
        · exact hsub y hy
        · rw [List.mem_singleton.mp hy]
          exact List.mem_of_getElem? hz
      · intro b o nb e
        rw [upd_ne (ne_of_none e nD)]
        exact k5 _ _ nb (hk _ _ nb e)
      · obtain ⟨u1, u2, u3, e, v0, v1⟩ := d5
        exact ⟨u1, u2, u3, by rw [upd_ne nDa.symm]; exact e, v0, by omega⟩
    · rintro H4 ⟨l, hD, hl, hsub, hk, hd4⟩
      refine ⟨D, _, rfl, .inl ⟨sql hD, fun p np => ?_⟩⟩
      have npa : p ≠ a := hd4.new np
      refine q _ p l (by omega) hsub ((k1.trans hk).trans (Kp.of (same_upd np))) ((hd4.same (same_upd np)).mono (by omega)) ((k1.trans hk).new hd np npa) upd_same

end
end Sfl
namespace Sfl
open PySem
abbrev Ms := List (Str × Bool)
def mE (ms : Ms) : List Str := ms.map (·.1)
def mB : Ms → List Str
  | [] => []
  | (x, true) :: r => x :: mB r
  | (_, false) :: r => mB r
def mK : Ms → Nat → List Nat
  | [], _ => []
  | (_, true) :: r, i => i :: mK r (i + 1)
  | (_, false) :: r, i => mK r (i + 1)
def mC : Ms → Nat
  | [] => 0
  | (_, true) :: r => mC r
  | (_, false) :: r => mC r + 1
def row : List (Nat × Str) → Nat → List Str
  | [], _ => []
  | (h, y) :: r, g => if h = g then y :: row r g else row r g
def offs (l : List Str) : Ms := l.map fun y => (y, false)
def idm (l : List Str) : Ms := l.map fun y => (y, true)
def gm : List Str → List (Nat × Str) → Nat → Ms
  | [], ins, g => offs (row ins g)
  | x :: xs, ins, g => offs (row ins g) ++ (x, true) :: gm xs ins (g + 1)
def io : Ms → Nat → List (Nat × Str)
  | [], _ => []
  | (_, true) :: r, g => io r (g + 1)
  | (y, false) :: r, g => (g, y) :: io r g
def comp : Ms → Ms → Ms
  | _, [] => []
  | a, (y, false) :: r => (y, false) :: comp a r
  | [], (y, true) :: r => (y, true) :: comp [] r
  | (_, b) :: a, (y, true) :: r => (y, b) :: comp a r

theorem mB_append : ∀ a b : Ms, mB (a ++ b) = mB a ++ mB b
  | [], _ => rfl
  | (x, true) :: r, b => by
    show x :: mB (r ++ b) = x :: (mB r ++ mB b)
    rw [mB_append r b]
  | (_, false) :: r, b => mB_append r b
theorem mE_append (a b : Ms) : mE (a ++ b) = mE a ++ mE b := List.map_append
theorem mC_append : ∀ a b : Ms, mC (a ++ b) = mC a + mC b
  | [], b => (Nat.zero_add _).symm
  | (x, true) :: r, b => mC_append r b
  | (_, false) :: r, b => by
    show mC (r ++ b) + 1 = mC r + 1 + mC b
    rw [mC_append r b]
    omega
theorem mK_append : ∀ (a b : Ms) (i : Nat), mK (a ++ b) i = mK a i ++ mK b (i + a.length)
  | [], b, i => rfl
  | (x, true) :: r, b, i => by
    show i :: mK (r ++ b) (i + 1) = i :: (mK r (i + 1) ++ mK b (i + (r.length + 1)))
    rw [mK_append r b (i + 1), show i + 1 + r.length = i + (r.length + 1) by omega]
  | (_, false) :: r, b, i => by
    show mK (r ++ b) (i + 1) = mK r (i + 1) ++ mK b (i + (r.length + 1))
    rw [mK_append r b (i + 1), show i + 1 + r.length = i + (r.length + 1) by omega]
theorem mB_offs : ∀ l : List Str, mB (offs l) = []
  | [] => rfl
  | _ :: r => mB_offs r
theorem mC_offs : ∀ l : List Str, mC (offs l) = l.length
  | [] => rfl
  | _ :: r => by
    show mC (offs r) + 1 = r.length + 1
    rw [mC_offs r]
theorem mB_idm : ∀ l : List Str, mB (idm l) = l
  | [] => rfl
  | x :: r => by
    show x :: mB (idm r) = x :: r
    rw [mB_idm r]
theorem mE_idm (l : List Str) : mE (idm l) = l := by
  unfold mE idm
  rw [List.map_map]
  exact List.map_id _
theorem mE_offs (l : List Str) : mE (offs l) = l := by
  unfold mE offs
  rw [List.map_map]
  exact List.map_id _
theorem mC_idm : ∀ l : List Str, mC (idm l) = 0
  | [] => rfl
  | _ :: r => mC_idm r
theorem mB_gm : ∀ (l : List Str) (ins : List (Nat × Str)) (g : Nat), mB (gm l ins g) = l
  | [], ins, g => mB_offs _
  | x :: xs, ins, g => by
    show mB (offs (row ins g) ++ (x, true) :: gm xs ins (g + 1)) = _
    rw [mB_append, mB_offs]
    show x :: mB (gm xs ins (g + 1)) = _
    rw [mB_gm xs ins (g + 1)]
theorem row_none : ∀ (ins : List (Nat × Str)) (g : Nat), (∀ p ∈ ins, p.1 ≠ g) → row ins g = []
  | [], _, _ => rfl
  | (h, y) :: r, g, k => by
    unfold row
    rw [if_neg (k (h, y) List.mem_cons_self)]
    exact row_none r g fun p hp => k p (List.mem_cons_of_mem _ hp)
theorem gm_skip (h : Nat) (y : Str) (ins : List (Nat × Str)) : ∀ (l : List Str) (g : Nat), h < g → gm l ((h, y) :: ins) g = gm l ins g
  | [], g, hl => by
    show offs (row ((h, y) :: ins) g) = _
    rw [show row ((h, y) :: ins) g = row ins g from if_neg (Nat.ne_of_lt hl)]
    rfl
  | x :: xs, g, hl => by
    show offs (row ((h, y) :: ins) g) ++ (x, true) :: gm xs ((h, y) :: ins) (g + 1) = _
    rw [show row ((h, y) :: ins) g = row ins g from if_neg (Nat.ne_of_lt hl), gm_skip h y ins xs (g + 1) (Nat.lt_succ_of_lt hl)]
    rfl
theorem gm_cons (y : Str) (ins : List (Nat × Str)) (l : List Str) (g : Nat) : gm l ((g, y) :: ins) g = (y, false) :: gm l ins g := by
  cases l with
  | nil =>
    show offs (row ((g, y) :: ins) g) = _
    rw [show row ((g, y) :: ins) g = y :: row ins g from if_pos rfl]
    rfl
  | cons x xs =>
    show offs (row ((g, y) :: ins) g) ++ (x, true) :: gm xs ((g, y) :: ins) (g + 1) = _
    rw [show row ((g, y) :: ins) g = y :: row ins g from if_pos rfl, gm_skip g y ins xs (g + 1) (Nat.lt_succ_self _)]
    rfl
theorem io_gap : ∀ (ms : Ms) (g : Nat), ∀ p ∈ io ms g, g ≤ p.1 ∧ p.1 ≤ g + (mB ms).length
  | [], _, p, h => by cases h
  | (_, true) :: r, g, p, h => by
    have := io_gap r (g + 1) p h
    show g ≤ p.1 ∧ p.1 ≤ g + ((mB r).length + 1)
    omega
  | (y, false) :: r, g, p, h => by
    show g ≤ p.1 ∧ p.1 ≤ g + (mB r).length
    rcases List.mem_cons.mp h with h | h
    · subst h
      exact ⟨Nat.le_refl _, Nat.le_add_right _ _⟩
    · exact io_gap r g p h
theorem gm_io : ∀ (ms : Ms) (g : Nat), gm (mB ms) (io ms g) g = ms
  | [], _ => rfl
  | (x, true) :: r, g => by
    show offs (row (io r (g + 1)) g) ++ (x, true) :: gm (mB r) (io r (g + 1)) (g + 1) = _
    rw [row_none _ _ (fun p hp => by have := io_gap r (g + 1) p hp; omega), gm_io r (g + 1)]
    rfl
  | (y, false) :: r, g => by
    show gm (mB r) ((g, y) :: io r g) g = _
    rw [gm_cons, gm_io r g]
theorem io_len : ∀ (ms : Ms) (g : Nat), (io ms g).length = mC ms
  | [], _ => rfl
  | (_, true) :: r, g => io_len r (g + 1)
  | (_, false) :: r, g => by
    show (io r g).length + 1 = mC r + 1
    rw [io_len r g]
theorem io_mem : ∀ (ms : Ms) (g : Nat), ∀ p ∈ io ms g, p.2 ∈ mE ms
  | [], _, p, h => by cases h
  | (_, true) :: r, g, p, h => List.mem_cons_of_mem _ (io_mem r (g + 1) p h)
  | (y, false) :: r, g, p, h => by
    rcases List.mem_cons.mp h with h | h
    · subst h
      exact List.mem_cons_self
    · exact List.mem_cons_of_mem _ (io_mem r g p h)
theorem row_len : ∀ (ins : List (Nat × Str)) (g : Nat), (∀ p ∈ ins, p.1 = g) → (row ins g).length = ins.length
  | [], _, _ => rfl
  | (h, y) :: r, g, k => by
    rw [show row ((h, y) :: r) g = y :: row r g from if_pos (k (h, y) List.mem_cons_self)]
    show (row r g).length + 1 = r.length + 1
    rw [row_len r g fun p hp => k p (List.mem_cons_of_mem _ hp)]
/-- those that are not of the gap g -/
def oth : List (Nat × Str) → Nat → List (Nat × Str)
  | [], _ => []
  | (h, y) :: r, g => if h = g then oth r g else (h, y) :: oth r g
theorem oth_len : ∀ (ins : List (Nat × Str)) (g : Nat), (row ins g).length + (oth ins g).length = ins.length
  | [], _ => rfl
  | (h, y) :: r, g => by
    have ih := oth_len r g
    unfold row oth
    by_cases e : h = g
    · rw [if_pos e, if_pos e]
      show (row r g).length + 1 + (oth r g).length = r.length + 1
      omega
    · rw [if_neg e, if_neg e]
      show (row r g).length + ((oth r g).length + 1) = r.length + 1
      omega
theorem oth_mem : ∀ (ins : List (Nat × Str)) (g : Nat), ∀ p ∈ oth ins g, p ∈ ins ∧ p.1 ≠ g
  | [], _, p, h => by cases h
  | (h, y) :: r, g, p, k => by
    unfold oth at k
    by_cases e : h = g
    · rw [if_pos e] at k
      have := oth_mem r g p k
      exact ⟨List.mem_cons_of_mem _ this.1, this.2⟩
    · rw [if_neg e] at k
      rcases List.mem_cons.mp k with k | k
      · subst k
        exact ⟨List.mem_cons_self, e⟩
      · have := oth_mem r g p k
        exact ⟨List.mem_cons_of_mem _ this.1, this.2⟩
theorem row_oth : ∀ (ins : List (Nat × Str)) (g k : Nat), k ≠ g → row (oth ins g) k = row ins k
  | [], _, _, _ => rfl
  | (h, y) :: r, g, k, n => by
    unfold oth
    by_cases e : h = g
    · rw [if_pos e, row_oth r g k n]
      exact (if_neg (by omega)).symm
    · rw [if_neg e]
      show (if h = k then y :: row (oth r g) k else row (oth r g) k) = (if h = k then y :: row r k else row r k)
      rw [row_oth r g k n]
theorem gm_oth : ∀ (l : List Str) (ins : List (Nat × Str)) (g k : Nat), g < k → gm l (oth ins g) k = gm l ins k
  | [], ins, g, k, h => by
    show offs (row (oth ins g) k) = _
    rw [row_oth ins g k (by omega)]
    rfl
  | x :: xs, ins, g, k, h => by
    show offs (row (oth ins g) k) ++ (x, true) :: gm xs (oth ins g) (k + 1) = _
    rw [row_oth ins g k (by omega), gm_oth xs ins g (k + 1) (by omega)]
    rfl
theorem mC_gm : ∀ (l : List Str) (ins : List (Nat × Str)) (g : Nat), (∀ p ∈ ins, g ≤ p.1 ∧ p.1 ≤ g + l.length) → mC (gm l ins g) = ins.length
  | [], ins, g, h => by
    show mC (offs (row ins g)) = _
    rw [mC_offs, row_len ins g fun p hp => ?_]
    have h1 := h p hp
    simp only [List.length_nil] at h1
    omega
  | x :: xs, ins, g, h => by
    show mC (offs (row ins g) ++ (x, true) :: gm xs ins (g + 1)) = _
    rw [mC_append, mC_offs]
    show _ + mC (gm xs ins (g + 1)) = _
    rw [← gm_oth xs ins g (g + 1) (Nat.lt_succ_self _), mC_gm xs (oth ins g) (g + 1) fun p hp => ?_, oth_len]
    obtain ⟨h1, h2⟩ := oth_mem ins g p hp
    have := h p h1
    rw [List.length_cons] at this
    omega
theorem mE_len (ms : Ms) : (mE ms).length = ms.length := List.length_map _
theorem len_BC : ∀ ms : Ms, (mB ms).length + mC ms = ms.length
  | [] => rfl
  | (_, true) :: r => by
    have := len_BC r
    show (mB r).length + 1 + mC r = r.length + 1
    omega
  | (_, false) :: r => by
    have := len_BC r
    show (mB r).length + (mC r + 1) = r.length + 1
    omega
theorem mK_len : ∀ (ms : Ms) (i : Nat), (mK ms i).length = (mB ms).length
  | [], _ => rfl
  | (_, true) :: r, i => by
    show (mK r (i + 1)).length + 1 = (mB r).length + 1
    rw [mK_len r (i + 1)]
  | (_, false) :: r, i => mK_len r (i + 1)
theorem mK_rng : ∀ (ms : Ms) (i : Nat), ∀ n ∈ mK ms i, i ≤ n ∧ n < i + ms.length
  | [], _, n, h => by cases h
  | (_, true) :: r, i, n, h => by
    show i ≤ n ∧ n < i + (r.length + 1)
    rcases List.mem_cons.mp h with h | h
    · omega
    · have := mK_rng r (i + 1) n h
      omega
  | (_, false) :: r, i, n, h => by
    show i ≤ n ∧ n < i + (r.length + 1)
    have := mK_rng r (i + 1) n h
    omega
theorem mK_asc : ∀ (ms : Ms) (i : Nat), (mK ms i).Pairwise (· < ·)
  | [], _ => .nil
  | (_, true) :: r, i => .cons (fun n hn => by have := mK_rng r (i + 1) n hn; omega) (mK_asc r (i + 1))
  | (_, false) :: r, i => mK_asc r (i + 1)
theorem mK_get : ∀ (ms : Ms) (i j n : Nat), (mK ms i)[j]? = some n → ∃ x, (mB ms)[j]? = some x ∧ (mE ms)[n - i]? = some x
  | [], _, j, n, h => by simp [mK] at h
  | (x, true) :: r, i, 0, n, h => by
    have e : i = n := Option.some.inj h
    subst e
    exact ⟨x, rfl, by rw [Nat.sub_self]; rfl⟩
  | (x, true) :: r, i, j + 1, n, h => by
    have h' : (mK r (i + 1))[j]? = some n := h
    obtain ⟨y, h1, h2⟩ := mK_get r (i + 1) j n h'
    have := mK_rng r (i + 1) n (List.mem_of_getElem? h')
    refine ⟨y, h1, ?_⟩
    rw [show n - i = (n - (i + 1)) + 1 by omega]
    exact h2
  | (x, false) :: r, i, j, n, h => by
    have h' : (mK r (i + 1))[j]? = some n := h
    obtain ⟨y, h1, h2⟩ := mK_get r (i + 1) j n h'
    have := mK_rng r (i + 1) n (List.mem_of_getElem? h')
    refine ⟨y, h1, ?_⟩
    rw [show n - i = (n - (i + 1)) + 1 by omega]
    exact h2
theorem mem_mK : ∀ (ms : Ms) (i n : Nat), n ∈ mK ms i ↔ i ≤ n ∧ ∃ x, ms[n - i]? = some (x, true)
  | [], i, n => by simp [mK]
  | (x, b) :: r, i, n => by
    have ih := mem_mK r (i + 1) n
    have rest : n ≠ i → (((i + 1 ≤ n ∧ ∃ x, r[n - (i + 1)]? = some (x, true)) ↔ (i ≤ n ∧ ∃ x', ((x, b) :: r)[n - i]? = some (x', true)))) := fun ne => by
      constructor
      · rintro ⟨h1, y, h2⟩
        refine ⟨by omega, y, ?_⟩
        rw [show n - i = (n - (i + 1)) + 1 by omega]
        exact h2
      · rintro ⟨h1, y, h2⟩
        refine ⟨by omega, y, ?_⟩
        rw [show n - i = (n - (i + 1)) + 1 by omega] at h2
        exact h2
    cases b with
    | true =>
      show n ∈ i :: mK r (i + 1) ↔ _
      rw [List.mem_cons, ih]
      by_cases e : n = i
      · subst e
        exact ⟨fun _ => ⟨Nat.le_refl _, x, by rw [Nat.sub_self]; rfl⟩, fun _ => .inl rfl⟩
      · rw [← rest e]
        exact ⟨fun h => h.elim (fun z => absurd z e) id, .inr⟩
    | false =>
      show n ∈ mK r (i + 1) ↔ _
      rw [ih]
      by_cases e : n = i
      · subst e
        refine ⟨fun h => absurd h.1 (by omega), ?_⟩
        rintro ⟨_, y, h⟩
        rw [Nat.sub_self] at h
        cases (Option.some.inj (show some (x, false) = some (y, true) from h))
      · exact rest e
theorem ms_ext : ∀ (a b : Ms) (i : Nat), mE a = mE b → mK a i = mK b i → a = b
  | [], [], _, _, _ => rfl
  | [], _ :: _, _, h, _ => by cases h
  | _ :: _, [], _, h, _ => by cases h
  | (x, p) :: a, (y, q) :: b, i, h, k => by
    obtain ⟨e1, e2⟩ := List.cons.inj (show x :: mE a = y :: mE b from h)
    subst e1
    have no : ∀ (r : Ms), i ∉ mK r (i + 1) := fun r z => by have := mK_rng r (i + 1) i z; omega
    cases p <;> cases q
    · rw [ms_ext a b (i + 1) e2 k]
    · have k' : mK a (i + 1) = i :: mK b (i + 1) := k
      exact absurd (by rw [k']; exact List.mem_cons_self) (no a)
    · have k' : i :: mK a (i + 1) = mK b (i + 1) := k
      exact absurd (by rw [← k']; exact List.mem_cons_self) (no b)
    · have k' : i :: mK a (i + 1) = i :: mK b (i + 1) := k
      rw [ms_ext a b (i + 1) e2 (List.cons.inj k').2]
/-! ### one behind the other -/
theorem mE_comp : ∀ (a b : Ms), mE a = mB b → mE (comp a b) = mE b
  | a, [], _ => by cases a <;> rfl
  | a, (y, false) :: r, h => by
    have e : comp a ((y, false) :: r) = (y, false) :: comp a r := by cases a <;> rfl
    rw [e]
    show y :: mE (comp a r) = y :: mE r
    rw [mE_comp a r h]
  | [], (y, true) :: r, h => by cases h
  | (x, b) :: a, (y, true) :: r, h => by
    show y :: mE (comp a r) = y :: mE r
    rw [mE_comp a r (List.cons.inj h).2]
theorem mB_comp : ∀ (a b : Ms), mE a = mB b → mB (comp a b) = mB a
  | a, [], h => by
    cases a with
    | nil => rfl
    | cons _ _ => cases h
  | a, (y, false) :: r, h => by
    have e : comp a ((y, false) :: r) = (y, false) :: comp a r := by cases a <;> rfl
    rw [e]
    exact mB_comp a r h
  | [], (y, true) :: r, h => by cases h
  | (x, b) :: a, (y, true) :: r, h => by
    obtain ⟨e1, e2⟩ := List.cons.inj (show x :: mE a = y :: mB r from h)
    subst e1
    have ih := mB_comp a r e2
    cases b
    · exact ih
    · show x :: mB (comp a r) = x :: mB a
      rw [ih]
theorem mC_comp : ∀ (a b : Ms), mE a = mB b → mC (comp a b) = mC a + mC b
  | a, [], h => by
    cases a with
    | nil => rfl
    | cons _ _ => cases h
  | a, (y, false) :: r, h => by
    have e : comp a ((y, false) :: r) = (y, false) :: comp a r := by cases a <;> rfl
    rw [e]
    show mC (comp a r) + 1 = mC a + (mC r + 1)
    rw [mC_comp a r h]
    omega
  | [], (y, true) :: r, h => by cases h
  | (x, b) :: a, (y, true) :: r, h => by
    obtain ⟨e1, e2⟩ := List.cons.inj (show x :: mE a = y :: mB r from h)
    have ih := mC_comp a r e2
    cases b
    · show mC (comp a r) + 1 = mC a + 1 + mC r
      omega
    · exact ih
theorem comp_assoc : ∀ (a b c : Ms), mE a = mB b → mE b = mB c → comp (comp a b) c = comp a (comp b c)
  | a, b, [], h, k => by
    have e : ∀ z : Ms, comp z [] = [] := fun z => by cases z <;> rfl
    rw [e, e, e]
  | a, b, (y, false) :: r, h, k => by
    have e : ∀ z : Ms, comp z ((y, false) :: r) = (y, false) :: comp z r := fun z => by cases z <;> rfl
    have e' : ∀ z : Ms, comp z ((y, false) :: comp b r) = (y, false) :: comp z (comp b r) := fun z => by cases z <;> rfl
    rw [e, e, e', comp_assoc a b r h k]
  | a, [], (y, true) :: r, h, k => by cases k
  | a, (x, false) :: b, (y, true) :: r, h, k => by
    have e : comp a ((x, false) :: b) = (x, false) :: comp a b := by cases a <;> rfl
    have e' : ∀ t : Ms, comp a ((y, false) :: t) = (y, false) :: comp a t := fun t => by cases a <;> rfl
    rw [e]
    show (y, false) :: comp (comp a b) r = comp a ((y, false) :: comp b r)
    rw [e', comp_assoc a b r h (List.cons.inj k).2]
  | [], (x, true) :: b, (y, true) :: r, h, k => by cases h
  | (z, q) :: a, (x, true) :: b, (y, true) :: r, h, k => by
    show (y, q) :: comp (comp a b) r = (y, q) :: comp a (comp b r)
    rw [comp_assoc a b r (List.cons.inj h).2 (List.cons.inj k).2]
theorem comp_idl : ∀ (ms : Ms) (l : List Str), l = mB ms → comp (idm l) ms = ms
  | [], _, h => by
    subst h
    rfl
  | (y, false) :: r, l, h => by
    have e : comp (idm l) ((y, false) :: r) = (y, false) :: comp (idm l) r := by cases l <;> rfl
    rw [e, comp_idl r l h]
  | (y, true) :: r, l, h => by
    subst h
    show (y, true) :: comp (idm (mB r)) r = _
    rw [comp_idl r (mB r) rfl]
theorem comp_idr : ∀ ms : Ms, comp ms (idm (mE ms)) = ms
  | [] => rfl
  | (x, b) :: r => by
    show (x, b) :: comp r (idm (mE r)) = _
    rw [comp_idr r]
theorem mK_comp : ∀ (a b : Ms) (i : Nat), mE a = mB b → mK (comp a b) i = (mK a 0).map fun n => (mK b i).getD n 0
  | a, [], i, h => by
    cases a with
    | nil => rfl
    | cons _ _ => cases h
  | a, (y, false) :: r, i, h => by
    have e : comp a ((y, false) :: r) = (y, false) :: comp a r := by cases a <;> rfl
    rw [e]
    exact mK_comp a r (i + 1) h
  | [], (y, true) :: r, i, h => by cases h
  | (x, b) :: a, (y, true) :: r, i, h => by
    have ih := mK_comp a r (i + 1) (List.cons.inj h).2
    have sh : ∀ (a : Ms) (k : Nat), mK a (k + 1) = (mK a k).map (· + 1) := by
      intro a
      induction a with
      | nil => intro k; rfl
      | cons p a iha =>
        intro k
        obtain ⟨z, q⟩ := p
        cases q
        · exact iha (k + 1)
        · show (k + 1) :: mK a (k + 1 + 1) = (k + 1) :: (mK a (k + 1)).map (· + 1)
          rw [iha (k + 1)]
    have e : (mK a 1).map (fun n => (i :: mK r (i + 1)).getD n 0) = (mK a 0).map fun n => (mK r (i + 1)).getD n 0 := by
      rw [sh a 0, List.map_map]
      rfl
    cases b
    · show mK (comp a r) (i + 1) = (mK a 1).map (fun n => (i :: mK r (i + 1)).getD n 0)
      rw [e, ih]
    · show i :: mK (comp a r) (i + 1) = i :: (mK a 1).map (fun n => (i :: mK r (i + 1)).getD n 0)
      rw [e, ih]
end Sfl
namespace Sfl
open PySem
/-! ### the first way as a mask -/
def gmk : List Str → List Str → Ms
  | [], o => offs o
  | _ :: _, [] => []
  | x :: xs, y :: ys => if y = x then (y, true) :: gmk xs ys else (y, false) :: gmk (x :: xs) ys
theorem gmk_nil (o : List Str) : gmk [] o = offs o := by
  cases o <;> rfl
theorem gmk_E : ∀ l o : List Str, mE (gmk l o) = o
  | [], o => by
    rw [gmk_nil]
    exact mE_offs o
  | _ :: _, [] => rfl
  | x :: xs, y :: ys => by
    unfold gmk
    by_cases e : y = x
    · rw [if_pos e]
      show y :: mE (gmk xs ys) = _
      rw [gmk_E xs ys]
    · rw [if_neg e]
      show y :: mE (gmk (x :: xs) ys) = _
      rw [gmk_E (x :: xs) ys]
theorem mK_offs : ∀ (o : List Str) (i : Nat), mK (offs o) i = []
  | [], _ => rfl
  | _ :: r, i => mK_offs r (i + 1)
theorem gmk_K : ∀ (l o : List Str) (i : Nat), mK (gmk l o) i = gr l o i
  | [], o, i => by
    rw [gr_nil, gmk_nil]
    exact mK_offs o i
  | x :: xs, [], i => rfl
  | x :: xs, y :: ys, i => by
    unfold gmk gr
    by_cases e : y = x
    · rw [if_pos e, if_pos e]
      show i :: mK (gmk xs ys) (i + 1) = _
      rw [gmk_K xs ys (i + 1)]
    · rw [if_neg e, if_neg e]
      show mK (gmk (x :: xs) ys) (i + 1) = _
      rw [gmk_K (x :: xs) ys (i + 1)]
theorem gmk_B : ∀ l o : List Str, l.Sublist o → mB (gmk l o) = l
  | [], o, _ => by
    rw [gmk_nil]
    exact mB_offs o
  | x :: xs, [], h => by cases h
  | x :: xs, y :: ys, h => by
    unfold gmk
    by_cases e : y = x
    · subst e
      rw [if_pos rfl]
      show y :: mB (gmk xs ys) = _
      rw [gmk_B xs ys (List.cons_sublist_cons.mp h)]
    · rw [if_neg e]
      show mB (gmk (x :: xs) ys) = _
      refine gmk_B (x :: xs) ys ?_
      cases h with
      | cons _ h => exact h
      | cons_cons _ h => exact absurd rfl e
theorem mB_sub : ∀ ms : Ms, (mB ms).Sublist (mE ms)
  | [] => List.nil_sublist _
  | (x, true) :: r => (mB_sub r).cons_cons x
  | (y, false) :: r => (mB_sub r).cons y
theorem gr_full {l o : List Str} (h : l.Sublist o) : (gr l o 0).length = l.length := by
  rw [← gmk_K, mK_len, gmk_B l o h]
/-! ### origins -/
def oP (K : List Nat) (n : Nat) : Option Nat := if n ∈ K then some (K.idxOf n) else none
theorem idx_map {f : Nat → Nat} : ∀ (K : List Nat) (j : Nat), (∀ i ∈ K, f i = f j → i = j) → j ∈ K → (K.map f).idxOf (f j) = K.idxOf j
  | [], j, _, h => by cases h
  | i :: K, j, inj, h => by
    rw [List.map_cons, List.idxOf_cons, List.idxOf_cons]
    by_cases e : i = j
    · subst e
      simp
    · have e2 : ¬ f i = f j := fun z => e (inj i List.mem_cons_self z)
      have hj : j ∈ K := by
        rcases List.mem_cons.mp h with z | z
        · exact absurd z.symm e
        · exact z
      rw [beq_eq_false_iff_ne.mpr e, beq_eq_false_iff_ne.mpr e2, idx_map K j (fun i hi => inj i (List.mem_cons_of_mem _ hi)) hj]
theorem getD_of {K : List Nat} {i n : Nat} (h : K[i]? = some n) : K.getD i 0 = n := by
  rw [List.getD_eq_getElem?_getD, h]
  rfl
theorem get_idx {K : List Nat} {n : Nat} (h : n ∈ K) : K[K.idxOf n]? = some n := by
  have hl := List.idxOf_lt_length_of_mem h
  rw [List.getElem?_eq_getElem hl, List.getElem_idxOf hl]
theorem oP_comp {Ka Kb : List Nat} (nd : Kb.Nodup) (hl : ∀ i ∈ Ka, i < Kb.length) (n : Nat) : oP (Ka.map fun i => Kb.getD i 0) n = (oP Kb n).bind (oP Ka) := by
  have inj : ∀ i j, i < Kb.length → j < Kb.length → Kb.getD i 0 = Kb.getD j 0 → i = j := fun i j hi hj e => by
    rw [getD_of (List.getElem?_eq_getElem hi), getD_of (List.getElem?_eq_getElem hj)] at e
    have pw := List.pairwise_iff_getElem.mp nd
    rcases Nat.lt_trichotomy i j with h | h | h
    · exact absurd e (pw i j hi hj h)
    · exact h
    · exact absurd e.symm (pw j i hj hi h)
  by_cases h : n ∈ Kb
  · have hg := get_idx h
    have hj := List.idxOf_lt_length_of_mem h
    have e1 : oP Kb n = some (Kb.idxOf n) := if_pos h
    rw [e1]
    show _ = oP Ka (Kb.idxOf n)
    have en : Kb.getD (Kb.idxOf n) 0 = n := getD_of hg
    by_cases k : Kb.idxOf n ∈ Ka
    · have m1 : n ∈ Ka.map fun i => Kb.getD i 0 := List.mem_map.mpr ⟨_, k, en⟩
      unfold oP
      rw [if_pos m1, if_pos k]
      have := idx_map (f := fun i => Kb.getD i 0) Ka (Kb.idxOf n) (fun i hi e => inj i _ (hl i hi) hj e) k
      rw [en] at this
      rw [this]
    · have m1 : ¬ n ∈ Ka.map fun i => Kb.getD i 0 := fun z => by
        obtain ⟨i, hi, e⟩ := List.mem_map.mp z
        have := inj i _ (hl i hi) hj (e.trans en.symm)
        rw [this] at hi
        exact k hi
      unfold oP
      rw [if_neg m1, if_neg k]
  · have e1 : oP Kb n = none := if_neg h
    rw [e1]
    have m1 : ¬ n ∈ Ka.map fun i => Kb.getD i 0 := fun z => by
      obtain ⟨i, hi, e⟩ := List.mem_map.mp z
      have hi' := hl i hi
      rw [getD_of (List.getElem?_eq_getElem hi')] at e
      exact h (e ▸ List.getElem_mem hi')
    show oP _ n = none
    exact if_neg m1
theorem mK_nd (ms : Ms) (i : Nat) : (mK ms i).Nodup := (mK_asc ms i).imp fun h => Nat.ne_of_lt h
/-! ### step by step -/
/-- the positions of what was put in -/
def mN : Ms → Nat → List Nat
  | [], _ => []
  | (_, true) :: r, i => mN r (i + 1)
  | (_, false) :: r, i => i :: mN r (i + 1)
theorem mN_len : ∀ (ms : Ms) (i : Nat), (mN ms i).length = mC ms
  | [], _ => rfl
  | (_, true) :: r, i => mN_len r (i + 1)
  | (_, false) :: r, i => by
    show (mN r (i + 1)).length + 1 = mC r + 1
    rw [mN_len r (i + 1)]
theorem mN_append : ∀ (a b : Ms) (i : Nat), mN (a ++ b) i = mN a i ++ mN b (i + a.length)
  | [], b, i => rfl
  | (x, true) :: r, b, i => by
    show mN (r ++ b) (i + 1) = mN r (i + 1) ++ mN b (i + (r.length + 1))
    rw [mN_append r b (i + 1), show i + 1 + r.length = i + (r.length + 1) by omega]
  | (_, false) :: r, b, i => by
    show i :: mN (r ++ b) (i + 1) = i :: (mN r (i + 1) ++ mN b (i + (r.length + 1)))
    rw [mN_append r b (i + 1), show i + 1 + r.length = i + (r.length + 1) by omega]
/-- behind the steps ahead of position n: the first n events, and the kept ones of the rest -/
def wh (ms : Ms) (n : Nat) : Ms := ms.take n ++ idm (mB (ms.drop n))
/-- the step at position n -/
def stp (ms : Ms) (n : Nat) (y : Str) : Ms := idm (mE (ms.take n)) ++ (y, false) :: idm (mB (ms.drop (n + 1)))
def lgs (ms : Ms) (n : Nat) : List Str := mE (ms.take n) ++ mB (ms.drop n)
theorem mE_wh (ms : Ms) (n : Nat) : mE (wh ms n) = lgs ms n := by
  unfold wh lgs
  rw [mE_append, mE_idm]
theorem mB_wh (ms : Ms) (n : Nat) : mB (wh ms n) = mB ms := by
  unfold wh
  rw [mB_append, mB_idm, ← mB_append, List.take_append_drop]
theorem mC_wh (ms : Ms) (n : Nat) : mC (wh ms n) = (mN (ms.take n) 0).length := by
  unfold wh
  rw [mC_append, mC_idm, mN_len]
  rfl
theorem wh_zero (ms : Ms) : wh ms 0 = idm (mB ms) := rfl
theorem wh_all (ms : Ms) (n : Nat) (h : ms.length ≤ n) : wh ms n = ms := by
  unfold wh
  rw [List.take_of_length_le h, List.drop_of_length_le h]
  show ms ++ idm [] = ms
  exact List.append_nil _
theorem drop_at {ms : Ms} {n : Nat} {p : Str × Bool} (h : ms[n]? = some p) : ms.drop n = p :: ms.drop (n + 1) := by
  obtain ⟨hl, e⟩ := List.getElem?_eq_some_iff.mp h
  rw [List.drop_eq_getElem_cons hl, e]
theorem take_at {ms : Ms} {n : Nat} {p : Str × Bool} (h : ms[n]? = some p) : ms.take (n + 1) = ms.take n ++ [p] := by
  obtain ⟨hl, e⟩ := List.getElem?_eq_some_iff.mp h
  rw [← List.take_append_getElem hl, e]
theorem wh_kept {ms : Ms} {n : Nat} {x : Str} (h : ms[n]? = some (x, true)) : wh ms (n + 1) = wh ms n := by
  unfold wh
  rw [take_at h, drop_at h, List.append_assoc]
  rfl
theorem lgs_kept {ms : Ms} {n : Nat} {x : Str} (h : ms[n]? = some (x, true)) : lgs ms (n + 1) = lgs ms n := by
  rw [← mE_wh, ← mE_wh, wh_kept h]
theorem lgs_put {ms : Ms} {n : Nat} {y : Str} (h : ms[n]? = some (y, false)) : lgs ms n = mE (ms.take n) ++ mB (ms.drop (n + 1)) := by
  unfold lgs
  rw [drop_at h]
  rfl
theorem stp_B {ms : Ms} {n : Nat} {y : Str} (h : ms[n]? = some (y, false)) : mB (stp ms n y) = lgs ms n := by
  unfold stp
  rw [mB_append, mB_idm, lgs_put h]
  show _ ++ mB (idm (mB (ms.drop (n + 1)))) = _
  rw [mB_idm]
theorem stp_E {ms : Ms} {n : Nat} {y : Str} (h : ms[n]? = some (y, false)) : mE (stp ms n y) = lgs ms (n + 1) := by
  unfold stp lgs
  rw [mE_append, mE_idm, take_at h, mE_append, List.append_assoc]
  show _ ++ y :: mE (idm (mB (ms.drop (n + 1)))) = _
  rw [mE_idm]
  rfl
theorem stp_C (ms : Ms) (n : Nat) (y : Str) : mC (stp ms n y) = 1 := by
  unfold stp
  rw [mC_append, mC_idm]
  show 0 + (mC (idm (mB (ms.drop (n + 1)))) + 1) = 1
  rw [mC_idm]
theorem comp_app : ∀ (a b c d : Ms), mE a = mB c → comp (a ++ b) (c ++ d) = comp a c ++ comp b d
  | a, b, [], d, h => by
    cases a with
    | nil => rfl
    | cons _ _ => cases h
  | a, b, (y, false) :: r, d, h => by
    have e : ∀ z t : Ms, comp z ((y, false) :: t) = (y, false) :: comp z t := fun z t => by cases z <;> rfl
    rw [List.cons_append, e, e, comp_app a b r d h]
    rfl
  | [], b, (y, true) :: r, d, h => by cases h
  | (x, q) :: a, b, (y, true) :: r, d, h => by
    show (y, q) :: comp (a ++ b) (r ++ d) = (y, q) :: (comp a r ++ comp b d)
    rw [comp_app a b r d (List.cons.inj h).2]
theorem wh_step {ms : Ms} {n : Nat} {y : Str} (h : ms[n]? = some (y, false)) : comp (wh ms n) (stp ms n y) = wh ms (n + 1) := by
  unfold wh stp
  rw [drop_at h, take_at h, comp_app _ _ _ _ (by rw [mB_idm])]
  rw [comp_idr]
  show ms.take n ++ comp (idm (mB (ms.drop (n + 1)))) ((y, false) :: idm (mB (ms.drop (n + 1)))) = _
  have e : ∀ z t : Ms, comp z ((y, false) :: t) = (y, false) :: comp z t := fun z t => by cases z <;> rfl
  rw [e, comp_idl _ _ (by rw [mB_idm]), List.append_assoc]
  rfl
theorem gm_app : ∀ (a b : List Str) (ins : List (Nat × Str)) (g : Nat), (∀ p ∈ ins, g + a.length ≤ p.1) → gm (a ++ b) ins g = idm a ++ gm b ins (g + a.length)
  | [], b, ins, g, h => rfl
  | x :: a, b, ins, g, h => by
    show offs (row ins g) ++ (x, true) :: gm (a ++ b) ins (g + 1) = _
    rw [row_none ins g fun p hp => by have := h p hp; rw [List.length_cons] at this; omega, gm_app a b ins (g + 1) fun p hp => by have := h p hp; rw [List.length_cons] at this; omega]
    show (x, true) :: (idm a ++ gm b ins (g + 1 + a.length)) = (x, true) :: (idm a ++ gm b ins (g + (a.length + 1)))
    rw [show g + 1 + a.length = g + (a.length + 1) by omega]
theorem gm_nil : ∀ (l : List Str) (g : Nat), gm l [] g = idm l
  | [], _ => rfl
  | x :: r, g => by
    show (x, true) :: gm r [] (g + 1) = _
    rw [gm_nil r (g + 1)]
    rfl
theorem gm_step {ms : Ms} {n : Nat} {y : Str} (h : ms[n]? = some (y, false)) : gm (lgs ms n) [(n, y)] 0 = stp ms n y := by
  have hl : (mE (ms.take n)).length = n := by
    rw [mE_len, List.length_take]
    have := (List.getElem?_eq_some_iff.mp h).1
    omega
  rw [lgs_put h, gm_app _ _ _ _ (fun p hp => by
    rw [List.mem_singleton.mp hp, hl]
    exact Nat.le_of_eq (Nat.zero_add _)), hl]
  show idm (mE (ms.take n)) ++ gm (mB (ms.drop (n + 1))) [(n, y)] (0 + n) = _
  rw [Nat.zero_add, gm_cons, gm_nil]
  rfl
theorem stp_K {ms : Ms} {n : Nat} {y : Str} (h : ms[n]? = some (y, false)) : n ∉ mK (stp ms n y) 0 := fun z => by
  have hl : (idm (mE (ms.take n))).length = n := by
    show ((mE (ms.take n)).map _).length = n
    rw [List.length_map, mE_len, List.length_take]
    have := (List.getElem?_eq_some_iff.mp h).1
    omega
  obtain ⟨_, x, e⟩ := (mem_mK _ 0 n).mp z
  unfold stp at e
  rw [Nat.sub_zero, List.getElem?_append_right (by omega), hl, Nat.sub_self] at e
  cases Option.some.inj (show some (y, false) = some (x, true) from e)
/-! ### the places of what stands there -/
def pls (ms : Ms) (n : Nat) : List Nat := List.range n ++ mK (ms.drop n) n
theorem pls_zero (ms : Ms) : pls ms 0 = mK ms 0 := rfl
theorem pls_kept {ms : Ms} {n : Nat} {x : Str} (h : ms[n]? = some (x, true)) : pls ms (n + 1) = pls ms n := by
  unfold pls
  rw [drop_at h, List.range_succ, List.append_assoc]
  rfl
theorem pls_put {ms : Ms} {n : Nat} {y : Str} (h : ms[n]? = some (y, false)) : (pls ms (n + 1)).Perm (pls ms n ++ [n]) := by
  unfold pls
  rw [drop_at h, List.range_succ, List.append_assoc]
  show (List.range n ++ ([n] ++ mK (ms.drop (n + 1)) (n + 1))).Perm (List.range n ++ mK (ms.drop (n + 1)) (n + 1) ++ [n])
  rw [List.append_assoc]
  exact (List.perm_append_comm).append_left _
theorem pls_asc (ms : Ms) (n : Nat) : (pls ms n).Pairwise (· < ·) := by
  unfold pls
  rw [List.pairwise_append]
  refine ⟨List.pairwise_lt_range, mK_asc _ _, fun a ha b hb => ?_⟩
  have := List.mem_range.mp ha
  have := mK_rng _ _ b hb
  omega
theorem pls_idx (ms : Ms) (n : Nat) : (pls ms (n + 1)).idxOf n = n ∧ n ∈ pls ms (n + 1) := by
  unfold pls
  have m1 : n ∈ List.range (n + 1) := List.mem_range.mpr (Nat.lt_succ_self n)
  refine ⟨?_, List.mem_append_left _ m1⟩
  rw [List.idxOf_append, if_pos m1]
  have h := get_idx m1
  have hl := List.idxOf_lt_length_of_mem m1
  rw [List.getElem?_range (by rw [List.length_range] at hl; exact hl)] at h
  exact Option.some.inj h
theorem mK_vals : ∀ (ms : Ms) (i : Nat), (mK ms i).map (fun n => (mE ms).getD (n - i) Str.empty) = mB ms
  | ms, i => by
    apply List.ext_getElem?
    intro j
    rw [List.getElem?_map]
    cases e : (mK ms i)[j]? with
    | none =>
      have : (mB ms)[j]? = none := by
        rw [List.getElem?_eq_none_iff] at e ⊢
        rw [← mK_len ms i]
        exact e
      rw [this]
      rfl
    | some n =>
      obtain ⟨x, h1, h2⟩ := mK_get ms i j n e
      rw [h1]
      show some ((mE ms).getD (n - i) Str.empty) = some x
      rw [List.getD_eq_getElem?_getD, h2]
      rfl
theorem pls_vals (ms : Ms) (n : Nat) (h : n ≤ ms.length) : (pls ms n).map (fun j => (mE ms).getD j Str.empty) = lgs ms n := by
  unfold pls lgs
  rw [List.map_append]
  have e1 : (List.range n).map (fun j => (mE ms).getD j Str.empty) = mE (ms.take n) := by
    apply List.ext_getElem?
    intro j
    rw [List.getElem?_map]
    unfold mE
    rw [List.map_take]
    by_cases hj : j < n
    · rw [List.getElem?_range hj, List.getElem?_take_of_lt hj]
      have hl : j < (ms.map (·.1)).length := by rw [List.length_map]; omega
      rw [List.getElem?_eq_getElem hl]
      show some ((ms.map (·.1)).getD j Str.empty) = _
      rw [List.getD_eq_getElem?_getD, List.getElem?_eq_getElem hl]
      rfl
    · rw [List.getElem?_eq_none (by rw [List.length_range]; omega), List.getElem?_eq_none (by rw [List.length_take]; omega)]
      rfl
  have e2 : (mK (ms.drop n) n).map (fun j => (mE ms).getD j Str.empty) = mB (ms.drop n) := by
    rw [← mK_vals (ms.drop n) n]
    apply List.map_congr_left
    intro j hj
    have := mK_rng _ _ j hj
    rw [List.getD_eq_getElem?_getD, List.getD_eq_getElem?_getD]
    unfold mE
    rw [List.map_drop, List.getElem?_drop, show n + (j - n) = j by omega]
  rw [e1, e2]
/-- the next position of what was put in -/
theorem mN_next : ∀ (k n : Nat) (ms : Ms), ms.length - n = k → n ≤ ms.length → ∀ (v : Nat) (r : List Nat), mN (ms.drop n) n = v :: r →
    ∃ y, ms[v]? = some (y, false) ∧ n ≤ v ∧ wh ms v = wh ms n ∧ pls ms v = pls ms n ∧ r = mN (ms.drop (v + 1)) (v + 1)
  | 0, n, ms, h, hn, v, r, e => by
    rw [List.drop_of_length_le (by omega)] at e
    cases e
  | k + 1, n, ms, h, hn, v, r, e => by
    have hlt : n < ms.length := by omega
    have hg := List.getElem?_eq_getElem hlt
    generalize hp : ms[n] = p at hg
    obtain ⟨x, b⟩ := p
    rw [drop_at hg] at e
    cases b with
    | true =>
      obtain ⟨y, h1, h2, h3, h4, h5⟩ := mN_next k (n + 1) ms (by omega) hlt v r e
      exact ⟨y, h1, by omega, by rw [h3, wh_kept hg], by rw [h4, pls_kept hg], h5⟩
    | false =>
      have e' : n :: mN (ms.drop (n + 1)) (n + 1) = v :: r := e
      obtain ⟨e1, e2⟩ := List.cons.inj e'
      subst e1
      exact ⟨x, hg, Nat.le_refl _, rfl, rfl, e2.symm⟩
theorem mN_last : ∀ (k n : Nat) (ms : Ms), ms.length - n = k → n ≤ ms.length → mN (ms.drop n) n = [] → wh ms n = ms
  | 0, n, ms, h, hn, _ => wh_all ms n (by omega)
  | k + 1, n, ms, h, hn, e => by
    have hlt : n < ms.length := by omega
    have hg := List.getElem?_eq_getElem hlt
    generalize hp : ms[n] = p at hg
    obtain ⟨x, b⟩ := p
    rw [drop_at hg] at e
    cases b with
    | true => rw [← wh_kept hg, mN_last k (n + 1) ms (by omega) hlt e]
    | false => cases e
theorem mN_split (ms : Ms) (n : Nat) (h : n ≤ ms.length) : mN ms 0 = mN (ms.take n) 0 ++ mN (ms.drop n) n := by
  have e := mN_append (ms.take n) (ms.drop n) 0
  rw [List.take_append_drop, List.length_take, Nat.min_eq_left h, Nat.zero_add] at e
  exact e
theorem mN_mem : ∀ (ms : Ms) (i n : Nat), n ∈ mN ms i → i ≤ n ∧ ∃ y, ms[n - i]? = some (y, false)
  | [], i, n, h => by cases h
  | (x, true) :: r, i, n, h => by
    obtain ⟨h1, y, h2⟩ := mN_mem r (i + 1) n h
    refine ⟨by omega, y, ?_⟩
    rw [show n - i = (n - (i + 1)) + 1 by omega]
    exact h2
  | (x, false) :: r, i, n, h => by
    rcases List.mem_cons.mp h with h | h
    · subst h
      exact ⟨Nat.le_refl _, x, by rw [Nat.sub_self]; rfl⟩
    · obtain ⟨h1, y, h2⟩ := mN_mem r (i + 1) n h
      refine ⟨by omega, y, ?_⟩
      rw [show n - i = (n - (i + 1)) + 1 by omega]
      exact h2
/-- what a comprehension with the test «not kept» collects -/
theorem mN_filter : ∀ (ms : Ms) (i : Nat), (List.range' i ms.length).filter (fun n => decide (n ∉ mK ms i)) = mN ms i
  | [], _ => rfl
  | (x, b) :: r, i => by
    have ih := mN_filter r (i + 1)
    have cong : ∀ (Kx : List Nat), (∀ n, i + 1 ≤ n → (n ∈ Kx ↔ n ∈ mK r (i + 1))) → (List.range' (i + 1) r.length).filter (fun n => decide (n ∉ Kx)) = mN r (i + 1) := fun Kx hk => by
      rw [← ih]
      apply List.filter_congr
      intro n hn
      have := List.mem_range'_1.mp hn
      rw [decide_eq_decide]
      exact not_congr (hk n this.1)
    show (List.range' i (r.length + 1)).filter _ = _
    rw [List.range'_succ]
    cases b with
    | true =>
      show List.filter _ (i :: List.range' (i + 1) r.length) = mN r (i + 1)
      rw [List.filter_cons_of_neg (by
        rw [decide_eq_true_iff]
        exact fun z => z List.mem_cons_self)]
      refine cong (i :: mK r (i + 1)) fun n hn => ?_
      rw [List.mem_cons]
      exact ⟨fun h => h.elim (fun z => absurd z (by omega)) id, .inr⟩
    | false =>
      show List.filter _ (i :: List.range' (i + 1) r.length) = i :: mN r (i + 1)
      have ni : i ∉ mK r (i + 1) := fun z => by have := mK_rng r (i + 1) i z; omega
      rw [List.filter_cons]
      refine (if_pos (decide_eq_true ni)).trans ?_
      exact congrArg (i :: ·) (cong (mK r (i + 1)) fun n _ => Iff.rfl)
end Sfl
namespace Sfl
open PySem PySem.Spec PyProof.Rows L2
theorem same_put {H H3 : Hp} {p : Addr} {o : HO} (s : Same H H3) (n : H p = none) : Same H (upd H3 p o) := fun b x e => by
  rw [upd_ne (ne_of_none e n)]
  exact s _ _ e
/-- pairs of a gap and a letter stand at rs -/
def Pl (H : Hp) (rs : List Addr) (ins : List (Nat × Str)) : Prop := rs.length = ins.length ∧ ∀ (i : Nat) (r : Addr) (g : Nat) (y : Str), rs[i]? = some r → ins[i]? = some (g, y) → H r = some (.tup [nV g, .str y])
theorem Pl.same {H H' : Hp} {rs : List Addr} {ins : List (Nat × Str)} (h : Pl H rs ins) (s : Same H H') : Pl H' rs ins := ⟨h.1, fun i r g y a b => s _ _ (h.2 i r g y a b)⟩
theorem Pl.nil {H : Hp} : Pl H [] [] := ⟨rfl, fun i r g y h _ => by simp at h⟩
theorem Pl.snoc {H : Hp} {rs : List Addr} {ins : List (Nat × Str)} {r : Addr} {g : Nat} {y : Str} (h : Pl H rs ins) (e : H r = some (.tup [nV g, .str y])) : Pl H (rs ++ [r]) (ins ++ [(g, y)]) := by
  refine ⟨by rw [List.length_append, List.length_append, h.1]; rfl, fun i r' g' y' h1 h2 => ?_⟩
  by_cases hi : i < rs.length
  · rw [List.getElem?_append_left hi] at h1
    rw [List.getElem?_append_left (by rw [← h.1]; exact hi)] at h2
    exact h.2 i r' g' y' h1 h2
  · have hl := get_lt h1
    rw [List.length_append, List.length_singleton] at hl
    have ei : i = rs.length := by omega
    subst ei
    rw [List.getElem?_append_right (Nat.le_refl _), Nat.sub_self] at h1
    rw [h.1, List.getElem?_append_right (Nat.le_refl _), Nat.sub_self] at h2
    cases Option.some.inj (show some r = some r' from h1)
    cases Option.some.inj (show some (g, y) = some (g', y') from h2)
    exact e
def Ins (H : Hp) (p : Addr) (ins : List (Nat × Str)) : Prop := ∃ rs : List Addr, H p = some (.tup (rs.map V.ref)) ∧ Pl H rs ins
theorem Ins.same {H H' : Hp} {p : Addr} {ins : List (Nat × Str)} (h : Ins H p ins) (s : Same H H') : Ins H' p ins := by
  obtain ⟨rs, h1, h2⟩ := h
  exact ⟨rs, s _ _ h1, h2.same s⟩
theorem row_snoc : ∀ (a : List (Nat × Str)) (g k : Nat) (y : Str), row (a ++ [(g, y)]) k = row a k ++ (if g = k then [y] else [])
  | [], g, k, y => rfl
  | (h, z) :: r, g, k, y => by
    show (if h = k then z :: row (r ++ [(g, y)]) k else row (r ++ [(g, y)]) k) = (if h = k then z :: row r k else row r k) ++ _
    rw [row_snoc r g k y]
    by_cases e : h = k
    · rw [if_pos e, if_pos e]
      rfl
    · rw [if_neg e, if_neg e]
section
variable {P : Program} {w : World} {K : PySem.W.Frag} {mg : Str → Option Value} {base : Heap}
/-! ### is_whole, check_number, check_events -/
theorem scIsWhole : FnScope ["value"] ["value"] (defScope sIsWhole) := ⟨rfl, rfl, rfl, by decide +kernel, rfl, by decide +kernel, by decide +kernel⟩
def spIsWhole : Sp := fun vs H Q _ => ∃ i : Int, vs = [.int i] ∧ Q (.bl true) H
theorem ok_isWhole {f : Addr} {fd : FuncData} {k : Nat} (F : Fun K "is_whole" "is_whole" sIsWhole f fd) (B : Bn mg) : FnOk P w K mg base CX0 (k + 1) f fd ["value"] spIsWhole := by
  refine F.ok scIsWhole (fun vs H Q E h => ?_) (fun cdv A outer s H vs Q E hr h => ?_)
  · obtain ⟨i, rfl, _⟩ := h
    rfl
  · obtain ⟨i, rfl, q⟩ := h
    refine ⟨_, pss_one (ps_ret (pe_and (pe_callB call_isi (by rfl) B.isi (by decide +kernel) (pa_cons (pv 0) (pa_cons (pe_bltn (v := .ty "int") (by rfl) B.int (by decide +kernel) rfl) pa_nil)))
      (pe_one (pe_not (pe_callB call_isi (by rfl) B.isi (by decide +kernel) (pa_cons (pv 0) (pa_cons (pe_bltn (v := .ty "bool") (by rfl) B.bool (by decide +kernel) rfl) pa_nil))))))), ?_⟩
    refine ⟨_, rfl, .int i, .ty "int", _, .type "int", true, rfl, .ty _, .base (.int i), kit_ty (by decide +kernel), _, rfl, iteT ?_⟩
    exact ⟨_, rfl, .int i, .ty "bool", _, .type "bool", false, rfl, .ty _, .base (.int i), kit_ty (by decide +kernel), _, rfl, q⟩
theorem scCheckNumber : FnScope ["value", "least", "most"] ["value", "least", "most"] (defScope sCheckNumber) := ⟨rfl, rfl, rfl, by decide +kernel, rfl, by decide +kernel, by decide +kernel⟩
def spCheckNumber : Sp := fun vs H Q _ => ∃ i lo hi : Int, vs = [.int i, .int lo, .int hi] ∧ lo ≤ i ∧ i ≤ hi ∧ Q .non H
theorem ok_checkNumber {f : Addr} {fd : FuncData} {k : Nat} (F : Fun K "check_number" "check_number" sCheckNumber f fd) (C1 : Cal P w K mg base k "is_whole" ["value"] spIsWhole) : FnOk P w K mg base CX0 (k + 1) f fd ["value", "least", "most"] spCheckNumber := by
  obtain ⟨f1, fd1, G1, g1, kp1, b1⟩ := C1
  refine F.ok scCheckNumber (fun vs H Q E h => ?_) (fun cdv A outer s H vs Q E hr h => ?_)
  · obtain ⟨i, lo, hi, rfl, _⟩ := h
    rfl
  · obtain ⟨i, lo, hi, rfl, h1, h2, q⟩ := h
    refine ⟨_, pss_one (ps_if (PW.pt (pw_or (pt_not (pt_val (pe_call G1 hr (by rfl) g1 kp1 b1 .nil pass0 (pa_cons (pv 0) pa_nil)))) (pw_or1 (pt_not (pt_chain op_le op_le (pv 1) (pv 0) (pv 2))))))
      (pss_one ps_never) pss_nil), ?_⟩
    refine ⟨.int i, rfl, i, rfl, _, rfl, iteF ?_⟩
    refine ⟨.int lo, rfl, .int i, rfl, _, _, rfl, rfl, _, rfl, ?_⟩
    rw [decide_eq_true h1]
    refine iteT ⟨.int hi, rfl, _, _, rfl, rfl, _, rfl, ?_⟩
    rw [decide_eq_true h2]
    exact iteF q
theorem scCheckEvents : FnScope ["many"] ["many"] (defScope sCheckEvents) := ⟨rfl, rfl, rfl, by decide +kernel, rfl, by decide +kernel, by decide +kernel⟩
def spCheckEvents : Sp := fun vs H Q _ => ∃ i : Int, vs = [.int i] ∧ i ≤ 200 ∧ Q .non H
theorem ok_checkEvents {f : Addr} {fd : FuncData} {k : Nat} (F : Fun K "check_events" "check_events" sCheckEvents f fd) (B : Bn mg) : FnOk P w K mg base CX0 (k + 1) f fd ["many"] spCheckEvents := by
  refine F.ok scCheckEvents (fun vs H Q E h => ?_) (fun cdv A outer s H vs Q E hr h => ?_)
  · obtain ⟨i, rfl, _⟩ := h
    rfl
  · obtain ⟨i, rfl, h1, q⟩ := h
    obtain ⟨tS, gS⟩ := B.events
    refine ⟨_, pss_one (ps_if (pt_cmpR op_gt (pv 0) (pe_glob (v := .int 200) rfl gS ⟨_, rfl⟩) (nomark _)) (pss_one ps_never) pss_nil), ?_⟩
    refine ⟨.int i, rfl, _, _, rfl, rfl, _, rfl, ?_⟩
    rw [decide_eq_false (by omega)]
    exact iteF q
/-! ### is_insertion -/
theorem scIsInsertion : FnScope ["log", "value", "gap", "letter"] ["log", "value"] (defScope sIsInsertion) := ⟨rfl, rfl, rfl, by decide +kernel, rfl, by decide +kernel, by decide +kernel⟩
def spIsInsertion : Sp := fun vs H Q _ => ∃ (lo p : Addr) (l : List Str) (g : Nat) (y : Str), vs = [.ref lo, .ref p] ∧ Tp H lo l ∧ H p = some (.tup [nV g, .str y]) ∧ g ≤ l.length ∧ Nm y = true ∧ Q (.bl true) H
theorem ok_isInsertion {f : Addr} {fd : FuncData} {k : Nat} (F : Fun K "is_insertion" "is_insertion" sIsInsertion f fd) (B : Bn mg) (C1 : Cal P w K mg base k "is_whole" ["value"] spIsWhole) (C2 : Cal P w K mg base k "is_name" ["value"] spIsName) :
    FnOk P w K mg base CX0 (k + 1) f fd ["log", "value"] spIsInsertion := by
  obtain ⟨f1, fd1, G1, g1, kp1, b1⟩ := C1
  obtain ⟨f2, fd2, G2, g2, kp2, b2⟩ := C2
  refine F.ok scIsInsertion (fun vs H Q E h => ?_) (fun cdv A outer s H vs Q E hr h => ?_)
  · obtain ⟨lo, p, l, g, y, rfl, _⟩ := h
    rfl
  · obtain ⟨lo, p, l, g, y, rfl, hl, hp, hg, ny, q⟩ := h
    refine ⟨_, pss_cons (ps_if (PW.pt (pw_or (pt_not (pt_val (pe_callB call_isi (by rfl) B.isi (by decide +kernel) (pa_cons (pv 1) (pa_cons (pe_bltn (v := .ty "tuple") (by rfl) B.tuple (by decide +kernel) rfl) pa_nil)))))
        (pw_or1 (pt_cmpR op_ne (pe_callB call_len_seq (by rfl) B.len PySem.boot_len (pa_cons (pv 1) pa_nil)) pe_int (nomark _))))) (pss_one (ps_ret pe_bl)) pss_nil)
      (pss_cons (ps_asg (pv 1) (pg_tup rfl (pgs_cons (pg_name (i := 2) scIsInsertion.nd rfl (.inl rfl)) (pgs_cons (pg_name (i := 3) scIsInsertion.nd rfl (.inl rfl)) pgs_nil))))
      (pss_one (ps_ret (pe_and (pe_call G1 hr (by rfl) g1 kp1 b1 .nil pass0 (pa_cons (pv 2) pa_nil)) (pe_and (pe_chain op_le op_le pe_int (pv 2) (pe_callB call_len_seq (by rfl) B.len PySem.boot_len (pa_cons (pv 0) pa_nil)))
        (pe_one (pe_call G2 hr (by rfl) g2 kp2 b2 .nil pass0 (pa_cons (pv 3) pa_nil)))))))), ?_⟩
    refine ⟨_, rfl, .ref p, .ty "tuple", _, .type "tuple", true, rfl, .ty _, .base (.tup hp), kit_ty (by decide +kernel), _, rfl, iteF ?_⟩
    refine ⟨_, rfl, p, _, rfl, .inr (sqt hp), rfl, _, rfl, ?_⟩
    refine iteF ?_
    refine ⟨.ref p, rfl, p, _, rfl, sqt hp, rfl, _, _, rfl, _, _, rfl, rfl, ?_⟩
    refine ⟨.int (g : Nat), rfl, _, rfl, _, rfl, iteT ?_⟩
    refine ⟨.int (g : Nat), rfl, _, _, rfl, rfl, _, rfl, ?_⟩
    rw [decide_eq_true (show (0 : Int) ≤ (g : Int) by omega)]
    refine iteT ⟨.ref lo, rfl, lo, _, rfl, .inr (sqt hl), _, _, rfl, rfl, _, rfl, ?_⟩
    rw [List.length_map, decide_eq_true (show (g : Int) ≤ ((l.length : Nat) : Int) by omega)]
    refine iteT ⟨.str y, rfl, y, rfl, nm_line ny, ?_⟩
    rw [ny]
    exact q
end
end Sfl
namespace Sfl
open PySem PySem.Spec PyProof.Rows L2
theorem for_enumL {K : PySem.W.Frag} {a : Addr} {xs : List V} {g : TG} {tb : TS} {D : Ends} {σ : L2.St} {H : Hp} (Pv : Nat → L2.St → Hp → Prop) (h0 : Pv 0 σ H) (hl : ∀ i σ H, i ≤ xs.length → Pv i σ H → SqL K H a xs)
    (hs : ∀ (i : Nat) (x : V) (T : Addr) (σ : L2.St) (H : Hp), xs[i]? = some x → Pv i σ H → H T = none →
      g (.ref T) σ (upd H T (.tup [.int (i : Nat), x])) fun σ2 H2 => tb { D with nx := Pv (i + 1), ct := Pv (i + 1), bk := D.nx } σ2 H2)
    (hd : ∀ σ H, Pv xs.length σ H → D.nx σ H) :
    ∃ W : Nat → Nat → L2.St → Hp → Prop, (∃ m, W 0 m σ H) ∧ ∀ i m σ H, W i m σ H →
      ((Ite K a).stop i H ∧ D.nx σ H) ∨ ((Ite K a).go i H ∧ ∃ N : L2.St → Hp → Prop, (∀ σ' H', N σ' H' → ∃ m', m' < m ∧ W (i + 1) m' σ' H') ∧
        ∀ v H', (Ite K a).yld i H v H' → g v σ H' fun σ2 H2 => tb { D with nx := N, ct := N, bk := D.nx } σ2 H2) := by
  refine ⟨fun i m σ H => m = xs.length - i ∧ i ≤ xs.length ∧ Pv i σ H, ⟨xs.length, by simp, Nat.zero_le _, h0⟩, ?_⟩
  rintro i m σ H ⟨rfl, hi, p⟩
  have q := hl i σ H hi p
  by_cases hlt : i < xs.length
  · refine .inr ⟨⟨xs, xs[i], q, by simp [hlt]⟩, Pv (i + 1), fun σ' H' p' => ⟨xs.length - (i + 1), by omega, rfl, hlt, p'⟩, fun v H' y => ?_⟩
    obtain ⟨T, x, rfl, hT, rfl, f⟩ := y
    exact hs i x T σ H (f xs q) p hT
  · have e : i = xs.length := by omega
    subst e
    exact .inl ⟨⟨xs, q, Nat.le_refl _⟩, hd σ H p⟩
/-- the rows of the gaps -/
structure Rw (H : Hp) (R : Addr) (rs : List Addr) (ins : List (Nat × Str)) (n : Nat) : Prop where
  at_ : H R = some (.lst (rs.map V.ref))
  len : rs.length = n
  nd : rs.Nodup
  out : R ∉ rs
  row : ∀ (g : Nat) (r : Addr), rs[g]? = some r → H r = some (.lst ((row ins g).map V.str))
section
variable {P : Program} {w : World} {K : PySem.W.Frag} {mg : Str → Option Value} {base : Heap}
abbrev nGrownBy : List Str := ["log", "insertions", "rows", "_", "gap", "letter", "end", "kept", "at", "row"]
theorem scGrownBy : FnScope nGrownBy ["log", "insertions"] (defScope sGrownBy) := ⟨rfl, rfl, rfl, by decide +kernel, rfl, by decide +kernel, by decide +kernel⟩
def spGrownBy : Sp := fun vs H Q _ => ∃ (lo p : Addr) (l : List Str) (ins : List (Nat × Str)), vs = [.ref lo, .ref p] ∧ Tp H lo l ∧ Ins H p ins ∧ (∀ x ∈ ins, x.1 ≤ l.length) ∧ l.length ≤ 400 ∧ ins.length ≤ 400 ∧
  ∀ H' r e k, Same H H' → H' r = some (.tup [.ref e, .ref k]) → Tp H' e (mE (gm l ins 0)) → Kt H' k ((mK (gm l ins 0) 0).map nV) → Q (.ref r) H'
theorem ok_grownBy {f : Addr} {fd : FuncData} {k : Nat} (F : Fun K "grown" "grown" sGrownBy f fd) (B : Bn mg) : FnOk P w K mg base CX0 (k + 1) f fd ["log", "insertions"] spGrownBy := by
  refine F.ok scGrownBy (fun vs H Q E h => ?_) (fun cdv A outer s H vs Q E hr h => ?_)
  · obtain ⟨lo, p, l, ins, rfl, _⟩ := h
    rfl
  · obtain ⟨lo, p, l, ins, rfl, hl, ⟨rs0, hp, hpl⟩, hgap, hlen, hil, q⟩ := h
    refine ⟨_, pss_cons (ps_setLc (i := 2) (own := [("_", 3)]) (g := gName 3) (tt := tYes) rfl scGrownBy.nd rfl rfl (sw_true rfl rfl rfl (by decide +kernel)) (pi_range1 rfl B.range (pa_cons (pe_op op_add (pe_callB call_len_seq (by rfl) B.len PySem.boot_len (pa_cons (pv 0) pa_nil)) pe_int) pa_nil))
        (blkOk_by (own := [("_", 3)]) (N := nGrownBy) (sc := defScope sGrownBy) (by decide +kernel)) (fun _ _ _ _ _ => pg_name (i := 3) scGrownBy.nd rfl (Or.inl rfl)) (fun _ _ _ _ _ => pts_nil) (fun _ _ _ _ _ => pe_lst pa_nil))
      (pss_cons (ps_for PassesOwn.never rfl (pi_tup (pv 1)) (pg_tup rfl (pgs_cons (pg_name (i := 4) scGrownBy.nd rfl (.inl rfl)) (pgs_cons (pg_name (i := 5) scGrownBy.nd rfl (.inl rfl)) pgs_nil)))
        (pss_one (ps_expr (pe_bm PySem.F.plainAttrs_list PySem.F.slot_list_append PySem.F.type_list_append mt_append (pe_ix ix_list (pv 2) (pv 4) (fun _ _ => rfl)) (pa_cons (pv 5) pa_nil)))))
      (pss_cons (ps_set (i := 6) scGrownBy.nd rfl (.inl rfl) (pe_lst pa_nil))
      (pss_cons (ps_set (i := 7) scGrownBy.nd rfl (.inl rfl) (pe_lst pa_nil))
      (pss_cons (ps_for PassesOwn.never rfl (pi_enum (by rfl) B.enum (pa_cons (pv 2) pa_nil)) (pg_tup rfl (pgs_cons (pg_name (i := 8) scGrownBy.nd rfl (.inl rfl)) (pgs_cons (pg_name (i := 9) scGrownBy.nd rfl (.inl rfl)) pgs_nil)))
        (pss_cons (ps_expr (pe_bm PySem.F.plainAttrs_list PySem.F.slot_list_extend PySem.F.type_list_extend mt_extend (pv 6) (pa_cons (pv 9) pa_nil)))
        (pss_one (ps_if (pt_cmpR op_lt (pv 8) (pe_callB call_len_seq (by rfl) B.len PySem.boot_len (pa_cons (pv 0) pa_nil)) (nomark _))
          (pss_cons (ps_expr (pe_bm PySem.F.plainAttrs_list PySem.F.slot_list_append PySem.F.type_list_append mt_append (pv 7) (pa_cons (pe_callB call_len_seq (by rfl) B.len PySem.boot_len (pa_cons (pv 6) pa_nil)) pa_nil)))
          (pss_one (ps_expr (pe_bm PySem.F.plainAttrs_list PySem.F.slot_list_append PySem.F.type_list_append mt_append (pv 6) (pa_cons (pe_ix ix_tup (pv 0) (pv 8) (fun _ _ => rfl)) pa_nil))))) pss_nil))))
      (pss_one (ps_ret (pe_tup (pa_cons (pe_callTy call_tuple_of (by rfl) B.tuple (by decide +kernel) (pa_cons (pv 6) pa_nil)) (pa_cons (pe_callTy call_tupleF (by rfl) B.tuple (by decide +kernel) (pa_cons (pv 7) pa_nil)) pa_nil)))))))))
      , ?_⟩
    refine ⟨.ref lo, rfl, lo, _, rfl, .inr (sqt hl), _, 1, rfl, rfl, ((l.map V.str).length : Int) + 1, rfl, ?_, ?_, fun D nD => ?_⟩
    · rw [List.length_map]
      omega
    · rw [List.length_map]
      omega
    rw [show (((l.map V.str).length : Int) + 1).toNat = l.length + 1 by rw [List.length_map]; omega]
    refine lc_range (lo := 0) (n := l.length + 1) (fun i H4 => ∃ rs : List Addr, H4 D = some (.lst (rs.map V.ref)) ∧ rs.length = i ∧ rs.Nodup ∧ D ∉ rs ∧ Same H H4 ∧ ∀ r ∈ rs, H r = none ∧ H4 r = some (.lst [])) ?_ ?_ ?_
    · exact ⟨[], upd_same, rfl, List.nodup_nil, (fun z => by cases z), same_upd nD, fun r hr => by cases hr⟩
    · rintro i H4 hi ⟨rs, hD, hrl, hnd, hout, sm, hrs⟩
      refine ⟨rfl, Nat.zero_le _, fun r nr => ?_⟩
      have nDr : D ≠ r := ne_of_none hD nr
      have nin : r ∉ rs := fun z => by
        have := (hrs r z).2
        rw [nr] at this
        cases this
      refine ⟨_, by rw [upd_ne nDr]; exact hD, ?_, rs ++ [r], ?_, ?_, ?_, ?_, ?_, ?_⟩
      · rw [List.length_map]
        exact small1000 (by omega)
      · rw [upd_same, List.map_append]
        rfl
      · rw [List.length_append, hrl]
        rfl
      · rw [List.nodup_append]
        refine ⟨hnd, List.pairwise_singleton _ _, fun a ha b hb => ?_⟩
        rw [List.mem_singleton.mp hb]
        exact fun z => nin (z ▸ ha)
      · intro z
        rcases List.mem_append.mp z with z | z
        · exact hout z
        · exact nDr (List.mem_singleton.mp z)
      · exact same_put (same_put sm (sm.free nr)) nD
      · intro b hb
        rcases List.mem_append.mp hb with hb | hb
        · have nb : b ≠ D := fun z => hout (z ▸ hb)
          have nbr : b ≠ r := fun z => nin (z ▸ hb)
          rw [upd_ne nb, upd_ne nbr]
          exact hrs b hb
        · rw [List.mem_singleton.mp hb]
          rw [upd_ne nDr.symm, upd_same]
          exact ⟨sm.free nr, rfl⟩
    · rintro H4 ⟨rs, hD, hrl, hnd, hout, sm, hrs⟩
      have rw0 : Rw H4 D rs [] (l.length + 1) := ⟨hD, hrl, hnd, hout, fun g r hr => (hrs r (List.mem_of_getElem? hr)).2⟩
      have nrs : ∀ r ∈ rs, H r = none := fun r hr => (hrs r hr).1
      refine ⟨.ref p, rfl, p, rfl, ⟨_, sqt (sm _ _ hp)⟩, ?_⟩
      refine for_tup (xs := rs0.map V.ref) (fun i σ H3 => ∃ y3 y4 y5, σ = [some (.ref lo), some (.ref p), some (.ref D), y3, y4, y5, none, none, none, none] ∧ Rw H3 D rs (ins.take i) (l.length + 1) ∧ Same H H3) ?_ ?_ ?_ ?_
      · exact ⟨none, none, none, rfl, rw0, sm⟩
      · rintro i σ H3 hi ⟨y3, y4, y5, rfl, R, s3⟩
        exact sqt (s3 _ _ hp)
      · rintro i x σ H3 hx ⟨y3, y4, y5, rfl, R, s3⟩
        obtain ⟨r, hr, rfl⟩ := get_map' hx
        have hi : i < ins.length := by rw [← hpl.1]; exact get_lt hr
        have hin := List.getElem?_eq_getElem hi
        generalize hgy : ins[i] = gy at hin
        obtain ⟨g, y⟩ := gy
        have hg : g ≤ l.length := hgap (g, y) (List.mem_of_getElem? hin)
        have hg' : g < rs.length := by rw [hrl]; omega
        have hrg := List.getElem?_eq_getElem hg'
        generalize hrr : rs[g] = q1 at hrg
        have hq1 := R.row g q1 hrg
        refine ⟨r, [nV g, .str y], rfl, sqt (s3 _ _ (hpl.2 i r g y hr hin)), rfl, _, _, rfl, _, _, rfl, rfl, ?_⟩
        refine ⟨.ref D, rfl, nV g, rfl, D, _, _, .ref q1, rfl, rfl, sql R.at_, ?_, .inl ⟨rfl, _, sql hq1⟩, .str y, rfl, q1, _, _, rfl, rfl, hq1, ?_, ?_⟩
        · exact atI_nat (by rw [List.getElem?_map, hrg]; rfl)
        · rw [List.length_map]
          have : (row (ins.take i) g).length ≤ (ins.take i).length := by
            have := oth_len (ins.take i) g
            omega
          rw [List.length_take] at this
          exact small1000 (by omega)
        · have et : ins.take (i + 1) = ins.take i ++ [(g, y)] := by rw [← hgy, List.take_append_getElem hi]
          have m1 : q1 ∈ rs := List.mem_of_getElem? hrg
          have nq : D ≠ q1 := fun z => R.out (z ▸ m1)
          refine ⟨_, _, _, rfl, ⟨?_, R.len, R.nd, R.out, fun g' r' hr' => ?_⟩, same_put s3 (nrs q1 m1)⟩
          · rw [upd_ne nq]
            exact R.at_
          · rw [et, row_snoc]
            by_cases e : g = g'
            · subst e
              rw [hrg] at hr'
              cases Option.some.inj hr'
              rw [upd_same, if_pos rfl, List.map_append]
              rfl
            · have ne : r' ≠ q1 := fun z => by
                subst z
                obtain ⟨h1, h2⟩ := List.getElem?_eq_some_iff.mp hr'
                obtain ⟨h3, h4⟩ := List.getElem?_eq_some_iff.mp hrg
                rcases Nat.lt_trichotomy g g' with h | h | h
                · exact (List.pairwise_iff_getElem.mp R.nd) g g' h3 h1 h (h4.trans h2.symm)
                · exact e h
                · exact (List.pairwise_iff_getElem.mp R.nd) g' g h1 h3 h (h2.trans h4.symm)
              rw [upd_ne ne, if_neg e, List.append_nil]
              exact R.row g' r' hr'
      · rintro σ H3 ⟨y3, y4, y5, rfl, R, s3⟩
        rw [List.length_map, hpl.1, List.take_length] at R
        refine ⟨Nat.zero_le _, fun en nen => ⟨Nat.zero_le _, fun ke nke => ?_⟩⟩
        have s4 : Same H3 (upd H3 en (.lst [])) := same_upd nen
        have s5 : Same (upd H3 en (.lst [])) (upd (upd H3 en (.lst [])) ke (.lst [])) := same_upd nke
        have nKE : en ≠ ke := ne_of_none upd_same nke
        have H3D : D ≠ en := ne_of_none R.at_ nen
        have H3K : D ≠ ke := ne_of_none (s4 _ _ R.at_) nke
        have nE : ∀ r ∈ rs, r ≠ en ∧ r ≠ ke := fun r hr => by
          obtain ⟨g, hg, e⟩ := List.mem_iff_getElem.mp hr
          have h1 := R.row g r (by rw [List.getElem?_eq_getElem hg, e])
          exact ⟨ne_of_none h1 nen, ne_of_none (s4 _ _ h1) nke⟩
        have Hen : H en = none := s3.free nen
        have Hke : H ke = none := (s3.trans s4).free nke
        refine ⟨.ref D, rfl, D, _, rfl, sql (s5 _ _ (s4 _ _ R.at_)), ?_⟩
        refine for_enumL (xs := rs.map V.ref) (fun i σ H6 => ∃ y3 y4 y5 y8 y9 pre, σ = [some (.ref lo), some (.ref p), some (.ref D), y3, y4, y5, some (.ref en), some (.ref ke), y8, y9] ∧ Rw H6 D rs ins (l.length + 1) ∧ Same H H6 ∧
            gm l ins 0 = pre ++ (if i ≤ l.length then gm (l.drop i) ins i else []) ∧ H6 en = some (.lst ((mE pre).map V.str)) ∧ H6 ke = some (.lst ((mK pre 0).map nV))) ?_ ?_ ?_ ?_
        · refine ⟨_, _, _, _, _, [], rfl, ⟨s5 _ _ (s4 _ _ R.at_), R.len, R.nd, R.out, fun g r hr => s5 _ _ (s4 _ _ (R.row g r hr))⟩, (s3.trans s4).trans s5, ?_, ?_, upd_same⟩
          · rw [if_pos (Nat.zero_le _)]
            rfl
          · rw [upd_ne nKE, upd_same]
            rfl
        · rintro i σ H6 hi ⟨y3, y4, y5, y8, y9, pre, rfl, R6, s6, _⟩
          exact sql R6.at_
        · rintro i x T σ H6 hx ⟨y3, y4, y5, y8, y9, pre, rfl, R6, s6, hgm, hE, hK⟩ nT
          obtain ⟨r, hr, rfl⟩ := get_map' hx
          have hi : i ≤ l.length := by
            have := get_lt hr
            rw [R6.len] at this
            omega
          have mr : r ∈ rs := List.mem_of_getElem? hr
          have sT : Same H6 (upd H6 T (.tup [.int (i : Nat), .ref r])) := same_upd nT
          have HT : H T = none := s6.free nT
          have RT : Rw (upd H6 T (.tup [.int (i : Nat), .ref r])) D rs ins (l.length + 1) := ⟨sT _ _ R6.at_, R6.len, R6.nd, R6.out, fun g r hr => sT _ _ (R6.row g r hr)⟩
          have hlenm : (gm l ins 0).length = l.length + ins.length := by
            have h1 := len_BC (gm l ins 0)
            rw [mB_gm, mC_gm l ins 0 (fun x hx => ⟨Nat.zero_le _, by have := hgap x hx; omega⟩)] at h1
            exact h1.symm
          have hpre : pre.length + (row ins i).length ≤ 800 := by
            rw [hgm, if_pos hi] at hlenm
            have : (gm (l.drop i) ins i).length ≥ (row ins i).length := by
              cases l.drop i with
              | nil =>
                show (offs (row ins i)).length ≥ _
                unfold offs
                rw [List.length_map]
                exact Nat.le_refl _
              | cons x xs =>
                show (offs (row ins i) ++ (x, true) :: gm xs ins (i + 1)).length ≥ _
                rw [List.length_append]
                unfold offs
                rw [List.length_map]
                exact Nat.le_add_right _ _
            rw [List.length_append] at hlenm
            omega
          refine ⟨T, [.int (i : Nat), .ref r], rfl, .inl (.inl upd_same), rfl, _, _, rfl, _, _, rfl, rfl, ?_⟩
          have hE2 := sT _ _ hE
          have hK2 := sT _ _ hK
          have hrow := RT.row i r hr
          refine ⟨.ref en, rfl, .inl ⟨rfl, _, sql hE2⟩, .ref r, rfl, en, r, _, _, rfl, rfl, hE2, hrow, ?_, ?_⟩
          · rw [List.length_map, List.length_map, mE_len]
            exact Nat.le_trans hpre (by decide)
          rw [← List.map_append]
          generalize hH7 : upd (upd H6 T (.tup [.int (i : Nat), .ref r])) en (.lst ((mE pre ++ row ins i).map V.str)) = H7
          have e7 : H7 en = some (.lst ((mE pre ++ row ins i).map V.str)) := by rw [← hH7, upd_same]
          have o7 : ∀ b, b ≠ en → H7 b = upd H6 T (.tup [.int (i : Nat), .ref r]) b := fun b nb => by rw [← hH7, upd_ne nb]
          have s7 : Same H H7 := by
            rw [← hH7]
            exact same_put (s6.trans sT) Hen
          have R7 : Rw H7 D rs ins (l.length + 1) := ⟨by rw [o7 _ H3D]; exact RT.at_, R6.len, R6.nd, R6.out, fun g r hr => by rw [o7 _ (nE r (List.mem_of_getElem? hr)).1]; exact RT.row g r hr⟩
          have hK7 : H7 ke = some (.lst ((mK pre 0).map nV)) := by rw [o7 _ nKE.symm]; exact hK2
          refine ⟨.int (i : Nat), rfl, .ref lo, rfl, lo, _, rfl, .inr (sqt (s7 _ _ hl)), _, _, rfl, rfl, _, rfl, ?_⟩
          rw [List.length_map]
          refine ite2 (fun hc => ?_) (fun hc => ?_)
          · have hlt : i < l.length := by
              have := of_decide_eq_true hc
              omega
            refine ⟨.ref ke, rfl, .inl ⟨rfl, _, sql hK7⟩, .ref en, rfl, en, _, rfl, .inl (sql e7), ke, _, _, rfl, rfl, hK7, ?_, ?_⟩
            · rw [List.length_map, mK_len]
              have := len_BC pre
              exact small1000 (by omega)
            rw [List.length_map]
            generalize hH8 : upd H7 ke (.lst ((mK pre 0).map nV ++ [V.int ((mE pre ++ row ins i).length : Nat)])) = H8
            have e8 : H8 en = some (.lst ((mE pre ++ row ins i).map V.str)) := by rw [← hH8, upd_ne nKE]; exact e7
            have s8 : Same H H8 := by
              rw [← hH8]
              exact same_put s7 Hke
            refine ⟨.ref en, rfl, .inl ⟨rfl, _, sql e8⟩, .ref lo, rfl, .int (i : Nat), rfl, lo, _, _, .str l[i], rfl, rfl, sqt (s8 _ _ hl), ?_, en, _, _, rfl, rfl, e8, ?_, ?_⟩
            · exact atI_nat (get_map hlt)
            · rw [List.length_map, List.length_append, mE_len]
              exact small1000 (by omega)
            · refine ⟨_, _, _, _, _, pre ++ offs (row ins i) ++ [(l[i], true)], rfl, ⟨?_, R6.len, R6.nd, R6.out, fun g r hr => ?_⟩, same_put s8 Hen, ?_, ?_, ?_⟩
              · rw [upd_ne H3D, ← hH8, upd_ne H3K]
                exact R7.at_
              · have := nE r (List.mem_of_getElem? hr)
                rw [upd_ne this.1, ← hH8, upd_ne this.2]
                exact R7.row g r hr
              · rw [hgm, if_pos hi, if_pos (show i + 1 ≤ l.length from hlt), List.drop_eq_getElem_cons hlt]
                show pre ++ (offs (row ins i) ++ (l[i], true) :: gm (l.drop (i + 1)) ins (i + 1)) = _
                rw [List.append_assoc, List.append_assoc]
                rfl
              · rw [upd_same, mE_append, mE_append, mE_offs, List.map_append, List.map_append, List.map_append]
                rfl
              · rw [upd_ne nKE.symm, ← hH8, upd_same, mK_append, mK_append, mK_offs, List.append_nil, List.map_append]
                show _ = some (HO.lst ((mK pre 0).map nV ++ [nV (0 + (pre ++ offs (row ins i)).length)]))
                have el : (pre ++ offs (row ins i)).length = (mE pre ++ row ins i).length := by
                  rw [List.length_append, List.length_append, mE_len]
                  unfold offs
                  rw [List.length_map]
                rw [el, Nat.zero_add]
                rfl
          · have he : i = l.length := by
              rcases Nat.lt_or_ge i l.length with h | h
              · exact absurd (decide_eq_true (by omega)) hc
              · omega
            refine ⟨_, _, _, _, _, pre ++ offs (row ins i), rfl, R7, s7, ?_, ?_, ?_⟩
            · rw [hgm, if_pos hi, if_neg (by omega), List.append_nil, List.drop_of_length_le (by omega)]
              rfl
            · rw [e7, mE_append, mE_offs]
            · rw [hK7, mK_append, mK_offs, List.append_nil]
        · rintro σ H6 ⟨y3, y4, y5, y8, y9, pre, rfl, R6, s6, hgm, hE, hK⟩
          rw [List.length_map, R6.len, if_neg (by omega), List.append_nil] at hgm
          subst hgm
          refine ⟨.ref en, rfl, en, _, rfl, .inl ⟨sql hE, fun e ne => ?_⟩⟩
          have s7 := same_upd (o := .tup ((mE (gm l ins 0)).map V.str)) ne
          refine ⟨.ref ke, rfl, ke, _, rfl, sql (s7 _ _ hK), fun k ob nk od oc => ?_⟩
          have s8 := same_upd (o := .frz ob (.tup ((mK (gm l ins 0) 0).map nV))) nk
          refine ⟨(show 2 ≤ sizeLine by decide), fun t nt => ?_⟩
          have s9 := same_upd (o := .tup [V.ref e, .ref k]) nt
          exact q _ t e k (((s6.trans s7).trans s8).trans s9) upd_same (s9 _ _ (s8 _ _ upd_same)) ⟨ob, s9 _ _ upd_same, od, oc⟩
end
end Sfl
namespace Sfl
open PySem PySem.Spec PyProof.Rows L2
theorem io_append : ∀ (a b : Ms) (g : Nat), io (a ++ b) g = io a g ++ io b (g + (mB a).length)
  | [], b, g => rfl
  | (x, true) :: r, b, g => by
    show io (r ++ b) (g + 1) = io r (g + 1) ++ io b (g + ((mB r).length + 1))
    rw [io_append r b (g + 1), show g + 1 + (mB r).length = g + ((mB r).length + 1) by omega]
  | (y, false) :: r, b, g => by
    show (g, y) :: io (r ++ b) g = (g, y) :: io r g ++ io b (g + (mB r).length)
    rw [io_append r b g]
    rfl
theorem mK_here {ms : Ms} {i : Nat} {p : Str × Bool} (h : ms[i]? = some p) : (mK ms 0)[(mB (ms.take i)).length]? = (if p.2 = true then some i else (mK (ms.drop (i + 1)) (i + 1)).head?) := by
  have hl := (List.getElem?_eq_some_iff.mp h).1
  have e := mK_append (ms.take i) (ms.drop i) 0
  rw [List.take_append_drop, List.length_take, Nat.min_eq_left (Nat.le_of_lt hl), Nat.zero_add] at e
  rw [e, ← mK_len (ms.take i) 0, List.getElem?_append_right (Nat.le_refl _), Nat.sub_self, drop_at h]
  obtain ⟨x, b⟩ := p
  cases b
  · rw [if_neg (show ¬ ((x, false).2 = true) from Bool.false_ne_true)]
    show (mK (ms.drop (i + 1)) (i + 1))[0]? = _
    rw [List.head?_eq_getElem?]
  · rfl
theorem passX {X : Cx} {E : XK} : Passes CX0 X E := fun _ _ _ _ _ _ _ h => h.elim
section
variable {P : Program} {w : World} {K : PySem.W.Frag} {mg : Str → Option Value} {base : Heap}
theorem raw0 {f : Addr} {fd : FuncData} {k : Nat} {ps : List Str} {sp : Sp} (G : FnOk P w K mg base CX0 k f fd ps sp) (b : Binds K fd ps []) : FnR P w K mg base CX0 k f sp :=
  (G.raw b .nil).imp fun vs H Q E h => by
    rw [List.append_nil]
    exact h
abbrev nInsOf : List Str := ["end", "kept", "found", "gap", "at", "event"]
theorem scInsOf : FnScope nInsOf ["end", "kept"] (defScope sInsertionsOf) := ⟨rfl, rfl, rfl, by decide +kernel, rfl, by decide +kernel, by decide +kernel⟩
def spInsOf : Sp := fun vs H Q _ => ∃ (en ke : Addr) (ms : Ms), vs = [.ref en, .ref ke] ∧ Tp H en (mE ms) ∧ Ip H ke (mK ms 0) ∧ ms.length ≤ 800 ∧ ∀ H' p, Same H H' → Ins H' p (io ms 0) → Q (.ref p) H'
theorem ok_insOf {f : Addr} {fd : FuncData} {k : Nat} (F : Fun K "insertions_of" "insertions_of" sInsertionsOf f fd) (B : Bn mg) : FnOk P w K mg base CX0 (k + 1) f fd ["end", "kept"] spInsOf := by
  refine F.ok scInsOf (fun vs H Q E h => ?_) (fun cdv A outer s H vs Q E hr h => ?_)
  · obtain ⟨en, ke, ms, rfl, _⟩ := h
    rfl
  · obtain ⟨en, ke, ms, rfl, hE, hK, hlen, q⟩ := h
    refine ⟨_, pss_cons (ps_set (i := 2) scInsOf.nd rfl (.inl rfl) (pe_lst pa_nil))
      (pss_cons (ps_set (i := 3) scInsOf.nd rfl (.inl rfl) pe_int)
      (pss_cons (ps_for PassesOwn.never rfl (pi_enumT (by rfl) B.enum (pa_cons (pv 0) pa_nil)) (pg_tup rfl (pgs_cons (pg_name (i := 4) scInsOf.nd rfl (.inl rfl)) (pgs_cons (pg_name (i := 5) scInsOf.nd rfl (.inl rfl)) pgs_nil)))
        (pss_one (ps_if (PW.pt (pw_and (pt_cmpR op_lt (pv 3) (pe_callB call_len_seq (by rfl) B.len PySem.boot_len (pa_cons (pv 1) pa_nil)) (nomark _))
            (pw_and1 (pt_cmpR op_eq (pe_ix ix_tup (pv 1) (pv 3) (fun _ _ => rfl)) (pv 4) (nomark _)))))
          (pss_one (ps_aug (i := 3) scInsOf.nd rfl (.inl rfl) pe_int ip_add))
          (pss_one (ps_expr (pe_bm PySem.F.plainAttrs_list PySem.F.slot_list_append PySem.F.type_list_append mt_append (pv 2) (pa_cons (pe_tup (pa_cons (pv 3) (pa_cons (pv 5) pa_nil))) pa_nil)))))))
      (pss_one (ps_ret (pe_callTy call_tuple_of (by rfl) B.tuple (by decide +kernel) (pa_cons (pv 2) pa_nil)))))), ?_⟩
    refine ⟨Nat.zero_le _, fun D nD => ?_⟩
    have s1 : Same H (upd H D (.lst [])) := same_upd nD
    refine ⟨.ref en, rfl, en, _, rfl, sqt (s1 _ _ hE), ?_⟩
    refine for_enumT (xs := (mE ms).map V.str) (fun i σ H3 => ∃ rs y4 y5, σ = [some (.ref en), some (.ref ke), some (.ref D), some (nV (mB (ms.take i)).length), y4, y5] ∧ Same H H3 ∧ H3 D = some (.lst (rs.map V.ref)) ∧ Pl H3 rs (io (ms.take i) 0)) ?_ ?_ ?_ ?_
    · exact ⟨[], none, none, rfl, s1, upd_same, Pl.nil⟩
    · rintro i σ H3 hi ⟨rs, y4, y5, rfl, s3, _⟩
      exact sqt (s3 _ _ hE)
    · rintro i x T σ H3 hx ⟨rs, y4, y5, rfl, s3, hD, hp⟩ nT
      obtain ⟨y, hy, rfl⟩ := get_map' hx
      obtain ⟨m, hm, ey⟩ := get_map' (show (ms.map (·.1))[i]? = some y from hy)
      have hlt : i < ms.length := get_lt hm
      have sT : Same H3 (upd H3 T (.tup [.int (i : Nat), .str y])) := same_upd nT
      have hK4 := sT _ _ (s3 _ _ hK)
      have hD4 := sT _ _ hD
      have hh := mK_here hm
      have hio : io (ms.take (i + 1)) 0 = io (ms.take i) 0 ++ io [m] (mB (ms.take i)).length := by rw [take_at hm, io_append, Nat.zero_add]
      have hmB : mB (ms.take (i + 1)) = mB (ms.take i) ++ mB [m] := by rw [take_at hm, mB_append]
      generalize hgp : (mB (ms.take i)).length = gp at *
      have hgl : gp ≤ 800 := by
        have h1 := len_BC (ms.take i)
        rw [List.length_take] at h1
        omega
      have hrl : rs.length ≤ 800 := by
        rw [hp.1, io_len]
        have h1 := len_BC (ms.take i)
        rw [List.length_take] at h1
        omega
      refine ⟨T, [.int (i : Nat), .str y], rfl, .inl (.inl upd_same), rfl, _, _, rfl, _, _, rfl, rfl, ?_⟩
      refine ⟨nV gp, rfl, .ref ke, rfl, ke, _, rfl, .inr (sqt hK4), _, _, rfl, rfl, _, rfl, ?_⟩
      rw [List.length_map]
      -- what is put in
      have put : m.2 = false → ∀ (y4' y5' : Option V) (D' : Ends), y5' = some (.str y) → (∀ σ H3, (∃ rs y4 y5, σ = [some (.ref en), some (.ref ke), some (.ref D), some (nV (mB (ms.take (i + 1))).length), y4, y5] ∧ Same H H3 ∧ H3 D = some (.lst (rs.map V.ref)) ∧ Pl H3 rs (io (ms.take (i + 1)) 0)) → D'.nx σ H3) →
          tDrop (tBM K "list" rAppend (tVar 2) (tCons (tTup (tCons (tVar 3) (tCons (tVar 5) tNil))) tNil))
            D'
            [some (.ref en), some (.ref ke), some (.ref D), some (nV gp), y4', y5'] (upd H3 T (.tup [.int (i : Nat), .str y])) := fun hf y4' y5' D' e5 fin => by
        subst e5
        refine ⟨.ref D, rfl, .inl ⟨rfl, _, sql hD4⟩, nV gp, rfl, .str y, rfl, (show 2 ≤ sizeLine by decide), fun t nt => ?_⟩
        have st : Same (upd H3 T (.tup [.int (i : Nat), .str y])) (upd (upd H3 T (.tup [.int (i : Nat), .str y])) t (.tup [nV gp, .str y])) := same_upd nt
        refine ⟨D, _, _, rfl, rfl, st _ _ hD4, ?_, ?_⟩
        · rw [List.length_map]
          exact small1000 (by omega)
        · have nDt : t ≠ D := (ne_of_none hD4 nt).symm
          obtain ⟨my, mb⟩ := m
          cases (show my = y from ey)
          cases (show mb = false from hf)
          refine fin _ _ ⟨rs ++ [t], y4', some (.str y), ?_, same_put ((s3.trans sT).trans st) nD, ?_, ?_⟩
          · have el : (mB (ms.take (i + 1))).length = gp := by
              rw [hmB, List.length_append, hgp]
              rfl
            rw [el]
          · rw [upd_same, List.map_append]
            rfl
          · rw [hio]
            refine Pl.snoc ⟨hp.1, fun j r g z h1 h2 => ?_⟩ ?_
            · have hz := hp.2 j r g z h1 h2
              have nr : r ≠ D := fun e => by
                subst e
                rw [hD] at hz
                cases hz
              rw [upd_ne nr]
              exact st _ _ (sT _ _ hz)
            · rw [upd_ne nDt, upd_same]
      cases hb : m.2 with
      | true =>
        rw [hb, if_pos rfl] at hh
        have hlk : gp < (mK ms 0).length := get_lt hh
        rw [decide_eq_true (show ((gp : Nat) : Int) < ((mK ms 0).length : Nat) by omega)]
        refine iteT ⟨.ref ke, rfl, nV gp, rfl, ke, _, _, nV i, rfl, rfl, sqt hK4, ?_, _, rfl, rfl, _, rfl, ?_⟩
        · exact atI_nat (by rw [List.getElem?_map, hh]; rfl)
        rw [decide_eq_true (show nV i = V.int ((i : Nat) : Int) from rfl)]
        refine iteT ⟨_, rfl, _, _, rfl, rfl, ?_⟩
        obtain ⟨my, mb⟩ := m
        cases (show mb = true from hb)
        refine ⟨rs, some (.int (i : Nat)), some (.str y), ?_, s3.trans sT, hD4, ?_⟩
        · have el : (mB (ms.take (i + 1))).length = gp + 1 := by
            rw [hmB, List.length_append, hgp]
            rfl
          rw [el]
          rfl
        · rw [hio]
          show Pl _ rs (io (ms.take i) 0 ++ [])
          rw [List.append_nil]
          exact hp.same sT
      | false =>
        rw [hb, if_neg Bool.false_ne_true] at hh
        by_cases hlk : gp < (mK ms 0).length
        · rw [decide_eq_true (show ((gp : Nat) : Int) < ((mK ms 0).length : Nat) by omega)]
          have hg := List.getElem?_eq_getElem hlk
          generalize hn : (mK ms 0)[gp] = n at hg
          have hin : i < n := by
            rw [hg] at hh
            have := List.mem_of_mem_head? (Option.mem_def.mpr hh.symm)
            have := mK_rng _ _ n this
            omega
          refine iteT ⟨.ref ke, rfl, nV gp, rfl, ke, _, _, nV n, rfl, rfl, sqt hK4, ?_, _, rfl, rfl, _, rfl, ?_⟩
          · exact atI_nat (by rw [List.getElem?_map, hg]; rfl)
          rw [decide_eq_false (show ¬ (nV n = V.int ((i : Nat) : Int)) by
            intro e
            have := V.int.inj e
            omega)]
          exact iteF (put hb _ _ _ rfl fun _ _ z => z)
        · rw [decide_eq_false (show ¬ ((gp : Nat) : Int) < ((mK ms 0).length : Nat) by omega)]
          exact iteF (iteF (put hb _ _ _ rfl fun _ _ z => z))
    · rintro σ H3 ⟨rs, y4, y5, rfl, s3, hD, hp⟩
      rw [List.length_map, List.take_of_length_le (by rw [mE_len]; exact Nat.le_refl _)] at hp
      refine ⟨.ref D, rfl, D, _, rfl, .inl ⟨sql hD, fun p np => ?_⟩⟩
      have s4 := same_upd (o := .tup (rs.map V.ref)) np
      exact q _ p (s3.trans s4) ⟨rs, upd_same, hp.same s4⟩
end
end Sfl
namespace Sfl
open PySem PySem.Spec PyProof.Rows L2
/-- a growth's attributes -/
def gf1 (b : Addr) : List (Str × V) := putF "_begin" (.ref b) []
def gf2 (b i : Addr) : List (Str × V) := putF "_insertions" (.ref i) (gf1 b)
def gf3 (b i e : Addr) : List (Str × V) := putF "_end" (.ref e) (gf2 b i)
def gf (b i e k : Addr) : List (Str × V) := putF "_kept" (.ref k) (gf3 b i e)
theorem gf_b (b i e k : Addr) : (gf b i e k).lookup ("_begin" : Str) = some (.ref b) := by
  unfold gf gf3 gf2 gf1
  rw [lookup_putF, if_neg (by decide +kernel), lookup_putF, if_neg (by decide +kernel), lookup_putF, if_neg (by decide +kernel), lookup_putF, if_pos rfl]
theorem gf_i (b i e k : Addr) : (gf b i e k).lookup ("_insertions" : Str) = some (.ref i) := by
  unfold gf gf3 gf2 gf1
  rw [lookup_putF, if_neg (by decide +kernel), lookup_putF, if_neg (by decide +kernel), lookup_putF, if_pos rfl]
theorem gf_e (b i e k : Addr) : (gf b i e k).lookup ("_end" : Str) = some (.ref e) := by
  unfold gf gf3 gf2 gf1
  rw [lookup_putF, if_neg (by decide +kernel), lookup_putF, if_pos rfl]
theorem gf_k (b i e k : Addr) : (gf b i e k).lookup ("_kept" : Str) = some (.ref k) := by
  unfold gf gf3 gf2 gf1
  rw [lookup_putF, if_pos rfl]
theorem gf_no (b i e k : Addr) {m : Str} (h1 : ¬ m = "_begin") (h2 : ¬ m = "_insertions") (h3 : ¬ m = "_end") (h4 : ¬ m = "_kept") : (gf b i e k).lookup m = none := by
  unfold gf gf3 gf2 gf1
  rw [lookup_putF, if_neg h4, lookup_putF, if_neg h3, lookup_putF, if_neg h2, lookup_putF, if_neg h1]
  rfl
theorem gf1_len (b : Addr) : (gf1 b).length ≤ 1 := length_putF _ _ _
theorem gf2_len (b i : Addr) : (gf2 b i).length ≤ 2 := Nat.le_trans (length_putF _ _ _) (Nat.succ_le_succ (gf1_len b))
theorem gf3_len (b i e : Addr) : (gf3 b i e).length ≤ 3 := Nat.le_trans (length_putF _ _ _) (Nat.succ_le_succ (gf2_len b i))
/-- the growth at g is the mask ms -/
def Gm (C : Addr) (H : Hp) (g : Addr) (ms : Ms) : Prop := ∃ (dx b i e k : Addr) (rs : List V), H g = some (.ins C dx (gf b i e k)) ∧ Tp H b (mB ms) ∧ H i = some (.tup rs) ∧ rs.length = mC ms ∧ Tp H e (mE ms) ∧ Kt H k ((mK ms 0).map nV)
theorem Gm.same {C : Addr} {H H' : Hp} {g : Addr} {ms : Ms} (h : Gm C H g ms) (s : Same H H') : Gm C H' g ms := by
  obtain ⟨dx, b, i, e, k, rs, h1, h2, h3, h4, h5, h6⟩ := h
  exact ⟨dx, b, i, e, k, rs, s _ _ h1, s _ _ h2, s _ _ h3, h4, s _ _ h5, h6.same s⟩
/-- a mask whose log may be passed -/
structure Mg (ms : Ms) : Prop where
  len : ms.length ≤ 200
  nm : ∀ z ∈ mE ms, Nm z = true
theorem mB_mem {ms : Ms} {z : Str} (h : z ∈ mB ms) : z ∈ mE ms := (mB_sub ms).subset h
theorem Mg.lgE {ms : Ms} (h : Mg ms) : Lg (mE ms) := ⟨by rw [mE_len]; exact h.len, h.nm⟩
theorem Mg.lgB {ms : Ms} (h : Mg ms) : Lg (mB ms) := ⟨Nat.le_trans (by have := len_BC ms; omega) h.len, fun z hz => h.nm z (mB_mem hz)⟩
/-- what the text's class Growth has -/
structure Gc (K : PySem.W.Frag) (mg : Str → Option Value) (C : Addr) : Prop where
  cl : Cls K C
  nB : NoAttr K C "_begin"
  nI : NoAttr K C "_insertions"
  nE : NoAttr K C "_end"
  nK : NoAttr K C "_kept"
  mgC : mg "Growth" = some (.ref C)
section
variable {P : Program} {w : World} {K : PySem.W.Frag} {mg : Str → Option Value} {base : Heap}
abbrev nInit : List Str := ["self", "log", "insertions", "value"]
theorem scInit : FnScope nInit (([("self" : Str), "log"] : List Str) ++ [("insertions" : Str)]) (defScope mInit) := ⟨rfl, rfl, rfl, by decide +kernel, rfl, by decide +kernel, by decide +kernel⟩
def spInit (C : Addr) : Sp := fun vs H Q _ => ∃ (g lo p dx : Addr) (l : List Str) (ins : List (Nat × Str)), vs = [.ref g, .ref lo, .ref p] ∧ H g = some (.ins C dx []) ∧ Tp H lo l ∧ Ins H p ins ∧ Lg l ∧ (∀ x ∈ ins, x.1 ≤ l.length ∧ Nm x.2 = true) ∧ l.length + ins.length ≤ 200 ∧
  ∀ H' e k, Kp g H H' → H' g = some (.ins C dx (gf lo p e k)) → Tp H' e (mE (gm l ins 0)) → Kt H' k ((mK (gm l ins 0) 0).map nV) → Q .non H'
def spStar (C : Addr) : Sp := fun vs H Q E => ∃ ws rest, vs = ws ++ rest ∧ ws.length = ([("self" : Str), "log"] : List Str).length ∧ rest.length ≤ sizeLine ∧ ∀ p, H p = none → spInit C (ws ++ [V.ref p]) (upd H p (.tup rest)) Q E
theorem ok_init {f C : Addr} {fd : FuncData} {k : Nat} (F : Fun K "__init__" "Growth.__init__" mInit f fd) (B : Bn mg) (T : Gc K mg C) (C1 : Cal P w K mg base k "check_log" ["value"] spCheckLog) (C2 : Cal P w K mg base k "is_insertion" ["log", "value"] spIsInsertion)
    (C3 : Cal P w K mg base k "check_events" ["many"] spCheckEvents) (C4 : Cal P w K mg base k "grown" ["log", "insertions"] spGrownBy) : FnR P w K mg base CX0 (k + 1) f (spStar C) := by
  obtain ⟨f1, fd1, G1, g1, kp1, b1⟩ := C1
  obtain ⟨f2, fd2, G2, g2, kp2, b2⟩ := C2
  obtain ⟨f3, fd3, G3, g3, kp3, b3⟩ := C3
  obtain ⟨f4, fd4, G4, g4, kp4, b4⟩ := C4
  obtain ⟨oc, od, kV, doc, pm, an, cdv, ct, osl, rfl, lk, hcd⟩ := F.ex
  refine StX.fn_star (pv := "insertions") (ps := ["self", "log"]) lk hcd scInit StX.cxUp_none (StX.bind_star2 (B := fun xs => bindArgs (PySem.W.fnOf "__init__" "Growth.__init__" (defArgs mInit) (defBody mInit) (defScope mInit) .none kV doc pm an cdv ct) ⟨xs, []⟩) (p1 := "self") (p2 := "log") (pv := "insertions") (fun a b => rfl) (fun a b r rs => rfl)) (fun A outer s H vs Q E hr h => ?_)
  obtain ⟨g, lo, p, dx, l, ins, rfl, hg, hl, ⟨rs0, hp, hpl⟩, Ll, hin, hsum, q⟩ := h
  refine ⟨_, PSs.nox (pss_cons (ps_expr (pe_call G1 hr (by rfl) g1 kp1 b1 .nil pass0 (pa_cons (pv 1) pa_nil)))
    (pss_cons (ps_for PassesOwn.never rfl (pi_tup (pv 2)) (pg_name (i := 3) scInit.nd rfl (Or.inl rfl))
      (pss_one (ps_if (pt_not (pt_val (pe_call G2 hr (by rfl) g2 kp2 b2 .nil pass0 (pa_cons (pv 1) (pa_cons (pv 3) pa_nil))))) (pss_one ps_never) pss_nil)))
    (pss_cons (ps_expr (pe_call G3 hr (by rfl) g3 kp3 b3 .nil pass0 (pa_cons (pe_op op_add (pe_callB call_len_seq (by rfl) B.len PySem.boot_len (pa_cons (pv 1) pa_nil)) (pe_callB call_len_seq (by rfl) B.len PySem.boot_len (pa_cons (pv 2) pa_nil))) pa_nil)))
    (pss_cons (ps_fld (pv 0) (pv 1) rfl)
    (pss_cons (ps_fld (pv 0) (pv 2) rfl)
    (pss_one (ps_asg (pe_call G4 hr (by rfl) g4 kp4 b4 .nil pass0 (pa_cons (pv 1) (pa_cons (pv 2) pa_nil))) (pg_tup rfl (pgs_cons (pg_fld (pv 0)) (pgs_cons (pg_fld (pv 0)) pgs_nil)))))))))), ?_⟩
  refine ⟨.ref lo, rfl, lo, l, rfl, hl, Ll, fun H1 s1 => ?_⟩
  refine ⟨.ref p, rfl, p, rfl, ⟨_, sqt (s1 _ _ hp)⟩, ?_⟩
  refine for_tup (xs := rs0.map V.ref) (fun i σ H3 => ∃ y3, σ = [some (.ref g), some (.ref lo), some (.ref p), y3] ∧ Same H H3) ⟨none, rfl, s1⟩ ?_ ?_ ?_
  · rintro i σ H3 hi ⟨y3, rfl, s3⟩
    exact sqt (s3 _ _ hp)
  · rintro i x σ H3 hx ⟨y3, rfl, s3⟩
    obtain ⟨r, hr', rfl⟩ := get_map' hx
    have hi : i < ins.length := by rw [← hpl.1]; exact get_lt hr'
    have hin' := List.getElem?_eq_getElem hi
    generalize hgy : ins[i] = gy at hin'
    obtain ⟨gp, y⟩ := gy
    have hz := hin (gp, y) (List.mem_of_getElem? hin')
    exact ⟨.ref lo, rfl, .ref r, rfl, lo, r, l, gp, y, rfl, s3 _ _ hl, s3 _ _ (hpl.2 i r gp y hr' hin'), hz.1, hz.2, _, rfl, iteF ⟨_, rfl, s3⟩⟩
  · rintro σ H3 ⟨y3, rfl, s3⟩
    have hp3 := s3 _ _ hp
    have hl3 := s3 _ _ hl
    refine ⟨.ref lo, rfl, lo, _, rfl, .inr (sqt hl3), .ref p, rfl, p, _, rfl, .inr (sqt hp3), _, _, rfl, rfl, _, rfl, ?_, ?_⟩
    · rw [List.length_map, List.length_map, hpl.1]
      omega
    have ngl : g ≠ lo := ne_of hg hl (by intro z; cases z)
    have ngp : g ≠ p := ne_of hg hp (by intro z; cases z)
    refine ⟨_, rfl, _, rfl, g, C, dx, [], rfl, s3 _ _ hg, T.cl, T.nB, (by show 0 < 1000; decide), ?_⟩
    refine ⟨_, rfl, _, rfl, g, C, dx, _, rfl, upd_same, T.cl, T.nI, Nat.lt_of_le_of_lt (gf1_len lo) (by decide), ?_⟩
    generalize hH5 : upd (upd H3 g (.ins C dx (putF "_begin" (.ref lo) []))) g (.ins C dx (putF "_insertions" (.ref p) (putF "_begin" (.ref lo) []))) = H5
    have k5 : Kp g H H5 := fun b o nb e => by
      rw [← hH5, upd_ne nb, upd_ne nb]
      exact s3 _ _ e
    have g5 : H5 g = some (.ins C dx (gf2 lo p)) := by
      rw [← hH5, upd_same]
      rfl
    refine ⟨.ref lo, rfl, .ref p, rfl, lo, p, l, ins, rfl, k5 _ _ ngl.symm hl, ⟨rs0, k5 _ _ ngp.symm hp, hpl.1, fun i r g' y' a b => ?_⟩, fun x hx => (hin x hx).1, Nat.le_trans Ll.len (by decide), by omega, fun H6 r e k' s6 hr' he hk => ?_⟩
    · have h1 := hpl.2 i r g' y' a b
      exact k5 _ _ (ne_of h1 hg (by intro z; cases z)) h1
    · have g6 := s6 _ _ g5
      refine ⟨r, _, rfl, sqt hr', rfl, _, _, rfl, ⟨_, rfl, g, C, dx, _, rfl, g6, T.cl, T.nE, Nat.lt_of_le_of_lt (gf2_len lo p) (by decide), ?_⟩⟩
      refine ⟨_, _, rfl, ⟨_, rfl, g, C, dx, _, rfl, upd_same, T.cl, T.nK, Nat.lt_of_le_of_lt (gf3_len lo p e) (by decide), rfl, ?_⟩⟩
      have nge : e ≠ g := ne_of he g6 (by intro z; cases z)
      obtain ⟨ob, hk, od, oc⟩ := hk
      have ngk : k' ≠ g := ne_of hk g6 (by intro z; cases z)
      refine q _ e k' (fun b o nb z => ?_) ?_ ?_ ?_
      · rw [upd_ne nb, upd_ne nb]
        exact s6 _ _ (k5 _ _ nb z)
      · rw [upd_same]
        rfl
      · show _ = _
        rw [upd_ne nge, upd_ne nge]
        exact he
      · refine ⟨ob, ?_, od, oc⟩
        rw [upd_ne ngk, upd_ne ngk]
        exact hk
end
end Sfl
namespace Sfl
open PySem PySem.Spec PyProof.Rows L2
theorem eqv_strs : ∀ a b : List Str, PyData.eqvAll (a.map PyData.str) (b.map PyData.str) = decide (a = b)
  | [], [] => rfl
  | [], _ :: _ => rfl
  | _ :: _, [] => rfl
  | x :: xs, y :: ys => by
    show (x == y && PyData.eqvAll (xs.map PyData.str) (ys.map PyData.str)) = _
    rw [eqv_strs xs ys]
    by_cases e1 : x = y
    · subst e1
      by_cases e2 : xs = ys
      · subst e2
        simp
      · simp [e2]
    · simp [e1]
abbrev dI (n : Nat) : PyData := PyData.int (n : Nat)
theorem eqv_ints : ∀ a b : List Nat, PyData.eqvAll (a.map dI) (b.map dI) = decide (a = b)
  | [], [] => rfl
  | [], _ :: _ => rfl
  | _ :: _, [] => rfl
  | x :: xs, y :: ys => by
    show (((x : Nat) : Int) == ((y : Nat) : Int) && PyData.eqvAll (xs.map dI) (ys.map dI)) = _
    rw [eqv_ints xs ys]
    by_cases e1 : x = y
    · subst e1
      by_cases e2 : xs = ys
      · subst e2
        simp
      · simp [e2]
    · have : ¬ ((x : Nat) : Int) = ((y : Nat) : Int) := fun z => e1 (by omega)
      simp [e1, this]
theorem eqv_tstr (a b : List Str) : PyData.eqv (.tuple (a.map PyData.str)) (.tuple (b.map PyData.str)) = decide (a = b) := eqv_strs a b
theorem eqv_tint (a b : List Nat) : PyData.eqv (.tuple (a.map dI)) (.tuple (b.map dI)) = decide (a = b) := eqv_ints a b
theorem sh_tstr {l : List Str} (h : ∀ z ∈ l, Nm z = true) : SeqAt.shaped (.tuple (l.map PyData.str)) = true := shT (flat_strs l fun z hz => nm_ok (h z hz))
theorem sh_tint (l : List Nat) : SeqAt.shaped (.tuple (l.map dI)) = true := shT (flat_ints l)
/-- a growth is made -/
theorem mk_ok {C lo : Addr} {l : List Str} {ins : List (Nat × Str)} {rs : List Addr} {H : Hp} {Q : Addr → Hp → Prop} {E : XK} (hl : Tp H lo l) (hpl : Pl H rs ins) (Ll : Lg l) (hin : ∀ x ∈ ins, x.1 ≤ l.length ∧ Nm x.2 = true) (hsum : l.length + ins.length ≤ 200)
    (q : ∀ H' g, Same H H' → H g = none → Gm C H' g (gm l ins 0) → Q g H') :
    ∀ x dx, H x = none → H dx = none → dx ≠ x → spStar C (V.ref x :: (V.ref lo :: rs.map V.ref)) (upd (upd H dx (.own x)) x (.ins C dx [])) (fun v H2 => v = .non ∧ Q x H2) E := by
  intro x dx nx ndx ne
  refine ⟨[.ref x, .ref lo], rs.map V.ref, rfl, rfl, ?_, fun p np => ?_⟩
  · rw [List.length_map, hpl.1]
    exact Nat.le_trans (show ins.length ≤ 200 by omega) (by decide)
  have npx : x ≠ p := fun z => by
    rw [← z, upd_same] at np
    cases np
  have npd : dx ≠ p := fun z => by
    rw [← z, upd_ne ne, upd_same] at np
    cases np
  have hp0 : H p = none := by
    rw [upd_ne npx.symm, upd_ne npd.symm] at np
    exact np
  generalize hH1 : upd (upd (upd H dx (.own x)) x (.ins C dx [])) p (.tup (rs.map V.ref)) = H1
  have s1 : Same H H1 := by
    rw [← hH1]
    exact same_put (same_put (same_put (Same.refl H) ndx) nx) hp0
  refine ⟨x, lo, p, dx, l, ins, rfl, ?_, s1 _ _ hl, ⟨rs, ?_, hpl.same s1⟩, Ll, hin, hsum, fun H' e k kp hg he hk => ⟨rfl, ?_⟩⟩
  · rw [← hH1, upd_ne npx, upd_same]
  · rw [← hH1, upd_same]
  · have s2 : Same H H' := fun b o eb => kp b o (ne_of_none eb nx) (s1 _ _ eb)
    refine q _ x s2 nx ⟨dx, lo, p, e, k, rs.map V.ref, hg, ?_, ?_, ?_, he, hk⟩
    · show _ = _
      rw [mB_gm]
      exact s2 _ _ hl
    · refine kp _ _ npx.symm ?_
      rw [← hH1, upd_same]
    · rw [List.length_map, hpl.1, mC_gm l ins 0 fun z hz => ⟨Nat.zero_le _, by have := (hin z hz).1; omega⟩]
/-- a value or None -/
def oV : Option Nat → V
  | none => .non
  | some n => nV n
/-- what isinstance asks of the class -/
structure Gi (K : PySem.W.Frag) (C : Addr) : Prop where
  ca : PySem.W.findIn K (.ref C) "__class__" = some (some (.builtin "object.__class__"))
  cn : PySem.W.specialIn K (.builtin "object.__class__") "__get__" = some (some (.builtin "getset_descriptor.__get__"))
  ct : PySem.W.takesIn K (.builtin "object.__class__") = some true
  mro : PySem.W.mroIn K C (.type "object") = some true
  ic : PySem.W.isClsIn K C = true
  ty : PySem.W.typeIn K (.ref C) = some (.type "type")
  sub : PySem.W.subIn K (.type "tuple") (.ref C) = some false
theorem kit_own {K : PySem.W.Frag} {C : Addr} : PySem.W.kitOne K (.ref C) (.ref C) = some true := if_pos (beq_self_eq_true _)
theorem kit_tup {K : PySem.W.Frag} {C : Addr} (T : Gi K C) : PySem.W.kitOne K (.type "tuple") (.ref C) = some false := by
  unfold PySem.W.kitOne
  rw [if_neg (by simp)]
  unfold PySem.W.kitCls
  have h1 : (PySem.W.clsIn K C).isSome = true := T.ic
  show (if ((PySem.W.clsIn K C).isSome && PySem.W.typeIn K (.ref C) == some (.type "type")) = true then PySem.W.subIn K (.type "tuple") (.ref C) else none) = some false
  rw [if_pos (by rw [h1, T.ty]; simp)]
  exact T.sub
theorem fldK {X : Cx} {e : Expr} {f : Str} {pos : Pos} {ta : TE} (K : PySem.W.Frag) (he : PE X e ta) (hb : attributeBase e f X.env (eval e X.env) = eval e X.env) (h : X.K = K := by rfl) : PE X (.Attribute e f pos) (tFld K ta f) := by
  subst h
  exact pe_fld he hb
section
variable {P : Program} {w : World} {K : PySem.W.Frag} {mg : Str → Option Value} {base : Heap}
/-! ### begin, end, kept, len -/
theorem scBegin : FnScope ["self"] ["self"] (defScope mBegin) := ⟨rfl, rfl, rfl, by decide +kernel, rfl, by decide +kernel, by decide +kernel⟩
theorem scEnd : FnScope ["self"] ["self"] (defScope mEnd) := ⟨rfl, rfl, rfl, by decide +kernel, rfl, by decide +kernel, by decide +kernel⟩
theorem scKept : FnScope ["self"] ["self"] (defScope mKept) := ⟨rfl, rfl, rfl, by decide +kernel, rfl, by decide +kernel, by decide +kernel⟩
theorem scLen : FnScope ["self"] ["self"] (defScope mLen) := ⟨rfl, rfl, rfl, by decide +kernel, rfl, by decide +kernel, by decide +kernel⟩
def spBegin (C : Addr) : Sp := fun vs H Q _ => ∃ (g : Addr) (ms : Ms), vs = [.ref g] ∧ Gm C H g ms ∧ ∀ b, Tp H b (mB ms) → Q (.ref b) H
def spEnd (C : Addr) : Sp := fun vs H Q _ => ∃ (g : Addr) (ms : Ms), vs = [.ref g] ∧ Gm C H g ms ∧ ∀ b, Tp H b (mE ms) → Q (.ref b) H
def spKept (C : Addr) : Sp := fun vs H Q _ => ∃ (g : Addr) (ms : Ms), vs = [.ref g] ∧ Gm C H g ms ∧ ∀ b, Kt H b ((mK ms 0).map nV) → Q (.ref b) H
def spLenG (C : Addr) : Sp := fun vs H Q _ => ∃ (g : Addr) (ms : Ms), vs = [.ref g] ∧ Gm C H g ms ∧ Q (nV (mC ms)) H
theorem ok_begin {f C : Addr} {fd : FuncData} {k : Nat} (F : Fun K "begin" "Growth.begin" mBegin f fd) (T : Gc K mg C) : FnOk P w K mg base CX0 (k + 1) f fd ["self"] (spBegin C) := by
  refine F.ok scBegin (fun vs H Q E h => ?_) (fun cdv A outer s H vs Q E hr h => ?_)
  · obtain ⟨g, ms, rfl, _⟩ := h
    rfl
  · obtain ⟨g, ms, rfl, ⟨dx, b, i, e, k', rs, h1, h2, h3, h4, h5, h6⟩, q⟩ := h
    exact ⟨_, pss_one (ps_ret (pe_fld (pv 0) rfl)), ⟨_, rfl, g, C, dx, _, _, rfl, h1, T.cl, T.nB, gf_b _ _ _ _, q b h2⟩⟩
theorem ok_end {f C : Addr} {fd : FuncData} {k : Nat} (F : Fun K "end" "Growth.end" mEnd f fd) (T : Gc K mg C) : FnOk P w K mg base CX0 (k + 1) f fd ["self"] (spEnd C) := by
  refine F.ok scEnd (fun vs H Q E h => ?_) (fun cdv A outer s H vs Q E hr h => ?_)
  · obtain ⟨g, ms, rfl, _⟩ := h
    rfl
  · obtain ⟨g, ms, rfl, ⟨dx, b, i, e, k', rs, h1, h2, h3, h4, h5, h6⟩, q⟩ := h
    exact ⟨_, pss_one (ps_ret (pe_fld (pv 0) rfl)), ⟨_, rfl, g, C, dx, _, _, rfl, h1, T.cl, T.nE, gf_e _ _ _ _, q e h5⟩⟩
theorem ok_kept {f C : Addr} {fd : FuncData} {k : Nat} (F : Fun K "kept" "Growth.kept" mKept f fd) (T : Gc K mg C) : FnOk P w K mg base CX0 (k + 1) f fd ["self"] (spKept C) := by
  refine F.ok scKept (fun vs H Q E h => ?_) (fun cdv A outer s H vs Q E hr h => ?_)
  · obtain ⟨g, ms, rfl, _⟩ := h
    rfl
  · obtain ⟨g, ms, rfl, ⟨dx, b, i, e, k', rs, h1, h2, h3, h4, h5, h6⟩, q⟩ := h
    exact ⟨_, pss_one (ps_ret (pe_fld (pv 0) rfl)), ⟨_, rfl, g, C, dx, _, _, rfl, h1, T.cl, T.nK, gf_k _ _ _ _, q k' h6⟩⟩
theorem ok_len {f C : Addr} {fd : FuncData} {k : Nat} (F : Fun K "__len__" "Growth.__len__" mLen f fd) (B : Bn mg) (T : Gc K mg C) : FnOk P w K mg base CX0 (k + 1) f fd ["self"] (spLenG C) := by
  refine F.ok scLen (fun vs H Q E h => ?_) (fun cdv A outer s H vs Q E hr h => ?_)
  · obtain ⟨g, ms, rfl, _⟩ := h
    rfl
  · obtain ⟨g, ms, rfl, ⟨dx, b, i, e, k', rs, h1, h2, h3, h4, h5, h6⟩, q⟩ := h
    refine ⟨_, pss_one (ps_ret (pe_callB call_len_seq (by rfl) B.len PySem.boot_len (pa_cons (pe_fld (pv 0) rfl) pa_nil))), ⟨_, rfl, g, C, dx, _, _, rfl, h1, T.cl, T.nI, gf_i _ _ _ _, i, rs, rfl, .inr (sqt h3), ?_⟩⟩
    rw [h4]
    exact q
/-! ### growth(position), origin -/
theorem scCall : FnScope ["self", "position"] ["self", "position"] (defScope mCall) := ⟨rfl, rfl, rfl, by decide +kernel, rfl, by decide +kernel, by decide +kernel⟩
def spCallG (C : Addr) : Sp := fun vs H Q _ => ∃ (g : Addr) (ms : Ms) (j n : Nat), vs = [.ref g, .int (j : Nat)] ∧ Gm C H g ms ∧ (mK ms 0)[j]? = some n ∧ Q (nV n) H
theorem ok_call {f C : Addr} {fd : FuncData} {k : Nat} (F : Fun K "__call__" "Growth.__call__" mCall f fd) (B : Bn mg) (T : Gc K mg C) (C1 : Cal P w K mg base k "check_number" ["value", "least", "most"] spCheckNumber) : FnOk P w K mg base CX0 (k + 1) f fd ["self", "position"] (spCallG C) := by
  obtain ⟨f1, fd1, G1, g1, kp1, b1⟩ := C1
  refine F.ok scCall (fun vs H Q E h => ?_) (fun cdv A outer s H vs Q E hr h => ?_)
  · obtain ⟨g, ms, j, n, rfl, _⟩ := h
    rfl
  · obtain ⟨g, ms, j, n, rfl, ⟨dx, b, i, e, k', rs, h1, h2, h3, h4, h5, h6⟩, hj, q⟩ := h
    refine ⟨_, pss_cons (ps_expr (pe_call G1 hr (by rfl) g1 kp1 b1 .nil pass0 (pa_cons (pv 1) (pa_cons pe_int (pa_cons (pe_op op_sub (pe_callB call_len_seq (by rfl) B.len PySem.boot_len (pa_cons (pe_fld (pv 0) rfl) pa_nil)) pe_int) pa_nil)))))
      (pss_one (ps_ret (pe_ix ix_tup (pe_fld (pv 0) rfl) (pv 1) (fun _ _ => rfl)))), ?_⟩
    refine ⟨.int (j : Nat), rfl, _, rfl, g, C, dx, _, _, rfl, h1, T.cl, T.nB, gf_b _ _ _ _, b, _, rfl, .inr (sqt h2), _, 1, rfl, rfl, (j : Int), 0, _, rfl, ?_, ?_, ?_⟩
    · omega
    · have := get_lt hj
      rw [mK_len] at this
      rw [List.length_map]
      show (j : Int) ≤ ((mB ms).length : Int) - 1
      omega
    · exact ⟨_, rfl, g, C, dx, _, _, rfl, h1, T.cl, T.nK, gf_k _ _ _ _, .int (j : Nat), rfl, k', _, _, nV n, rfl, rfl, h6.sq, atI_nat (by rw [List.getElem?_map, hj]; rfl), q⟩
theorem in_nV (n : Nat) : ∀ K : List Nat, inV (nV n) (K.map nV) = decide (n ∈ K)
  | [] => rfl
  | m :: K => by
    show (eqV (nV m) (nV n) || inV (nV n) (K.map nV)) = _
    rw [in_nV n K]
    show ((((m : Nat) : Int) == ((n : Nat) : Int)) || decide (n ∈ K)) = _
    by_cases e : m = n
    · subst e
      simp
    · have h1 : ¬ ((m : Nat) : Int) = ((n : Nat) : Int) := fun z => e (by omega)
      have h2 : ¬ n = m := fun z => e z.symm
      simp [h1, h2]
theorem flat_nV : ∀ K : List Nat, (K.map nV).all flatV = true
  | [] => rfl
  | m :: K => flat_nV K
theorem idx_first {K : List Nat} {n m : Nat} {z : V} (hm : m < K.idxOf n) (h : (K.map nV)[m]? = some z) : eqV z (nV n) = false := by
  obtain ⟨v, hv, rfl⟩ := get_map' h
  show (((v : Nat) : Int) == ((n : Nat) : Int)) = false
  have ne : v ≠ n := fun e => by
    subst e
    have hl : m < K.length := get_lt hv
    have := List.not_of_lt_findIdx (p := (· == v)) (xs := K) (i := m) hm
    rw [(List.getElem?_eq_some_iff.mp hv).2] at this
    simp at this
  exact beq_eq_false_iff_ne.mpr fun e => ne (by omega)
theorem scOrigin : FnScope ["self", "position"] ["self", "position"] (defScope mOrigin) := ⟨rfl, rfl, rfl, by decide +kernel, rfl, by decide +kernel, by decide +kernel⟩
def spOrigin (C : Addr) : Sp := fun vs H Q _ => ∃ (g : Addr) (ms : Ms) (j : Nat), vs = [.ref g, .int (j : Nat)] ∧ Gm C H g ms ∧ j < ms.length ∧ Q (oV (oP (mK ms 0) j)) H
theorem ok_origin {f C : Addr} {fd : FuncData} {k : Nat} (F : Fun K "origin" "Growth.origin" mOrigin f fd) (B : Bn mg) (T : Gc K mg C) (C1 : Cal P w K mg base k "check_number" ["value", "least", "most"] spCheckNumber) : FnOk P w K mg base CX0 (k + 1) f fd ["self", "position"] (spOrigin C) := by
  obtain ⟨f1, fd1, G1, g1, kp1, b1⟩ := C1
  refine F.ok scOrigin (fun vs H Q E h => ?_) (fun cdv A outer s H vs Q E hr h => ?_)
  · obtain ⟨g, ms, j, rfl, _⟩ := h
    rfl
  · obtain ⟨g, ms, j, rfl, ⟨dx, b, i, e, k', rs, h1, h2, h3, h4, h5, h6⟩, hj, q⟩ := h
    refine ⟨_, pss_cons (ps_expr (pe_call G1 hr (by rfl) g1 kp1 b1 .nil pass0 (pa_cons (pv 1) (pa_cons pe_int (pa_cons (pe_op op_sub (pe_callB call_len_seq (by rfl) B.len PySem.boot_len (pa_cons (pe_fld (pv 0) rfl) pa_nil)) pe_int) pa_nil)))))
      (pss_one (ps_ret (pe_ifExp (pt_cmpR op_in_seq (pv 1) (pe_fld (pv 0) rfl) (by rfl)) (pe_bmF PySem.F.slot_tuple_index PySem.F.type_tuple_index mt_tupIndex (pe_fld (pv 0) rfl) (pa_cons (pv 1) pa_nil)) pe_non))), ?_⟩
    refine ⟨.int (j : Nat), rfl, _, rfl, g, C, dx, _, _, rfl, h1, T.cl, T.nE, gf_e _ _ _ _, e, _, rfl, .inr (sqt h5), _, 1, rfl, rfl, (j : Int), 0, _, rfl, ?_, ?_, ?_⟩
    · omega
    · rw [List.length_map, mE_len]
      show (j : Int) ≤ (ms.length : Int) - 1
      omega
    · refine ⟨.int (j : Nat), rfl, _, rfl, g, C, dx, _, _, rfl, h1, T.cl, T.nK, gf_k _ _ _ _, k', _, rfl, .inr h6.sq, rfl, flat_nV _, _, rfl, ?_⟩
      rw [if_neg Bool.false_ne_true, show inV (V.int ((j : Nat) : Int)) ((mK ms 0).map nV) = decide (j ∈ mK ms 0) from in_nV j _]
      by_cases hm : j ∈ mK ms 0
      · rw [decide_eq_true hm]
        refine iteT ⟨_, rfl, g, C, dx, _, _, rfl, h1, T.cl, T.nK, gf_k _ _ _ _, ⟨k', _, rfl, h6⟩, .int (j : Nat), rfl, k', _, nV j, (mK ms 0).idxOf j, nV j, rfl, rfl, h6.sq, rfl, flat_nV _, ?_, ?_, fun m z h1 h2 => idx_first h1 h2, ?_⟩
        · rw [List.getElem?_map, get_idx hm]
          rfl
        · exact beq_self_eq_true _
        · rw [show oP (mK ms 0) j = some ((mK ms 0).idxOf j) from if_pos hm] at q
          exact q
      · rw [decide_eq_false hm]
        rw [show oP (mK ms 0) j = none from if_neg hm] at q
        exact iteF q
end
end Sfl
namespace Sfl
open PySem PySem.Spec PyProof.Rows L2
theorem emp_app (x : Str) : Str.empty ++ x = x := by
  show Str.append Str.empty x = x
  unfold Str.append Str.empty
  simp
abbrev tI (n : Nat) : Str := Str.ofString (toString ((n : Nat) : Int))
theorem tI_len : ∀ n : Nat, n < 801 → (tI n).length ≤ 20 := by decide +kernel
def gtxt (a b : Nat) : Str := (((Str.ofString "growth from " ++ tI a) ++ Str.ofString " to ") ++ tI b) ++ Str.ofString " events"
section
variable {P : Program} {w : World} {K : PySem.W.Frag} {mg : Str → Option Value} {base : Heap}
theorem scStr : FnScope ["self"] ["self"] (defScope mStr) := ⟨rfl, rfl, rfl, by decide +kernel, rfl, by decide +kernel, by decide +kernel⟩
def spStrG (C : Addr) : Sp := fun vs H Q _ => ∃ (g : Addr) (ms : Ms), vs = [.ref g] ∧ Gm C H g ms ∧ ms.length ≤ 800 ∧ Q (.str (gtxt (mB ms).length (mE ms).length)) H
theorem log_small {n : Nat} (h : n ≤ 1000) : ((n : Nat) : Int).natAbs.log2 < 1920 := by
  rw [Int.natAbs_natCast]
  have : n.log2 ≤ n := Nat.log2_le_self n
  omega
theorem ok_str {f C : Addr} {fd : FuncData} {k : Nat} (F : Fun K "__str__" "Growth.__str__" mStr f fd) (B : Bn mg) (T : Gc K mg C) : FnOk P w K mg base CX0 (k + 1) f fd ["self"] (spStrG C) := by
  refine F.ok scStr (fun vs H Q E h => ?_) (fun cdv A outer s H vs Q E hr h => ?_)
  · obtain ⟨g, ms, rfl, _⟩ := h
    rfl
  · obtain ⟨g, ms, rfl, ⟨dx, b, i, e, k', rs, h1, h2, h3, h4, h5, h6⟩, hl, q⟩ := h
    refine ⟨_, pss_one (ps_ret (pe_joined (.cons pe_str (.cons (pe_fmt (pe_callB call_len_seq (by rfl) B.len PySem.boot_len (pa_cons (pe_fld (pv 0) rfl) pa_nil))) (.cons pe_str (.cons (pe_fmt (pe_callB call_len_seq (by rfl) B.len PySem.boot_len (pa_cons (pe_fld (pv 0) rfl) pa_nil))) (.cons pe_str .nil))))))), ?_⟩
    have hB : (mB ms).length ≤ 800 := by
      have := len_BC ms
      omega
    have tB := tI_len (mB ms).length (by omega)
    have tE := tI_len (mE ms).length (by rw [mE_len]; omega)
    have ln : ∀ a b : Str, (a ++ b).length = a.length + b.length := strLen_append
    have c1 : (Str.ofString "growth from ").length = 12 := by decide +kernel
    have c2 : (Str.ofString " to ").length = 4 := by decide +kernel
    have c3 : (Str.ofString " events").length = 7 := by decide +kernel
    have big : ∀ n : Nat, n ≤ 1000 → n ≤ sizeLine := fun n h => Nat.le_trans h (by decide)
    refine ⟨Str.ofString "growth from ", rfl, ?_, ?_⟩
    · rw [emp_app, c1]
      decide
    rw [emp_app]
    refine ⟨_, rfl, g, C, dx, _, _, rfl, h1, T.cl, T.nB, gf_b _ _ _ _, b, _, rfl, .inr (sqt h2), .inr ⟨_, rfl, ?_, tI (mB ms).length, ?_, ?_, Str.ofString " to ", rfl, ?_, ?_⟩⟩
    · rw [List.length_map]
      exact log_small (by omega)
    · rw [List.length_map]
    · rw [ln]
      exact big _ (by omega)
    · rw [ln, ln]
      exact big _ (by omega)
    refine ⟨_, rfl, g, C, dx, _, _, rfl, h1, T.cl, T.nE, gf_e _ _ _ _, e, _, rfl, .inr (sqt h5), .inr ⟨_, rfl, ?_, tI (mE ms).length, ?_, ?_, Str.ofString " events", rfl, ?_, ?_⟩⟩
    · rw [List.length_map, mE_len]
      exact log_small (by omega)
    · rw [List.length_map]
    · rw [ln, ln, ln]
      exact big _ (by omega)
    · rw [ln, ln, ln, ln]
      exact big _ (by omega)
    · exact q
/-! ### == -/
theorem scEq : FnScope ["self", "other"] ["self", "other"] (defScope mEq) := ⟨rfl, rfl, rfl, by decide +kernel, rfl, by decide +kernel, by decide +kernel⟩
def spEqG (C : Addr) : Sp := fun vs H Q _ => ∃ (g h : Addr) (ms : Ms), vs = [.ref g, .ref h] ∧ Gm C H g ms ∧ Mg ms ∧ ((∃ ms2, Gm C H h ms2 ∧ Mg ms2 ∧ Q (.bl (decide (ms = ms2))) H) ∨ (∃ xs, H h = some (.tup xs) ∧ Q (.bl false) H))
theorem ok_eq {f C : Addr} {fd : FuncData} {k : Nat} (F : Fun K "__eq__" "Growth.__eq__" mEq f fd) (B : Bn mg) (T : Gc K mg C) (I : Gi K C) : FnOk P w K mg base CX0 (k + 1) f fd ["self", "other"] (spEqG C) := by
  refine F.ok scEq (fun vs H Q E h => ?_) (fun cdv A outer s H vs Q E hr h => ?_)
  · obtain ⟨g, h, ms, rfl, _⟩ := h
    rfl
  · obtain ⟨g, h, ms, rfl, hg, M1, hh⟩ := h
    refine ⟨_, pss_one (ps_ret (pe_and (pe_callB call_isi (by rfl) B.isi (by decide +kernel) (pa_cons (pv 1) (pa_cons (pe_glob (v := .ref C) rfl T.mgC rfl) pa_nil)))
      (pe_and (pe_cmpR (op_eqD hr.units) (pe_fld (pv 0) rfl) (pe_fld (pv 1) rfl) (nomark _)) (pe_and (pe_cmpR (op_eqD hr.units) (pe_fld (pv 0) rfl) (pe_fld (pv 1) rfl) (nomark _))
        (pe_one (pe_cmpR (op_eqD hr.units) (pe_fld (pv 0) rfl) (pe_fld (pv 1) rfl) (nomark _))))))), ?_⟩
    rcases hh with ⟨ms2, hg2, M2, q⟩ | ⟨xs, hx, q⟩
    · obtain ⟨dx, b, i, e, k', rs, h1, h2, h3, h4, h5, h6⟩ := hg
      obtain ⟨dx', b', i', e', k'', rs', h1', h2', h3', h4', h5', h6'⟩ := hg2
      refine ⟨_, rfl, .ref h, .ref C, _, .ref C, true, rfl, .own C, .base (.ins h1' T.cl I.ca I.cn I.ct I.mro), kit_own, _, rfl, iteT ?_⟩
      refine ⟨_, rfl, g, C, dx, _, _, rfl, h1, T.cl, T.nB, gf_b _ _ _ _, _, rfl, h, C, dx', _, _, rfl, h1', T.cl, T.nB, gf_b _ _ _ _, _, _, dp_tp h2, dp_tp h2', sh_tstr M1.lgB.nm, sh_tstr M2.lgB.nm, _, rfl, ?_⟩
      rw [eqv_tstr]
      refine ite2 (fun c1 => ?_) (fun c1 => ?_)
      · refine ⟨_, rfl, g, C, dx, _, _, rfl, h1, T.cl, T.nE, gf_e _ _ _ _, _, rfl, h, C, dx', _, _, rfl, h1', T.cl, T.nE, gf_e _ _ _ _, _, _, dp_tp h5, dp_tp h5', sh_tstr M1.nm, sh_tstr M2.nm, _, rfl, ?_⟩
        rw [eqv_tstr]
        refine ite2 (fun c2 => ?_) (fun c2 => ?_)
        · refine ⟨_, rfl, g, C, dx, _, _, rfl, h1, T.cl, T.nK, gf_k _ _ _ _, _, rfl, h, C, dx', _, _, rfl, h1', T.cl, T.nK, gf_k _ _ _ _, .tuple ((mK ms 0).map dI), .tuple ((mK ms2 0).map dI), .tup h6.sq (all_ints _), .tup h6'.sq (all_ints _), sh_tint _, sh_tint _, ?_⟩
          rw [eqv_tint]
          have e : decide (mK ms 0 = mK ms2 0) = decide (ms = ms2) := by
            rw [decide_eq_decide]
            exact ⟨fun z => ms_ext ms ms2 0 (of_decide_eq_true c2) z, fun z => by rw [z]⟩
          rw [e]
          exact q
        · rw [decide_eq_false (show ¬ ms = ms2 from fun z => c2 (decide_eq_true (by rw [z])))] at q
          exact q
      · rw [decide_eq_false (show ¬ ms = ms2 from fun z => c1 (decide_eq_true (by rw [z])))] at q
        exact q
    · refine ⟨_, rfl, .ref h, .ref C, _, .ref C, false, rfl, .own C, .base (.tup hx), kit_tup I, _, rfl, iteF q⟩
/-! ### + -/
abbrev nAdd : List Str := ["self", "other", "kept", "at", "insertions"]
theorem scAdd : FnScope nAdd ["self", "other"] (defScope mAdd) := ⟨rfl, rfl, rfl, by decide +kernel, rfl, by decide +kernel, by decide +kernel⟩
def spAddG (C : Addr) : Sp := fun vs H Q _ => ∃ (g h : Addr) (ms ms2 : Ms), vs = [.ref g, .ref h] ∧ Gm C H g ms ∧ Gm C H h ms2 ∧ Mg ms ∧ Mg ms2 ∧ mE ms = mB ms2 ∧ ∀ H' r, Same H H' → Gm C H' r (comp ms ms2) → Q (.ref r) H'
theorem ok_add {f C : Addr} {fd : FuncData} {fi : Addr} {k : Nat} (F : Fun K "__add__" "Growth.__add__" mAdd f fd) (B : Bn mg) (T : Gc K mg C) (I : Gi K C) (C1 : Cal P w K mg base k "insertions_of" ["end", "kept"] spInsOf) (M : Mk K C fi) (FI : FnR P w K mg base CX0 k fi (spStar C)) :
    FnOk P w K mg base CX0 (k + 2) f fd ["self", "other"] (spAddG C) := by
  obtain ⟨f1, fd1, G1, g1, kp1, b1⟩ := C1
  refine F.ok (k := k + 1) scAdd (fun vs H Q E h => ?_) (fun cdv A outer s H vs Q E hr h => ?_)
  · obtain ⟨g, h, ms, ms2, rfl, _⟩ := h
    rfl
  · obtain ⟨g, h, ms, ms2, rfl, hg, hg2, M1, M2, hBE, q⟩ := h
    have hr1 : Room k _ := hr.mono (Nat.le_succ k)
    refine ⟨_, pss_cons (ps_if (PW.pt (pw_or (pt_not (pt_val (pe_callB call_isi (by rfl) B.isi (by decide +kernel) (pa_cons (pv 1) (pa_cons (pe_glob (v := .ref C) rfl T.mgC rfl) pa_nil)))))
        (pw_or1 (pt_cmpR (op_neD hr.units) (pe_fld (pv 1) rfl) (pe_fld (pv 0) rfl) (nomark _))))) (pss_one ps_never) pss_nil)
      (pss_cons (ps_set (i := 2) scAdd.nd rfl (.inl rfl) (pe_callTy call_tuple_of (by rfl) B.tuple (by decide +kernel) (pa_cons
        (pe_lc (own := [("at", 3)]) (g := gName 3) (tt := tYes) rfl scAdd.nd (pi_tup (pe_fld (pv 0) rfl)) (blkOk_by (own := [("at", 3)]) (N := nAdd) (sc := defScope mAdd) (by decide +kernel))
          (fun _ _ _ _ _ => pg_name (i := 3) scAdd.nd rfl (Or.inl rfl)) (fun _ _ _ _ _ => pts_nil) (fun _ _ _ _ _ => pe_ix (ixTK K) (fldK K (pv 1) rfl) (pv 3) (fun _ _ => rfl))) pa_nil)))
      (pss_cons (ps_set (i := 4) scAdd.nd rfl (.inl rfl) (pe_call G1 hr1 (by rfl) g1 kp1 b1 .nil pass0 (pa_cons (pe_fld (pv 1) rfl) (pa_cons (pv 2) pa_nil))))
      (pss_one (ps_ret (pe_makeS M FI hr (by rfl) T.mgC pass0 (pa_cons (pe_fld (pv 0) rfl) (StX.pa_star (pv 4) pa_nil))))))), ?_⟩
    obtain ⟨dx, b, i, e, k', rs, h1, h2, h3, h4, h5, h6⟩ := hg
    obtain ⟨dx', b', i', e', k'', rs', h1', h2', h3', h4', h5', h6'⟩ := hg2
    refine ⟨_, rfl, .ref h, .ref C, _, .ref C, true, rfl, .own C, .base (.ins h1' T.cl I.ca I.cn I.ct I.mro), kit_own, _, rfl, iteF ?_⟩
    refine ⟨_, rfl, h, C, dx', _, _, rfl, h1', T.cl, T.nB, gf_b _ _ _ _, _, rfl, g, C, dx, _, _, rfl, h1, T.cl, T.nE, gf_e _ _ _ _, _, _, dp_tp h2', dp_tp h5, sh_tstr M2.lgB.nm, sh_tstr M1.nm, _, rfl, ?_⟩
    rw [eqv_tstr, decide_eq_true hBE.symm]
    refine iteF ?_
    have hKl : (mK ms 0).length ≤ 200 := by
      rw [mK_len]
      exact M1.lgB.len
    refine ⟨_, rfl, g, C, dx, _, _, rfl, h1, T.cl, T.nK, gf_k _ _ _ _, k', rfl, ⟨_, h6.sq⟩, fun D nD => ?_⟩
    refine lc_tup (xs := (mK ms 0).map nV) (fun i H4 => Same H H4 ∧ H4 D = some (.lst ((((mK ms 0).take i).map fun n => (mK ms2 0).getD n 0).map nV))) ⟨same_upd nD, upd_same⟩ (fun i H4 hi hp4 => (h6.same hp4.1).sq) (fun i x H4 hx hp4 => ?_) (fun H4 hp4 => ?_)
    · obtain ⟨sm, hD⟩ := hp4
      obtain ⟨n, hn, rfl⟩ := get_map' hx
      have hi : i < (mK ms 0).length := get_lt hn
      have hnl : n < (mK ms2 0).length := by
        have := mK_rng ms 0 n (List.mem_of_getElem? hn)
        rw [mK_len, ← hBE, mE_len]
        omega
      have hgn := List.getElem?_eq_getElem hnl
      refine ⟨rfl, _, rfl, h, C, dx', _, _, rfl, sm _ _ h1', T.cl, T.nK, gf_k _ _ _ _, nV n, rfl, k'', _, _, nV (mK ms2 0)[n], rfl, rfl, (h6'.same sm).sq, atI_nat (by rw [List.getElem?_map, hgn]; rfl), _, hD, ?_, same_put sm nD, ?_⟩
      · rw [List.length_map, List.length_map, List.length_take]
        exact small1000 (by omega)
      · have et : (mK ms 0).take (i + 1) = (mK ms 0).take i ++ [n] := by
          rw [← List.take_append_getElem hi, (List.getElem?_eq_some_iff.mp hn).2]
        rw [upd_same, et, List.map_append, List.map_append]
        show _ = some (HO.lst (_ ++ [nV ((mK ms2 0).getD n 0)]))
        rw [getD_of hgn]
    · obtain ⟨sm, hD⟩ := hp4
      rw [List.length_map, List.take_length, ← mK_comp ms ms2 0 hBE] at hD
      refine ⟨D, _, rfl, .inl ⟨sql hD, fun p np => ?_⟩⟩
      have s5 := sm.trans (same_upd (o := .tup ((mK (comp ms ms2) 0).map nV)) np)
      have hE5 : Tp (upd H4 p (.tup ((mK (comp ms ms2) 0).map nV))) e' (mE (comp ms ms2)) := by
        show _ = _
        rw [mE_comp ms ms2 hBE]
        exact s5 _ _ h5'
      have hcl : (comp ms ms2).length ≤ 200 := by
        rw [← mE_len, mE_comp ms ms2 hBE, mE_len]
        exact M2.len
      refine ⟨_, rfl, h, C, dx', _, _, rfl, s5 _ _ h1', T.cl, T.nE, gf_e _ _ _ _, .ref p, rfl, e', p, comp ms ms2, rfl, hE5, upd_same, Nat.le_trans hcl (by decide), fun H6 q6 s6 hins => ?_⟩
      obtain ⟨rs2, hq6, hpl⟩ := hins
      have s7 := s5.trans s6
      refine ⟨_, rfl, g, C, dx, _, _, rfl, s7 _ _ h1, T.cl, T.nB, gf_b _ _ _ _, .ref q6, rfl, q6, _, rfl, .inl (sqt hq6), ?_⟩
      show ∀ (x dx : Addr), H6 x = none → H6 dx = none → dx ≠ x → spStar C (V.ref x :: (V.ref b :: (rs2.map V.ref ++ []))) _ _ _
      rw [List.append_nil]
      refine mk_ok (ins := io (comp ms ms2) 0) (s7 _ _ h2) hpl M1.lgB (fun x hx => ⟨?_, ?_⟩) ?_ fun H8 r s8 nr hgm => ?_
      · have := (io_gap _ _ x hx).2
        rw [mB_comp ms ms2 hBE] at this
        omega
      · have := io_mem _ _ x hx
        rw [mE_comp ms ms2 hBE] at this
        exact M2.nm _ this
      · rw [io_len, ← mB_comp ms ms2 hBE, len_BC]
        exact hcl
      · rw [← mB_comp ms ms2 hBE, gm_io] at hgm
        exact q _ r (s7.trans s8) hgm
end
end Sfl
namespace Sfl
open PySem PySem.Spec PyProof.Rows L2 GenW
theorem gfor_enumT {K : PySem.W.Frag} {a : Addr} {xs : List V} {g : TG} {tb : TGn} {D : GEnds} {ys : List V} {σ : L2.St} {H : Hp} (Pv : Nat → List V → L2.St → Hp → Prop) (h0 : Pv 0 ys σ H) (hl : ∀ i ys σ H, i ≤ xs.length → Pv i ys σ H → SqT K H a xs)
    (hs : ∀ (i : Nat) (x : V) (T : Addr) (ys : List V) (σ : L2.St) (H : Hp), xs[i]? = some x → Pv i ys σ H → H T = none →
      g (.ref T) σ (upd H T (.tup [.int (i : Nat), x])) fun σ2 H2 => tb { D with nx := Pv (i + 1), ct := Pv (i + 1), bk := D.nx } ys σ2 H2)
    (hd : ∀ ys σ H, Pv xs.length ys σ H → D.nx ys σ H) :
    ∃ W : Nat → Nat → List V → L2.St → Hp → Prop, (∃ m, W 0 m ys σ H) ∧ ∀ i m ys σ H, W i m ys σ H →
      ((ItEt K a).stop i H ∧ D.nx ys σ H) ∨ ((ItEt K a).go i H ∧ ∃ N : List V → L2.St → Hp → Prop, (∀ ys' σ' H', N ys' σ' H' → ∃ m', m' < m ∧ W (i + 1) m' ys' σ' H') ∧
        ∀ v H', (ItEt K a).yld i H v H' → g v σ H' fun σ2 H2 => tb { D with nx := N, ct := N, bk := D.nx } ys σ2 H2) := by
  refine ⟨fun i m ys σ H => m = xs.length - i ∧ i ≤ xs.length ∧ Pv i ys σ H, ⟨xs.length, by simp, Nat.zero_le _, h0⟩, ?_⟩
  rintro i m ys σ H ⟨rfl, hi, p⟩
  have q := hl i ys σ H hi p
  by_cases hlt : i < xs.length
  · refine .inr ⟨⟨xs, xs[i], q, by simp [hlt]⟩, Pv (i + 1), fun ys' σ' H' p' => ⟨xs.length - (i + 1), by omega, rfl, hlt, p'⟩, fun v H' y => ?_⟩
    obtain ⟨T, x, rfl, hT, rfl, f⟩ := y
    exact hs i x T ys σ H (f xs q) p hT
  · have e : i = xs.length := by omega
    subst e
    exact .inl ⟨⟨xs, q, rfl⟩, hd ys σ H p⟩
/-- the growths of the steps stand at gs -/
def Sts (C : Addr) (H : Hp) (gs : List Addr) (ms : Ms) (ns : List Nat) : Prop := gs.length = ns.length ∧ ∀ (i : Nat) (r : Addr) (v : Nat) (y : Str), gs[i]? = some r → ns[i]? = some v → ms[v]? = some (y, false) → Gm C H r (stp ms v y)
theorem Sts.same {C : Addr} {H H' : Hp} {gs : List Addr} {ms : Ms} {ns : List Nat} (h : Sts C H gs ms ns) (s : Same H H') : Sts C H' gs ms ns := ⟨h.1, fun i r v y a b c => (h.2 i r v y a b c).same s⟩
theorem Sts.snoc {C : Addr} {H : Hp} {gs : List Addr} {ms : Ms} {ns : List Nat} {r : Addr} {v : Nat} {y : Str} (h : Sts C H gs ms ns) (hm : ms[v]? = some (y, false)) (hg : Gm C H r (stp ms v y)) : Sts C H (gs ++ [r]) ms (ns ++ [v]) := by
  refine ⟨by rw [List.length_append, List.length_append, h.1]; rfl, fun i r' v' y' h1 h2 h3 => ?_⟩
  by_cases hi : i < gs.length
  · rw [List.getElem?_append_left hi] at h1
    rw [List.getElem?_append_left (by rw [← h.1]; exact hi)] at h2
    exact h.2 i r' v' y' h1 h2 h3
  · have hl := get_lt h1
    rw [List.length_append, List.length_singleton] at hl
    have ei : i = gs.length := by omega
    subst ei
    rw [List.getElem?_append_right (Nat.le_refl _), Nat.sub_self] at h1
    rw [h.1, List.getElem?_append_right (Nat.le_refl _), Nat.sub_self] at h2
    cases Option.some.inj (show some r = some r' from h1)
    cases Option.some.inj (show some v = some v' from h2)
    rw [hm] at h3
    cases Option.some.inj h3
    exact hg
section
variable {P : Program} {w : World} {K : PySem.W.Frag} {mg : Str → Option Value} {base : Heap}
/-! ### between -/
abbrev nBetween : List Str := ["cls", "log", "other", "way", "insertions"]
theorem scBetween : FnScope nBetween ["cls", "log", "other"] (defScope mBetween) := ⟨rfl, rfl, rfl, by decide +kernel, rfl, by decide +kernel, by decide +kernel⟩
def spBetween (C : Addr) : Sp := fun vs H Q _ => ∃ (lo ot : Addr) (l o : List Str), vs = [.ref C, .ref lo, .ref ot] ∧ Tp H lo l ∧ Tp H ot o ∧ Lg l ∧ Lg o ∧ l.Sublist o ∧ ∀ H' r, Same H H' → Gm C H' r (gmk l o) → Q (.ref r) H'
theorem ok_between {f C : Addr} {fd : FuncData} {fi : Addr} {k : Nat} (F : Fun K "between" "Growth.between" mBetween f fd) (T : Gc K mg C) (C1 : Cal P w K mg base k "check_log" ["value"] spCheckLog) (C2 : Cal P w K mg base k "first_way" ["log", "other"] spFirstWay)
    (C3 : Cal P w K mg base k "insertions_of" ["end", "kept"] spInsOf) (M : Mk K C fi) (FI : FnR P w K mg base CX0 k fi (spStar C)) : FnOk P w K mg base CX0 (k + 2) f fd ["cls", "log", "other"] (spBetween C) := by
  obtain ⟨f1, fd1, G1, g1, kp1, b1⟩ := C1
  obtain ⟨f2, fd2, G2, g2, kp2, b2⟩ := C2
  obtain ⟨f3, fd3, G3, g3, kp3, b3⟩ := C3
  refine F.ok (k := k + 1) scBetween (fun vs H Q E h => ?_) (fun cdv A outer s H vs Q E hr h => ?_)
  · obtain ⟨lo, ot, l, o, rfl, _⟩ := h
    rfl
  · obtain ⟨lo, ot, l, o, rfl, hl, ho, Ll, Lo, hsub, q⟩ := h
    have hr1 : Room k _ := hr.mono (Nat.le_succ k)
    refine ⟨_, pss_cons (ps_expr (pe_call G1 hr1 (by rfl) g1 kp1 b1 .nil pass0 (pa_cons (pv 1) pa_nil)))
      (pss_cons (ps_expr (pe_call G1 hr1 (by rfl) g1 kp1 b1 .nil pass0 (pa_cons (pv 2) pa_nil)))
      (pss_cons (ps_set (i := 3) scBetween.nd rfl (.inl rfl) (pe_call G2 hr1 (by rfl) g2 kp2 b2 .nil pass0 (pa_cons (pv 1) (pa_cons (pv 2) pa_nil))))
      (pss_cons (ps_if (pt_cmpR op_isN (pv 3) pe_non (nomark _)) (pss_one ps_never) pss_nil)
      (pss_cons (ps_set (i := 4) scBetween.nd rfl (.inl rfl) (pe_call G3 hr1 (by rfl) g3 kp3 b3 .nil pass0 (pa_cons (pv 2) (pa_cons (pv 3) pa_nil))))
      (pss_one (ps_ret (pe_makeV (pv 0) M FI hr pass0 (pa_cons (pv 1) (StX.pa_star (pv 4) pa_nil))))))))), ?_⟩
    refine ⟨.ref lo, rfl, lo, l, rfl, hl, Ll, fun H1 s1 => ⟨.ref ot, rfl, ot, o, rfl, s1 _ _ ho, Lo, fun H2 s2 => ?_⟩⟩
    have s12 := s1.trans s2
    refine ⟨.ref lo, rfl, .ref ot, rfl, lo, ot, l, o, rfl, s12 _ _ hl, s12 _ _ ho, Ll.k, fun H3 s3 ne => absurd (gr_full hsub) ne, fun H3 p s3 e np hp => ?_⟩
    have s13 := s12.trans s3
    refine ⟨.ref p, rfl, rfl, _, rfl, ?_⟩
    rw [decide_eq_false (show ¬ V.ref p = V.non by intro z; cases z)]
    refine iteF ⟨.ref ot, rfl, .ref p, rfl, ot, p, gmk l o, rfl, ?_, ?_, ?_, fun H4 q4 s4 hins => ?_⟩
    · rw [gmk_E]
      exact s13 _ _ ho
    · show _ = _
      rw [gmk_K]
      exact hp
    · rw [← mE_len, gmk_E]
      exact Nat.le_trans Lo.len (by decide)
    obtain ⟨rs2, hq4, hpl⟩ := hins
    have s14 := s13.trans s4
    have hB := gmk_B l o hsub
    refine ⟨.ref C, rfl, rfl, .ref lo, rfl, .ref q4, rfl, q4, _, rfl, .inl (sqt hq4), ?_⟩
    show ∀ (x dx : Addr), H4 x = none → H4 dx = none → dx ≠ x → spStar C (V.ref x :: (V.ref lo :: (rs2.map V.ref ++ []))) _ _ _
    rw [List.append_nil]
    refine mk_ok (ins := io (gmk l o) 0) (s14 _ _ hl) hpl Ll (fun x hx => ⟨?_, ?_⟩) ?_ fun H8 r s8 nr hgm => ?_
    · have := (io_gap _ _ x hx).2
      rw [hB] at this
      omega
    · have := io_mem _ _ x hx
      rw [gmk_E] at this
      exact Lo.nm _ this
    · have h1 := len_BC (gmk l o)
      rw [hB, ← mE_len, gmk_E] at h1
      have := Lo.len
      rw [io_len]
      omega
    · have e : gm l (io (gmk l o) 0) 0 = gmk l o := by
        have := gm_io (gmk l o) 0
        rw [hB] at this
        exact this
      rw [e] at hgm
      exact q _ r (s14.trans s8) hgm
/-! ### steps -/
abbrev nSteps : List Str := ["self", "log", "at", "event", "step"]
theorem scSteps : GScope nSteps ["self"] (defScope mSteps) := ⟨rfl, rfl, rfl, by decide +kernel, rfl, by decide +kernel, by decide +kernel⟩
def spSteps (C : Addr) : SpG := fun vs H Q _ => ∃ (g : Addr) (ms : Ms), vs = [.ref g] ∧ Gm C H g ms ∧ Mg ms ∧ ∀ H' gs, Same H H' → Sts C H' gs ms (mN ms 0) → Q (gs.map V.ref) H'
theorem ok_steps {f C : Addr} {fd : FuncData} {fi pe ge : Addr} {fde : FuncData} {k : Nat} (F : Fun K "steps" "Growth.steps" mSteps f fd) (B : Bn mg) (T : Gc K mg C) (M : Mk K C fi) (FI : FnR P w K mg base CX0 k fi (spStar C))
    (PE_ : PropOf K C "end" pe ge) (FE : FnOk P w K mg base CX0 k ge fde ["self"] (spEnd C)) (bE : Binds K fde ["self"] []) : GFn P w K mg base (k + 2) f fd ["self"] (spSteps C) := by
  obtain ⟨oc, od, kV, doc, pm, an, cdv, ct, osl, rfl, lk, hcd⟩ := F.ex
  refine gfn_of (k := k + 1) lk hcd scSteps (fun vs H Q E h => ?_) (fun A outer s H vs Q E pn hr h => ?_)
  · obtain ⟨g, ms, rfl, _⟩ := h
    rfl
  · obtain ⟨g, ms, rfl, hg, Mg1, q⟩ := h
    refine ⟨_, gss_cons (gs_ps (ps_set (i := 1) scSteps.nd rfl (.inl rfl) (pe_fld (pv 0) rfl)))
      (gss_cons (gs_for owns_gcx rfl (pi_enumT (by rfl) B.enum (pa_cons (pe_fld (pv 0) rfl) pa_nil)) (pg_tup rfl (pgs_cons (pg_name (i := 2) scSteps.nd rfl (.inl rfl)) (pgs_cons (pg_name (i := 3) scSteps.nd rfl (.inl rfl)) pgs_nil)))
        (gss_cons (gs_if (pt_cmpR op_notIn_seq (pv 2) (pe_fld (pv 0) rfl) (by rfl))
          (gss_cons (gs_ps (ps_set (i := 4) scSteps.nd rfl (.inl rfl) (StX.pe_makeR M FI hr (by rfl) T.mgC pass0 (pa_cons (pv 1) (pa_cons (pe_tup (pa_cons (pv 2) (pa_cons (pv 3) pa_nil))) pa_nil)))))
          (gss_cons (gs_ps (ps_set (i := 1) scSteps.nd rfl (.inl rfl) (pe_prop (pv 4) T.cl PE_ FE hr bE .nil pass0 rfl)))
          (gss_cons (gs_yield (pv 4)) gss_nil))) gss_nil) gss_nil)) gss_nil), ?_⟩
    obtain ⟨dx, b, i0, e, k', rs, h1, h2, h3, h4, h5, h6⟩ := hg
    refine ⟨_, rfl, g, C, dx, _, _, rfl, h1, T.cl, T.nB, gf_b _ _ _ _, _, rfl, g, C, dx, _, _, rfl, h1, T.cl, T.nE, gf_e _ _ _ _, e, _, rfl, sqt h5, ?_⟩
    refine gfor_enumT (xs := (mE ms).map V.str) (fun i ys σ H3 => ∃ lg y2 y3 y4 gs, σ = [some (.ref g), some (.ref lg), y2, y3, y4] ∧ Same H H3 ∧ Tp H3 lg (lgs ms i) ∧ ys = gs.map V.ref ∧ Sts C H3 gs ms (mN (ms.take i) 0)) ?_ ?_ ?_ ?_
    · exact ⟨b, none, none, none, [], rfl, Same.refl H, h2, rfl, rfl, fun i r v y z => by simp at z⟩
    · rintro i ys σ H3 hi ⟨lg, y2, y3, y4, gs, rfl, s3, _⟩
      exact sqt (s3 _ _ h5)
    · rintro i x T' ys σ H3 hx ⟨lg, y2, y3, y4, gs, rfl, s3, hlg, rfl, hst⟩ nT
      obtain ⟨y, hy, rfl⟩ := get_map' hx
      obtain ⟨m, hm, ey⟩ := get_map' (show (ms.map (·.1))[i]? = some y from hy)
      obtain ⟨my, mb⟩ := m
      cases (show my = y from ey)
      have hlt : i < ms.length := get_lt hm
      have sT : Same H3 (upd H3 T' (.tup [.int (i : Nat), .str y])) := same_upd nT
      have s4 := s3.trans sT
      refine ⟨T', [.int (i : Nat), .str y], rfl, .inl (.inl upd_same), rfl, _, _, rfl, _, _, rfl, rfl, ?_⟩
      refine ⟨.int (i : Nat), rfl, _, rfl, g, C, dx, _, _, rfl, s4 _ _ h1, T.cl, T.nK, gf_k _ _ _ _, k', _, rfl, .inr (h6.same s4).sq, rfl, flat_nV _, _, rfl, ?_⟩
      have hmem : decide (i ∈ mK ms 0) = mb := by
        cases mb with
        | true => exact decide_eq_true ((mem_mK ms 0 i).mpr ⟨Nat.zero_le _, y, by rw [Nat.sub_zero]; exact hm⟩)
        | false =>
          refine decide_eq_false fun z => ?_
          obtain ⟨_, x, hx'⟩ := (mem_mK ms 0 i).mp z
          rw [Nat.sub_zero, hm] at hx'
          cases Option.some.inj hx'
      rw [if_pos rfl, show inV (V.int ((i : Nat) : Int)) ((mK ms 0).map nV) = decide (i ∈ mK ms 0) from in_nV i _, hmem]
      cases mb with
      | true =>
        refine iteF ⟨lg, _, _, _, gs, rfl, s4, ?_, rfl, ?_⟩
        · show _ = _
          rw [lgs_kept hm]
          exact sT _ _ hlg
        · rw [take_at hm, mN_append]
          show Sts C _ gs ms (mN (ms.take i) 0 ++ [])
          rw [List.append_nil]
          exact hst.same sT
      | false =>
        have hmN : mN (ms.take (i + 1)) 0 = mN (ms.take i) 0 ++ [i] := by
          rw [take_at hm, mN_append, List.length_take, Nat.min_eq_left (Nat.le_of_lt hlt), Nat.zero_add]
          rfl
        have hlen : (lgs ms i).length + 1 ≤ 200 ∧ i ≤ (lgs ms i).length := by
          rw [lgs_put hm, List.length_append, mE_len, List.length_take, Nat.min_eq_left (Nat.le_of_lt hlt)]
          have h7 := len_BC (ms.drop (i + 1))
          rw [List.length_drop] at h7
          have := Mg1.len
          omega
        have hnm : ∀ z ∈ lgs ms i, Nm z = true := fun z hz => by
          unfold lgs at hz
          rcases List.mem_append.mp hz with hz | hz
          · refine Mg1.nm z ?_
            unfold mE at hz ⊢
            rw [List.map_take] at hz
            exact List.mem_of_mem_take hz
          · refine Mg1.nm z ?_
            have := mB_mem hz
            unfold mE at this ⊢
            rw [List.map_drop] at this
            exact List.mem_of_mem_drop this
        refine iteT ⟨.ref lg, rfl, .int (i : Nat), rfl, .str y, rfl, (show 2 ≤ sizeLine by decide), fun t nt => ?_⟩
        have st := same_upd (o := .tup [V.int ((i : Nat) : Int), .str y]) nt
        show ∀ (x dx : Addr), upd (upd H3 T' (.tup [.int (i : Nat), .str y])) t (.tup [V.int ((i : Nat) : Int), .str y]) x = none → upd (upd H3 T' (.tup [.int (i : Nat), .str y])) t (.tup [V.int ((i : Nat) : Int), .str y]) dx = none → dx ≠ x → spStar C (V.ref x :: (V.ref lg :: [t].map V.ref)) _ _ _
        refine mk_ok (l := lgs ms i) (ins := [(i, y)]) (rs := [t]) (st _ _ (sT _ _ hlg)) ⟨rfl, fun j r g' y' a1 a2 => ?_⟩ ⟨by omega, hnm⟩ (fun x hx => ?_) ?_ fun H5 r s5 nr hgm => ?_
        · match j, a1, a2 with
          | 0, a1, a2 =>
            cases Option.some.inj (show some t = some r from a1)
            cases Option.some.inj (show some (i, y) = some (g', y') from a2)
            exact upd_same
        · rw [List.mem_singleton.mp hx]
          exact ⟨hlen.2, Mg1.nm y (List.mem_of_getElem? hy)⟩
        · show (lgs ms i).length + 1 ≤ 200
          exact hlen.1
        · rw [gm_step hm] at hgm
          have s6 := (s4.trans st).trans s5
          obtain ⟨dxr, br, ir, er, kr, rr, r1, r2, r3, r4, r5, r6⟩ := id hgm
          refine ⟨_, rfl, r, dxr, _, rfl, r1, r, stp ms i y, rfl, hgm, fun bb hbb => ?_⟩
          refine ⟨?_, _, rfl, ?_⟩
          · rw [List.length_map, hst.1, mN_len]
            have h7 := len_BC (ms.take i)
            rw [List.length_take] at h7
            exact small1000 (by have := Mg1.len; omega)
          · refine ⟨bb, _, _, _, gs ++ [r], rfl, s6, ?_, ?_, ?_⟩
            · show _ = _
              rw [← stp_E hm]
              exact hbb
            · rw [List.map_append]
              rfl
            · rw [hmN]
              exact ((hst.same sT).same (st.trans s5)).snoc hm hgm
    · rintro ys σ H3 ⟨lg, y2, y3, y4, gs, rfl, s3, hlg, rfl, hst⟩
      rw [List.length_map, mE_len, List.take_length] at hst
      exact q _ gs s3 hst
end
end Sfl
namespace Sfl
open PySem PySem.Spec PyProof.Rows L2 GenW
theorem pgTupK {X : Cx} {es : List Expr} {k : Nat} {pos : Pos} {t : TGs} (K : PySem.W.Frag) (n : Nat) (hc : X.calm = true) (hp : PGs X es t) (hn : (assignEach es X.env).length = n := by rfl) (hst : (assignEach es X.env).findIdx? (·.1) = none := by rfl) (h : X.K = K := by rfl) : PG X (.Tuple es k pos) (gTup K n t) := by
  subst h hn
  exact pg_tup hc hp rfl hst
section
variable {P : Program} {w : World} {K : PySem.W.Frag} {mg : Str → Option Value} {base : Heap}
/-- a list of insertions, as the law makes it -/
def InL (H : Hp) (p : Addr) (rs : List Addr) (ins : List (Nat × Str)) : Prop := H p = some (.lst (rs.map V.ref)) ∧ Pl H rs ins
theorem scMade : FnScope ["log", "some"] ["log", "some"] (defScope sMade) := ⟨rfl, rfl, rfl, by decide +kernel, rfl, by decide +kernel, by decide +kernel⟩
def spMade (C : Addr) : Sp := fun vs H Q _ => ∃ (lo so : Addr) (l : List Str) (rs : List Addr) (ins : List (Nat × Str)), vs = [.ref lo, .ref so] ∧ Tp H lo l ∧ InL H so rs ins ∧ ins.length ≤ 3 ∧ Lg l ∧ (∀ x ∈ ins, x.1 ≤ l.length ∧ Nm x.2 = true) ∧ l.length ≤ 100 ∧
  ∀ H' r, Same H H' → Gm C H' r (gm l ins 0) → Q (.ref r) H'
theorem ok_made {f C fi : Addr} {fd : FuncData} {k : Nat} (F : Fun K "_law_made" "_law_made" sMade f fd) (B : Bn mg) (T : Gc K mg C) (M : Mk K C fi) (FI : FnR P w K mg base CX0 k fi (spStar C)) : FnOk P w K mg base CX0 (k + 2) f fd ["log", "some"] (spMade C) := by
  refine F.ok (k := k + 1) scMade (fun vs H Q E h => ?_) (fun cdv A outer s H vs Q E hr h => ?_)
  · obtain ⟨lo, so, l, rs, ins, rfl, _⟩ := h
    rfl
  · obtain ⟨lo, so, l, rs, ins, rfl, hl, ⟨hs, hpl⟩, hn, Ll, hin, hl1, q⟩ := h
    refine ⟨_, pss_cons (ps_if (pt_cmpR op_eq (pe_callB call_len_seq (by rfl) B.len PySem.boot_len (pa_cons (pv 1) pa_nil)) pe_int (nomark _)) (pss_one (ps_ret (StX.pe_makeR M FI hr (by rfl) T.mgC pass0 (pa_cons (pv 0) pa_nil)))) pss_nil)
      (pss_cons (ps_if (pt_cmpR op_eq (pe_callB call_len_seq (by rfl) B.len PySem.boot_len (pa_cons (pv 1) pa_nil)) pe_int (nomark _)) (pss_one (ps_ret (StX.pe_makeR M FI hr (by rfl) T.mgC pass0 (pa_cons (pv 0) (pa_cons (pe_ix ix_list (pv 1) pe_int (fun _ _ => rfl)) pa_nil))))) pss_nil)
      (pss_cons (ps_if (pt_cmpR op_eq (pe_callB call_len_seq (by rfl) B.len PySem.boot_len (pa_cons (pv 1) pa_nil)) pe_int (nomark _)) (pss_one (ps_ret (StX.pe_makeR M FI hr (by rfl) T.mgC pass0 (pa_cons (pv 0) (pa_cons (pe_ix ix_list (pv 1) pe_int (fun _ _ => rfl)) (pa_cons (pe_ix ix_list (pv 1) pe_int (fun _ _ => rfl)) pa_nil)))))) pss_nil)
      (pss_one (ps_ret (StX.pe_makeR M FI hr (by rfl) T.mgC pass0 (pa_cons (pv 0) (pa_cons (pe_ix ix_list (pv 1) pe_int (fun _ _ => rfl)) (pa_cons (pe_ix ix_list (pv 1) pe_int (fun _ _ => rfl)) (pa_cons (pe_ix ix_list (pv 1) pe_int (fun _ _ => rfl)) pa_nil))))))))), ?_⟩
    have mk := mk_ok (C := C) (E := E0) hl hpl Ll hin (by omega) (fun H' r s' _ hg => q H' r s' hg)
    have hrl := hpl.1
    have go : ∀ (j : Nat) (r : Addr), rs[j]? = some r → atI (rs.map V.ref) (j : Int) = some (V.ref r) := fun j r h => atI_nat (by rw [List.getElem?_map, h]; rfl)
    refine ⟨.ref so, rfl, so, _, rfl, .inl (sql hs), rfl, _, rfl, ?_⟩
    rw [List.length_map, hrl]
    match rs, ins, hrl, hs, mk, go, hn with
    | [], [], _, hs, mk, _, _ => exact iteT ⟨.ref lo, rfl, mk⟩
    | [r1], [i1], _, hs, mk, go, _ =>
      refine iteF ⟨.ref so, rfl, so, _, rfl, .inl (sql hs), rfl, _, rfl, ?_⟩
      refine iteT ⟨.ref lo, rfl, .ref so, rfl, so, _, _, .ref r1, rfl, rfl, sql hs, go 0 r1 rfl, mk⟩
    | [r1, r2], [i1, i2], _, hs, mk, go, _ =>
      refine iteF ⟨.ref so, rfl, so, _, rfl, .inl (sql hs), rfl, _, rfl, ?_⟩
      refine iteF ⟨.ref so, rfl, so, _, rfl, .inl (sql hs), rfl, _, rfl, ?_⟩
      refine iteT ⟨.ref lo, rfl, .ref so, rfl, so, _, _, .ref r1, rfl, rfl, sql hs, go 0 r1 rfl, .ref so, rfl, so, _, _, .ref r2, rfl, rfl, sql hs, go 1 r2 rfl, mk⟩
    | _ :: _ :: _ :: _ :: _, _ :: _ :: _ :: _ :: _, _, _, _, _, hn =>
      exact absurd hn (by simp only [List.length_cons]; omega)
    | [r1, r2, r3], [i1, i2, i3], _, hs, mk, go, _ =>
      refine iteF ⟨.ref so, rfl, so, _, rfl, .inl (sql hs), rfl, _, rfl, ?_⟩
      refine iteF ⟨.ref so, rfl, so, _, rfl, .inl (sql hs), rfl, _, rfl, ?_⟩
      refine iteF ⟨.ref lo, rfl, .ref so, rfl, so, _, _, .ref r1, rfl, rfl, sql hs, go 0 r1 rfl, .ref so, rfl, so, _, _, .ref r2, rfl, rfl, sql hs, go 1 r2 rfl, .ref so, rfl, so, _, _, .ref r3, rfl, rfl, sql hs, go 2 r3 rfl, mk⟩
/-! ### _law_laid -/
abbrev nLaid : List Str := ["log", "some", "end", "stay", "gap", "letter", "place"]
theorem scLaid : FnScope nLaid ["log", "some"] (defScope sLaid) := ⟨rfl, rfl, rfl, by decide +kernel, rfl, by decide +kernel, by decide +kernel⟩
def spLaid : Sp := fun vs H Q _ => ∃ (lo so : Addr) (l : List Str) (rs : List Addr) (ins : List (Nat × Str)), vs = [.ref lo, .ref so] ∧ Tp H lo l ∧ InL H so rs ins ∧ (∀ x ∈ ins, x.1 ≤ l.length) ∧ ins.length ≤ 3 ∧ l.length ≤ 100 ∧
  ∀ H' t e k, Same H H' → H' t = some (.tup [.ref e, .ref k]) → Tp H' e (mE (gm l ins 0)) → Ip H' k (mK (gm l ins 0) 0) → Q (.ref t) H'
theorem ok_laid {f : Addr} {fd : FuncData} {k : Nat} (F : Fun K "_law_laid" "_law_laid" sLaid f fd) (B : Bn mg) : FnOk P w K mg base CX0 (k + 1) f fd ["log", "some"] spLaid := by
  refine F.ok scLaid (fun vs H Q E h => ?_) (fun cdv A outer s H vs Q E hr h => ?_)
  · obtain ⟨lo, so, l, rs, ins, rfl, _⟩ := h
    rfl
  · obtain ⟨lo, so, l, rs, ins, rfl, hl, ⟨hs, hpl⟩, hin, hn, hl1, q⟩ := h
    refine ⟨_, pss_cons (ps_par (i := 2) (j := 3) (by rfl) scLaid.nd rfl rfl (by decide) rfl rfl (pa_cons (pe_lst pa_nil) (pa_cons (pe_lst pa_nil) pa_nil)) (by rfl))
      (pss_cons (ps_for PassesOwn.never rfl (pi_range1 rfl B.range (pa_cons (pe_op op_add (pe_callB call_len_seq (by rfl) B.len PySem.boot_len (pa_cons (pv 0) pa_nil)) pe_int) pa_nil)) (pg_name (i := 4) scLaid.nd rfl (Or.inr rfl))
        (pss_cons (ps_set (i := 2) scLaid.nd rfl (.inl rfl) (pe_op op_cat (pv 2)
            (pe_lc (own := [("place", 6), ("letter", 5)]) rfl scLaid.nd (pi_list (pv 1)) (blkOk_by (own := [("place", 6), ("letter", 5)]) (N := nLaid) (sc := defScope sLaid) (by decide +kernel))
              (fun _ _ _ _ _ => pgTupK K 2 rfl (pgs_cons (pg_name (i := 6) scLaid.nd rfl (Or.inl rfl)) (pgs_cons (pg_name (i := 5) scLaid.nd rfl (Or.inl rfl)) pgs_nil)))
              (fun _ _ _ _ _ => pts_one (pt_cmpR op_eq (pv 6) (pv 4) (nomark _))) (fun _ _ _ _ _ => pv 5))))
        (pss_one (ps_if (pt_cmpR op_lt (pv 4) (pe_callB call_len_seq (by rfl) B.len PySem.boot_len (pa_cons (pv 0) pa_nil)) (nomark _))
          (pss_cons (ps_expr (pe_bm PySem.F.plainAttrs_list PySem.F.slot_list_append PySem.F.type_list_append mt_append (pv 3) (pa_cons (pe_callB call_len_seq (by rfl) B.len PySem.boot_len (pa_cons (pv 2) pa_nil)) pa_nil)))
          (pss_one (ps_expr (pe_bm PySem.F.plainAttrs_list PySem.F.slot_list_append PySem.F.type_list_append mt_append (pv 2) (pa_cons (pe_ix ix_tup (pv 0) (pv 4) (fun _ _ => rfl)) pa_nil))))) pss_nil))))
      (pss_one (ps_ret (pe_tup (pa_cons (pe_callTy call_tuple_of (by rfl) B.tuple (by decide +kernel) (pa_cons (pv 2) pa_nil)) (pa_cons (pe_callTy call_tuple_of (by rfl) B.tuple (by decide +kernel) (pa_cons (pv 3) pa_nil)) pa_nil)))))), ?_⟩
    refine ⟨Nat.zero_le _, fun en0 nen0 => ⟨Nat.zero_le _, fun st nst => ⟨_, _, rfl, ?_⟩⟩⟩
    have s1 : Same H (upd H en0 (.lst [])) := same_upd nen0
    have s2 : Same H (upd (upd H en0 (.lst [])) st (.lst [])) := s1.trans (same_upd nst)
    have nES : en0 ≠ st := ne_of_none upd_same nst
    have Hst : H st = none := s1.free nst
    refine ⟨.ref lo, rfl, lo, _, rfl, .inr (sqt (s2 _ _ hl)), _, 1, rfl, rfl, ((l.map V.str).length : Int) + 1, rfl, ?_, ?_, ?_⟩
    · rw [List.length_map]
      omega
    · rw [List.length_map]
      omega
    rw [show (((l.map V.str).length : Int) + 1).toNat = l.length + 1 by rw [List.length_map]; omega]
    have hlenm : (gm l ins 0).length = l.length + ins.length := by
      have h1 := len_BC (gm l ins 0)
      rw [mB_gm, mC_gm l ins 0 (fun x hx => ⟨Nat.zero_le _, by have := hin x hx; omega⟩)] at h1
      exact h1.symm
    refine for_range (lo := 0) (n := l.length + 1) (fun i σ H3 => ∃ en y4 y5 y6 pre, σ = [some (.ref lo), some (.ref so), some (.ref en), some (.ref st), y4, y5, y6] ∧ Same H H3 ∧ H en = none ∧ en ≠ st ∧
        gm l ins 0 = pre ++ (if i ≤ l.length then gm (l.drop i) ins i else []) ∧ H3 en = some (.lst ((mE pre).map V.str)) ∧ H3 st = some (.lst ((mK pre 0).map nV))) ?_ ?_ ?_
    · refine ⟨en0, none, none, none, [], rfl, s2, nen0, nES, ?_, ?_, upd_same⟩
      · rw [if_pos (Nat.zero_le _)]
        rfl
      · rw [upd_ne nES, upd_same]
        rfl
    · rintro i σ H3 hi ⟨en, y4, y5, y6, pre, rfl, s3, Hen, nE, hgm, hE, hK⟩
      have hi' : i ≤ l.length := by omega
      have hs3 := s3 _ _ hs
      have hpre : pre.length + (row ins i).length ≤ 200 := by
        have h8 := hlenm
        rw [hgm, if_pos hi'] at h8
        have : (gm (l.drop i) ins i).length ≥ (row ins i).length := by
          cases l.drop i with
          | nil =>
            show (offs (row ins i)).length ≥ _
            unfold offs
            rw [List.length_map]
            exact Nat.le_refl _
          | cons x xs =>
            show (offs (row ins i) ++ (x, true) :: gm xs ins (i + 1)).length ≥ _
            rw [List.length_append]
            unfold offs
            rw [List.length_map]
            exact Nat.le_add_right _ _
        rw [List.length_append] at h8
        omega
      refine ⟨.ref en, rfl, .ref so, rfl, so, rfl, ⟨_, sql hs3⟩, fun D nD => ?_⟩
      refine lc_list (xs := rs.map V.ref) (fun j H4 => Same H3 H4 ∧ H4 D = some (.lst ((row (ins.take j) i).map V.str))) ⟨same_upd nD, upd_same⟩ (fun j H4 hj h4 => sql (h4.1 _ _ hs3)) (fun j x H4 hx h4 => ?_) (fun H4 h4 => ?_)
      · obtain ⟨sm, hD⟩ := h4
        obtain ⟨r, hr', rfl⟩ := get_map' hx
        have hj : j < ins.length := by rw [← hpl.1]; exact get_lt hr'
        have hin' := List.getElem?_eq_getElem hj
        generalize hgy : ins[j] = gy at hin'
        obtain ⟨gp, y⟩ := gy
        have et : ins.take (j + 1) = ins.take j ++ [(gp, y)] := by rw [← hgy, List.take_append_getElem hj]
        refine ⟨r, [nV gp, .str y], rfl, sqt (sm _ _ (s3 _ _ (hpl.2 j r gp y hr' hin'))), rfl, _, _, rfl, _, _, rfl, rfl, rfl, _, rfl, _, rfl, rfl, _, rfl, ?_⟩
        refine ite2 (fun hc => ?_) (fun hc => ?_)
        · have e : gp = i := by
            have := V.int.inj (of_decide_eq_true hc)
            omega
          refine ⟨.str y, rfl, _, hD, ?_, same_put sm nD, ?_⟩
          · rw [List.length_map]
            have h7 : (row (ins.take j) i).length ≤ (ins.take j).length := by
              have := oth_len (ins.take j) i
              omega
            rw [List.length_take] at h7
            exact small1000 (by omega)
          · rw [upd_same, et, row_snoc, if_pos e, List.map_append]
            rfl
        · have e : ¬ gp = i := fun z => hc (decide_eq_true (by rw [z]; show V.int _ = V.int _; congr 1; omega))
          refine ⟨sm, ?_⟩
          rw [et, row_snoc, if_neg e, List.append_nil]
          exact hD
      · obtain ⟨sm, hD⟩ := h4
        rw [List.length_map, hpl.1, List.take_length] at hD
        have hE4 := sm _ _ hE
        refine ⟨en, D, _, _, rfl, rfl, hE4, hD, ?_, fun p np => ?_⟩
        · rw [List.length_map, List.length_map, mE_len]
          exact Nat.le_trans hpre (by decide)
        rw [← List.map_append]
        have s4 := s3.trans sm
        have sp := same_upd (o := .lst ((mE pre ++ row ins i).map V.str)) np
        have s5 := s4.trans sp
        have hK4 := sm _ _ hK
        have nps : p ≠ st := (ne_of_none hK4 np).symm
        have Hp : H p = none := s4.free np
        have e5 : (upd H4 p (.lst ((mE pre ++ row ins i).map V.str))) p = some (.lst ((mE pre ++ row ins i).map V.str)) := upd_same
        have k5 := sp _ _ hK4
        generalize upd H4 p (.lst ((mE pre ++ row ins i).map V.str)) = H5 at *
        have i0 : (0 : Int) + ((i : Nat) : Int) = ((i : Nat) : Int) := by omega
        rw [i0]
        refine ⟨.int (i : Nat), rfl, .ref lo, rfl, lo, _, rfl, .inr (sqt (s5 _ _ hl)), _, _, rfl, rfl, _, rfl, ?_⟩
        rw [List.length_map]
        refine ite2 (fun hc => ?_) (fun hc => ?_)
        · have hlt : i < l.length := by
            have := of_decide_eq_true hc
            omega
          refine ⟨.ref st, rfl, .inl ⟨rfl, _, sql k5⟩, .ref p, rfl, p, _, rfl, .inl (sql e5), st, _, _, rfl, rfl, k5, ?_, ?_⟩
          · rw [List.length_map, mK_len]
            have := len_BC pre
            exact small1000 (by omega)
          rw [List.length_map]
          generalize hH8 : upd H5 st (.lst ((mK pre 0).map nV ++ [V.int ((mE pre ++ row ins i).length : Nat)])) = H8
          have e8 : H8 p = some (.lst ((mE pre ++ row ins i).map V.str)) := by rw [← hH8, upd_ne nps]; exact e5
          have s8 : Same H H8 := by
            rw [← hH8]
            exact same_put s5 Hst
          refine ⟨.ref p, rfl, .inl ⟨rfl, _, sql e8⟩, .ref lo, rfl, .int (i : Nat), rfl, lo, _, _, .str l[i], rfl, rfl, sqt (s8 _ _ hl), ?_, p, _, _, rfl, rfl, e8, ?_, ?_⟩
          · exact atI_nat (get_map hlt)
          · rw [List.length_map, List.length_append, mE_len]
            exact small1000 (by omega)
          · refine ⟨p, _, _, _, pre ++ offs (row ins i) ++ [(l[i], true)], rfl, same_put s8 Hp, Hp, nps, ?_, ?_, ?_⟩
            · rw [hgm, if_pos hi', if_pos (show i + 1 ≤ l.length from hlt), List.drop_eq_getElem_cons hlt]
              show pre ++ (offs (row ins i) ++ (l[i], true) :: gm (l.drop (i + 1)) ins (i + 1)) = _
              rw [List.append_assoc, List.append_assoc]
              rfl
            · rw [upd_same, mE_append, mE_append, mE_offs, List.map_append, List.map_append, List.map_append]
              rfl
            · rw [upd_ne nps.symm, ← hH8, upd_same, mK_append, mK_append, mK_offs, List.append_nil, List.map_append]
              show _ = some (HO.lst ((mK pre 0).map nV ++ [nV (0 + (pre ++ offs (row ins i)).length)]))
              have el : (pre ++ offs (row ins i)).length = (mE pre ++ row ins i).length := by
                rw [List.length_append, List.length_append, mE_len]
                unfold offs
                rw [List.length_map]
              rw [el, Nat.zero_add]
              rfl
        · have he : i = l.length := by
            rcases Nat.lt_or_ge i l.length with h | h
            · exact absurd (decide_eq_true (by omega)) hc
            · omega
          refine ⟨p, _, _, _, pre ++ offs (row ins i), rfl, s5, Hp, nps, ?_, ?_, ?_⟩
          · rw [hgm, if_pos hi', if_neg (by omega), List.append_nil, List.drop_of_length_le (by omega)]
            rfl
          · rw [e5, mE_append, mE_offs]
          · rw [k5, mK_append, mK_offs, List.append_nil]
    · rintro σ H3 ⟨en, y4, y5, y6, pre, rfl, s3, Hen, nE, hgm, hE, hK⟩
      rw [if_neg (by omega), List.append_nil] at hgm
      subst hgm
      refine ⟨.ref en, rfl, en, _, rfl, .inl ⟨sql hE, fun e ne => ?_⟩⟩
      have s7 := same_upd (o := .tup ((mE (gm l ins 0)).map V.str)) ne
      refine ⟨.ref st, rfl, st, _, rfl, .inl ⟨sql (s7 _ _ hK), fun k nk => ?_⟩⟩
      have s8 := same_upd (o := .tup ((mK (gm l ins 0) 0).map nV)) nk
      refine ⟨(show 2 ≤ sizeLine by decide), fun t nt => ?_⟩
      have s9 := same_upd (o := .tup [V.ref e, .ref k]) nt
      exact q _ t e k (((s3.trans s7).trans s8).trans s9) upd_same (s9 _ _ (s8 _ _ upd_same)) (s9 _ _ upd_same)
end
end Sfl
namespace Sfl
open PySem PySem.Spec PyProof.Rows L2
/-! ### rules that name the written part -/
theorem inK {X : Cx} (K : PySem.W.Frag) (h : X.K = K := by rfl) : OpR X (compareOp .In) (rIn K false) := by
  subst h
  exact op_in_seq
theorem mtIndexK {X : Cx} (K : PySem.W.Frag) (h : X.K = K := by rfl) : MtR X "list.index" (rIndex K) := by
  subst h
  exact mt_index
def rListOf (K : PySem.W.Frag) : List V → Hp → VK → Prop := fun xs H Q => ∃ p ys, xs = [.ref p] ∧ (SqL K H p ys ∨ SqT K H p ys) ∧ ∀ l, H l = none → Q (.ref l) (upd H l (.lst ys))
theorem listOfK {X : Cx} (K : PySem.W.Frag) (h : X.K = K := by rfl) : CallR X (.type "list") (rListOf K) := by
  subst h
  exact call_list_of
theorem bmK {X : Cx} {o e : Expr} {es : List Expr} {to : TE} {t : TA} {name : Str} {apos cpos : Pos} {T id : String} {r : V → List V → Hp → VK → Prop} (K : PySem.W.Frag) (pa : PlainAttrs T) (slot : Slot T name id) (hty : typeOf (.builtin id) = pure (.type "method_descriptor")) (hm : MtR X id r) (ho : PE X o to) (ha : PA X (e :: es) t)
    (hbase : attributeBase o name X.env (eval o X.env) = eval o X.env := by rfl)
    (hfew : ((backTo cpos (starEach (e :: es) X.env)).all (fun x => !x.1) && (backToKw cpos (keywordEach [] X.env)).all (fun x => x.1.isSome)
      && decide ((e :: es).length + ([] : List Keyword).length + (if ([] : List Keyword).isEmpty then 0 else 1) < 30)) = true := by rfl)
    (hline : (apos.endLine == cpos.line) = true := by rfl) (hs : starEach (e :: es) X.env = (false, eval e X.env) :: starEach es X.env := by rfl) (hplain : (backTo cpos (starEach es X.env)).any (·.1) = false := by rfl) (h : X.K = K := by rfl) :
    PE X (.Call (.Attribute o name apos) (e :: es) [] cpos) (tBM K T r to t) := by
  subst h
  exact pe_bm pa slot hty hm ho ha hbase hfew hline hs hplain
/-- f(e), f an instance of C with __call__ -/
def tCallI (C : Addr) (sp : Sp) (E : XK) (tf : TE) (t : TA) : TE := fun σ H Q => tf σ H fun y H1 => ∃ a, y = V.ref a ∧ t σ H1 fun vs H2 => (∃ dx fs, H2 a = some (.ins C dx fs)) ∧ sp (V.ref a :: vs) H2 Q E
theorem pe_callI {X : Cx} {CX : CXT} {k : Nat} {C g : Addr} {sp : Sp} {E : XK} {fe e : Expr} {es : List Expr} {tf : TE} {t : TA} {pos : Pos} (hf : PE X fe tf) (c : StX.CallO X.K C g) (F : FnR X.prog X.w X.K X.mg X.base CX k g sp) (hr : Room k X.A) (hx : Passes CX X E) (ha : PA X (e :: es) t)
    (ht : eval (.Call fe (e :: es) [] pos) X.env = (do callWith pos (← eval fe X.env) [] (backTo pos (starEach (e :: es) X.env)) (backToKw pos (keywordEach [] X.env))) := by rfl)
    (he : starEach (e :: es) X.env = (false, eval e X.env) :: starEach es X.env := by rfl) (hpl : (backTo pos (starEach es X.env)).any (·.1) = false := by rfl) : PE X (.Call fe (e :: es) [] pos) (tCallI C sp E tf t) := by
  refine ⟨fun pins s σ H Q I h => Call_ (thn (hf.run pins s σ H _ I h) fun u s1 ⟨y, H1, I1, ry, a, ey, q⟩ => ?_) ht⟩
  subst ey
  obtain rfl : u = Value.ref a := ry
  refine StX.callO_with (thn (ha.run pos pins s1 σ H1 _ I1 q) fun us s2 ⟨vs, H2, I2, r, hi, q2⟩ => ?_) he hpl
  obtain ⟨ox, od, J, hd⟩ := StX.insC_at I2 (.inr hi : StX.InsC X H2 a C)
  exact ⟨⟨C, ox, od, J, hd⟩, StX.run_callO c F hr hx I2 (.inr hi) r q2⟩
/-! ### texts of lists -/
def dO : Option Nat → PyData
  | none => .none
  | some n => dI n
theorem all_oV {K : PySem.W.Frag} {H : Hp} : ∀ os : List (Option Nat), DpAll K H (os.map oV) (os.map dO)
  | [] => .nil
  | none :: r => .cons .non (all_oV r)
  | some n :: r => .cons (.int _) (all_oV r)
theorem os_ok : ∀ os : List (Option Nat), (∀ n, some n ∈ os → n < 801) → PyData.showableAll (os.map dO) = true ∧ PyData.hasDictAll (os.map dO) = false ∧ PyData.depthAll (os.map dO) = 0 ∧ piled (PyData.shownAll (os.map dO)) ≤ 22 * os.length
  | [], _ => ⟨rfl, rfl, rfl, Nat.le_refl _⟩
  | o :: r, h => by
    obtain ⟨h1, h2, h3, h4⟩ := os_ok r fun n hn => h n (List.mem_cons_of_mem _ hn)
    have one : PyData.showable (dO o) = true ∧ PyData.hasDict (dO o) = false ∧ PyData.depth (dO o) = 0 ∧ (PyData.shown (dO o)).length ≤ 20 := by
      cases o with
      | none => exact ⟨rfl, rfl, rfl, by decide +kernel⟩
      | some n =>
        have hn := h n List.mem_cons_self
        exact ⟨decide_eq_true (log_small (by omega)), rfl, rfl, tI_len n hn⟩
    refine ⟨?_, ?_, ?_, ?_⟩
    · show (PyData.showable (dO o) && PyData.showableAll (r.map dO)) = true
      rw [one.1, h1]
      rfl
    · show (PyData.hasDict (dO o) || PyData.hasDictAll (r.map dO)) = false
      rw [one.2.1, h2]
      rfl
    · show max (PyData.depth (dO o)) (PyData.depthAll (r.map dO)) = 0
      rw [one.2.2.1, h3]
      rfl
    · show piled (PyData.shown (dO o) :: PyData.shownAll (r.map dO)) ≤ 22 * (r.length + 1)
      rw [piled_cons]
      have := one.2.2.2
      omega
theorem listText_len : ∀ ts : List Str, (listText ts).length ≤ 2 + piled ts
  | [] => by decide +kernel
  | t :: ts => by
    show (textFrom 1 (("[" : Str) ++ (if 0 > 0 then ", " else "" : String) ++ t) ts ++ "]").length ≤ _
    rw [strLen_append, textFrom_length_pos ts 1 _ (by decide), strLen_append, strLen_append, piled_cons]
    have e1 : (("[" : String) : Str).length = 1 := by decide +kernel
    have e2 : (("]" : String) : Str).length = 1 := by decide +kernel
    have e3 : (((if 0 > 0 then ", " else "" : String)) : Str).length = 0 := by decide +kernel
    rw [e1, e2, e3]
    omega
theorem sh_list {ds : List PyData} (h : PyData.canLayAll0 ds = true) (h2 : PyData.depthAll ds ≤ 10) : SeqAt.shaped (.list ds) = true :=
  shaped_of (n := PyData.depthAll ds + 1) h rfl (by omega)
theorem five_ok {a b : List Str} {c : List Nat} (x : Int) (y : Bool) (ha : ∀ z ∈ a, Nm z = true) (hb : ∀ z ∈ b, Nm z = true) :
    SeqAt.shaped (.list [.tuple (a.map PyData.str), .tuple (b.map PyData.str), .tuple (c.map dI), .int x, .bool y]) = true := by
  have fa := flat_strs a fun z hz => nm_ok (ha z hz)
  have fb := flat_strs b fun z hz => nm_ok (hb z hz)
  have fc := flat_ints c
  refine sh_list ?_ ?_
  · show (PyData.canLayAll0 (a.map PyData.str) && (PyData.canLayAll0 (b.map PyData.str) && (PyData.canLayAll0 (c.map dI) && true))) = true
    rw [fa.1, fb.1, show PyData.canLayAll0 (c.map dI) = true from fc.1]
    rfl
  · show max (PyData.depthAll (a.map PyData.str) + 1) (max (PyData.depthAll (b.map PyData.str) + 1) (max (PyData.depthAll (c.map dI) + 1) (max 0 (max 0 0)))) ≤ 10
    rw [fa.2, fb.2, show PyData.depthAll (c.map dI) = 0 from fc.2]
    decide
end Sfl
namespace Sfl
open PySem PySem.Spec PyProof.Rows L2
section
variable {P : Program} {w : World} {K : PySem.W.Frag} {mg : Str → Option Value} {base : Heap}
/-- a property, a method of the class, as callers see them -/
def PCal (P : Program) (w : World) (K : PySem.W.Frag) (mg : Str → Option Value) (base : Heap) (k : Nat) (C : Addr) (x : Str) (sp : Sp) : Prop := ∃ p g fd, PropOf K C x p g ∧ FnOk P w K mg base CX0 k g fd ["self"] sp ∧ Binds K fd ["self"] []
def MCal (P : Program) (w : World) (K : PySem.W.Frag) (mg : Str → Option Value) (base : Heap) (k : Nat) (C : Addr) (x : Str) (ps : List Str) (sp : Sp) : Prop := ∃ f fd, Meth K C x f ∧ PySem.W.fnIn K f = true ∧ FnOk P w K mg base CX0 k f fd ps sp ∧ Binds K fd ps []
theorem PCal.mono {j k : Nat} {C : Addr} {x : Str} {sp : Sp} (h : PCal P w K mg base j C x sp) (z : j ≤ k) : PCal P w K mg base k C x sp := by
  obtain ⟨p, g, fd, h1, h2, h3⟩ := h
  exact ⟨p, g, fd, h1, h2.mono z, h3⟩
theorem MCal.mono {j k : Nat} {C : Addr} {x : Str} {ps : List Str} {sp : Sp} (h : MCal P w K mg base j C x ps sp) (z : j ≤ k) : MCal P w K mg base k C x ps sp := by
  obtain ⟨f, fd, h1, h2, h3, h4⟩ := h
  exact ⟨f, fd, h1, h2, h3.mono z, h4⟩
abbrev nTold : List Str := ["growth", "begin", "end", "stay", "many", "at", "due"]
theorem scTold : FnScope nTold ["growth", "begin", "end", "stay"] (defScope sTold) := ⟨rfl, rfl, rfl, by decide +kernel, rfl, by decide +kernel, by decide +kernel⟩
def spTold (C : Addr) : Sp := fun vs H Q _ => ∃ (g b e k : Addr) (ms : Ms), vs = [.ref g, .ref b, .ref e, .ref k] ∧ Gm C H g ms ∧ Mg ms ∧ Tp H b (mB ms) ∧ Tp H e (mE ms) ∧ Ip H k (mK ms 0) ∧ ∀ H', Same H H' → Q (.bl true) H'
theorem ok_told {f C : Addr} {fd : FuncData} {k : Nat} (F : Fun K "_law_told_right" "_law_told_right" sTold f fd) (B : Bn mg) (T : Gc K mg C) (C1 : PCal P w K mg base k C "begin" (spBegin C)) (C2 : PCal P w K mg base k C "end" (spEnd C)) (C3 : PCal P w K mg base k C "kept" (spKept C))
    (M1 : MCal P w K mg base k C "__len__" ["self"] (spLenG C)) (M2 : MCal P w K mg base k C "__call__" ["self", "position"] (spCallG C)) (M3 : MCal P w K mg base k C "origin" ["self", "position"] (spOrigin C)) (M4 : MCal P w K mg base k C "__str__" ["self"] (spStrG C))
    (nb : PySem.W.findIn K (.ref C) "__bool__" = some none) : FnG P w K mg base (k + 4) f fd ["growth", "begin", "end", "stay"] (spTold C) := by
  obtain ⟨p1, g1, d1, PO1, G1, b1⟩ := C1
  obtain ⟨p2, g2, d2, PO2, G2, b2⟩ := C2
  obtain ⟨p3, g3, d3, PO3, G3, b3⟩ := C3
  obtain ⟨m1, e1, N1, n1, L1, c1⟩ := M1
  obtain ⟨m2, e2, N2, n2, L2', c2⟩ := M2
  obtain ⟨m3, e3, N3, n3, L3, c3⟩ := M3
  obtain ⟨m4, e4, N4, n4, L4, c4⟩ := M4
  refine fun_okG (k := k + 3) F scTold (fun vs H Q E h => ?_) (fun cdv A outer s H vs Q E gd hr h => ?_)
  · obtain ⟨g, b, e, k', ms, rfl, _⟩ := h
    rfl
  · obtain ⟨g, b, e, k', ms, rfl, hg, Mm, hb, he, hk, q⟩ := h
    have hr0 : Room k _ := hr.mono (by omega)
    have hr1 : Room (k + 1) _ := hr.mono (by omega)
    have hr2 : Room (k + 2) _ := hr.mono (by omega)
    have R1 := raw0 L1 c1
    have R2 := raw0 L2' c2
    have R4 := raw0 L4 c4
    refine ⟨_, pss_cons (ps_set (i := 4) scTold.nd rfl (.inl rfl) (pe_op op_sub (pe_callB call_len_seq (by rfl) B.len PySem.boot_len (pa_cons (pv 2) pa_nil)) (pe_callB call_len_seq (by rfl) B.len PySem.boot_len (pa_cons (pv 1) pa_nil))))
      (pss_cons (ps_if (pt_cmpR (op_neD hr.units) (pe_lst (pa_cons (pe_prop (pv 0) T.cl PO1 G1 hr1 b1 .nil pass0 rfl) (pa_cons (pe_prop (pv 0) T.cl PO2 G2 hr1 b2 .nil pass0 rfl) (pa_cons (pe_prop (pv 0) T.cl PO3 G3 hr1 b3 .nil pass0 rfl)
            (pa_cons (pe_callB (call_lenO N1.at_ N1.fn R1 hr1 pass0) (by rfl) B.len PySem.boot_len (pa_cons (pv 0) pa_nil)) (pa_cons (pe_callTy (call_boolO nb N1.at_ N1.fn R1 hr pass0) (by rfl) B.bool (by decide +kernel) (pa_cons (pv 0) pa_nil)) pa_nil))))))
          (pe_lst (pa_cons (pv 1) (pa_cons (pv 2) (pa_cons (pv 3) (pa_cons (pv 4) (pa_cons (pe_cmpR op_gt (pv 4) pe_int (nomark _)) pa_nil)))))) (nomark _)) (pss_one (ps_ret pe_bl)) pss_nil)
      (pss_cons (ps_if (pt_cmpR (op_neD hr.units) (pe_lc (own := [("at", 5)]) rfl scTold.nd (pi_range1 rfl B.range (pa_cons (pe_callB call_len_seq (by rfl) B.len PySem.boot_len (pa_cons (pv 1) pa_nil)) pa_nil)) (blkOk_by (own := [("at", 5)]) (N := nTold) (sc := defScope sTold) (by decide +kernel))
            (fun _ _ _ _ _ => pg_name (i := 5) scTold.nd rfl (Or.inl rfl)) (fun _ _ _ _ _ => pts_nil) (fun _ _ _ _ _ => pe_callI (pv 0) ⟨N2.at_, N2.fn, n2⟩ R2 hr0 pass0 (pa_cons (pv 5) pa_nil)))
          (pe_callTy call_list_of (by rfl) B.list (by decide +kernel) (pa_cons (pv 3) pa_nil)) (nomark _)) (pss_one (ps_ret pe_bl)) pss_nil)
      (pss_cons (ps_setLc (i := 6) (own := [("at", 5)]) rfl scTold.nd rfl rfl (sw_true rfl rfl rfl (by decide +kernel)) (pi_range1 rfl B.range (pa_cons (pe_callB call_len_seq (by rfl) B.len PySem.boot_len (pa_cons (pv 2) pa_nil)) pa_nil))
          (blkOk_by (own := [("at", 5)]) (N := nTold) (sc := defScope sTold) (by decide +kernel)) (fun _ _ _ _ _ => pg_name (i := 5) scTold.nd rfl (Or.inl rfl)) (fun _ _ _ _ _ => pts_nil)
          (fun _ _ _ _ _ => pe_ifExp (pt_cmpR (inK K) (pv 5) (pv 3) (by rfl)) (bmK K PySem.F.plainAttrs_list PySem.F.slot_list_index PySem.F.type_list_index (mtIndexK K) (pe_callTy (listOfK K) (by rfl) B.list (by decide +kernel) (pa_cons (pv 3) pa_nil)) (pa_cons (pv 5) pa_nil)) pe_non))
      (pss_cons (ps_if (pt_cmpR op_ne (pe_callB (call_reprD gd hr.units) (by rfl) B.repr (by decide +kernel) (pa_cons
            (pe_lc (own := [("at", 5)]) rfl scTold.nd (pi_range1 rfl B.range (pa_cons (pe_callB call_len_seq (by rfl) B.len PySem.boot_len (pa_cons (pv 2) pa_nil)) pa_nil)) (blkOk_by (own := [("at", 5)]) (N := nTold) (sc := defScope sTold) (by decide +kernel))
              (fun _ _ _ _ _ => pg_name (i := 5) scTold.nd rfl (Or.inl rfl)) (fun _ _ _ _ _ => pts_nil) (fun _ _ _ _ _ => pe_meth (pv 0) T.cl N3 L3 hr0 c3 .nil pass0 (pa_cons (pv 5) pa_nil))) pa_nil))
          (pe_callB (call_reprD gd hr.units) (by rfl) B.repr (by decide +kernel) (pa_cons (pv 6) pa_nil)) (nomark _)) (pss_one (ps_ret pe_bl)) pss_nil)
      (pss_one (ps_ret (pe_cmpR op_eq (pe_callTy (call_strO N4.at_ N4.fn R4 hr2 pass0) (by rfl) B.str (by decide +kernel) (pa_cons (pv 0) pa_nil))
        (pe_op op_add_str (pe_op op_add_str (pe_op op_add_str (pe_op op_add_str pe_str (pe_callTy call_str_int (by rfl) B.str (by decide +kernel) (pa_cons (pe_callB call_len_seq (by rfl) B.len PySem.boot_len (pa_cons (pv 1) pa_nil)) pa_nil))) pe_str)
          (pe_callTy call_str_int (by rfl) B.str (by decide +kernel) (pa_cons (pe_callB call_len_seq (by rfl) B.len PySem.boot_len (pa_cons (pv 2) pa_nil)) pa_nil))) pe_str) (nomark _)))))))), ?_⟩
    obtain ⟨dx, b0, i0, e0, k0, rs, h1, h2, h3, h4, h5, h6⟩ := id hg
    have hBC := len_BC ms
    have hms := Mm.len
    have em : ((((mE ms).map V.str).length : Nat) : Int) - (((mB ms).map V.str).length : Nat) = ((mC ms : Nat) : Int) := by
      rw [List.length_map, List.length_map, mE_len]
      omega
    refine ⟨_, rfl, e, _, rfl, .inr (sqt he), _, rfl, b, _, rfl, .inr (sqt hb), _, _, rfl, rfl, ?_⟩
    dsimp only
    rw [em]
    have hc63 : (0 : Int) ≤ ((mC ms : Nat) : Int) ∧ ((mC ms : Nat) : Int) < 2 ^ 63 := by
      constructor
      · omega
      · have : mC ms ≤ 200 := by omega
        omega
    refine ⟨_, rfl, g, dx, _, rfl, h1, g, ms, rfl, hg, fun bb hbb => ⟨_, rfl, g, dx, _, rfl, h1, g, ms, rfl, hg, fun ee hee => ⟨_, rfl, g, dx, _, rfl, h1, g, ms, rfl, hg, fun kk hkk => ?_⟩⟩⟩
    refine ⟨_, rfl, g, dx, _, rfl, h1, g, ms, rfl, hg, _, rfl, hc63, _, rfl, g, dx, _, rfl, h1, g, ms, rfl, hg, _, rfl, hc63, (show 5 ≤ sizeLine by decide), fun l1 nl1 => ?_⟩
    refine ⟨_, rfl, _, rfl, _, rfl, _, rfl, _, rfl, _, _, rfl, rfl, (show 5 ≤ sizeLine by decide), fun l2 nl2 => ?_⟩
    have s1 := same_upd (o := .lst [V.ref bb, .ref ee, .ref kk, .int ((mC ms : Nat) : Int), .bl (((mC ms : Nat) : Int) != 0)]) nl1
    have eb : (((mC ms : Nat) : Int) != 0) = decide ((0 : Int) < ((mC ms : Nat) : Int)) := by
      cases hz : mC ms with
      | zero => rfl
      | succ n =>
        have h7 : (((n + 1 : Nat) : Int) != 0) = true := bne_iff_ne.mpr (by omega)
        rw [h7, decide_eq_true (by omega)]
    have s2 := same_upd (o := .lst [V.ref b, .ref e, .ref k', .int ((mC ms : Nat) : Int), .bl (decide ((0 : Int) < ((mC ms : Nat) : Int)))]) nl2
    refine ⟨.list [.tuple ((mB ms).map PyData.str), .tuple ((mE ms).map PyData.str), .tuple ((mK ms 0).map dI), .int ((mC ms : Nat) : Int), .bool (((mC ms : Nat) : Int) != 0)],
      .list [.tuple ((mB ms).map PyData.str), .tuple ((mE ms).map PyData.str), .tuple ((mK ms 0).map dI), .int ((mC ms : Nat) : Int), .bool (decide ((0 : Int) < ((mC ms : Nat) : Int)))],
      .lst (sql (s2 _ _ upd_same)) (.cons (dp_tp (s2 _ _ (s1 _ _ hbb))) (.cons (dp_tp (s2 _ _ (s1 _ _ hee))) (.cons (.tup ((hkk.same s1).same s2).sq (all_ints _)) (.cons (.int _) (.cons (.bl _) .nil))))),
      .lst (sql upd_same) (.cons (dp_tp (s2 _ _ (s1 _ _ hb))) (.cons (dp_tp (s2 _ _ (s1 _ _ he))) (.cons (dp_ip (s2 _ _ (s1 _ _ hk))) (.cons (.int _) (.cons (.bl _) .nil))))),
      five_ok _ _ Mm.lgB.nm Mm.nm, five_ok _ _ Mm.lgB.nm Mm.nm, _, rfl, ?_⟩
    have eq5 : PyData.eqv (.list [.tuple ((mB ms).map PyData.str), .tuple ((mE ms).map PyData.str), .tuple ((mK ms 0).map dI), .int ((mC ms : Nat) : Int), .bool (((mC ms : Nat) : Int) != 0)])
        (.list [.tuple ((mB ms).map PyData.str), .tuple ((mE ms).map PyData.str), .tuple ((mK ms 0).map dI), .int ((mC ms : Nat) : Int), .bool (decide ((0 : Int) < ((mC ms : Nat) : Int)))]) = true := by
      rw [eb]
      exact SeqAt.eqv_refl _ (SeqAt.canLay_of_shaped (five_ok _ _ Mm.lgB.nm Mm.nm))
    rw [eq5]
    refine iteF ?_
    dsimp only
    have s12 := s1.trans s2
    have hg2 := hg.same s12
    have hb2 := s12 _ _ hb
    have he2 := s12 _ _ he
    have hk2 := s12 _ _ hk
    have h12 := s12 _ _ h1
    generalize upd (upd H l1 _) l2 _ = H2 at *
    -- growth(at)
    refine ⟨_, rfl, b, _, rfl, .inr (sqt hb2), _, rfl, by rw [List.length_map]; omega, by rw [List.length_map]; have : (mB ms).length ≤ 200 := Mm.lgB.len; omega, fun D nD => ?_⟩
    rw [List.length_map, show (((mB ms).length : Nat) : Int).toNat = (mB ms).length from Int.toNat_natCast _]
    refine lc_range (lo := 0) (n := (mB ms).length) (fun i H4 => Same H2 H4 ∧ H4 D = some (.lst (((mK ms 0).take i).map nV))) ⟨same_upd nD, upd_same⟩ (fun i H4 hi h4 => ?_) (fun H4 h4 => ?_)
    · obtain ⟨sm, hD⟩ := h4
      have hj : i < (mK ms 0).length := by rw [mK_len]; exact hi
      have hgn := List.getElem?_eq_getElem hj
      rw [show (0 : Int) + ((i : Nat) : Int) = ((i : Nat) : Int) by omega]
      refine ⟨rfl, _, rfl, g, rfl, _, rfl, ⟨dx, _, sm _ _ h12⟩, g, ms, i, _, rfl, hg2.same sm, hgn, _, hD, ?_, same_put sm nD, ?_⟩
      · rw [List.length_map, List.length_take]
        exact small1000 (by rw [mK_len]; have := Mm.lgB.len; omega)
      · rw [upd_same, ← List.take_append_getElem hj, List.map_append]
        rfl
    obtain ⟨sm, hD⟩ := h4
    rw [← mK_len ms 0, List.take_length] at hD
    refine ⟨_, rfl, k', _, rfl, .inr (sqt (sm _ _ hk2)), fun l3 nl3 => ?_⟩
    have s3 := same_upd (o := .lst ((mK ms 0).map nV)) nl3
    refine ⟨.list ((mK ms 0).map dI), .list ((mK ms 0).map dI), .lst (sql (s3 _ _ hD)) (all_ints _), .lst (sql upd_same) (all_ints _), shL (flat_ints _), shL (flat_ints _), _, rfl, ?_⟩
    rw [SeqAt.eqv_refl _ (SeqAt.canLay_of_shaped (shL (flat_ints _)))]
    refine iteF ?_
    have s23 := sm.trans s3
    have hg3 := hg2.same s23
    have hb3 := s23 _ _ hb2
    have he3 := s23 _ _ he2
    have hk3 := s23 _ _ hk2
    have h13 := s23 _ _ h12
    have sH3 := s12.trans s23
    generalize upd H4 l3 (.lst ((mK ms 0).map nV)) = H5 at *
    -- due
    have nlen : (((mE ms).map V.str).length : Int).toNat = ms.length := by rw [List.length_map, mE_len]; exact Int.toNat_natCast _
    have nb1 : -(2 ^ 62) ≤ ((((mE ms).map V.str).length : Nat) : Int) := by omega
    have nb2 : ((((mE ms).map V.str).length : Nat) : Int) < 2 ^ 62 := by
      rw [List.length_map, mE_len]
      omega
    refine ⟨_, rfl, e, _, rfl, .inr (sqt he3), _, rfl, nb1, nb2, fun D2 nD2 => ?_⟩
    rw [nlen]
    have rng : ∀ i : Nat, (List.range (i + 1)).map (oP (mK ms 0)) = (List.range i).map (oP (mK ms 0)) ++ [oP (mK ms 0) i] := fun i => by
      rw [List.range_succ, List.map_append]
      rfl
    refine lc_range (lo := 0) (n := ms.length) (fun i H6 => Same H5 H6 ∧ H6 D2 = some (.lst (((List.range i).map (oP (mK ms 0))).map oV))) ⟨same_upd nD2, upd_same⟩ (fun i H6 hi h6' => ?_) (fun H6 h6' => ?_)
    · obtain ⟨sm, hD⟩ := h6'
      have sz : (((List.range i).map (oP (mK ms 0))).map oV).length < sizeLine := by
        rw [List.length_map, List.length_map, List.length_range]
        exact small1000 (by omega)
      rw [show (0 : Int) + ((i : Nat) : Int) = ((i : Nat) : Int) by omega]
      refine ⟨rfl, .int (i : Nat), rfl, _, rfl, k', _, rfl, .inr (sqt (sm _ _ hk3)), rfl, flat_nV _, _, rfl, ?_⟩
      rw [if_neg Bool.false_ne_true, show inV (V.int ((i : Nat) : Int)) ((mK ms 0).map nV) = decide (i ∈ mK ms 0) from in_nV i _]
      by_cases hm : i ∈ mK ms 0
      · rw [decide_eq_true hm]
        refine iteT ⟨_, rfl, k', _, rfl, .inr (sqt (sm _ _ hk3)), fun l4 nl4 => ?_⟩
        have s4 := same_upd (o := .lst ((mK ms 0).map nV)) nl4
        refine ⟨.inl ⟨rfl, _, sql upd_same⟩, .int (i : Nat), rfl, l4, _, nV i, (mK ms 0).idxOf i, nV i, rfl, rfl, sql upd_same, rfl, flat_nV _, ?_, beq_self_eq_true _, fun m z h1 h2 => idx_first h1 h2, _, s4 _ _ hD, sz, same_put (sm.trans s4) nD2, ?_⟩
        · rw [List.getElem?_map, get_idx hm]
          rfl
        · rw [upd_same, rng, List.map_append, show oP (mK ms 0) i = some ((mK ms 0).idxOf i) from if_pos hm]
          rfl
      · rw [decide_eq_false hm]
        refine iteF ⟨_, hD, sz, same_put sm nD2, ?_⟩
        rw [upd_same, rng, List.map_append, show oP (mK ms 0) i = none from if_neg hm]
        rfl
    obtain ⟨sm6, hD6⟩ := h6'
    have hg6 := hg3.same sm6
    have he6 := sm6 _ _ he3
    have hb6 := sm6 _ _ hb3
    have h16 := sm6 _ _ h13
    have sH6 := sH3.trans sm6
    -- the texts
    refine ⟨_, rfl, e, _, rfl, .inr (sqt he6), _, rfl, nb1, nb2, fun D3 nD3 => ?_⟩
    rw [nlen]
    refine lc_range (lo := 0) (n := ms.length) (fun i H7 => Same H6 H7 ∧ H7 D3 = some (.lst (((List.range i).map (oP (mK ms 0))).map oV))) ⟨same_upd nD3, upd_same⟩ (fun i H7 hi h7 => ?_) (fun H7 h7 => ?_)
    · obtain ⟨sm, hD⟩ := h7
      rw [show (0 : Int) + ((i : Nat) : Int) = ((i : Nat) : Int) by omega]
      refine ⟨rfl, _, rfl, g, dx, _, rfl, sm _ _ h16, gf_no _ _ _ _ (by decide +kernel) (by decide +kernel) (by decide +kernel) (by decide +kernel), .int (i : Nat), rfl, g, ms, i, rfl, hg6.same sm, hi, _, hD, ?_, same_put sm nD3, ?_⟩
      · rw [List.length_map, List.length_map, List.length_range]
        exact small1000 (by omega)
      · rw [upd_same, rng, List.map_append]
        rfl
    obtain ⟨sm7, hD7⟩ := h7
    have hD27 := sm7 _ _ hD6
    generalize hos : (List.range ms.length).map (oP (mK ms 0)) = os at *
    have hoslen : os.length = ms.length := by
      rw [← hos, List.length_map, List.length_range]
    obtain ⟨o1, o2, o3, o4⟩ := os_ok os fun n hn => by
      rw [← hos] at hn
      obtain ⟨j, hj, ej⟩ := List.mem_map.mp hn
      unfold oP at ej
      by_cases hm : j ∈ mK ms 0
      · rw [if_pos hm] at ej
        have := List.idxOf_lt_length_of_mem hm
        rw [mK_len] at this
        have h9 := Mm.lgB.len
        have := Option.some.inj ej
        omega
      · rw [if_neg hm] at ej
        cases ej
    have osz : (PyData.shown (.list (os.map dO))).length ≤ sizeLine := by
      refine Nat.le_trans (listText_len _) (Nat.le_trans (show 2 + piled (PyData.shownAll (os.map dO)) ≤ 4402 by omega) (by decide))
    have odp : PyData.depth (.list (os.map dO)) ≤ 60 := by
      show PyData.depthAll (os.map dO) + 1 ≤ 60
      rw [o3]
      decide
    refine ⟨D3, .list (os.map dO), rfl, .lst (sql hD7) (all_oV os), o1, o2, odp, osz, _, rfl, D2, .list (os.map dO), rfl, .lst (sql hD27) (all_oV os), o1, o2, odp, osz, rfl, _, rfl, ?_⟩
    rw [decide_eq_true rfl]
    refine iteF ?_
    have sH7 := sH6.trans sm7
    have hlB : (mB ms).length ≤ 200 := Mm.lgB.len
    have tB := tI_len (mB ms).length (by omega)
    have tE := tI_len (mE ms).length (by rw [mE_len]; omega)
    have ln : ∀ a b : Str, (a ++ b).length = a.length + b.length := strLen_append
    have c1 : (Str.ofString "growth from ").length = 12 := by decide +kernel
    have c2 : (Str.ofString " to ").length = 4 := by decide +kernel
    have c3 : (Str.ofString " events").length = 7 := by decide +kernel
    have big : ∀ n : Nat, n ≤ 1000 → n ≤ sizeLine := fun n h => Nat.le_trans h (by decide)
    refine ⟨_, rfl, g, dx, _, rfl, sm7 _ _ h16, g, ms, rfl, hg6.same sm7, by omega, _, rfl, ?_⟩
    refine ⟨_, rfl, b, _, rfl, .inr (sqt (sm7 _ _ hb6)), _, rfl, ?_, Str.ofString "growth from ", tI (mB ms).length, rfl, ?_, ?_, _, Str.ofString " to ", rfl, rfl, ?_, ?_⟩
    · rw [List.length_map]
      exact log_small (by omega)
    · rw [List.length_map]
    · rw [c1]
      exact big _ (by omega)
    · rw [ln, c1, c2]
      exact big _ (by omega)
    refine ⟨_, rfl, e, _, rfl, .inr (sqt (sm7 _ _ he6)), _, rfl, ?_, _, tI (mE ms).length, rfl, ?_, ?_, _, Str.ofString " events", rfl, rfl, ?_, ?_⟩
    · rw [List.length_map, mE_len]
      exact log_small (by omega)
    · rw [List.length_map]
    · rw [ln, ln, c1, c2]
      exact big _ (by omega)
    · rw [ln, ln, ln, c1, c2, c3]
      exact big _ (by omega)
    refine ⟨rfl, ?_⟩
    rw [show decide (V.str (gtxt (mB ms).length (mE ms).length) = V.str (Str.ofString "growth from " ++ tI (mB ms).length ++ Str.ofString " to " ++ tI (mE ms).length ++ Str.ofString " events")) = true from decide_eq_true rfl]
    exact q _ sH7
end
end Sfl
namespace Sfl
open PySem PySem.Spec PyProof.Rows L2 GenW
theorem notInK {X : Cx} (K : PySem.W.Frag) (h : X.K = K := by rfl) : OpR X (compareOp .NotIn) (rIn K true) := by
  subst h
  exact op_notIn_seq
theorem passG {X : Cx} : Passes (L2.CX X.prog X.w) X E0 := fun _ _ _ _ _ _ _ c => by
  obtain ⟨_, _, _, _, _, _, _, _, _, _, _, _, he⟩ := c
  exact he.elim
theorem noStop0 {K : PySem.W.Frag} : NoStop K E0 := fun _ _ _ h => h.elim
theorem lgs_ok {ms : Ms} (Mm : Mg ms) (n : Nat) : (lgs ms n).length ≤ ms.length ∧ ∀ z ∈ lgs ms n, Nm z = true := by
  constructor
  · unfold lgs
    rw [List.length_append, mE_len, List.length_take]
    have h7 := len_BC (ms.drop n)
    rw [List.length_drop] at h7
    omega
  · intro z hz
    unfold lgs at hz
    rcases List.mem_append.mp hz with hz | hz
    · refine Mm.nm z ?_
      unfold mE at hz ⊢
      rw [List.map_take] at hz
      exact List.mem_of_mem_take hz
    · refine Mm.nm z ?_
      have := mB_mem hz
      unfold mE at this ⊢
      rw [List.map_drop] at this
      exact List.mem_of_mem_drop this
theorem Mg.wh {ms : Ms} (Mm : Mg ms) (n : Nat) : Mg (Sfl.wh ms n) := by
  have h := lgs_ok Mm n
  refine ⟨?_, ?_⟩
  · rw [← mE_len, mE_wh]
    exact Nat.le_trans h.1 Mm.len
  · rw [mE_wh]
    exact h.2
theorem Mg.stp {ms : Ms} (Mm : Mg ms) {n : Nat} {y : Str} (hm : ms[n]? = some (y, false)) : Mg (Sfl.stp ms n y) := by
  have h := lgs_ok Mm (n + 1)
  refine ⟨?_, ?_⟩
  · rw [← mE_len, stp_E hm]
    exact Nat.le_trans h.1 Mm.len
  · rw [stp_E hm]
    exact h.2
theorem sort_one : ∀ (a b : List Int), a.Perm b → a.Pairwise (· ≤ ·) → b.Pairwise (· ≤ ·) → a = b
  | [], b, p, _, _ => p.nil_eq
  | x :: a, [], p, _, _ => absurd p.length_eq (by simp)
  | x :: a, y :: b, p, h1, h2 => by
    have e : x = y := by
      have m1 : x ∈ y :: b := p.subset List.mem_cons_self
      have m2 : y ∈ x :: a := p.symm.subset List.mem_cons_self
      have l1 : y ≤ x := by
        rcases List.mem_cons.mp m1 with z | z
        · omega
        · exact (List.pairwise_cons.mp h2).1 x z
      have l2 : x ≤ y := by
        rcases List.mem_cons.mp m2 with z | z
        · omega
        · exact (List.pairwise_cons.mp h1).1 y z
      omega
    subst e
    rw [sort_one a b (List.perm_cons x |>.mp p) (List.pairwise_cons.mp h1).2 (List.pairwise_cons.mp h2).2]
def iN (l : List Nat) : List Int := l.map fun (n : Nat) => ((n : Nat) : Int)
theorem iN_nV (l : List Nat) : l.map nV = (iN l).map V.int := by
  unfold iN
  rw [List.map_map]
  rfl
theorem pls_sort {ms : Ms} {n : Nat} {y : Str} (h : ms[n]? = some (y, false)) {ns : List Int} (p : ns.Perm (iN (pls ms n ++ [n]))) (s : ns.Pairwise (· ≤ ·)) : ns = iN (pls ms (n + 1)) := by
  refine sort_one ns _ (p.trans ?_) s ?_
  · exact ((pls_put h).map _).symm
  · unfold iN
    rw [List.pairwise_map]
    exact (pls_asc ms (n + 1)).imp fun z => by omega
section
variable {P : Program} {w : World} {K : PySem.W.Frag} {mg : Str → Option Value} {base : Heap}
/-- the generator method steps, as callers see it -/
def SCal (P : Program) (w : World) (K : PySem.W.Frag) (mg : Str → Option Value) (base : Heap) (k : Nat) (C : Addr) : Prop := ∃ f fd, Meth K C "steps" f ∧ GFn P w K mg base k f fd ["self"] (spSteps C) ∧ Binds K fd ["self"] []
abbrev nStepsR : List Str := ["growth", "steps", "whole", "places", "at", "step", "place"]
theorem scStepsR : FnScope nStepsR ["growth"] (defScope sSteps) := ⟨rfl, rfl, rfl, by decide +kernel, rfl, by decide +kernel, by decide +kernel⟩
def spStepsR (C : Addr) : Sp := fun vs H Q _ => ∃ (g : Addr) (ms : Ms), vs = [.ref g] ∧ Gm C H g ms ∧ Mg ms ∧ ms.length < 60 ∧ ∀ H', Same H H' → Q (.bl true) H'
theorem ok_stepsR {f C fi : Addr} {fd : FuncData} {k : Nat} (F : Fun K "_law_steps_right" "_law_steps_right" sSteps f fd) (B : Bn mg) (T : Gc K mg C) (I : Gi K C) (M : Mk K C fi) (FI : FnR P w K mg base CX0 k fi (spStar C)) (C1 : PCal P w K mg base k C "begin" (spBegin C)) (C2 : PCal P w K mg base k C "end" (spEnd C))
    (C3 : PCal P w K mg base k C "kept" (spKept C)) (M1 : MCal P w K mg base k C "__len__" ["self"] (spLenG C)) (M3 : MCal P w K mg base k C "origin" ["self", "position"] (spOrigin C)) (M5 : MCal P w K mg base k C "__add__" ["self", "other"] (spAddG C)) (M6 : MCal P w K mg base k C "__eq__" ["self", "other"] (spEqG C))
    (S1 : SCal P w K mg base k C) (hne : PySem.W.findIn K (.ref C) (cmpInfo .NotEq).2.1 = some (some (.builtin "object.__ne__"))) (hsf : PySem.W.selfFirst K C = true) : FnOk P w K mg base CX0 (k + 4) f fd ["growth"] (spStepsR C) := by
  obtain ⟨p1, g1, d1, PO1, G1, b1⟩ := C1
  obtain ⟨p2, g2, d2, PO2, G2, b2⟩ := C2
  obtain ⟨p3, g3, d3, PO3, G3, b3⟩ := C3
  obtain ⟨m1, e1, N1, n1, L1, c1⟩ := M1
  obtain ⟨m3, e3, N3, n3, L3, c3⟩ := M3
  obtain ⟨m5, e5, N5, n5, L5, c5⟩ := M5
  obtain ⟨m6, e6, N6, n6, L6, c6⟩ := M6
  obtain ⟨m7, e7, N7, L7, c7⟩ := S1
  refine F.ok (k := k + 3) scStepsR (fun vs H Q E h => ?_) (fun cdv A outer s H vs Q E hr h => ?_)
  · obtain ⟨g, ms, rfl, _⟩ := h
    rfl
  · obtain ⟨g, ms, rfl, hg, Mm, hlt, q⟩ := h
    have hr0 : Room k _ := hr.mono (by omega)
    have hr1 : Room (k + 1) _ := hr.mono (by omega)
    have R1 := raw0 L1 c1
    have R5 := raw0 L5 c5
    have R6 := raw0 L6 c6
    refine ⟨_, pss_cons (ps_par3 (i := 1) (j := 2) (l := 3) rfl scStepsR.nd rfl rfl rfl (by decide) (by decide) (by decide) rfl rfl rfl
        (pa_cons (pe_listG (pgen_meth0 (pv 0) T.cl N7 L7 hr0 c7 .nil) passG noStop0 hr (by rfl) B.list (by decide +kernel)) (pa_cons (StX.pe_makeR M FI hr1 (by rfl) T.mgC pass0 (pa_cons (pe_prop (pv 0) T.cl PO1 G1 hr1 b1 .nil pass0 rfl) pa_nil))
          (pa_cons (pe_callTy call_list_of (by rfl) B.list (by decide +kernel) (pa_cons (pe_prop (pv 0) T.cl PO3 G3 hr1 b3 .nil pass0 rfl) pa_nil)) pa_nil))) (by rfl))
      (pss_cons (ps_if (pt_cmpR op_ne (pe_callB call_len_seq (by rfl) B.len PySem.boot_len (pa_cons (pv 1) pa_nil)) (pe_callB (call_lenO N1.at_ N1.fn R1 hr1 pass0) (by rfl) B.len PySem.boot_len (pa_cons (pv 0) pa_nil)) (nomark _)) (pss_one (ps_ret pe_bl)) pss_nil)
      (pss_cons (ps_for PassesOwn.never rfl (pi_list (pe_lc (own := [("place", 6)]) rfl scStepsR.nd (pi_range1 rfl B.range (pa_cons (pe_callB call_len_seq (by rfl) B.len PySem.boot_len (pa_cons (pe_prop (pv 0) T.cl PO2 G2 hr1 b2 .nil pass0 rfl) pa_nil)) pa_nil))
            (blkOk_by (own := [("place", 6)]) (N := nStepsR) (sc := defScope sSteps) (by decide +kernel)) (fun _ _ _ _ _ => pg_name (i := 6) scStepsR.nd rfl (Or.inl rfl))
            (fun _ _ _ _ _ => pts_one (pt_cmpR (notInK K) (pv 6) (pe_prop (pv 0) T.cl PO3 G3 hr1 b3 .nil pass0 rfl) (by rfl))) (fun _ _ _ _ _ => pv 6))) (pg_name (i := 4) scStepsR.nd rfl (Or.inl rfl))
          (pss_cons (ps_set (i := 5) scStepsR.nd rfl (.inl rfl) (pe_ix ix_list (pv 1) (pe_callB (call_lenO N1.at_ N1.fn R1 hr1 pass0) (by rfl) B.len PySem.boot_len (pa_cons (pv 2) pa_nil)) (fun _ _ => rfl)))
          (pss_cons (ps_set (i := 3) scStepsR.nd rfl (.inl rfl) (pe_callB cr_sorted (by rfl) B.sorted (by decide +kernel) (pa_cons (pe_op op_cat (pv 3) (pe_lst (pa_cons (pv 4) pa_nil))) pa_nil)))
          (pss_cons (ps_if (PW.pt (pw_or (pt_cmpR op_ne (pe_callB (call_lenO N1.at_ N1.fn R1 hr1 pass0) (by rfl) B.len PySem.boot_len (pa_cons (pv 5) pa_nil)) pe_int (nomark _))
              (pw_or (pt_cmpR (op_neD hr.units) (pe_prop (pv 5) T.cl PO1 G1 hr1 b1 .nil pass0 rfl) (pe_prop (pv 2) T.cl PO2 G2 hr1 b2 .nil pass0 rfl) (nomark _))
              (pw_or1 (pt_cmpR (op_neD hr.units) (pe_prop (pv 5) T.cl PO2 G2 hr1 b2 .nil pass0 rfl) (pe_callTy call_tuple_of (by rfl) B.tuple (by decide +kernel) (pa_cons
                (pe_lc (own := [("place", 6)]) rfl scStepsR.nd (pi_list (pv 3)) (blkOk_by (own := [("place", 6)]) (N := nStepsR) (sc := defScope sSteps) (by decide +kernel)) (fun _ _ _ _ _ => pg_name (i := 6) scStepsR.nd rfl (Or.inl rfl))
                  (fun _ _ _ _ _ => pts_nil) (fun _ _ _ _ _ => pe_ix (ixTK K) (pe_prop (pv 0) T.cl PO2 G2 hr1 b2 .nil pass0 rfl) (pv 6) (fun _ _ => rfl))) pa_nil)) (nomark _)))))) (pss_one (ps_ret pe_bl)) pss_nil)
          (pss_cons (ps_if (pt_cmp (pc_notN (pe_meth (pv 5) T.cl N3 L3 hr0 c3 .nil pass0 (pa_cons (pe_bm PySem.F.plainAttrs_list PySem.F.slot_list_index PySem.F.type_list_index mt_index (pv 3) (pa_cons (pv 4) pa_nil)) pa_nil)))) (pss_one (ps_ret pe_bl)) pss_nil)
          (pss_one (ps_set (i := 2) scStepsR.nd rfl (.inl rfl) (pe_op (op_addO N5.at_ hsf N5.fn R5 hr0 pass0) (pv 2) (pv 5)))))))))
      (pss_one (ps_ret (pe_and (pe_cmpR (op_eqO N6.at_ N6.fn R6 hr0 pass0) (pv 2) (pv 0) (nomark _)) (pe_and (pe_cmpR (op_eqO N6.at_ N6.fn R6 hr0 pass0) (pv 0) (pv 2) (nomark _))
        (pe_one (pe_not (pe_cmpR (op_neO hne N6.at_ N6.fn I.mro R6 hr1 pass0) (pv 2) (pv 0) (nomark _))))))))))
      , ?_⟩
    obtain ⟨dx, b0, i0, e0, k0, rs, h1, h2, h3, h4, h5, h6⟩ := id hg
    have no : (gf b0 i0 e0 k0).lookup ("steps" : Str) = none := gf_no _ _ _ _ (by decide +kernel) (by decide +kernel) (by decide +kernel) (by decide +kernel)
    have small : ∀ n : Nat, n ≤ 200 → (0 : Int) ≤ (n : Int) ∧ (n : Int) < 2 ^ 63 := fun n hn => by omega
    have hmC : mC ms ≤ 200 := by
      have := len_BC ms
      omega
    refine ⟨_, rfl, g, dx, _, rfl, h1, no, g, ms, rfl, hg, Mm, fun H1 gs s1 hst p np => ?_⟩
    have sp := same_upd (o := .lst (gs.map V.ref)) np
    have s2 := s1.trans sp
    have hp2 : upd H1 p (.lst (gs.map V.ref)) p = some (.lst (gs.map V.ref)) := upd_same
    have hst2 := hst.same sp
    generalize upd H1 p (.lst (gs.map V.ref)) = H2 at *
    refine ⟨_, rfl, g, dx, _, rfl, s2 _ _ h1, g, ms, rfl, hg.same s2, fun bb hbb => ?_⟩
    show ∀ (x dx : Addr), H2 x = none → H2 dx = none → dx ≠ x → spStar C (V.ref x :: (V.ref bb :: ([] : List Addr).map V.ref)) _ _ _
    refine mk_ok (ins := []) hbb Pl.nil Mm.lgB (fun x hx => by cases hx) (by have := Mm.lgB.len; show (mB ms).length + 0 ≤ 200; omega) fun H3 wr s3 nwr hw => ?_
    rw [gm_nil] at hw
    have s03 := s2.trans s3
    refine ⟨_, rfl, g, dx, _, rfl, s03 _ _ h1, g, ms, rfl, hg.same s03, fun kk hkk => ⟨kk, _, rfl, .inr hkk.sq, fun pl npl => ⟨_, _, _, rfl, ?_⟩⟩⟩
    have spl := same_upd (o := .lst ((mK ms 0).map nV)) npl
    have hpl4 : upd H3 pl (.lst ((mK ms 0).map nV)) pl = some (.lst ((mK ms 0).map nV)) := upd_same
    have s04 := s03.trans spl
    have hw4 := hw.same spl
    have hp4 := spl _ _ (s3 _ _ hp2)
    have hst4 := (hst2.same s3).same spl
    generalize upd H3 pl (.lst ((mK ms 0).map nV)) = H4 at *
    have hg4 := hg.same s04
    have h14 := s04 _ _ h1
    refine ⟨_, rfl, p, _, rfl, .inl (sql hp4), _, rfl, g, dx, _, rfl, h14, g, ms, rfl, hg4, _, rfl, small _ hmC, rfl, _, rfl, ?_⟩
    rw [List.length_map, hst4.1, mN_len, decide_eq_true rfl]
    refine iteF ?_
    -- the positions of what was put in
    refine ⟨_, rfl, g, dx, _, rfl, h14, g, ms, rfl, hg4, fun ee hee => ⟨ee, _, rfl, .inr (sqt hee), _, rfl, by omega, by rw [List.length_map, mE_len]; omega, fun D nD => ?_⟩⟩
    rw [show (((mE ms).map V.str).length : Int).toNat = ms.length by rw [List.length_map, mE_len]; exact Int.toNat_natCast _]
    refine lc_range (lo := 0) (n := ms.length) (fun i H5 => Same H4 H5 ∧ H5 D = some (.lst ((mN (ms.take i) 0).map nV))) ⟨same_upd nD, upd_same⟩ (fun i H5 hi h5' => ?_) (fun H5 h5' => ?_)
    · obtain ⟨sm, hD⟩ := h5'
      have hm := List.getElem?_eq_getElem hi
      generalize hmm : ms[i] = m at hm
      obtain ⟨y, mb⟩ := m
      have hmem : decide (i ∈ mK ms 0) = mb := by
        cases mb with
        | true => exact decide_eq_true ((mem_mK ms 0 i).mpr ⟨Nat.zero_le _, y, by rw [Nat.sub_zero]; exact hm⟩)
        | false =>
          refine decide_eq_false fun z => ?_
          obtain ⟨_, x, hx'⟩ := (mem_mK ms 0 i).mp z
          rw [Nat.sub_zero, hm] at hx'
          cases Option.some.inj hx'
      have tl : (ms.take i).length = i := by
        rw [List.length_take]
        omega
      rw [show (0 : Int) + ((i : Nat) : Int) = ((i : Nat) : Int) by omega]
      refine ⟨rfl, _, rfl, _, rfl, g, dx, _, rfl, sm _ _ h14, g, ms, rfl, hg4.same sm, fun k5 hk5 => ⟨k5, _, rfl, .inr hk5.sq, rfl, flat_nV _, _, rfl, ?_⟩⟩
      rw [if_pos rfl, show inV (V.int ((i : Nat) : Int)) ((mK ms 0).map nV) = decide (i ∈ mK ms 0) from in_nV i _, hmem]
      cases mb with
      | true =>
        refine iteF ⟨sm, ?_⟩
        rw [take_at hm, mN_append]
        show _ = some (HO.lst ((mN (ms.take i) 0 ++ []).map nV))
        rw [List.append_nil]
        exact hD
      | false =>
        refine iteT ⟨_, rfl, _, hD, ?_, same_put sm nD, ?_⟩
        · rw [List.length_map, mN_len]
          have := len_BC (ms.take i)
          exact small1000 (by omega)
        · rw [upd_same, take_at hm, mN_append, tl, List.map_append, Nat.zero_add]
          rfl
    obtain ⟨sm5, hD5⟩ := h5'
    rw [List.take_length] at hD5
    refine ⟨D, rfl, ⟨_, sql hD5⟩, ?_⟩
    have hp5 := sm5 _ _ hp4
    have hst5 := hst4.same sm5
    have hg5 := hg4.same sm5
    have h15 := sm5 _ _ h14
    have s05 := s04.trans sm5
    refine for_list (K := K) (a := D) (xs := (mN ms 0).map nV) (fun j σ H6 => ∃ n wr pl y4 y5 y6, σ = [some (.ref g), some (.ref p), some (.ref wr), some (.ref pl), y4, y5, y6] ∧ Same H5 H6 ∧ n ≤ ms.length ∧ (mN (ms.take n) 0).length = j ∧
        Gm C H6 wr (Sfl.wh ms n) ∧ H6 pl = some (.lst ((pls ms n).map nV))) ?_ ?_ ?_ ?_
    · exact ⟨0, wr, pl, _, _, _, rfl, Same.refl _, Nat.zero_le _, rfl, hw4.same sm5, sm5 _ _ hpl4⟩
    · rintro j σ H6 hj ⟨n, wr, pl, y4, y5, y6, rfl, s6, _⟩
      exact sql (s6 _ _ hD5)
    · rintro j x σ H6 hx ⟨n, wr, pl, y4, y5, y6, rfl, s6, hn, hnj, hw6, hpl6⟩
      obtain ⟨v, hv, rfl⟩ := get_map' hx
      have hsplit := mN_split ms n hn
      have hv2 : (mN (ms.drop n) n)[0]? = some v := by
        rw [hsplit, List.getElem?_append_right (by omega), hnj, Nat.sub_self] at hv
        exact hv
      obtain ⟨rest, hrest⟩ : ∃ rest, mN (ms.drop n) n = v :: rest := by
        cases hc : mN (ms.drop n) n with
        | nil =>
          rw [hc] at hv2
          cases hv2
        | cons a r =>
          rw [hc] at hv2
          cases Option.some.inj (show some a = some v from hv2)
          exact ⟨r, rfl⟩
      obtain ⟨y, hm, hnv, ew, epl, er⟩ := mN_next _ n ms rfl hn v rest hrest
      have hvl : v < ms.length := get_lt hm
      have hgl : j < gs.length := by
        rw [hst5.1]
        exact get_lt hv
      have hgr := List.getElem?_eq_getElem hgl
      generalize hrr : gs[j] = r at hgr
      have hstep := (hst5.2 j r v y hgr hv hm).same s6
      have Mw := Mm.wh n
      have Ms' := Mm.stp hm
      have elg : lgs ms v = lgs ms n := by rw [← mE_wh, ← mE_wh, ew]
      have hwl : mC (Sfl.wh ms n) = j := by rw [mC_wh, hnj]
      have hcw : mC (Sfl.wh ms n) ≤ 200 := by
        have := len_BC (Sfl.wh ms n)
        have := Mw.len
        omega
      obtain ⟨dxw, w1, w2, w3, w4, w5, hw1, _, _, _, hw5, _⟩ := id hw6
      obtain ⟨dxr, r1, r2, r3, r4, r5, hr1', hr2, _, _, hr5, _⟩ := id hstep
      -- step = steps[len(whole)]
      refine ⟨_, rfl, _, rfl, wr, dxw, _, rfl, hw1, wr, _, rfl, hw6, _, rfl, small _ hcw, p, _, _, .ref r, rfl, rfl, sql (s6 _ _ hp5), ?_, ?_⟩
      · rw [hwl]
        exact atI_nat (by rw [List.getElem?_map, hgr]; rfl)
      -- places = sorted(places + [at])
      refine ⟨_, rfl, _, rfl, (show 1 ≤ sizeLine by decide), fun l1 nl1 => ?_⟩
      have t1 := same_upd (o := .lst [nV v]) nl1
      have hpls : (pls ms n).length ≤ 61 := by
        unfold pls
        rw [List.length_append, List.length_range, mK_len]
        have h7 := len_BC (ms.drop n)
        rw [List.length_drop] at h7
        omega
      refine ⟨pl, l1, _, _, rfl, rfl, t1 _ _ hpl6, upd_same, ?_, fun p2 np2 => ?_⟩
      · rw [List.length_map]
        exact Nat.le_trans (show (pls ms n).length + 1 ≤ 62 by omega) (by decide)
      have t2 := same_upd (o := .lst ((pls ms n).map nV ++ [nV v])) np2
      refine ⟨p2, iN (pls ms v ++ [v]), rfl, ?_, ?_, fun ns' p3 perm pw np3 => ?_⟩
      · rw [← iN_nV, epl, List.map_append]
        exact sql upd_same
      · unfold iN
        rw [List.length_map, epl, List.length_append]
        show (pls ms n).length + 1 < 64
        omega
      rw [pls_sort hm perm pw, ← iN_nV]
      have t3 := same_upd (o := .lst ((pls ms (v + 1)).map nV)) np3
      have s7 := s6.trans ((t1.trans t2).trans t3)
      have tt := (t1.trans t2).trans t3
      have hpl7 : upd _ p3 (.lst ((pls ms (v + 1)).map nV)) p3 = some (.lst ((pls ms (v + 1)).map nV)) := upd_same (H := upd (upd H6 l1 (.lst [nV v])) p2 (.lst ((pls ms n).map nV ++ [nV v])))
      have hstep7 := hstep.same tt
      have hw7 := hw6.same tt
      have hr17 := tt _ _ hr1'
      have hw17 := tt _ _ hw1
      have hg7 := hg5.same s7
      have h17 := s7 _ _ h15
      generalize upd (upd (upd H6 l1 _) p2 _) p3 _ = H7 at *
      -- the tests
      refine ⟨_, rfl, r, dxr, _, rfl, hr17, r, _, rfl, hstep7, _, rfl, small _ (by rw [stp_C]; decide), rfl, _, rfl, ?_⟩
      rw [stp_C, decide_eq_true (show V.int ((1 : Nat) : Int) = V.int 1 from rfl)]
      refine iteF ⟨_, rfl, r, dxr, _, rfl, hr17, r, _, rfl, hstep7, fun b8 hb8 => ⟨_, rfl, wr, dxw, _, rfl, hw17, wr, _, rfl, hw7, fun e8 he8 => ⟨_, _, dp_tp hb8, dp_tp he8, sh_tstr Ms'.lgB.nm, sh_tstr Mw.nm, _, rfl, ?_⟩⟩⟩
      rw [eqv_tstr, stp_B hm, mE_wh, elg, decide_eq_true rfl]
      refine iteF ⟨_, rfl, r, dxr, _, rfl, hr17, r, _, rfl, hstep7, fun e9 he9 => ⟨_, rfl, p3, rfl, ⟨_, sql hpl7⟩, fun D2 nD2 => ?_⟩⟩
      refine lc_list (xs := (pls ms (v + 1)).map nV) (fun i H8 => Same H7 H8 ∧ H8 D2 = some (.lst ((((pls ms (v + 1)).take i).map fun j => (mE ms).getD j Str.empty).map V.str))) ⟨same_upd nD2, upd_same⟩ (fun i H8 hi h8 => sql (h8.1 _ _ hpl7)) (fun i x H8 hx h8 => ?_) (fun H8 h8 => ?_)
      · obtain ⟨sm, hD⟩ := h8
        obtain ⟨q8, hq8, rfl⟩ := get_map' hx
        have hil := get_lt hq8
        have hql : q8 < (mE ms).length := by
          rw [mE_len]
          have hmq := List.mem_of_getElem? hq8
          unfold pls at hmq
          rcases List.mem_append.mp hmq with z | z
          · have := List.mem_range.mp z
            omega
          · have := mK_rng _ _ q8 z
            rw [List.length_drop] at this
            omega
        have hgq := List.getElem?_eq_getElem hql
        refine ⟨rfl, _, rfl, g, dx, _, rfl, sm _ _ h17, g, ms, rfl, hg7.same sm, fun e10 he10 => ⟨_, rfl, e10, _, _, .str (mE ms)[q8], rfl, rfl, sqt he10, atI_nat (by rw [List.getElem?_map, hgq]; rfl), _, hD, ?_, same_put sm nD2, ?_⟩⟩
        · rw [List.length_map, List.length_map, List.length_take]
          have : (pls ms (v + 1)).length ≤ 62 := by
            unfold pls
            rw [List.length_append, List.length_range, mK_len]
            have h7 := len_BC (ms.drop (v + 1))
            rw [List.length_drop] at h7
            omega
          exact small1000 (by omega)
        · have et : (pls ms (v + 1)).take (i + 1) = (pls ms (v + 1)).take i ++ [q8] := by
            rw [← List.take_append_getElem hil, (List.getElem?_eq_some_iff.mp hq8).2]
          have eg : (mE ms).getD q8 Str.empty = (mE ms)[q8] := by
            rw [List.getD_eq_getElem?_getD, hgq]
            rfl
          rw [upd_same, et, List.map_append, List.map_append]
          show _ = some (HO.lst (_ ++ [V.str ((mE ms).getD q8 Str.empty)]))
          rw [eg]
      obtain ⟨sm8, hD8⟩ := h8
      rw [List.length_map, List.take_length, pls_vals ms (v + 1) hvl] at hD8
      refine ⟨D2, _, rfl, .inl ⟨sql hD8, fun t nt => ?_⟩⟩
      have t9 := same_upd (o := .tup ((lgs ms (v + 1)).map V.str)) nt
      have s8 := sm8.trans t9
      refine ⟨_, _, dp_tp (s8 _ _ he9), dp_tp (l := lgs ms (v + 1)) upd_same, sh_tstr Ms'.nm, sh_tstr (lgs_ok Mm (v + 1)).2, _, rfl, ?_⟩
      rw [eqv_tstr, stp_E hm, decide_eq_true rfl]
      refine iteF ?_
      have hstep9 := hstep7.same s8
      have hw9 := hw7.same s8
      have hr19 := s8 _ _ hr17
      have hw19 := s8 _ _ hw17
      have hpl9 := s8 _ _ hpl7
      have s9 := s7.trans s8
      generalize upd H8 t _ = H9 at *
      have hix := pls_idx ms v
      have hlst : v < (Sfl.stp ms v y).length := by
        rw [← mE_len, stp_E hm]
        unfold lgs
        rw [List.length_append, mE_len, List.length_take]
        omega
      have hno : oP (mK (Sfl.stp ms v y) 0) v = none := if_neg (stp_K hm)
      refine ⟨_, rfl, r, dxr, _, rfl, hr19, gf_no _ _ _ _ (by decide +kernel) (by decide +kernel) (by decide +kernel) (by decide +kernel), ?_⟩
      refine ⟨_, rfl, .inl ⟨rfl, _, sql hpl9⟩, _, rfl, p3, _, nV v, v, nV v, rfl, rfl, sql hpl9, rfl, flat_nV _, ?_, beq_self_eq_true _, fun m z a1 a2 => idx_first (n := v) (by rw [hix.1]; exact a1) a2, ?_⟩
      · have := get_idx hix.2
        rw [hix.1] at this
        rw [List.getElem?_map, this]
        rfl
      refine ⟨r, _, v, rfl, hstep9, hlst, ?_⟩
      rw [hno]
      refine ⟨_, rfl, iteF ?_⟩
      -- whole = whole + step
      refine ⟨_, rfl, _, rfl, wr, dxw, _, r, dxr, _, rfl, rfl, hw19, hr19, wr, r, _, _, rfl, hw9, hstep9, Mw, Ms', by rw [mE_wh, stp_B hm, elg], fun H10 wr2 s10 hwn => ?_⟩
      rw [← ew, wh_step hm] at hwn
      refine ⟨v + 1, wr2, p3, _, _, _, rfl, s9.trans s10, hvl, ?_, hwn, s10 _ _ hpl9⟩
      have e1 := mN_split ms (v + 1) hvl
      rw [hsplit, hrest, er] at e1
      have e2 := congrArg List.length e1
      rw [List.length_append, List.length_append, List.length_cons] at e2
      omega
    · rintro σ H6 ⟨n, wr, pl, y4, y5, y6, rfl, s6, hn, hnj, hw6, hpl6⟩
      have hemp : mN (ms.drop n) n = [] := by
        have e1 := congrArg List.length (mN_split ms n hn)
        rw [List.length_append] at e1
        rw [List.length_map] at hnj
        exact List.eq_nil_of_length_eq_zero (by omega)
      rw [mN_last _ n ms rfl hn hemp] at hw6
      obtain ⟨dxw, w1, w2, w3, w4, w5, hw1, _⟩ := id hw6
      have hg6 := hg5.same s6
      have h16 := s6 _ _ h15
      refine ⟨_, rfl, _, rfl, wr, dxw, _, g, dx, _, rfl, rfl, hw1, h16, wr, g, ms, rfl, hw6, Mm, .inl ⟨ms, hg6, Mm, _, rfl, ?_⟩⟩
      rw [decide_eq_true rfl]
      refine iteT ⟨_, rfl, _, rfl, g, dx, _, wr, dxw, _, rfl, rfl, h16, hw1, g, wr, ms, rfl, hg6, Mm, .inl ⟨ms, hw6, Mm, _, rfl, ?_⟩⟩
      rw [decide_eq_true rfl]
      refine iteT ⟨_, rfl, _, rfl, wr, dxw, _, g, dx, _, rfl, rfl, hw1, h16, wr, g, ms, rfl, hw6, Mm, .inl ⟨ms, hg6, Mm, _, rfl, _, rfl, ?_⟩⟩
      rw [decide_eq_true rfl]
      exact q _ (s05.trans s6)
end
end Sfl
namespace Sfl
open PySem PySem.Spec PyProof.Rows L2 GenW
theorem Mg.comp {a b : Ms} (hb : Mg b) (h : mE a = mB b) : Mg (Sfl.comp a b) := by
  refine ⟨?_, ?_⟩
  · rw [← mE_len, mE_comp a b h, mE_len]
    exact hb.len
  · rw [mE_comp a b h]
    exact hb.nm
theorem dp_oV {K : PySem.W.Frag} {H : Hp} : ∀ o : Option Nat, Dp K H (oV o) (dO o)
  | none => .non
  | some n => .int _
theorem sh_dO : ∀ o : Option Nat, SeqAt.shaped (dO o) = true
  | none => shaped_of (n := 0) rfl rfl (by decide)
  | some n => shaped_of (n := 0) rfl rfl (by decide)
theorem Mg.idB {ms : Ms} (h : Mg ms) : Mg (idm (mB ms)) := by
  refine ⟨?_, ?_⟩
  · rw [← mE_len, mE_idm]
    exact h.lgB.len
  · rw [mE_idm]
    exact h.lgB.nm
theorem Mg.idE {ms : Ms} (h : Mg ms) : Mg (idm (mE ms)) := by
  refine ⟨?_, ?_⟩
  · rw [← mE_len, mE_idm]
    exact h.lgE.len
  · rw [mE_idm]
    exact h.nm
section
variable {P : Program} {w : World} {K : PySem.W.Frag} {mg : Str → Option Value} {base : Heap}
abbrev nJoined : List Str := ["one", "two", "three", "both", "at", "middle"]
theorem scJoined : FnScope nJoined ["one", "two", "three"] (defScope sJoined) := ⟨rfl, rfl, rfl, by decide +kernel, rfl, by decide +kernel, by decide +kernel⟩
def spJoined (C : Addr) : Sp := fun vs H Q _ => ∃ (o1 o2 o3 : Addr) (m1 m2 m3 : Ms), vs = [.ref o1, .ref o2, .ref o3] ∧ Gm C H o1 m1 ∧ Gm C H o2 m2 ∧ Gm C H o3 m3 ∧ Mg m1 ∧ Mg m2 ∧ Mg m3 ∧ mE m1 = mB m2 ∧ mE m2 = mB m3 ∧ ∀ H', Same H H' → Q (.bl true) H'
/-- a def that wants to know that no repr is under way -/
def GCal (P : Program) (w : World) (K : PySem.W.Frag) (mg : Str → Option Value) (base : Heap) (k : Nat) (x : Str) (ps : List Str) (sp : Sp) : Prop := ∃ f fd, FnG P w K mg base k f fd ps sp ∧ mg x = some (.ref f) ∧ PySem.W.keepIn K (.ref f) = true ∧ Binds K fd ps []
theorem ok_joined {f C fi : Addr} {fd : FuncData} {k : Nat} (F : Fun K "_law_joined_right" "_law_joined_right" sJoined f fd) (B : Bn mg) (T : Gc K mg C) (I : Gi K C) (M : Mk K C fi) (FI : FnR P w K mg base CX0 k fi (spStar C)) (C1 : PCal P w K mg base k C "begin" (spBegin C)) (C2 : PCal P w K mg base k C "end" (spEnd C))
    (M1 : MCal P w K mg base k C "__len__" ["self"] (spLenG C)) (M2 : MCal P w K mg base k C "__call__" ["self", "position"] (spCallG C)) (M3 : MCal P w K mg base k C "origin" ["self", "position"] (spOrigin C)) (M5 : MCal P w K mg base k C "__add__" ["self", "other"] (spAddG C)) (M6 : MCal P w K mg base k C "__eq__" ["self", "other"] (spEqG C))
    (D1 : GCal P w K mg base k "_law_told_right" ["growth", "begin", "end", "stay"] (spTold C)) (hne : PySem.W.findIn K (.ref C) (cmpInfo .NotEq).2.1 = some (some (.builtin "object.__ne__"))) (hsf : PySem.W.selfFirst K C = true) : FnG P w K mg base (k + 2) f fd ["one", "two", "three"] (spJoined C) := by
  obtain ⟨p1, g1, d1, PO1, G1, b1⟩ := C1
  obtain ⟨p2, g2, d2, PO2, G2, b2⟩ := C2
  obtain ⟨n1, e1, N1, z1, L1, c1⟩ := M1
  obtain ⟨n2, e2, N2, z2, L2', c2⟩ := M2
  obtain ⟨n3, e3, N3, z3, L3, c3⟩ := M3
  obtain ⟨n5, e5, N5, z5, L5, c5⟩ := M5
  obtain ⟨n6, e6, N6, z6, L6, c6⟩ := M6
  obtain ⟨f7, d7, G7, g7, kp7, b7⟩ := D1
  refine fun_okG (k := k + 1) F scJoined (fun vs H Q E h => ?_) (fun cdv A outer s H vs Q E gd hr h => ?_)
  · obtain ⟨o1, o2, o3, m1, m2, m3, rfl, _⟩ := h
    rfl
  · obtain ⟨o1, o2, o3, m1, m2, m3, rfl, h1, h2, h3, G1', G2', G3', h12, h23, q⟩ := h
    have hr0 : Room k _ := hr.mono (by omega)
    have R1 := raw0 L1 c1
    have R2 := raw0 L2' c2
    have R5 := raw0 L5 c5
    have R6 := raw0 L6 c6
    refine ⟨_, pss_cons (ps_set (i := 3) scJoined.nd rfl (.inl rfl) (pe_op (op_addO N5.at_ hsf N5.fn R5 hr0 pass0) (pv 0) (pv 1)))
      (pss_cons (ps_if (pt_not (pt_val (pe_callG (E := E0) G7 gd hr0 (by rfl) g7 kp7 b7 .nil (pa_cons (pv 3) (pa_cons (pe_prop (pv 0) T.cl PO1 G1 hr b1 .nil pass0 rfl) (pa_cons (pe_prop (pv 1) T.cl PO2 G2 hr b2 .nil pass0 rfl) (pa_cons
          (pe_callTy call_tuple_of (by rfl) B.tuple (by decide +kernel) (pa_cons (pe_lc (own := [("at", 4)]) rfl scJoined.nd (pi_range1 rfl B.range (pa_cons (pe_callB call_len_seq (by rfl) B.len PySem.boot_len (pa_cons (pe_prop (pv 0) T.cl PO1 G1 hr b1 .nil pass0 rfl) pa_nil)) pa_nil))
            (blkOk_by (own := [("at", 4)]) (N := nJoined) (sc := defScope sJoined) (by decide +kernel)) (fun _ _ _ _ _ => pg_name (i := 4) scJoined.nd rfl (Or.inl rfl)) (fun _ _ _ _ _ => pts_nil)
            (fun _ _ _ _ _ => pe_callI (pv 1) ⟨N2.at_, N2.fn, z2⟩ R2 hr0 pass0 (pa_cons (pe_callI (pv 0) ⟨N2.at_, N2.fn, z2⟩ R2 hr0 pass0 (pa_cons (pv 4) pa_nil)) pa_nil))) pa_nil)) pa_nil))))))) (pss_one (ps_ret pe_bl)) pss_nil)
      (pss_cons (ps_for PassesOwn.never rfl (pi_range1 rfl B.range (pa_cons (pe_callB call_len_seq (by rfl) B.len PySem.boot_len (pa_cons (pe_prop (pv 1) T.cl PO2 G2 hr b2 .nil pass0 rfl) pa_nil)) pa_nil)) (pg_name (i := 4) scJoined.nd rfl (Or.inl rfl))
        (pss_cons (ps_set (i := 5) scJoined.nd rfl (.inl rfl) (pe_meth (pv 1) T.cl N3 L3 hr0 c3 .nil pass0 (pa_cons (pv 4) pa_nil)))
        (pss_one (ps_if (pt_cmpR (op_neD hr.units) (pe_meth (pv 3) T.cl N3 L3 hr0 c3 .nil pass0 (pa_cons (pv 4) pa_nil)) (pe_ifExp (pt_cmp (pc_isN (pv 5))) pe_non (pe_meth (pv 0) T.cl N3 L3 hr0 c3 .nil pass0 (pa_cons (pv 5) pa_nil))) (nomark _)) (pss_one (ps_ret pe_bl)) pss_nil))))
      (pss_cons (ps_if (PW.pt (pw_or (pt_cmpR (op_neO hne N6.at_ N6.fn I.mro R6 hr pass0) (pe_op (op_addO N5.at_ hsf N5.fn R5 hr0 pass0) (pv 3) (pv 2)) (pe_op (op_addO N5.at_ hsf N5.fn R5 hr0 pass0) (pv 0) (pe_op (op_addO N5.at_ hsf N5.fn R5 hr0 pass0) (pv 1) (pv 2))) (nomark _))
          (pw_or1 (pt_cmpR op_ne (pe_callB (call_lenO N1.at_ N1.fn R1 hr pass0) (by rfl) B.len PySem.boot_len (pa_cons (pe_op (op_addO N5.at_ hsf N5.fn R5 hr0 pass0) (pv 3) (pv 2)) pa_nil))
            (pe_op op_add (pe_op op_add (pe_callB (call_lenO N1.at_ N1.fn R1 hr pass0) (by rfl) B.len PySem.boot_len (pa_cons (pv 0) pa_nil)) (pe_callB (call_lenO N1.at_ N1.fn R1 hr pass0) (by rfl) B.len PySem.boot_len (pa_cons (pv 1) pa_nil)))
              (pe_callB (call_lenO N1.at_ N1.fn R1 hr pass0) (by rfl) B.len PySem.boot_len (pa_cons (pv 2) pa_nil))) (nomark _))))) (pss_one (ps_ret pe_bl)) pss_nil)
      (pss_one (ps_ret (pe_and (pe_cmpR (op_eqO N6.at_ N6.fn R6 hr0 pass0) (pe_op (op_addO N5.at_ hsf N5.fn R5 hr0 pass0) (StX.pe_makeR M FI hr (by rfl) T.mgC pass0 (pa_cons (pe_prop (pv 0) T.cl PO1 G1 hr b1 .nil pass0 rfl) pa_nil)) (pv 0)) (pv 0) (nomark _))
        (pe_one (pe_cmpR (op_eqO N6.at_ N6.fn R6 hr0 pass0) (pe_op (op_addO N5.at_ hsf N5.fn R5 hr0 pass0) (pv 0) (StX.pe_makeR M FI hr (by rfl) T.mgC pass0 (pa_cons (pe_prop (pv 0) T.cl PO2 G2 hr b2 .nil pass0 rfl) pa_nil))) (pv 0) (nomark _)))))))))
      , ?_⟩
    have ins : ∀ {H : Hp} {g : Addr} {ms : Ms}, Gm C H g ms → ∃ dx fs, H g = some (.ins C dx fs) := fun h => by
      obtain ⟨dx, b, i, e, k, rs, z, _⟩ := h
      exact ⟨dx, _, z⟩
    have nor : ∀ {H : Hp} {g : Addr} {ms : Ms}, Gm C H g ms → ∃ dx fs, H g = some (.ins C dx fs) ∧ fs.lookup ("origin" : Str) = none := fun h => by
      obtain ⟨dx, b, i, e, k, rs, z, _⟩ := h
      exact ⟨dx, _, z, gf_no _ _ _ _ (by decide +kernel) (by decide +kernel) (by decide +kernel) (by decide +kernel)⟩
    have small : ∀ n : Nat, n ≤ 200 → (0 : Int) ≤ (n : Int) ∧ (n : Int) < 2 ^ 63 := fun n hn => by omega
    have hc : ∀ ms : Ms, Mg ms → mC ms ≤ 200 := fun ms h => by
      have := len_BC ms
      have := h.len
      omega
    have G12 := G2'.comp h12
    have hE12 := mE_comp m1 m2 h12
    have hB12 := mB_comp m1 m2 h12
    have h123 : mE (Sfl.comp m1 m2) = mB m3 := hE12.trans h23
    have hB23 := mB_comp m2 m3 h23
    have h1_23 : mE m1 = mB (Sfl.comp m2 m3) := h12.trans hB23.symm
    have G23 := G3'.comp h23
    obtain ⟨dx1, f1, i1⟩ := ins h1
    obtain ⟨dx2, f2, i2⟩ := ins h2
    -- both
    refine ⟨_, rfl, _, rfl, o1, dx1, _, o2, dx2, _, rfl, rfl, i1, i2, o1, o2, m1, m2, rfl, h1, h2, G1', G2', h12, fun H1 bo s1 hbo => ?_⟩
    refine ⟨_, rfl, _, rfl, o1, dx1, _, rfl, s1 _ _ i1, o1, m1, rfl, h1.same s1, fun b hb => ⟨_, rfl, o2, dx2, _, rfl, s1 _ _ i2, o2, m2, rfl, h2.same s1, fun e he => ?_⟩⟩
    refine ⟨_, rfl, o1, dx1, _, rfl, s1 _ _ i1, o1, m1, rfl, h1.same s1, fun b' hb' => ⟨b', _, rfl, .inr (sqt hb'), _, rfl, by omega, by rw [List.length_map]; have := G1'.lgB.len; omega, fun D nD => ?_⟩⟩
    rw [show (((mB m1).map V.str).length : Int).toNat = (mB m1).length by rw [List.length_map]; exact Int.toNat_natCast _]
    refine lc_range (lo := 0) (n := (mB m1).length) (fun i H4 => Same H1 H4 ∧ H4 D = some (.lst ((((mK m1 0).take i).map fun n => (mK m2 0).getD n 0).map nV))) ⟨same_upd nD, upd_same⟩ (fun i H4 hi h4 => ?_) (fun H4 h4 => ?_)
    · obtain ⟨sm, hD⟩ := h4
      have hj : i < (mK m1 0).length := by rw [mK_len]; exact hi
      have hgn := List.getElem?_eq_getElem hj
      generalize hn : (mK m1 0)[i] = n at hgn
      have hnl : n < (mK m2 0).length := by
        have := mK_rng m1 0 n (List.mem_of_getElem? hgn)
        rw [mK_len, ← h12, mE_len]
        omega
      have hgm := List.getElem?_eq_getElem hnl
      rw [show (0 : Int) + ((i : Nat) : Int) = ((i : Nat) : Int) by omega]
      refine ⟨rfl, _, rfl, o2, rfl, _, rfl, o1, rfl, _, rfl, ⟨dx1, _, sm _ _ (s1 _ _ i1)⟩, o1, m1, i, n, rfl, (h1.same s1).same sm, hgn, ⟨dx2, _, sm _ _ (s1 _ _ i2)⟩, o2, m2, n, _, rfl, (h2.same s1).same sm, hgm, _, hD, ?_, same_put sm nD, ?_⟩
      · rw [List.length_map, List.length_map, List.length_take]
        have := G1'.lgB.len
        exact small1000 (by omega)
      · rw [upd_same, ← List.take_append_getElem hj, hn, List.map_append, List.map_append]
        show _ = some (HO.lst (_ ++ [nV ((mK m2 0).getD n 0)]))
        rw [getD_of hgm]
    obtain ⟨sm, hD⟩ := h4
    rw [← mK_len m1 0, List.take_length, ← mK_comp m1 m2 0 h12] at hD
    refine ⟨D, _, rfl, .inl ⟨sql hD, fun t nt => ?_⟩⟩
    have st := same_upd (o := .tup ((mK (Sfl.comp m1 m2) 0).map nV)) nt
    have s2 := sm.trans st
    refine ⟨bo, b, e, t, Sfl.comp m1 m2, rfl, hbo.same s2, G12, by show _ = _; rw [hB12]; exact s2 _ _ hb, by show _ = _; rw [hE12]; exact s2 _ _ he, upd_same, fun H5 s5 => ⟨_, rfl, iteF ?_⟩⟩
    have s05 := (s1.trans s2).trans s5
    have hbo5 := (hbo.same s2).same s5
    have h15 := h1.same s05
    have h25 := h2.same s05
    have h35 := h3.same s05
    -- origins
    refine ⟨_, rfl, o2, dx2, _, rfl, s05 _ _ i2, o2, m2, rfl, h25, fun e' he' => ⟨e', _, rfl, .inr (sqt he'), _, rfl, by omega, by rw [List.length_map, mE_len]; have := G2'.len; omega, ?_⟩⟩
    rw [show (((mE m2).map V.str).length : Int).toNat = m2.length by rw [List.length_map, mE_len]; exact Int.toNat_natCast _]
    refine for_range (lo := 0) (n := m2.length) (fun i σ H6 => ∃ y4 y5, σ = [some (.ref o1), some (.ref o2), some (.ref o3), some (.ref bo), y4, y5] ∧ H6 = H5) ⟨_, _, rfl, rfl⟩ ?_ ?_
    · rintro i σ H6 hi ⟨y4, y5, rfl, rfl⟩
      rw [show (0 : Int) + ((i : Nat) : Int) = ((i : Nat) : Int) by omega]
      obtain ⟨a2, b2', c2', d2'⟩ := nor h25
      obtain ⟨a3, b3', c3', d3'⟩ := nor hbo5
      obtain ⟨a4, b4', c4', d4'⟩ := nor h15
      have hbl : i < (Sfl.comp m1 m2).length := by
        rw [← mE_len, hE12, mE_len]
        exact hi
      refine ⟨_, rfl, o2, a2, _, rfl, c2', d2', _, rfl, o2, m2, i, rfl, h25, hi, ?_⟩
      refine ⟨_, rfl, bo, a3, _, rfl, c3', d3', _, rfl, bo, _, i, rfl, hbo5, hbl, ?_⟩
      have eo : oP (mK (Sfl.comp m1 m2) 0) i = (oP (mK m2 0) i).bind (oP (mK m1 0)) := by
        rw [mK_comp m1 m2 0 h12]
        exact oP_comp (mK_nd m2 0) (fun j hj => by
          have := mK_rng m1 0 j hj
          rw [mK_len, ← h12, mE_len]
          omega) i
      rw [eo]
      cases hm : oP (mK m2 0) i with
      | none =>
        refine ⟨_, rfl, _, rfl, iteT ⟨_, _, dp_oV none, .non, sh_dO none, sh_dO none, _, rfl, iteF ⟨_, _, rfl, rfl⟩⟩⟩
      | some j =>
        have hjl : j < m1.length := by
          unfold oP at hm
          by_cases hmem : i ∈ mK m2 0
          · rw [if_pos hmem] at hm
            have := List.idxOf_lt_length_of_mem hmem
            rw [Option.some.inj hm, mK_len, ← h12, mE_len] at this
            exact this
          · rw [if_neg hmem] at hm
            cases hm
        refine ⟨_, rfl, _, rfl, iteF ⟨_, rfl, o1, a4, _, rfl, c4', d4', _, rfl, o1, m1, j, rfl, h15, hjl, ?_⟩⟩
        refine ⟨_, _, dp_oV (oP (mK m1 0) j), dp_oV (oP (mK m1 0) j), sh_dO _, sh_dO _, _, rfl, ?_⟩
        rw [SeqAt.eqv_refl _ (SeqAt.canLay_of_shaped (sh_dO _))]
        exact iteF ⟨_, _, rfl, rfl⟩
    · rintro σ H6 ⟨y4, y5, rfl, rfl⟩
      obtain ⟨dxb, fb, ib⟩ := ins hbo5
      obtain ⟨dx3, f3, i3⟩ := ins h35
      have i15 := s05 _ _ i1
      have i25 := s05 _ _ i2
      refine ⟨_, rfl, _, rfl, bo, dxb, _, o3, dx3, _, rfl, rfl, ib, i3, bo, o3, _, m3, rfl, hbo5, h35, G12, G3', h123, fun H7 l7 s7 hl7 => ?_⟩
      have h27 := h25.same s7
      have h37 := h35.same s7
      refine ⟨_, rfl, _, rfl, _, rfl, o2, dx2, _, o3, dx3, _, rfl, rfl, s7 _ _ i25, s7 _ _ i3, o2, o3, m2, m3, rfl, h27, h37, G2', G3', h23, fun H8 r8 s8 hr8 => ?_⟩
      have s78 := s7.trans s8
      obtain ⟨dx8, f8, i8⟩ := ins hr8
      refine ⟨o1, dx1, _, r8, dx8, _, rfl, rfl, s78 _ _ i15, i8, o1, r8, m1, _, rfl, h15.same s78, hr8, G1', G23, h1_23, fun H9 r9 s9 hr9 => ?_⟩
      obtain ⟨dx7, f7, i7⟩ := ins hl7
      obtain ⟨dx9, f9, i9⟩ := ins hr9
      have s79 := s8.trans s9
      rw [← comp_assoc m1 m2 m3 h12 h23] at hr9
      have G123 := G3'.comp h123
      refine ⟨l7, dx7, _, r9, dx9, _, rfl, rfl, s79 _ _ i7, i9, l7, r9, _, rfl, hl7.same s79, G123, .inl ⟨_, hr9, G123, _, rfl, _, rfl, ?_⟩⟩
      rw [decide_eq_true rfl]
      refine iteF ?_
      have s59 := s7.trans s79
      refine ⟨_, rfl, _, rfl, bo, dxb, _, o3, dx3, _, rfl, rfl, s59 _ _ ib, s59 _ _ i3, bo, o3, _, m3, rfl, hbo5.same s59, h35.same s59, G12, G3', h123, fun H10 l10 s10 hl10 => ?_⟩
      obtain ⟨dx10, f10, i10⟩ := ins hl10
      have s510 := s59.trans s10
      refine ⟨l10, dx10, _, rfl, i10, l10, _, rfl, hl10, _, rfl, small _ (hc _ G123), ?_⟩
      refine ⟨_, rfl, o1, dx1, _, rfl, s510 _ _ i15, o1, m1, rfl, h15.same s510, _, rfl, small _ (hc _ G1'), _, rfl, o2, dx2, _, rfl, s510 _ _ i25, o2, m2, rfl, h25.same s510, _, rfl, small _ (hc _ G2'), _, _, rfl, rfl,
        _, rfl, o3, dx3, _, rfl, s510 _ _ i3, o3, m3, rfl, h35.same s510, _, rfl, small _ (hc _ G3'), _, _, rfl, rfl, rfl, _, rfl, ?_⟩
      have ec : V.int ((mC (Sfl.comp (Sfl.comp m1 m2) m3) : Nat) : Int) = V.int (((mC m1 : Nat) : Int) + ((mC m2 : Nat) : Int) + ((mC m3 : Nat) : Int)) := by
        rw [mC_comp _ m3 h123, mC_comp m1 m2 h12]
        congr 1
      rw [decide_eq_true ec]
      refine iteF ?_
      -- growths without insertions
      have h1t := h15.same s510
      have i1t := s510 _ _ i15
      refine ⟨_, rfl, o1, dx1, _, rfl, i1t, o1, m1, rfl, h1t, fun b9 hb9 => ?_⟩
      show ∀ (x dx : Addr), H10 x = none → H10 dx = none → dx ≠ x → spStar C (V.ref x :: (V.ref b9 :: ([] : List Addr).map V.ref)) _ _ _
      refine mk_ok (ins := []) hb9 Pl.nil G1'.lgB (fun x hx => by cases hx) (by have := G1'.lgB.len; show (mB m1).length + 0 ≤ 200; omega) fun H11 r11 s11 n11 h11 => ?_
      rw [gm_nil] at h11
      obtain ⟨dx11, f11, i11⟩ := ins h11
      refine ⟨_, rfl, r11, dx11, _, o1, dx1, _, rfl, rfl, i11, s11 _ _ i1t, r11, o1, _, m1, rfl, h11, h1t.same s11, G1'.idB, G1', mE_idm _, fun H12 r12 s12 h12' => ?_⟩
      rw [comp_idl m1 _ rfl] at h12'
      obtain ⟨dx12, f12, i12⟩ := ins h12'
      have s112 := s11.trans s12
      refine ⟨_, rfl, r12, dx12, _, o1, dx1, _, rfl, rfl, i12, s112 _ _ i1t, r12, o1, m1, rfl, h12', G1', .inl ⟨m1, h1t.same s112, G1', _, rfl, ?_⟩⟩
      rw [decide_eq_true rfl]
      refine iteT ⟨_, rfl, _, rfl, o1, dx1, _, rfl, s112 _ _ i1t, o1, m1, rfl, h1t.same s112, fun e9 he9 => ?_⟩
      show ∀ (x dx : Addr), H12 x = none → H12 dx = none → dx ≠ x → spStar C (V.ref x :: (V.ref e9 :: ([] : List Addr).map V.ref)) _ _ _
      refine mk_ok (ins := []) he9 Pl.nil G1'.lgE (fun x hx => by cases hx) (by have := G1'.lgE.len; show (mE m1).length + 0 ≤ 200; omega) fun H13 r13 s13 n13 h13 => ?_
      rw [gm_nil] at h13
      obtain ⟨dx13, f13, i13⟩ := ins h13
      have s113 := s112.trans s13
      refine ⟨o1, dx1, _, r13, dx13, _, rfl, rfl, s113 _ _ i1t, i13, o1, r13, m1, _, rfl, h1t.same s113, h13, G1', G1'.idE, (mB_idm _).symm, fun H14 r14 s14 h14 => ?_⟩
      rw [comp_idr] at h14
      obtain ⟨dx14, f14, i14⟩ := ins h14
      have s114 := s113.trans s14
      refine ⟨_, rfl, r14, dx14, _, o1, dx1, _, rfl, rfl, i14, s114 _ _ i1t, r14, o1, m1, rfl, h14, G1', .inl ⟨m1, h1t.same s114, G1', ?_⟩⟩
      rw [decide_eq_true rfl]
      exact q _ ((s05.trans s510).trans s114)
end
end Sfl
namespace Sfl
open PySem PySem.Spec PyProof.Rows L2 GenW
theorem Gm.kp {C a g : Addr} {H H' : Hp} {ms : Ms} {xs : List V} (h : Gm C H g ms) (x : Kp a H H') (d : H a = some (.lst xs)) : Gm C H' g ms := by
  obtain ⟨dx, b, i, e, k, rs, h1, h2, h3, h4, h5, ob, h6, od, oc⟩ := h
  have ne : ∀ {p : Addr} {o : HO}, H p = some o → (∀ z, o ≠ .lst z) → p ≠ a := fun e n => ne_of e d (n _)
  refine ⟨dx, b, i, e, k, rs, x _ _ (ne h1 fun z q => by cases q) h1, x _ _ (ne h2 fun z q => by cases q) h2, x _ _ (ne h3 fun z q => by cases q) h3, h4, x _ _ (ne h5 fun z q => by cases q) h5, ob, x _ _ (ne h6 fun z q => by cases q) h6, od, oc⟩
theorem Kp.tupL {a p : Addr} {H H' : Hp} {xs ys : List V} (x : Kp a H H') (d : H a = some (.lst xs)) (h : H p = some (.tup ys)) : H' p = some (.tup ys) := x _ _ (ne_of h d (by intro z; cases z)) h
theorem Pl.kp {a : Addr} {H H' : Hp} {rs : List Addr} {ins : List (Nat × Str)} {xs : List V} (h : Pl H rs ins) (x : Kp a H H') (d : H a = some (.lst xs)) : Pl H' rs ins := ⟨h.1, fun i r g y p q => x.tupL d (h.2 i r g y p q)⟩
theorem Kp.same_new {a : Addr} {H H1 H2 : Hp} (s : Same H H1) (k : Kp a H1 H2) (h : H a = none) : Same H H2 := fun b o e => k b o (ne_of_none e h) (s b o e)
theorem Dc.at' {H : Hp} {a : Addr} {m : Nat} (d : Dc H a m) : ∃ xs, H a = some (.lst xs) := by
  obtain ⟨i, j, k, e, _⟩ := d
  exact ⟨_, e⟩
theorem gm_mem : ∀ (l : List Str) (ins : List (Nat × Str)) (g : Nat) (z : Str), z ∈ mE (gm l ins g) → z ∈ l ∨ ∃ x ∈ ins, x.2 = z
  | [], ins, g, z, h => .inr (row_mem ins g z (by
      have h' : z ∈ mE (offs (row ins g)) := h
      rw [mE_offs] at h'
      exact h'))
  | x :: xs, ins, g, z, h => by
    have h' : z ∈ mE (offs (row ins g) ++ (x, true) :: gm xs ins (g + 1)) := h
    rw [mE_append, mE_offs] at h'
    rcases List.mem_append.mp h' with h' | h'
    · exact .inr (row_mem ins g z h')
    · rcases List.mem_cons.mp (show z ∈ x :: mE (gm xs ins (g + 1)) from h') with h' | h'
      · exact .inl (by rw [h']; exact List.mem_cons_self)
      · rcases gm_mem xs ins (g + 1) z h' with h' | h'
        · exact .inl (List.mem_cons_of_mem _ h')
        · exact .inr h'
where
  row_mem : ∀ (ins : List (Nat × Str)) (g : Nat) (z : Str), z ∈ row ins g → ∃ x ∈ ins, x.2 = z
    | [], _, _, h => by cases h
    | (h, y) :: r, g, z, k => by
      unfold row at k
      by_cases e : h = g
      · rw [if_pos e] at k
        rcases List.mem_cons.mp k with k | k
        · exact ⟨(h, y), List.mem_cons_self, k.symm⟩
        · obtain ⟨x, hx, ex⟩ := row_mem r g z k
          exact ⟨x, List.mem_cons_of_mem _ hx, ex⟩
      · rw [if_neg e] at k
        obtain ⟨x, hx, ex⟩ := row_mem r g z k
        exact ⟨x, List.mem_cons_of_mem _ hx, ex⟩
/-- what stands while the law turns -/
structure Bd (C : Addr) (H3 : Hp) (a lt lo fo : Addr) (ls l : List Str) (gs : List Addr) (mss : List Ms) (m : Nat) (H : Hp) : Prop where
  s : Same H3 H
  d : Dc H a m
  t : Tp H lt ls
  lo : Tp H lo l
  f : H fo = some (.lst (gs.map V.ref))
  g : ∀ (j : Nat) (g : Addr) (m : Ms), gs[j]? = some g → mss[j]? = some m → Gm C H g m ∧ Mg m
section
variable {C : Addr} {H3 H H' : Hp} {a lt lo fo : Addr} {ls l : List Str} {gs : List Addr} {mss : List Ms} {m m' : Nat}
theorem Bd.same (b : Bd C H3 a lt lo fo ls l gs mss m H) (s : Same H H') : Bd C H3 a lt lo fo ls l gs mss m H' :=
  ⟨b.s.trans s, b.d.same s, s _ _ b.t, s _ _ b.lo, s _ _ b.f, fun j g m h1 h2 => ⟨(b.g j g m h1 h2).1.same s, (b.g j g m h1 h2).2⟩⟩
theorem Bd.kp (b : Bd C H3 a lt lo fo ls l gs mss m H) (x : Kp a H H') (d : Dc H' a m') (na : H3 a = none) (nf : fo ≠ a) : Bd C H3 a lt lo fo ls l gs mss m' H' := by
  obtain ⟨xs, e⟩ := b.d.at'
  exact ⟨Kp.same_new b.s x na, d, x.tupL e b.t, x.tupL e b.lo, x _ _ nf b.f, fun j g m h1 h2 => ⟨(b.g j g m h1 h2).1.kp x e, (b.g j g m h1 h2).2⟩⟩
theorem Bd.put {p : Addr} {xs ys : List V} (b : Bd C H3 a lt lo fo ls l gs mss m H) (e : H p = some (.lst xs)) (np : H3 p = none) (na : p ≠ a) (nf : p ≠ fo) : Bd C H3 a lt lo fo ls l gs mss m (upd H p (.lst ys)) := by
  have x : Kp p H (upd H p (.lst ys)) := kp_upd
  obtain ⟨u1, u2, u3, e5, v0, v1⟩ := b.d
  exact ⟨same_put b.s np, ⟨u1, u2, u3, x _ _ na.symm e5, v0, v1⟩, x.tupL e b.t, x.tupL e b.lo, x _ _ nf.symm b.f, fun j g m h1 h2 => ⟨(b.g j g m h1 h2).1.kp x e, (b.g j g m h1 h2).2⟩⟩
end
section
variable {P : Program} {w : World} {K : PySem.W.Frag} {mg : Str → Option Value} {base : Heap}
/-- the class method between, as callers see it -/
def BCal (P : Program) (w : World) (K : PySem.W.Frag) (mg : Str → Option Value) (base : Heap) (k : Nat) (C : Addr) : Prop := ∃ (mc : Value) (p g : Addr), ClX.CRead K C mc ∧ ClX.CMet K C mc "between" p g ∧ FnR P w K mg base CX0 k g (spBetween C)
abbrev nLaw : List Str := ["script", "spot", "dice", "letters", "log", "found", "turn", "some", "again", "growth", "laid", "early", "left", "right", "three"]
theorem scLaw : FnScope nLaw ["script"] (defScope sLaw) := ⟨rfl, rfl, rfl, by decide +kernel, rfl, by decide +kernel, by decide +kernel⟩
def spLaw (K : PySem.W.Frag) : Sp := fun vs H Q _ => ∃ (a : Addr) (ns : List Int), vs = [.ref a] ∧ SqL K H a (ns.map V.int) ∧ ns.length ≤ 63 ∧ ∀ H', Q (.bl true) H'
theorem ok_law {f C fi : Addr} {fd : FuncData} {k : Nat} (F : Fun K "law" "law" sLaw f fd) (B : Bn mg) (T : Gc K mg C) (I : Gi K C) (M : Mk K C fi) (FI : FnR P w K mg base CX0 k fi (spStar C))
    (A1 : Cal P w K mg base k "_law_dice" ["script", "spot"] (spDice K)) (A2 : Cal P w K mg base k "_law_letters" ["dice", "top"] spLetters) (A3 : Cal P w K mg base k "_law_log" ["dice", "letters", "top"] spLog) (A4 : Cal P w K mg base k "_law_roll" ["dice", "size"] spRoll)
    (A5 : Cal P w K mg base k "_law_pick" ["dice", "items"] spPick) (A6 : Cal P w K mg base k "_law_made" ["log", "some"] (spMade C)) (A7 : Cal P w K mg base k "_law_laid" ["log", "some"] spLaid) (A8 : GCal P w K mg base k "_law_told_right" ["growth", "begin", "end", "stay"] (spTold C))
    (A9 : Cal P w K mg base k "_law_steps_right" ["growth"] (spStepsR C)) (A10 : BCal P w K mg base k C) (A11 : Cal P w K mg base k "first_places" ["log", "other"] spFirstPlaces) (A12 : GCal P w K mg base k "_law_joined_right" ["one", "two", "three"] (spJoined C))
    (C2 : PCal P w K mg base k C "end" (spEnd C)) (C3 : PCal P w K mg base k C "kept" (spKept C)) (M6 : MCal P w K mg base k C "__eq__" ["self", "other"] (spEqG C))
    (hne : PySem.W.findIn K (.ref C) (cmpInfo .NotEq).2.1 = some (some (.builtin "object.__ne__"))) (hnf : PySem.W.notFirst K C (.type "tuple") = true) : FnG P w K mg base (k + 2) f fd ["script"] (spLaw K) := by
  obtain ⟨f1, d1, G1, g1, kp1, b1⟩ := A1
  obtain ⟨f2, d2, G2, g2, kp2, b2⟩ := A2
  obtain ⟨f3, d3, G3, g3, kp3, b3⟩ := A3
  obtain ⟨f4, d4, G4, g4, kp4, b4⟩ := A4
  obtain ⟨f5, d5, G5, g5, kp5, b5⟩ := A5
  obtain ⟨f6, d6, G6, g6, kp6, b6⟩ := A6
  obtain ⟨f7, d7, G7, g7, kp7, b7⟩ := A7
  obtain ⟨f8, d8, G8, g8, kp8, b8⟩ := A8
  obtain ⟨f9, d9, G9, g9, kp9, b9⟩ := A9
  obtain ⟨mc, pB, gB, RB, CB, GB⟩ := A10
  obtain ⟨fa, da, Ga, ga, kpa, ba⟩ := A11
  obtain ⟨fb, db, Gb, gb, kpb, bb⟩ := A12
  obtain ⟨pE, gE, dE, POE, GE, bE⟩ := C2
  obtain ⟨pK, gK, dK, POK, GK, bK⟩ := C3
  obtain ⟨n6, e6, N6, z6, L6, c6⟩ := M6
  refine fun_okG (k := k + 1) F scLaw (fun vs H Q E h => ?_) (fun cdv A outer s H vs Q E gd hr h => ?_)
  · obtain ⟨a, ns, rfl, _⟩ := h
    rfl
  · obtain ⟨sc, ns, rfl, hs, hns, q⟩ := h
    have hr0 : Room k _ := hr.mono (by omega)
    have R6 := raw0 L6 c6
    refine ⟨_, (pss_cons (ps_for PassesOwn.never rfl (pi_range1 rfl B.range (pa_cons (pe_callB (call_max2 rfl) (by rfl) B.max (by decide +kernel) (pa_cons pe_int (pa_cons (pe_callB (call_min2 rfl) (by rfl) B.min (by decide +kernel) (pa_cons pe_int (pa_cons (pe_callB call_len_seq (by rfl) B.len PySem.boot_len (pa_cons (pv 0) pa_nil)) pa_nil))) pa_nil))) pa_nil)) (pg_name (i := 1) scLaw.nd rfl (Or.inl rfl))
        (pss_cons (ps_set (i := 2) scLaw.nd rfl (.inl rfl) (pe_call G1 hr0 (by rfl) g1 kp1 b1 .nil pass0 (pa_cons (pv 0) (pa_cons (pv 1) pa_nil))))
      (pss_cons (ps_set (i := 3) scLaw.nd rfl (.inl rfl) (pe_call G2 hr0 (by rfl) g2 kp2 b2 .nil pass0 (pa_cons (pv 2) (pa_cons pe_int pa_nil))))
      (pss_cons (ps_par (i := 4) (j := 5) (by rfl) scLaw.nd rfl rfl (by decide) rfl rfl (pa_cons (pe_call G3 hr0 (by rfl) g3 kp3 b3 .nil pass0 (pa_cons (pv 2) (pa_cons (pv 3) (pa_cons pe_int pa_nil)))) (pa_cons (pe_lst pa_nil) pa_nil)) (by rfl))
      (pss_cons (ps_for PassesOwn.never rfl (pi_range1 rfl B.range (pa_cons pe_int pa_nil)) (pg_name (i := 6) scLaw.nd rfl (Or.inl rfl))
        (pss_cons (ps_set (i := 7) scLaw.nd rfl (.inl rfl) (pe_lst pa_nil))
      (pss_cons (ps_for PassesOwn.never rfl (pi_range1 rfl B.range (pa_cons (pe_call G4 hr0 (by rfl) g4 kp4 b4 .nil pass0 (pa_cons (pv 2) (pa_cons pe_int pa_nil))) pa_nil)) (pg_name (i := 8) scLaw.nd rfl (Or.inl rfl))
        (pss_one (ps_expr (pe_bm PySem.F.plainAttrs_list PySem.F.slot_list_append PySem.F.type_list_append mt_append (pv 7) (pa_cons (pe_tup (pa_cons (pe_call G4 hr0 (by rfl) g4 kp4 b4 .nil pass0 (pa_cons (pv 2) (pa_cons (pe_op op_add (pe_callB call_len_seq (by rfl) B.len PySem.boot_len (pa_cons (pv 4) pa_nil)) pe_int) pa_nil))) (pa_cons (pe_call G5 hr0 (by rfl) g5 kp5 b5 .nil pass0 (pa_cons (pv 2) (pa_cons (pv 3) pa_nil))) pa_nil))) pa_nil)))))
      (pss_cons (ps_par (i := 9) (j := 10) (by rfl) scLaw.nd rfl rfl (by decide) rfl rfl (pa_cons (pe_call G6 hr0 (by rfl) g6 kp6 b6 .nil pass0 (pa_cons (pv 4) (pa_cons (pv 7) pa_nil))) (pa_cons (pe_call G7 hr0 (by rfl) g7 kp7 b7 .nil pass0 (pa_cons (pv 4) (pa_cons (pv 7) pa_nil))) pa_nil)) (by rfl))
      (pss_cons (ps_if (PW.pt (pw_or (pt_not (pt_val (pe_callG (E := E0) G8 gd hr0 (by rfl) g8 kp8 b8 .nil (pa_cons (pv 9) (pa_cons (pv 4) (pa_cons (pe_ix ix_tup (pv 10) pe_int (fun _ _ => rfl)) (pa_cons (pe_ix ix_tup (pv 10) pe_int (fun _ _ => rfl)) pa_nil)))))))
          (pw_or1 (pt_not (pt_val (pe_call G9 hr0 (by rfl) g9 kp9 b9 .nil pass0 (pa_cons (pv 9) pa_nil))))))) (pss_one (ps_ret pe_bl)) pss_nil)
      (pss_cons (ps_set (i := 11) scLaw.nd rfl (.inl rfl) (ClX.pe_cmeth (pe_glob (v := .ref C) rfl T.mgC rfl) RB CB GB hr0 pass0 (pa_cons (pv 4) (pa_cons (pe_ix ix_tup (pv 10) pe_int (fun _ _ => rfl)) pa_nil))))
      (pss_cons (ps_if (pt_not (pt_val (pe_callG (E := E0) G8 gd hr0 (by rfl) g8 kp8 b8 .nil (pa_cons (pv 11) (pa_cons (pv 4) (pa_cons (pe_ix ix_tup (pv 10) pe_int (fun _ _ => rfl)) (pa_cons (pe_call Ga hr0 (by rfl) ga kpa ba .nil pass0 (pa_cons (pv 4) (pa_cons (pe_ix ix_tup (pv 10) pe_int (fun _ _ => rfl)) pa_nil))) pa_nil))))))) (pss_one (ps_ret pe_bl)) pss_nil)
      (pss_cons (ps_if (pt_cmpR op_ne (pe_callB call_repr_bl (by rfl) B.repr (by decide +kernel) (pa_cons (pe_cmpR (op_eqO N6.at_ N6.fn R6 hr0 pass0) (pv 11) (pv 9) (nomark _)) pa_nil)) (pe_callB call_repr_bl (by rfl) B.repr (by decide +kernel) (pa_cons (pe_cmpR (op_eqD hr.units) (pe_ix ix_tup (pv 10) pe_int (fun _ _ => rfl)) (pe_prop (pv 11) T.cl POK GK hr bK .nil pass0 rfl) (nomark _)) pa_nil)) (nomark _)) (pss_one (ps_ret pe_bl)) pss_nil)
      (pss_cons (ps_expr (pe_bm PySem.F.plainAttrs_list PySem.F.slot_list_append PySem.F.type_list_append mt_append (pv 5) (pa_cons (pv 9) pa_nil)))
      (pss_one (ps_set (i := 4) scLaw.nd rfl (.inl rfl) (pe_ix ix_tup (pv 10) pe_int (fun _ _ => rfl)))))))))))))
      (pss_one (ps_if (pt_not (pt_val (pe_callG (E := E0) Gb gd hr0 (by rfl) gb kpb bb .nil (pa_cons (pe_ix ix_list (pv 5) pe_int (fun _ _ => rfl)) (pa_cons (pe_ix ix_list (pv 5) pe_int (fun _ _ => rfl)) (pa_cons (pe_ix ix_list (pv 5) pe_int (fun _ _ => rfl)) pa_nil)))))) (pss_one (ps_ret pe_bl)) pss_nil)))))))
      (pss_cons (ps_par (i := 12) (j := 13) (by rfl) scLaw.nd rfl rfl (by decide) rfl rfl (pa_cons (StX.pe_makeR M FI hr (by rfl) T.mgC pass0 (pa_cons (pe_tup (pa_cons pe_str pa_nil)) (pa_cons (pe_tup (pa_cons pe_int (pa_cons pe_str pa_nil))) pa_nil))) (pa_cons (StX.pe_makeR M FI hr (by rfl) T.mgC pass0 (pa_cons (pe_tup (pa_cons pe_str pa_nil)) (pa_cons (pe_tup (pa_cons pe_int (pa_cons pe_str pa_nil))) pa_nil))) pa_nil)) (by rfl))
      (pss_cons (ps_if (PW.pt (pw_or (pt_cmpR (op_eqO N6.at_ N6.fn R6 hr0 pass0) (pv 12) (pv 13) (nomark _))
          (pw_or (pt_cmpR (op_neD hr.units) (pe_prop (pv 12) T.cl POE GE hr bE .nil pass0 rfl) (pe_prop (pv 13) T.cl POE GE hr bE .nil pass0 rfl) (nomark _))
          (pw_or (pt_cmpR (op_eqT N6.at_ N6.fn hnf R6 hr0 pass0) (pv 12) (pe_tup (pa_cons pe_str (pa_cons pe_str pa_nil))) (nomark _))
          (pw_or1 (pt_not (pt_cmpR (op_neO hne N6.at_ N6.fn I.mro R6 hr pass0) (pv 12) (pv 13) (nomark _)))))))) (pss_one (ps_ret pe_bl)) pss_nil)
      (pss_cons (ps_set (i := 14) scLaw.nd rfl (.inl rfl) (StX.pe_makeR M FI hr (by rfl) T.mgC pass0 (pa_cons (pe_tup (pa_cons pe_str (pa_cons pe_str pa_nil))) (pa_cons (pe_tup (pa_cons pe_int (pa_cons pe_str pa_nil))) (pa_cons (pe_tup (pa_cons pe_int (pa_cons pe_str pa_nil))) (pa_cons (pe_tup (pa_cons pe_int (pa_cons pe_str pa_nil))) pa_nil))))))
      (pss_one (ps_ret (pe_and (pe_cmpR (op_eqD hr.units) (pe_prop (pv 14) T.cl POE GE hr bE .nil pass0 rfl) (pe_tup (pa_cons pe_str (pa_cons pe_str (pa_cons pe_str (pa_cons pe_str (pa_cons pe_str pa_nil)))))) (nomark _)) (pe_one (pe_cmpR (op_eqO N6.at_ N6.fn R6 hr0 pass0) (pv 14) (StX.pe_makeR M FI hr (by rfl) T.mgC pass0 (pa_cons (pe_tup (pa_cons pe_str (pa_cons pe_str pa_nil))) (pa_cons (pe_tup (pa_cons pe_int (pa_cons pe_str pa_nil))) (pa_cons (pe_tup (pa_cons pe_int (pa_cons pe_str pa_nil))) (pa_cons (pe_tup (pa_cons pe_int (pa_cons pe_str pa_nil))) pa_nil))))) (nomark _)))))))))), ?_⟩
    -- READING
    have nmx : ∀ {z : Str}, Nm z = true → z.length ≤ sizeLine := fun h => nm_line h
    refine ⟨_, rfl, sc, _, rfl, .inl hs, _, _, rfl, _, _, rfl, _, rfl, ?_, ?_, ?_⟩
    · rw [List.length_map]
      split <;> (try split) <;> omega
    · rw [List.length_map]
      split <;> (try split) <;> omega
    have hX : (if (if ((ns.map V.int).length : Int) < 6 then ((ns.map V.int).length : Int) else 6) > 1 then (if ((ns.map V.int).length : Int) < 6 then ((ns.map V.int).length : Int) else 6) else 1).toNat ≤ 100 := by
      rw [List.length_map]
      split <;> (try split) <;> omega
    generalize (if (if ((ns.map V.int).length : Int) < 6 then ((ns.map V.int).length : Int) else 6) > 1 then (if ((ns.map V.int).length : Int) < 6 then ((ns.map V.int).length : Int) else 6) else 1).toNat = n0 at hX ⊢
    refine for_range (lo := 0) (n := n0) (fun i σ H3 => ∃ y1 y2 y3 y4 y5 y6 y7 y8 y9 y10 y11, σ = [some (.ref sc), y1, y2, y3, y4, y5, y6, y7, y8, y9, y10, y11, none, none, none] ∧ Same H H3) ⟨_, _, _, _, _, _, _, _, _, _, _, rfl, Same.refl H⟩ ?_ ?_
    · rintro i σ H3 hi ⟨y1, y2, y3, y4, y5, y6, y7, y8, y9, y10, y11, rfl, s3⟩
      rw [show (0 : Int) + ((i : Nat) : Int) = ((i : Nat) : Int) by omega]
      refine ⟨_, rfl, _, rfl, sc, ns, i, rfl, s3.seq hs, by omega, fun H4 a s4 na d4 => ?_⟩
      refine ⟨_, rfl, a, 3, 0, rfl, d4, by decide, by decide, by decide, fun H5 lt ls L5 k5 d5 nlt hlt => ?_⟩
      refine ⟨_, rfl, _, rfl, a, lt, ls, 4, 6, rfl, d5, by decide, hlt, L5.pos, Nat.le_trans L5.le4 (by decide), by decide, fun H6 lo0 l0 ll0 lsub0 k6 d6 nlo hlo0 => ?_⟩
      refine ⟨Nat.zero_le _, fun fo nfo => ⟨_, _, rfl, ?_⟩⟩
      have s36 : Same H3 H6 := Kp.same_new (Kp.same_new s4 k5 na) k6 na
      have sfo := same_upd (o := .lst []) nfo
      have nfo3 : H3 fo = none := s36.free nfo
      have nfa : fo ≠ a := d6.new nfo
      have bd0 : Bd C H3 a lt lo0 fo ls l0 [] [] 11 (upd H6 fo (.lst [])) := ⟨s36.trans sfo, d6.same sfo, sfo _ _ (k6.tup d5 hlt), sfo _ _ hlo0, upd_same, fun j g m z => by simp at z⟩
      refine ⟨3, rfl, by decide, by decide, ?_⟩
      refine for_range (lo := 0) (n := 3) (fun t σ H8 => ∃ y1 y6 y7 y8 y9 y10 y11 lo l gs mss m, σ = [some (.ref sc), y1, some (.ref a), some (.ref lt), some (.ref lo), some (.ref fo), y6, y7, y8, y9, y10, y11, none, none, none] ∧ Bd C H3 a lt lo fo ls l gs mss m H8 ∧
          m ≤ 11 + 20 * t ∧ l.length ≤ 4 + 3 * t ∧ (∀ z ∈ l, z ∈ ls) ∧ gs.length = t ∧ mss.length = t ∧ ∀ j m, mss[j]? = some m → mE m = (match mss[j + 1]? with | some m' => mB m' | none => l)) ?_ ?_ ?_
      · exact ⟨_, _, _, _, _, _, _, lo0, l0, [], [], 11, rfl, bd0, Nat.le_refl _, ll0, lsub0, rfl, rfl, fun j m z => by simp at z⟩
      · rintro t σ H8 ht ⟨y1, y6, y7, y8, y9, y10, y11, lo, l, gs, mss, m, rfl, bd, hm, hl, hsub, hgl, hml, hch⟩
        refine ⟨Nat.zero_le _, fun so nso => ?_⟩
        have sso := same_upd (o := .lst []) nso
        have nso3 : H3 so = none := bd.s.free nso
        have nsa : so ≠ a := bd.d.new nso
        have nsf : so ≠ fo := (ne_of_none bd.f nso).symm
        have bd9 := bd.same sso
        have hso9 : upd H8 so (.lst []) so = some (.lst (([] : List Addr).map V.ref)) := upd_same
        generalize upd H8 so (.lst []) = H9 at *
        refine ⟨_, rfl, a, 4, m, rfl, bd9.d, by unfold mmax; omega, by decide, by decide, fun H10 r k10 d10 r0 r1 => ?_⟩
        have bd10 := bd9.kp k10 d10 na nfa
        have hso10 := k10 _ _ nsa hso9
        refine ⟨r, rfl, by omega, by omega, ?_⟩
        refine for_range (lo := 0) (n := r.toNat) (fun j σ H11 => ∃ y8 rs ins m2, σ = [some (.ref sc), y1, some (.ref a), some (.ref lt), some (.ref lo), some (.ref fo), some (.int (0 + (t : Nat))), some (.ref so), y8, y9, y10, y11, none, none, none] ∧
            Bd C H3 a lt lo fo ls l gs mss m2 H11 ∧ m2 ≤ m + 1 + 2 * j ∧ H11 so = some (.lst (rs.map V.ref)) ∧ Pl H11 rs ins ∧ ins.length = j ∧ ∀ x ∈ ins, x.1 ≤ l.length ∧ x.2 ∈ ls) ?_ ?_ ?_
        · exact ⟨_, [], [], m + 1, rfl, bd10, Nat.le_refl _, hso10, Pl.nil, rfl, fun x hx => by cases hx⟩
        · rintro j σ H11 hj ⟨y8, rs, ins, m2, rfl, bd11, hm2, hso, hpl, hil, hin⟩
          refine ⟨_, rfl, .inl ⟨rfl, _, sql hso⟩, _, rfl, _, rfl, lo, _, rfl, .inr (sqt bd11.lo), _, 1, rfl, rfl, a, ((l.map V.str).length : Int) + 1, m2, rfl, bd11.d, by unfold mmax; omega, by omega, by rw [List.length_map]; omega, fun H12 g k12 d12 g0 g1 => ?_⟩
          rw [List.length_map] at g1
          obtain ⟨gn, rfl⟩ : ∃ gn : Nat, g = (gn : Int) := ⟨g.toNat, by omega⟩
          have bd12 := bd11.kp k12 d12 na nfa
          have hso12 := k12 _ _ nsa hso
          obtain ⟨xs11, dl11⟩ := bd11.d.at'
          have hpl12 := hpl.kp k12 dl11
          refine ⟨_, rfl, _, rfl, a, lt, _, m2 + 1, rfl, d12, by unfold mmax; omega, .inr bd12.t, d12.ne bd12.t, by rw [List.length_map]; exact L5.pos, by rw [List.length_map]; exact Nat.le_trans L5.le4 (by decide), fun H13 ix x hx k13 d13 => ?_⟩
          obtain ⟨z, hz, rfl⟩ := get_map' hx
          have bd13 := bd12.kp k13 d13 na nfa
          have hso13 := k13 _ _ nsa hso12
          obtain ⟨xs12, dl12⟩ := bd12.d.at'
          have hpl13 := hpl12.kp k13 dl12
          refine ⟨(show 2 ≤ sizeLine by decide), fun tp ntp => ?_⟩
          have stp' := same_upd (o := .tup [.int (gn : Int), .str z]) ntp
          have bd14 := bd13.same stp'
          have hso14 := stp' _ _ hso13
          have hpl14 := hpl13.same stp'
          have htp : upd H13 tp (.tup [.int (gn : Int), .str z]) tp = some (.tup [nV gn, .str z]) := upd_same
          refine ⟨so, _, _, rfl, rfl, hso14, ?_, ?_⟩
          · rw [List.length_map, hpl.1]
            exact small1000 (by omega)
          · refine ⟨_, rs ++ [tp], ins ++ [(gn, z)], m2 + 1 + 1, rfl, bd14.put hso14 nso3 nsa nsf, by omega, ?_, ?_, by rw [List.length_append, hil]; rfl, fun x hx => ?_⟩
            · rw [upd_same, List.map_append]
              rfl
            · exact (hpl14.snoc htp).kp kp_upd hso14
            · rcases List.mem_append.mp hx with hx | hx
              · exact hin x hx
              · rw [List.mem_singleton.mp hx]
                exact ⟨by omega, List.mem_of_getElem? hz⟩
        · rintro σ H11 ⟨y8, rs, ins, m2, rfl, bd11, hm2, hso, hpl, hil, hin⟩
          have hnin : ins.length ≤ 3 := by omega
          have hll : l.length ≤ 13 := by omega
          have Ll : Lg l := ⟨by omega, fun z hz => L5.nm z (hsub z hz)⟩
          have hgap : ∀ x ∈ ins, x.1 ≤ l.length ∧ Nm x.2 = true := fun x hx => ⟨(hin x hx).1, L5.nm _ (hin x hx).2⟩
          have hsubE : ∀ z ∈ mE (gm l ins 0), z ∈ ls := fun z hz => by
            rcases gm_mem l ins 0 z hz with h | ⟨x, hx, rfl⟩
            · exact hsub z h
            · exact (hin x hx).2
          have hlm : (gm l ins 0).length = l.length + ins.length := by
            have h1 := len_BC (gm l ins 0)
            rw [mB_gm, mC_gm l ins 0 (fun x hx => ⟨Nat.zero_le _, by have := (hgap x hx).1; omega⟩)] at h1
            exact h1.symm
          have Mm : Mg (gm l ins 0) := ⟨by omega, fun z hz => L5.nm z (hsubE z hz)⟩
          have hB := mB_gm l ins 0
          refine ⟨_, rfl, _, rfl, lo, so, l, rs, ins, rfl, bd11.lo, ⟨hso, hpl⟩, hnin, Ll, hgap, by omega, fun H15 gr s15 hgr => ?_⟩
          have bd15 := bd11.same s15
          refine ⟨_, rfl, _, rfl, lo, so, l, rs, ins, rfl, bd15.lo, ⟨s15 _ _ hso, hpl.same s15⟩, fun x hx => (hgap x hx).1, hnin, by omega, fun H16 tt e k' s16 htt he hk => ⟨_, _, rfl, ?_⟩⟩
          have bd16 := bd15.same s16
          have hgr16 := hgr.same s16
          generalize hms : gm l ins 0 = ms at *
          have at0 : ∀ {H' : Hp}, Same H16 H' → SqT K H' tt [V.ref e, .ref k'] := fun s => sqt (s _ _ htt)
          have r16 := Same.refl H16
          -- told
          refine ⟨_, rfl, _, rfl, _, rfl, tt, _, _, .ref e, rfl, rfl, at0 r16, atI_nat (j := 0) rfl, _, rfl, tt, _, _, .ref k', rfl, rfl, at0 r16, atI_nat (j := 1) rfl, gr, lo, e, k', ms, rfl, hgr16, Mm, by rw [hB]; exact bd16.lo, he, hk, fun H17 s17 => ⟨_, rfl, iteF ?_⟩⟩
          refine ⟨_, rfl, gr, ms, rfl, hgr16.same s17, Mm, by omega, fun H18 s18 => ⟨_, rfl, iteF ?_⟩⟩
          have s168 := s17.trans s18
          have bd18 := bd16.same s168
          have hgr18 := hgr16.same s168
          have he18 := s168 _ _ he
          have hk18 := s168 _ _ hk
          -- early
          have hsl : l.Sublist (mE ms) := by
            have := mB_sub ms
            rw [hB] at this
            exact this
          refine ⟨rfl, _, rfl, _, rfl, tt, _, _, .ref e, rfl, rfl, at0 s168, atI_nat (j := 0) rfl, lo, e, l, mE ms, rfl, bd18.lo, he18, Ll, Mm.lgE, hsl, fun H19 ea s19 hea => ?_⟩
          have s169 := s168.trans s19
          have bd19 := bd18.same s19
          have he19 := s19 _ _ he18
          have Mk : Mg (gmk l (mE ms)) := ⟨by rw [← mE_len, gmk_E, mE_len]; exact Mm.len, fun z hz => Mm.nm z (by rw [gmk_E] at hz; exact hz)⟩
          refine ⟨_, rfl, _, rfl, _, rfl, tt, _, _, .ref e, rfl, rfl, at0 s169, atI_nat (j := 0) rfl, _, rfl, _, rfl, tt, _, _, .ref e, rfl, rfl, at0 s169, atI_nat (j := 0) rfl, lo, e, l, mE ms, rfl, bd19.lo, he19, Ll, Mm.lgE,
            fun H' s' ne => absurd (gr_full hsl) ne, fun H20 p s20 _ np hp => ?_⟩
          have bd20 := bd19.same s20
          refine ⟨ea, lo, e, p, gmk l (mE ms), rfl, hea.same s20, Mk, by rw [gmk_B l (mE ms) hsl]; exact bd20.lo, by rw [gmk_E]; exact s20 _ _ he19, by show _ = _; rw [gmk_K]; exact hp, fun H21 s21 => ⟨_, rfl, iteF ?_⟩⟩
          have s1621 := (s169.trans s20).trans s21
          have bd21 := bd20.same s21
          have hea21 := (hea.same s20).same s21
          have hgr21 := hgr16.same s1621
          obtain ⟨dxe, q1, q2, q3, q4, q5, ie, _⟩ := id hea21
          obtain ⟨dxg, w1, w2, w3, w4, w5, ig, _⟩ := id hgr21
          refine ⟨_, rfl, _, rfl, ea, dxe, _, gr, dxg, _, rfl, rfl, ie, ig, ea, gr, gmk l (mE ms), rfl, hea21, Mk, .inl ⟨ms, hgr21, Mm, _, rfl, ?_⟩⟩
          refine ⟨_, rfl, tt, _, _, .ref k', rfl, rfl, at0 s1621, atI_nat (j := 1) rfl, _, rfl, ea, dxe, _, rfl, ie, ea, gmk l (mE ms), rfl, hea21, fun kk hkk => ?_⟩
          refine ⟨.tuple ((mK ms 0).map dI), .tuple ((mK (gmk l (mE ms)) 0).map dI), dp_ip (s1621 _ _ hk), .tup hkk.sq (all_ints _), sh_tint _, sh_tint _, _, rfl, rfl, _, rfl, ?_⟩
          have ed : decide (gmk l (mE ms) = ms) = decide (mK ms 0 = mK (gmk l (mE ms)) 0) := by
            rw [decide_eq_decide]
            exact ⟨fun z => by rw [z], fun z => ms_ext _ _ 0 (gmk_E l (mE ms)) z.symm⟩
          rw [eqv_tint, ed, decide_eq_true rfl]
          refine iteF ?_
          -- found.append(growth), log = laid[0]
          refine ⟨_, rfl, .inl ⟨rfl, _, sql bd21.f⟩, _, rfl, fo, _, _, rfl, rfl, bd21.f, ?_, ?_⟩
          · rw [List.length_map, hgl]
            exact small1000 (by omega)
          have kf : Kp fo H21 (upd H21 fo (.lst (gs.map V.ref ++ [V.ref gr]))) := kp_upd
          refine ⟨_, rfl, tt, _, _, .ref e, rfl, rfl, sqt (kf.tupL bd21.f (s1621 _ _ htt)), atI_nat (j := 0) rfl, ?_⟩
          refine ⟨_, _, _, _, _, _, _, e, mE ms, gs ++ [gr], mss ++ [ms], m2, rfl, ⟨same_put bd21.s nfo3, ?_, kf.tupL bd21.f bd21.t, kf.tupL bd21.f (s1621 _ _ he), ?_, fun j g m' hg hm' => ?_⟩, by omega, ?_, hsubE, ?_, ?_, fun j m' hm' => ?_⟩
          · obtain ⟨u1, u2, u3, e5, v0, v1⟩ := bd21.d
            exact ⟨u1, u2, u3, by rw [upd_ne nfa.symm]; exact e5, v0, v1⟩
          · rw [upd_same, List.map_append]
            rfl
          · by_cases hjt : j < gs.length
            · rw [List.getElem?_append_left hjt] at hg
              rw [List.getElem?_append_left (by omega)] at hm'
              obtain ⟨z1, z2⟩ := bd21.g j g m' hg hm'
              exact ⟨z1.kp kf bd21.f, z2⟩
            · have hjl := get_lt hg
              rw [List.length_append, List.length_singleton] at hjl
              have ej : j = gs.length := by omega
              rw [ej, List.getElem?_append_right (Nat.le_refl _), Nat.sub_self] at hg
              rw [ej, hgl, ← hml, List.getElem?_append_right (Nat.le_refl _), Nat.sub_self] at hm'
              cases Option.some.inj (show some gr = some g from hg)
              cases Option.some.inj (show some ms = some m' from hm')
              exact ⟨hgr21.kp kf bd21.f, Mm⟩
          · rw [mE_len]
            omega
          · rw [List.length_append, hgl]
            rfl
          · rw [List.length_append, hml]
            rfl
          · have hjl := get_lt hm'
            rw [List.length_append, List.length_singleton] at hjl
            by_cases hjt : j < mss.length
            · rw [List.getElem?_append_left hjt] at hm'
              have h9 := hch j m' hm'
              by_cases hj2 : j + 1 < mss.length
              · rw [List.getElem?_append_left hj2]
                have hg9 := List.getElem?_eq_getElem hj2
                rw [hg9] at h9 ⊢
                exact h9
              · have ej : j + 1 = mss.length := by omega
                rw [ej, List.getElem?_eq_none (Nat.le_refl _)] at h9
                rw [ej, List.getElem?_append_right (Nat.le_refl _), Nat.sub_self]
                show mE m' = mB ms
                rw [hB]
                exact h9
            · have ej : j = mss.length := by omega
              rw [ej, List.getElem?_append_right (Nat.le_refl _), Nat.sub_self] at hm'
              cases Option.some.inj (show some ms = some m' from hm')
              rw [List.getElem?_eq_none (by rw [List.length_append, List.length_singleton]; omega)]
      · rintro σ H8 ⟨y1, y6, y7, y8, y9, y10, y11, lo, l, gs, mss, m, rfl, bd, hm, hl, hsub, hgl, hml, hch⟩
        match gs, mss, hgl, hml, bd, hch with
        | [x1, x2, x3], [m1, m2, m3], _, _, bd, hch =>
          obtain ⟨z1, w1⟩ := bd.g 0 x1 m1 rfl rfl
          obtain ⟨z2, w2⟩ := bd.g 1 x2 m2 rfl rfl
          obtain ⟨z3, w3⟩ := bd.g 2 x3 m3 rfl rfl
          have hf := sql (K := K) bd.f
          refine ⟨_, rfl, fo, _, _, .ref x1, rfl, rfl, hf, atI_nat (j := 0) rfl, _, rfl, fo, _, _, .ref x2, rfl, rfl, hf, atI_nat (j := 1) rfl, _, rfl, fo, _, _, .ref x3, rfl, rfl, hf, atI_nat (j := 2) rfl,
            x1, x2, x3, m1, m2, m3, rfl, z1, z2, z3, w1, w2, w3, hch 0 m1 rfl, hch 1 m2 rfl, fun H9 s9 => ⟨_, rfl, iteF ?_⟩⟩
          exact ⟨_, _, _, _, _, _, _, _, _, _, _, rfl, s3.trans (bd.s.trans s9)⟩
    · rintro σ H3 ⟨y1, y2, y3, y4, y5, y6, y7, y8, y9, y10, y11, rfl, s3⟩
      -- equal logs, unlike ways
      have nx : ∀ {z : Str}, Nm z = true → Nm z = true := id
      have na' : Nm "a" = true := by decide +kernel
      have nb' : Nm "b" = true := by decide +kernel
      have one : ∀ {H : Hp} {p : Addr} {x : Nat} {y : Str}, H p = some (.tup [.int (x : Nat), .str y]) → Pl H [p] [(x, y)] := fun {H p x y} e => ⟨rfl, fun j r g z h1 h2 => by
        match j, h1, h2 with
        | 0, h1, h2 =>
          cases Option.some.inj (show some p = some r from h1)
          cases Option.some.inj (show some (x, y) = some (g, z) from h2)
          exact e⟩
      have La : Lg ["a"] := ⟨by decide, fun z hz => by rw [List.mem_singleton.mp hz]; exact na'⟩
      have sz2 : 2 ≤ sizeLine := by decide
      -- left
      refine ⟨(show 1 ≤ sizeLine by decide), fun p1 n1 => ⟨sz2, fun p2 n2 => ?_⟩⟩
      have t1 := same_upd (o := .tup [V.str "a"]) n1
      have t2 := same_upd (o := .tup [V.int 0, .str "a"]) n2
      have e1 : upd (upd H3 p1 (.tup [V.str "a"])) p2 (.tup [V.int 0, .str "a"]) p1 = some (.tup ([("a" : Str)].map V.str)) := t2 _ _ upd_same
      have e2 : upd (upd H3 p1 (.tup [V.str "a"])) p2 (.tup [V.int 0, .str "a"]) p2 = some (.tup [.int ((0 : Nat) : Int), .str "a"]) := upd_same
      have s4 := s3.trans (t1.trans t2)
      generalize hH4 : upd (upd H3 p1 (.tup [V.str "a"])) p2 (.tup [V.int 0, .str "a"]) = H4 at e1 e2 s4
      show ∀ (x dx : Addr), H4 x = none → H4 dx = none → dx ≠ x → spStar C (V.ref x :: (V.ref p1 :: [p2].map V.ref)) _ _ _
      refine mk_ok (l := ["a"]) (ins := [(0, "a")]) e1 (one e2) La (fun x hx => by rw [List.mem_singleton.mp hx]; exact ⟨by decide, na'⟩) (by decide) fun H5 gl s5 ngl hgl => ?_
      -- right
      refine ⟨(show 1 ≤ sizeLine by decide), fun p3 n3 => ⟨sz2, fun p4 n4 => ?_⟩⟩
      have t3 := same_upd (o := .tup [V.str "a"]) n3
      have t4 := same_upd (o := .tup [V.int 1, .str "a"]) n4
      have e3 : upd (upd H5 p3 (.tup [V.str "a"])) p4 (.tup [V.int 1, .str "a"]) p3 = some (.tup ([("a" : Str)].map V.str)) := t4 _ _ upd_same
      have e4 : upd (upd H5 p3 (.tup [V.str "a"])) p4 (.tup [V.int 1, .str "a"]) p4 = some (.tup [.int ((1 : Nat) : Int), .str "a"]) := upd_same
      have hgl6 := hgl.same (t3.trans t4)
      generalize hH6 : upd (upd H5 p3 (.tup [V.str "a"])) p4 (.tup [V.int 1, .str "a"]) = H6 at e3 e4 hgl6
      show ∀ (x dx : Addr), H6 x = none → H6 dx = none → dx ≠ x → spStar C (V.ref x :: (V.ref p3 :: [p4].map V.ref)) _ _ _
      refine mk_ok (l := ["a"]) (ins := [(1, "a")]) e3 (one e4) La (fun x hx => by rw [List.mem_singleton.mp hx]; exact ⟨by decide, na'⟩) (by decide) fun H7 gr s7 ngr hgr => ⟨_, _, rfl, ?_⟩
      have hgl7 := hgl6.same s7
      have el : gm ["a"] [(0, "a")] 0 = [(("a" : Str), false), ("a", true)] := by decide +kernel
      have er : gm ["a"] [(1, "a")] 0 = [(("a" : Str), true), ("a", false)] := by decide +kernel
      rw [el] at hgl7
      rw [er] at hgr
      have Ml : Mg [(("a" : Str), false), ("a", true)] := ⟨by decide, fun z hz => by
        have : z = "a" := by
          rcases List.mem_cons.mp hz with h | h
          · exact h
          · exact List.mem_singleton.mp h
        rw [this]
        exact na'⟩
      have Mr : Mg [(("a" : Str), true), ("a", false)] := ⟨by decide, fun z hz => by
        have : z = "a" := by
          rcases List.mem_cons.mp hz with h | h
          · exact h
          · exact List.mem_singleton.mp h
        rw [this]
        exact na'⟩
      have dne : decide ([(("a" : Str), false), ("a", true)] = [(("a" : Str), true), ("a", false)]) = false := by decide +kernel
      obtain ⟨dxl, _, _, _, _, _, il, _⟩ := id hgl7
      obtain ⟨dxr, _, _, _, _, _, ir, _⟩ := id hgr
      refine ⟨_, rfl, _, rfl, gl, dxl, _, gr, dxr, _, rfl, rfl, il, ir, gl, gr, _, rfl, hgl7, Ml, .inl ⟨_, hgr, Mr, _, rfl, ?_⟩⟩
      rw [dne]
      refine iteF ⟨_, rfl, gl, dxl, _, rfl, il, gl, _, rfl, hgl7, fun b1 hb1 => ⟨_, rfl, gr, dxr, _, rfl, ir, gr, _, rfl, hgr, fun b2 hb2 => ⟨_, _, dp_tp hb1, dp_tp hb2, sh_tstr Ml.nm, sh_tstr Mr.nm, _, rfl, ?_⟩⟩⟩
      rw [eqv_tstr, show decide (mE [(("a" : Str), false), ("a", true)] = mE [(("a" : Str), true), ("a", false)]) = true from decide_eq_true rfl]
      refine iteF ⟨_, rfl, sz2, fun p5 n5 => ?_⟩
      have t5 := same_upd (o := .tup [V.str "a", .str "a"]) n5
      refine ⟨gl, dxl, _, p5, _, rfl, rfl, t5 _ _ il, upd_same, gl, p5, _, rfl, hgl7.same t5, Ml, .inr ⟨_, upd_same, _, rfl, iteF ?_⟩⟩
      have hgl8 := hgl7.same t5
      have hgr8 := hgr.same t5
      have il8 := t5 _ _ il
      have ir8 := t5 _ _ ir
      generalize upd H7 p5 _ = H8 at *
      refine ⟨_, rfl, _, rfl, gl, dxl, _, gr, dxr, _, rfl, rfl, il8, ir8, gl, gr, _, rfl, hgl8, Ml, .inl ⟨_, hgr8, Mr, _, rfl, _, rfl, ?_⟩⟩
      rw [dne]
      refine iteF ?_
      -- three
      have nms : ∀ z ∈ ([("z" : Str), "a", "x", "y", "b"] : List Str), Nm z = true := by decide +kernel
      have Lab : Lg ["a", "b"] := ⟨by decide, by decide +kernel⟩
      have pl3 : ∀ {H : Hp} {q1 q2 q3 : Addr} {i1 i2 i3 : (Nat × Str)}, H q1 = some (.tup [nV i1.1, .str i1.2]) → H q2 = some (.tup [nV i2.1, .str i2.2]) → H q3 = some (.tup [nV i3.1, .str i3.2]) → Pl H [q1, q2, q3] [i1, i2, i3] := fun {H q1 q2 q3 i1 i2 i3} c1 c2 c3 => ⟨rfl, fun j r g z h1 h2 => by
        match j, h1, h2 with
        | 0, h1, h2 =>
          cases Option.some.inj (show some q1 = some r from h1)
          cases Option.some.inj (show some i1 = some (g, z) from h2)
          exact c1
        | 1, h1, h2 =>
          cases Option.some.inj (show some q2 = some r from h1)
          cases Option.some.inj (show some i2 = some (g, z) from h2)
          exact c2
        | 2, h1, h2 =>
          cases Option.some.inj (show some q3 = some r from h1)
          cases Option.some.inj (show some i3 = some (g, z) from h2)
          exact c3⟩
      have emk : gm ["a", "b"] [(1, "x"), (0, "z"), (1, "y")] 0 = [(("z" : Str), false), ("a", true), ("x", false), ("y", false), ("b", true)] := by decide +kernel
      have emk2 : gm ["a", "b"] [(0, "z"), (1, "x"), (1, "y")] 0 = [(("z" : Str), false), ("a", true), ("x", false), ("y", false), ("b", true)] := by decide +kernel
      have Mt : Mg [(("z" : Str), false), ("a", true), ("x", false), ("y", false), ("b", true)] := ⟨by decide, nms⟩
      refine ⟨sz2, fun c0 m0 => ⟨sz2, fun c1 m1 => ⟨sz2, fun c2 m2 => ⟨sz2, fun c3 m3 => ?_⟩⟩⟩⟩
      have u0 := same_upd (o := .tup [V.str "a", .str "b"]) m0
      have u1 := same_upd (o := .tup [V.int 1, .str "x"]) m1
      have u2 := same_upd (o := .tup [V.int 0, .str "z"]) m2
      have u3 := same_upd (o := .tup [V.int 1, .str "y"]) m3
      generalize hK1 : upd H8 c0 (.tup [V.str "a", .str "b"]) = K1 at *
      have k0 : K1 c0 = some (.tup ([("a" : Str), "b"].map V.str)) := by rw [← hK1]; exact upd_same
      generalize hK2 : upd K1 c1 (.tup [V.int 1, .str "x"]) = K2 at *
      have k1 : K2 c1 = some (.tup [nV 1, .str "x"]) := by rw [← hK2]; exact upd_same
      generalize hK3 : upd K2 c2 (.tup [V.int 0, .str "z"]) = K3 at *
      have k2 : K3 c2 = some (.tup [nV 0, .str "z"]) := by rw [← hK3]; exact upd_same
      generalize hK4 : upd K3 c3 (.tup [V.int 1, .str "y"]) = K4 at *
      have k3 : K4 c3 = some (.tup [nV 1, .str "y"]) := by rw [← hK4]; exact upd_same
      show ∀ (x dx : Addr), K4 x = none → K4 dx = none → dx ≠ x → spStar C (V.ref x :: (V.ref c0 :: [c1, c2, c3].map V.ref)) _ _ _
      refine mk_ok (l := ["a", "b"]) (ins := [(1, "x"), (0, "z"), (1, "y")]) (u3 _ _ (u2 _ _ (u1 _ _ k0))) (pl3 (u3 _ _ (u2 _ _ k1)) (u3 _ _ k2) k3) Lab (by decide +kernel) (by decide) fun H9 gt s9 ngt hgt => ?_
      rw [emk] at hgt
      obtain ⟨dxt, _, _, _, _, _, it, _⟩ := id hgt
      refine ⟨_, rfl, gt, dxt, _, rfl, it, gt, _, rfl, hgt, fun b9 hb9 => ⟨(show 5 ≤ sizeLine by decide), fun p9 n9 => ?_⟩⟩
      have t9 := same_upd (o := .tup [V.str "z", .str "a", .str "x", .str "y", .str "b"]) n9
      refine ⟨_, _, dp_tp (t9 _ _ hb9), dp_tp (l := ["z", "a", "x", "y", "b"]) upd_same, sh_tstr Mt.nm, sh_tstr nms, _, rfl, ?_⟩
      rw [eqv_tstr, show decide (mE [(("z" : Str), false), ("a", true), ("x", false), ("y", false), ("b", true)] = [("z" : Str), "a", "x", "y", "b"]) = true from decide_eq_true rfl]
      refine iteT ⟨_, rfl, ?_⟩
      have hgt9 := hgt.same t9
      have it9 := t9 _ _ it
      generalize upd H9 p9 _ = H10 at *
      refine ⟨sz2, fun b0 v0 => ⟨sz2, fun b1 v1 => ⟨sz2, fun b2 v2 => ⟨sz2, fun b3 v3 => ?_⟩⟩⟩⟩
      have w0 := same_upd (o := .tup [V.str "a", .str "b"]) v0
      have w1 := same_upd (o := .tup [V.int 0, .str "z"]) v1
      have w2 := same_upd (o := .tup [V.int 1, .str "x"]) v2
      have w3 := same_upd (o := .tup [V.int 1, .str "y"]) v3
      generalize hJ1 : upd H10 b0 (.tup [V.str "a", .str "b"]) = J1 at *
      have j0 : J1 b0 = some (.tup ([("a" : Str), "b"].map V.str)) := by rw [← hJ1]; exact upd_same
      generalize hJ2 : upd J1 b1 (.tup [V.int 0, .str "z"]) = J2 at *
      have j1 : J2 b1 = some (.tup [nV 0, .str "z"]) := by rw [← hJ2]; exact upd_same
      generalize hJ3 : upd J2 b2 (.tup [V.int 1, .str "x"]) = J3 at *
      have j2 : J3 b2 = some (.tup [nV 1, .str "x"]) := by rw [← hJ3]; exact upd_same
      generalize hJ4 : upd J3 b3 (.tup [V.int 1, .str "y"]) = J4 at *
      have j3 : J4 b3 = some (.tup [nV 1, .str "y"]) := by rw [← hJ4]; exact upd_same
      show ∀ (x dx : Addr), J4 x = none → J4 dx = none → dx ≠ x → spStar C (V.ref x :: (V.ref b0 :: [b1, b2, b3].map V.ref)) _ _ _
      refine mk_ok (l := ["a", "b"]) (ins := [(0, "z"), (1, "x"), (1, "y")]) (w3 _ _ (w2 _ _ (w1 _ _ j0))) (pl3 (w3 _ _ (w2 _ _ j1)) (w3 _ _ j2) j3) Lab (by decide +kernel) (by decide) fun H11 gu s11 ngu hgu => ?_
      rw [emk2] at hgu
      obtain ⟨dxu, _, _, _, _, _, iu, _⟩ := id hgu
      have wj := ((w0.trans w1).trans w2).trans w3
      refine ⟨gt, dxt, _, gu, dxu, _, rfl, rfl, s11 _ _ (wj _ _ it9), iu, gt, gu, _, rfl, (hgt9.same wj).same s11, Mt, .inl ⟨_, hgu, Mt, ?_⟩⟩
      rw [decide_eq_true rfl]
      exact q _
end
end Sfl
namespace Sfl
open PySem PySem.Spec PyProof.Rows L2 GenW
set_option maxHeartbeats 0 in
theorem all_mk {l : PySem.W.OpenLaw} {w : World} {K : PySem.W.Frag} {h : Heap} {mg : Str → Option Value} {fa C fa0 fa1 fa2 fa3 fa4 fa5 fa6 fa7 fa8 fa9 fa10 fa11 fa12 fa13 fa14 fa15 fa16 fa17 fa18 fa19 fa20 fa21 fa22 fm0 fm1 fm2 fm3 fm4 fm5 fm6 fm7 fp0 fp1 fp2 fb0 : Addr} (X : K.In h) (G : h.Ns mainGlobals mg) (hfa : mg "law" = some (.ref fa))
    {oda0 ana0 oda1 ana1 oda2 ana2 oda3 ana3 oda4 ana4 oda5 ana5 oda6 ana6 oda7 ana7 oda8 ana8 oda9 ana9 oda10 ana10 oda11 ana11 oda12 ana12 oda13 ana13 oda14 ana14 oda15 ana15 oda16 ana16 oda17 ana17 oda18 ana18 oda19 ana19 oda20 ana20 oda21 ana21 oda22 ana22 odm0 anm0 odm1 anm1 odm2 anm2 odm3 anm3 odm4 anm4 odm5 anm5 odm6 anm6 odm7 anm7 odp0 anp0 odp1 anp1 odp2 anp2 odb0 anb0 : Option Addr} {sla0 sla1 sla2 sla3 sla4 sla5 sla6 sla7 sla8 sla9 sla10 sla11 sla12 sla13 sla14 sla15 sla16 sla17 sla18 sla19 sla20 sla21 sla22 slm0 slm1 slm2 slm3 slm4 slm5 slm6 slm7 slp0 slp1 slp2 slb0 : Array (Option Value)} {oca0 kVa0 dca0 pma0 cda0 cta0 oca1 kVa1 dca1 pma1 cda1 cta1 oca2 kVa2 dca2 pma2 cda2 cta2 oca3 kVa3 dca3 pma3 cda3 cta3 oca4 kVa4 dca4 pma4 cda4 cta4 oca5 kVa5 dca5 pma5 cda5 cta5 oca6 kVa6 dca6 pma6 cda6 cta6 oca7 kVa7 dca7 pma7 cda7 cta7 oca8 kVa8 dca8 pma8 cda8 cta8 oca9 kVa9 dca9 pma9 cda9 cta9 oca10 kVa10 dca10 pma10 cda10 cta10 oca11 kVa11 dca11 pma11 cda11 cta11 oca12 kVa12 dca12 pma12 cda12 cta12 oca13 kVa13 dca13 pma13 cda13 cta13 oca14 kVa14 dca14 pma14 cda14 cta14 oca15 kVa15 dca15 pma15 cda15 cta15 oca16 kVa16 dca16 pma16 cda16 cta16 oca17 kVa17 dca17 pma17 cda17 cta17 oca18 kVa18 dca18 pma18 cda18 cta18 oca19 kVa19 dca19 pma19 cda19 cta19 oca20 kVa20 dca20 pma20 cda20 cta20 oca21 kVa21 dca21 pma21 cda21 cta21 oca22 kVa22 dca22 pma22 cda22 cta22 ocm0 kVm0 dcm0 pmm0 cdm0 ctm0 ocm1 kVm1 dcm1 pmm1 cdm1 ctm1 ocm2 kVm2 dcm2 pmm2 cdm2 ctm2 ocm3 kVm3 dcm3 pmm3 cdm3 ctm3 ocm4 kVm4 dcm4 pmm4 cdm4 ctm4 ocm5 kVm5 dcm5 pmm5 cdm5 ctm5 ocm6 kVm6 dcm6 pmm6 cdm6 ctm6 ocm7 kVm7 dcm7 pmm7 cdm7 ctm7 ocp0 kVp0 dcp0 pmp0 cdp0 ctp0 ocp1 kVp1 dcp1 pmp1 cdp1 ctp1 ocp2 kVp2 dcp2 pmp2 cdp2 ctp2 ocb0 kVb0 dcb0 pmb0 cdb0 ctb0 : Value}
    (aC : PySem.W.nsIn K mainGlobals "Growth" = some (some (.ref C)))
    (na0 : PySem.W.nsIn K mainGlobals "is_whole" = some (some (.ref fa0))) (la0 : K.lookup fa0 = some ⟨oca0, oda0, .func (PySem.W.fnOf "is_whole" "is_whole" (defArgs sIsWhole) (defBody sIsWhole) (defScope sIsWhole) .none kVa0 dca0 pma0 ana0 cda0 cta0), sla0⟩) (ca0 : PySem.W.codeIn K cda0 "is_whole" = true) (ka0 : PySem.W.keepIn K (.ref fa0) = true)
    (na1 : PySem.W.nsIn K mainGlobals "is_name" = some (some (.ref fa1))) (la1 : K.lookup fa1 = some ⟨oca1, oda1, .func (PySem.W.fnOf "is_name" "is_name" (defArgs sIsName) (defBody sIsName) (defScope sIsName) .none kVa1 dca1 pma1 ana1 cda1 cta1), sla1⟩) (ca1 : PySem.W.codeIn K cda1 "is_name" = true) (ka1 : PySem.W.keepIn K (.ref fa1) = true)
    (na2 : PySem.W.nsIn K mainGlobals "check_number" = some (some (.ref fa2))) (la2 : K.lookup fa2 = some ⟨oca2, oda2, .func (PySem.W.fnOf "check_number" "check_number" (defArgs sCheckNumber) (defBody sCheckNumber) (defScope sCheckNumber) .none kVa2 dca2 pma2 ana2 cda2 cta2), sla2⟩) (ca2 : PySem.W.codeIn K cda2 "check_number" = true) (ka2 : PySem.W.keepIn K (.ref fa2) = true)
    (na3 : PySem.W.nsIn K mainGlobals "first_way" = some (some (.ref fa3))) (la3 : K.lookup fa3 = some ⟨oca3, oda3, .func (PySem.W.fnOf "first_way" "first_way" (defArgs sFirstWay) (defBody sFirstWay) (defScope sFirstWay) .none kVa3 dca3 pma3 ana3 cda3 cta3), sla3⟩) (ca3 : PySem.W.codeIn K cda3 "first_way" = true) (ka3 : PySem.W.keepIn K (.ref fa3) = true)
    (na4 : PySem.W.nsIn K mainGlobals "grown" = some (some (.ref fa4))) (la4 : K.lookup fa4 = some ⟨oca4, oda4, .func (PySem.W.fnOf "grown" "grown" (defArgs sGrownBy) (defBody sGrownBy) (defScope sGrownBy) .none kVa4 dca4 pma4 ana4 cda4 cta4), sla4⟩) (ca4 : PySem.W.codeIn K cda4 "grown" = true) (ka4 : PySem.W.keepIn K (.ref fa4) = true)
    (na5 : PySem.W.nsIn K mainGlobals "insertions_of" = some (some (.ref fa5))) (la5 : K.lookup fa5 = some ⟨oca5, oda5, .func (PySem.W.fnOf "insertions_of" "insertions_of" (defArgs sInsertionsOf) (defBody sInsertionsOf) (defScope sInsertionsOf) .none kVa5 dca5 pma5 ana5 cda5 cta5), sla5⟩) (ca5 : PySem.W.codeIn K cda5 "insertions_of" = true) (ka5 : PySem.W.keepIn K (.ref fa5) = true)
    (na6 : PySem.W.nsIn K mainGlobals "is_any_log" = some (some (.ref fa6))) (la6 : K.lookup fa6 = some ⟨oca6, oda6, .func (PySem.W.fnOf "is_any_log" "is_any_log" (defArgs sIsAnyLog) (defBody sIsAnyLog) (defScope sIsAnyLog) .none kVa6 dca6 pma6 ana6 cda6 cta6), sla6⟩) (ca6 : PySem.W.codeIn K cda6 "is_any_log" = true) (ka6 : PySem.W.keepIn K (.ref fa6) = true)
    (na7 : PySem.W.nsIn K mainGlobals "check_log" = some (some (.ref fa7))) (la7 : K.lookup fa7 = some ⟨oca7, oda7, .func (PySem.W.fnOf "check_log" "check_log" (defArgs sCheckLog) (defBody sCheckLog) (defScope sCheckLog) .none kVa7 dca7 pma7 ana7 cda7 cta7), sla7⟩) (ca7 : PySem.W.codeIn K cda7 "check_log" = true) (ka7 : PySem.W.keepIn K (.ref fa7) = true)
    (na8 : PySem.W.nsIn K mainGlobals "check_events" = some (some (.ref fa8))) (la8 : K.lookup fa8 = some ⟨oca8, oda8, .func (PySem.W.fnOf "check_events" "check_events" (defArgs sCheckEvents) (defBody sCheckEvents) (defScope sCheckEvents) .none kVa8 dca8 pma8 ana8 cda8 cta8), sla8⟩) (ca8 : PySem.W.codeIn K cda8 "check_events" = true) (ka8 : PySem.W.keepIn K (.ref fa8) = true)
    (na9 : PySem.W.nsIn K mainGlobals "first_places" = some (some (.ref fa9))) (la9 : K.lookup fa9 = some ⟨oca9, oda9, .func (PySem.W.fnOf "first_places" "first_places" (defArgs sFirstPlaces) (defBody sFirstPlaces) (defScope sFirstPlaces) .none kVa9 dca9 pma9 ana9 cda9 cta9), sla9⟩) (ca9 : PySem.W.codeIn K cda9 "first_places" = true) (ka9 : PySem.W.keepIn K (.ref fa9) = true)
    (na10 : PySem.W.nsIn K mainGlobals "is_insertion" = some (some (.ref fa10))) (la10 : K.lookup fa10 = some ⟨oca10, oda10, .func (PySem.W.fnOf "is_insertion" "is_insertion" (defArgs sIsInsertion) (defBody sIsInsertion) (defScope sIsInsertion) .none kVa10 dca10 pma10 ana10 cda10 cta10), sla10⟩) (ca10 : PySem.W.codeIn K cda10 "is_insertion" = true) (ka10 : PySem.W.keepIn K (.ref fa10) = true)
    (na11 : PySem.W.nsIn K mainGlobals "_law_dice" = some (some (.ref fa11))) (la11 : K.lookup fa11 = some ⟨oca11, oda11, .func (PySem.W.fnOf "_law_dice" "_law_dice" (defArgs sDice) (defBody sDice) (defScope sDice) .none kVa11 dca11 pma11 ana11 cda11 cta11), sla11⟩) (ca11 : PySem.W.codeIn K cda11 "_law_dice" = true) (ka11 : PySem.W.keepIn K (.ref fa11) = true)
    (na12 : PySem.W.nsIn K mainGlobals "_law_roll" = some (some (.ref fa12))) (la12 : K.lookup fa12 = some ⟨oca12, oda12, .func (PySem.W.fnOf "_law_roll" "_law_roll" (defArgs sRoll) (defBody sRoll) (defScope sRoll) .none kVa12 dca12 pma12 ana12 cda12 cta12), sla12⟩) (ca12 : PySem.W.codeIn K cda12 "_law_roll" = true) (ka12 : PySem.W.keepIn K (.ref fa12) = true)
    (na13 : PySem.W.nsIn K mainGlobals "_law_pick" = some (some (.ref fa13))) (la13 : K.lookup fa13 = some ⟨oca13, oda13, .func (PySem.W.fnOf "_law_pick" "_law_pick" (defArgs sPick) (defBody sPick) (defScope sPick) .none kVa13 dca13 pma13 ana13 cda13 cta13), sla13⟩) (ca13 : PySem.W.codeIn K cda13 "_law_pick" = true) (ka13 : PySem.W.keepIn K (.ref fa13) = true)
    (na14 : PySem.W.nsIn K mainGlobals "_law_mixed" = some (some (.ref fa14))) (la14 : K.lookup fa14 = some ⟨oca14, oda14, .func (PySem.W.fnOf "_law_mixed" "_law_mixed" (defArgs sMixed) (defBody sMixed) (defScope sMixed) .none kVa14 dca14 pma14 ana14 cda14 cta14), sla14⟩) (ca14 : PySem.W.codeIn K cda14 "_law_mixed" = true) (ka14 : PySem.W.keepIn K (.ref fa14) = true)
    (na15 : PySem.W.nsIn K mainGlobals "_law_letters" = some (some (.ref fa15))) (la15 : K.lookup fa15 = some ⟨oca15, oda15, .func (PySem.W.fnOf "_law_letters" "_law_letters" (defArgs sLetters) (defBody sLetters) (defScope sLetters) .none kVa15 dca15 pma15 ana15 cda15 cta15), sla15⟩) (ca15 : PySem.W.codeIn K cda15 "_law_letters" = true) (ka15 : PySem.W.keepIn K (.ref fa15) = true)
    (na16 : PySem.W.nsIn K mainGlobals "_law_log" = some (some (.ref fa16))) (la16 : K.lookup fa16 = some ⟨oca16, oda16, .func (PySem.W.fnOf "_law_log" "_law_log" (defArgs sLog) (defBody sLog) (defScope sLog) .none kVa16 dca16 pma16 ana16 cda16 cta16), sla16⟩) (ca16 : PySem.W.codeIn K cda16 "_law_log" = true) (ka16 : PySem.W.keepIn K (.ref fa16) = true)
    (na17 : PySem.W.nsIn K mainGlobals "_law_made" = some (some (.ref fa17))) (la17 : K.lookup fa17 = some ⟨oca17, oda17, .func (PySem.W.fnOf "_law_made" "_law_made" (defArgs sMade) (defBody sMade) (defScope sMade) .none kVa17 dca17 pma17 ana17 cda17 cta17), sla17⟩) (ca17 : PySem.W.codeIn K cda17 "_law_made" = true) (ka17 : PySem.W.keepIn K (.ref fa17) = true)
    (na18 : PySem.W.nsIn K mainGlobals "_law_laid" = some (some (.ref fa18))) (la18 : K.lookup fa18 = some ⟨oca18, oda18, .func (PySem.W.fnOf "_law_laid" "_law_laid" (defArgs sLaid) (defBody sLaid) (defScope sLaid) .none kVa18 dca18 pma18 ana18 cda18 cta18), sla18⟩) (ca18 : PySem.W.codeIn K cda18 "_law_laid" = true) (ka18 : PySem.W.keepIn K (.ref fa18) = true)
    (na19 : PySem.W.nsIn K mainGlobals "_law_told_right" = some (some (.ref fa19))) (la19 : K.lookup fa19 = some ⟨oca19, oda19, .func (PySem.W.fnOf "_law_told_right" "_law_told_right" (defArgs sTold) (defBody sTold) (defScope sTold) .none kVa19 dca19 pma19 ana19 cda19 cta19), sla19⟩) (ca19 : PySem.W.codeIn K cda19 "_law_told_right" = true) (ka19 : PySem.W.keepIn K (.ref fa19) = true)
    (na20 : PySem.W.nsIn K mainGlobals "_law_steps_right" = some (some (.ref fa20))) (la20 : K.lookup fa20 = some ⟨oca20, oda20, .func (PySem.W.fnOf "_law_steps_right" "_law_steps_right" (defArgs sSteps) (defBody sSteps) (defScope sSteps) .none kVa20 dca20 pma20 ana20 cda20 cta20), sla20⟩) (ca20 : PySem.W.codeIn K cda20 "_law_steps_right" = true) (ka20 : PySem.W.keepIn K (.ref fa20) = true)
    (na21 : PySem.W.nsIn K mainGlobals "_law_joined_right" = some (some (.ref fa21))) (la21 : K.lookup fa21 = some ⟨oca21, oda21, .func (PySem.W.fnOf "_law_joined_right" "_law_joined_right" (defArgs sJoined) (defBody sJoined) (defScope sJoined) .none kVa21 dca21 pma21 ana21 cda21 cta21), sla21⟩) (ca21 : PySem.W.codeIn K cda21 "_law_joined_right" = true) (ka21 : PySem.W.keepIn K (.ref fa21) = true)
    (na22 : PySem.W.nsIn K mainGlobals "law" = some (some (.ref fa22))) (la22 : K.lookup fa22 = some ⟨oca22, oda22, .func (PySem.W.fnOf "law" "law" (defArgs sLaw) (defBody sLaw) (defScope sLaw) .none kVa22 dca22 pma22 ana22 cda22 cta22), sla22⟩) (ca22 : PySem.W.codeIn K cda22 "law" = true) (ka22 : PySem.W.keepIn K (.ref fa22) = true)
    (nm0 : PySem.W.findIn K (.ref C) "__init__" = some (some (.ref fm0))) (im0 : PySem.W.isFn K (.ref fm0) = true) (jm0 : PySem.W.fnIn K fm0 = true) (lm0 : K.lookup fm0 = some ⟨ocm0, odm0, .func (PySem.W.fnOf "__init__" "Growth.__init__" (defArgs mInit) (defBody mInit) (defScope mInit) .none kVm0 dcm0 pmm0 anm0 cdm0 ctm0), slm0⟩) (cm0 : PySem.W.codeIn K cdm0 "Growth.__init__" = true) (km0 : PySem.W.keepIn K (.ref fm0) = true)
    (nm1 : PySem.W.findIn K (.ref C) "__call__" = some (some (.ref fm1))) (im1 : PySem.W.isFn K (.ref fm1) = true) (jm1 : PySem.W.fnIn K fm1 = true) (lm1 : K.lookup fm1 = some ⟨ocm1, odm1, .func (PySem.W.fnOf "__call__" "Growth.__call__" (defArgs mCall) (defBody mCall) (defScope mCall) .none kVm1 dcm1 pmm1 anm1 cdm1 ctm1), slm1⟩) (cm1 : PySem.W.codeIn K cdm1 "Growth.__call__" = true) (km1 : PySem.W.keepIn K (.ref fm1) = true)
    (nm2 : PySem.W.findIn K (.ref C) "origin" = some (some (.ref fm2))) (im2 : PySem.W.isFn K (.ref fm2) = true) (jm2 : PySem.W.fnIn K fm2 = true) (lm2 : K.lookup fm2 = some ⟨ocm2, odm2, .func (PySem.W.fnOf "origin" "Growth.origin" (defArgs mOrigin) (defBody mOrigin) (defScope mOrigin) .none kVm2 dcm2 pmm2 anm2 cdm2 ctm2), slm2⟩) (cm2 : PySem.W.codeIn K cdm2 "Growth.origin" = true) (km2 : PySem.W.keepIn K (.ref fm2) = true)
    (nm3 : PySem.W.findIn K (.ref C) "__add__" = some (some (.ref fm3))) (im3 : PySem.W.isFn K (.ref fm3) = true) (jm3 : PySem.W.fnIn K fm3 = true) (lm3 : K.lookup fm3 = some ⟨ocm3, odm3, .func (PySem.W.fnOf "__add__" "Growth.__add__" (defArgs mAdd) (defBody mAdd) (defScope mAdd) .none kVm3 dcm3 pmm3 anm3 cdm3 ctm3), slm3⟩) (cm3 : PySem.W.codeIn K cdm3 "Growth.__add__" = true) (km3 : PySem.W.keepIn K (.ref fm3) = true)
    (nm4 : PySem.W.findIn K (.ref C) "steps" = some (some (.ref fm4))) (im4 : PySem.W.isFn K (.ref fm4) = true) (jm4 : PySem.W.fnIn K fm4 = true) (lm4 : K.lookup fm4 = some ⟨ocm4, odm4, .func (PySem.W.fnOf "steps" "Growth.steps" (defArgs mSteps) (defBody mSteps) (defScope mSteps) .none kVm4 dcm4 pmm4 anm4 cdm4 ctm4), slm4⟩) (cm4 : PySem.W.codeIn K cdm4 "Growth.steps" = true) (km4 : PySem.W.keepIn K (.ref fm4) = true)
    (nm5 : PySem.W.findIn K (.ref C) "__len__" = some (some (.ref fm5))) (im5 : PySem.W.isFn K (.ref fm5) = true) (jm5 : PySem.W.fnIn K fm5 = true) (lm5 : K.lookup fm5 = some ⟨ocm5, odm5, .func (PySem.W.fnOf "__len__" "Growth.__len__" (defArgs mLen) (defBody mLen) (defScope mLen) .none kVm5 dcm5 pmm5 anm5 cdm5 ctm5), slm5⟩) (cm5 : PySem.W.codeIn K cdm5 "Growth.__len__" = true) (km5 : PySem.W.keepIn K (.ref fm5) = true)
    (nm6 : PySem.W.findIn K (.ref C) "__eq__" = some (some (.ref fm6))) (im6 : PySem.W.isFn K (.ref fm6) = true) (jm6 : PySem.W.fnIn K fm6 = true) (lm6 : K.lookup fm6 = some ⟨ocm6, odm6, .func (PySem.W.fnOf "__eq__" "Growth.__eq__" (defArgs mEq) (defBody mEq) (defScope mEq) .none kVm6 dcm6 pmm6 anm6 cdm6 ctm6), slm6⟩) (cm6 : PySem.W.codeIn K cdm6 "Growth.__eq__" = true) (km6 : PySem.W.keepIn K (.ref fm6) = true)
    (nm7 : PySem.W.findIn K (.ref C) "__str__" = some (some (.ref fm7))) (im7 : PySem.W.isFn K (.ref fm7) = true) (jm7 : PySem.W.fnIn K fm7 = true) (lm7 : K.lookup fm7 = some ⟨ocm7, odm7, .func (PySem.W.fnOf "__str__" "Growth.__str__" (defArgs mStr) (defBody mStr) (defScope mStr) .none kVm7 dcm7 pmm7 anm7 cdm7 ctm7), slm7⟩) (cm7 : PySem.W.codeIn K cdm7 "Growth.__str__" = true) (km7 : PySem.W.keepIn K (.ref fm7) = true)
    {qp0 : Addr} {rp0 : List Value} (np0 : PySem.W.findIn K (.ref C) "begin" = some (some (.ref qp0))) (gp0 : PySem.W.specialIn K (.ref qp0) "__get__" = some (some (.builtin "property.__get__"))) (tp0 : PySem.W.takesIn K (.ref qp0) = some true) (ep0 : PySem.W.recIn K qp0 "property" = some (.ref fp0 :: rp0)) (lp0 : K.lookup fp0 = some ⟨ocp0, odp0, .func (PySem.W.fnOf "begin" "Growth.begin" (defArgs mBegin) (defBody mBegin) (defScope mBegin) .none kVp0 dcp0 pmp0 anp0 cdp0 ctp0), slp0⟩) (cp0 : PySem.W.codeIn K cdp0 "Growth.begin" = true) (kp0 : PySem.W.keepIn K (.ref fp0) = true)
    {qp1 : Addr} {rp1 : List Value} (np1 : PySem.W.findIn K (.ref C) "end" = some (some (.ref qp1))) (gp1 : PySem.W.specialIn K (.ref qp1) "__get__" = some (some (.builtin "property.__get__"))) (tp1 : PySem.W.takesIn K (.ref qp1) = some true) (ep1 : PySem.W.recIn K qp1 "property" = some (.ref fp1 :: rp1)) (lp1 : K.lookup fp1 = some ⟨ocp1, odp1, .func (PySem.W.fnOf "end" "Growth.end" (defArgs mEnd) (defBody mEnd) (defScope mEnd) .none kVp1 dcp1 pmp1 anp1 cdp1 ctp1), slp1⟩) (cp1 : PySem.W.codeIn K cdp1 "Growth.end" = true) (kp1 : PySem.W.keepIn K (.ref fp1) = true)
    {qp2 : Addr} {rp2 : List Value} (np2 : PySem.W.findIn K (.ref C) "kept" = some (some (.ref qp2))) (gp2 : PySem.W.specialIn K (.ref qp2) "__get__" = some (some (.builtin "property.__get__"))) (tp2 : PySem.W.takesIn K (.ref qp2) = some true) (ep2 : PySem.W.recIn K qp2 "property" = some (.ref fp2 :: rp2)) (lp2 : K.lookup fp2 = some ⟨ocp2, odp2, .func (PySem.W.fnOf "kept" "Growth.kept" (defArgs mKept) (defBody mKept) (defScope mKept) .none kVp2 dcp2 pmp2 anp2 cdp2 ctp2), slp2⟩) (cp2 : PySem.W.codeIn K cdp2 "Growth.kept" = true) (kp2 : PySem.W.keepIn K (.ref fp2) = true)
    (ty : PySem.W.typeIn K (.ref C) = some (.type "type")) (rd : PySem.W.readsIn K C (.type "type") = true) (ga : PySem.W.specialIn K (.ref C) "__getattribute__" = some (some (.builtin "type.__getattribute__"))) {qb0 : Addr} {rb0 : List Value} (nb0 : PySem.W.findCls K (.ref C) (.type "type") "between" = some (.get (.builtin "classmethod.__get__") (.ref qb0) .none (.ref C))) (eb0 : PySem.W.recIn K qb0 "classmethod" = some (.ref fb0 :: rb0)) (jb0 : PySem.W.fnIn K fb0 = true) (lb0 : K.lookup fb0 = some ⟨ocb0, odb0, .func (PySem.W.fnOf "between" "Growth.between" (defArgs mBetween) (defBody mBetween) (defScope mBetween) .none kVb0 dcb0 pmb0 anb0 cdb0 ctb0), slb0⟩) (cb0 : PySem.W.codeIn K cdb0 "Growth.between" = true) (kb0 : PySem.W.keepIn K (.ref fb0) = true)
    (pg : PySem.W.plainGet K C Str.empty = true) (hd : PySem.W.hasDictIn K C = true) (po : PySem.W.plainOver K C = true) (sa : PySem.W.findIn K (.ref C) "__setattr__" = some (some (.builtin "object.__setattr__"))) (mk : PySem.W.makesIn K C = true) (kc : PySem.W.keepIn K (.ref C) = true)
    (xB : PySem.W.findIn K (.ref C) "_begin" = some none) (xI : PySem.W.findIn K (.ref C) "_insertions" = some none) (xE : PySem.W.findIn K (.ref C) "_end" = some none) (xK : PySem.W.findIn K (.ref C) "_kept" = some none) (bo : PySem.W.findIn K (.ref C) "__bool__" = some none)
    (ne : PySem.W.findIn K (.ref C) (cmpInfo .NotEq).2.1 = some (some (.builtin "object.__ne__"))) (mro : PySem.W.mroIn K C (.type "object") = some true) (sf : PySem.W.selfFirst K C = true) (nf : PySem.W.notFirst K C (.type "tuple") = true)
    (ca : PySem.W.findIn K (.ref C) "__class__" = some (some (.builtin "object.__class__"))) (cn : PySem.W.specialIn K (.builtin "object.__class__") "__get__" = some (some (.builtin "getset_descriptor.__get__"))) (ct : PySem.W.takesIn K (.builtin "object.__class__") = some true)
    (ic : PySem.W.isClsIn K C = true) (sb : PySem.W.subIn K (.type "tuple") (.ref C) = some false)
    (z_len : PySem.W.nsIn K mainGlobals "len" = some none)
    (z_enumerate : PySem.W.nsIn K mainGlobals "enumerate" = some none)
    (z_tuple : PySem.W.nsIn K mainGlobals "tuple" = some none)
    (z_isinstance : PySem.W.nsIn K mainGlobals "isinstance" = some none)
    (z_str : PySem.W.nsIn K mainGlobals "str" = some none)
    (z_all : PySem.W.nsIn K mainGlobals "all" = some none)
    (z_range : PySem.W.nsIn K mainGlobals "range" = some none)
    (z_min : PySem.W.nsIn K mainGlobals "min" = some none)
    (z_max : PySem.W.nsIn K mainGlobals "max" = some none)
    (z_list : PySem.W.nsIn K mainGlobals "list" = some none)
    (z_sorted : PySem.W.nsIn K mainGlobals "sorted" = some none)
    (z_abs : PySem.W.nsIn K mainGlobals "abs" = some none)
    (z_int : PySem.W.nsIn K mainGlobals "int" = some none)
    (z_repr : PySem.W.nsIn K mainGlobals "repr" = some none)
    (z_bool : PySem.W.nsIn K mainGlobals "bool" = some none)
    {tS tE : Tok} (zS : PySem.W.nsIn K mainGlobals "MAX_SIGNS" = some (some (.int 8 tS))) (zE : PySem.W.nsIn K mainGlobals "MAX_EVENTS" = some (some (.int 200 tE))) :
    ∃ fd : FuncData, (∀ (s : Shared) (v : Value), BindsTo s fd ⟨[v], []⟩ [("script", v)]) ∧ ∀ base : Heap, K.In base → base.Ns mainGlobals mg → FnG l.prog w K mg base 12 fa fd ["script"] (spLaw K) := by
  have e := hfa.symm.trans (PySem.W.mg_of X G na22)
  cases e
  have B : Bn mg := ⟨PySem.W.mg_none_of X G z_len, PySem.W.mg_none_of X G z_enumerate, PySem.W.mg_none_of X G z_tuple, PySem.W.mg_none_of X G z_isinstance, PySem.W.mg_none_of X G z_str, PySem.W.mg_none_of X G z_all, PySem.W.mg_none_of X G z_range, PySem.W.mg_none_of X G z_min, PySem.W.mg_none_of X G z_max, PySem.W.mg_none_of X G z_list, PySem.W.mg_none_of X G z_sorted, PySem.W.mg_none_of X G z_abs, PySem.W.mg_none_of X G z_int, PySem.W.mg_none_of X G z_repr, PySem.W.mg_none_of X G z_bool, ⟨_, PySem.W.mg_of X G zS⟩, ⟨_, PySem.W.mg_of X G zE⟩⟩
  have T : Gc K mg C := ⟨⟨pg, hd, po, sa⟩, xB, xI, xE, xK, PySem.W.mg_of X G aC⟩
  have I : Gi K C := ⟨ca, cn, ct, mro, ic, ty, sb⟩
  have MK : Mk K C fm0 := ⟨mk, nm0, im0, kc⟩
  have Fa0 := fun_mk (st := sIsWhole) la0 ca0 ka0
  have Ba0 := Fa0.binds (ps := ["value"]) fun _ _ _ _ _ _ us hl => match us, hl with | [_], _ => rfl
  have Fa1 := fun_mk (st := sIsName) la1 ca1 ka1
  have Ba1 := Fa1.binds (ps := ["value"]) fun _ _ _ _ _ _ us hl => match us, hl with | [_], _ => rfl
  have Fa2 := fun_mk (st := sCheckNumber) la2 ca2 ka2
  have Ba2 := Fa2.binds (ps := ["value", "least", "most"]) fun _ _ _ _ _ _ us hl => match us, hl with | [_, _, _], _ => rfl
  have Fa3 := fun_mk (st := sFirstWay) la3 ca3 ka3
  have Ba3 := Fa3.binds (ps := ["log", "other"]) fun _ _ _ _ _ _ us hl => match us, hl with | [_, _], _ => rfl
  have Fa4 := fun_mk (st := sGrownBy) la4 ca4 ka4
  have Ba4 := Fa4.binds (ps := ["log", "insertions"]) fun _ _ _ _ _ _ us hl => match us, hl with | [_, _], _ => rfl
  have Fa5 := fun_mk (st := sInsertionsOf) la5 ca5 ka5
  have Ba5 := Fa5.binds (ps := ["end", "kept"]) fun _ _ _ _ _ _ us hl => match us, hl with | [_, _], _ => rfl
  have Fa6 := fun_mk (st := sIsAnyLog) la6 ca6 ka6
  have Ba6 := Fa6.binds (ps := ["value"]) fun _ _ _ _ _ _ us hl => match us, hl with | [_], _ => rfl
  have Fa7 := fun_mk (st := sCheckLog) la7 ca7 ka7
  have Ba7 := Fa7.binds (ps := ["value"]) fun _ _ _ _ _ _ us hl => match us, hl with | [_], _ => rfl
  have Fa8 := fun_mk (st := sCheckEvents) la8 ca8 ka8
  have Ba8 := Fa8.binds (ps := ["many"]) fun _ _ _ _ _ _ us hl => match us, hl with | [_], _ => rfl
  have Fa9 := fun_mk (st := sFirstPlaces) la9 ca9 ka9
  have Ba9 := Fa9.binds (ps := ["log", "other"]) fun _ _ _ _ _ _ us hl => match us, hl with | [_, _], _ => rfl
  have Fa10 := fun_mk (st := sIsInsertion) la10 ca10 ka10
  have Ba10 := Fa10.binds (ps := ["log", "value"]) fun _ _ _ _ _ _ us hl => match us, hl with | [_, _], _ => rfl
  have Fa11 := fun_mk (st := sDice) la11 ca11 ka11
  have Ba11 := Fa11.binds (ps := ["script", "spot"]) fun _ _ _ _ _ _ us hl => match us, hl with | [_, _], _ => rfl
  have Fa12 := fun_mk (st := sRoll) la12 ca12 ka12
  have Ba12 := Fa12.binds (ps := ["dice", "size"]) fun _ _ _ _ _ _ us hl => match us, hl with | [_, _], _ => rfl
  have Fa13 := fun_mk (st := sPick) la13 ca13 ka13
  have Ba13 := Fa13.binds (ps := ["dice", "items"]) fun _ _ _ _ _ _ us hl => match us, hl with | [_, _], _ => rfl
  have Fa14 := fun_mk (st := sMixed) la14 ca14 ka14
  have Ba14 := Fa14.binds (ps := ["dice", "items"]) fun _ _ _ _ _ _ us hl => match us, hl with | [_, _], _ => rfl
  have Fa15 := fun_mk (st := sLetters) la15 ca15 ka15
  have Ba15 := Fa15.binds (ps := ["dice", "top"]) fun _ _ _ _ _ _ us hl => match us, hl with | [_, _], _ => rfl
  have Fa16 := fun_mk (st := sLog) la16 ca16 ka16
  have Ba16 := Fa16.binds (ps := ["dice", "letters", "top"]) fun _ _ _ _ _ _ us hl => match us, hl with | [_, _, _], _ => rfl
  have Fa17 := fun_mk (st := sMade) la17 ca17 ka17
  have Ba17 := Fa17.binds (ps := ["log", "some"]) fun _ _ _ _ _ _ us hl => match us, hl with | [_, _], _ => rfl
  have Fa18 := fun_mk (st := sLaid) la18 ca18 ka18
  have Ba18 := Fa18.binds (ps := ["log", "some"]) fun _ _ _ _ _ _ us hl => match us, hl with | [_, _], _ => rfl
  have Fa19 := fun_mk (st := sTold) la19 ca19 ka19
  have Ba19 := Fa19.binds (ps := ["growth", "begin", "end", "stay"]) fun _ _ _ _ _ _ us hl => match us, hl with | [_, _, _, _], _ => rfl
  have Fa20 := fun_mk (st := sSteps) la20 ca20 ka20
  have Ba20 := Fa20.binds (ps := ["growth"]) fun _ _ _ _ _ _ us hl => match us, hl with | [_], _ => rfl
  have Fa21 := fun_mk (st := sJoined) la21 ca21 ka21
  have Ba21 := Fa21.binds (ps := ["one", "two", "three"]) fun _ _ _ _ _ _ us hl => match us, hl with | [_, _, _], _ => rfl
  have Fa22 := fun_mk (st := sLaw) la22 ca22 ka22
  have Fm0 := fun_mk (st := mInit) lm0 cm0 km0
  have Fm1 := fun_mk (st := mCall) lm1 cm1 km1
  have Bm1 := Fm1.binds (ps := ["self", "position"]) fun _ _ _ _ _ _ us hl => match us, hl with | [_, _], _ => rfl
  have Fm2 := fun_mk (st := mOrigin) lm2 cm2 km2
  have Bm2 := Fm2.binds (ps := ["self", "position"]) fun _ _ _ _ _ _ us hl => match us, hl with | [_, _], _ => rfl
  have Fm3 := fun_mk (st := mAdd) lm3 cm3 km3
  have Bm3 := Fm3.binds (ps := ["self", "other"]) fun _ _ _ _ _ _ us hl => match us, hl with | [_, _], _ => rfl
  have Fm4 := fun_mk (st := mSteps) lm4 cm4 km4
  have Bm4 := Fm4.binds (ps := ["self"]) fun _ _ _ _ _ _ us hl => match us, hl with | [_], _ => rfl
  have Fm5 := fun_mk (st := mLen) lm5 cm5 km5
  have Bm5 := Fm5.binds (ps := ["self"]) fun _ _ _ _ _ _ us hl => match us, hl with | [_], _ => rfl
  have Fm6 := fun_mk (st := mEq) lm6 cm6 km6
  have Bm6 := Fm6.binds (ps := ["self", "other"]) fun _ _ _ _ _ _ us hl => match us, hl with | [_, _], _ => rfl
  have Fm7 := fun_mk (st := mStr) lm7 cm7 km7
  have Bm7 := Fm7.binds (ps := ["self"]) fun _ _ _ _ _ _ us hl => match us, hl with | [_], _ => rfl
  have Fp0 := fun_mk (st := mBegin) lp0 cp0 kp0
  have Bp0 := Fp0.binds (ps := ["self"]) fun _ _ _ _ _ _ us hl => match us, hl with | [_], _ => rfl
  have Fp1 := fun_mk (st := mEnd) lp1 cp1 kp1
  have Bp1 := Fp1.binds (ps := ["self"]) fun _ _ _ _ _ _ us hl => match us, hl with | [_], _ => rfl
  have Fp2 := fun_mk (st := mKept) lp2 cp2 kp2
  have Bp2 := Fp2.binds (ps := ["self"]) fun _ _ _ _ _ _ us hl => match us, hl with | [_], _ => rfl
  have Fb0 := fun_mk (st := mBetween) lb0 cb0 kb0
  have Bb0 := Fb0.binds (ps := ["cls", "log", "other"]) fun _ _ _ _ _ _ us hl => match us, hl with | [_, _, _], _ => rfl
  refine ⟨PySem.W.fnOf "law" "law" (defArgs sLaw) (defBody sLaw) (defScope sLaw) .none kVa22 dca22 pma22 ana22 cda22 cta22, fun s v => .of_eq rfl, fun base _ _ => ?_⟩
  have A_is_whole : Cal l.prog w K mg base 1 "is_whole" ["value"] spIsWhole := ⟨_, _, ok_isWhole (k := 0) Fa0 B, PySem.W.mg_of X G na0, ka0, Ba0⟩
  have A_is_name : Cal l.prog w K mg base 1 "is_name" ["value"] spIsName := ⟨_, _, ok_isName (k := 0) Fa1 B, PySem.W.mg_of X G na1, ka1, Ba1⟩
  have A_first_way : Cal l.prog w K mg base 1 "first_way" ["log", "other"] spFirstWay := ⟨_, _, ok_firstWay (k := 0) Fa3 B, PySem.W.mg_of X G na3, ka3, Ba3⟩
  have A_grown : Cal l.prog w K mg base 1 "grown" ["log", "insertions"] spGrownBy := ⟨_, _, ok_grownBy (k := 0) Fa4 B, PySem.W.mg_of X G na4, ka4, Ba4⟩
  have A_insertions_of : Cal l.prog w K mg base 1 "insertions_of" ["end", "kept"] spInsOf := ⟨_, _, ok_insOf (k := 0) Fa5 B, PySem.W.mg_of X G na5, ka5, Ba5⟩
  have A_check_events : Cal l.prog w K mg base 1 "check_events" ["many"] spCheckEvents := ⟨_, _, ok_checkEvents (k := 0) Fa8 B, PySem.W.mg_of X G na8, ka8, Ba8⟩
  have A__law_dice : Cal l.prog w K mg base 1 "_law_dice" ["script", "spot"] (spDice K) := ⟨_, _, ok_dice (k := 0) Fa11 B, PySem.W.mg_of X G na11, ka11, Ba11⟩
  have A__law_roll : Cal l.prog w K mg base 1 "_law_roll" ["dice", "size"] spRoll := ⟨_, _, ok_roll (k := 0) Fa12 B, PySem.W.mg_of X G na12, ka12, Ba12⟩
  have A__law_laid : Cal l.prog w K mg base 1 "_law_laid" ["log", "some"] spLaid := ⟨_, _, ok_laid (k := 0) Fa18 B, PySem.W.mg_of X G na18, ka18, Ba18⟩
  have A_check_number : Cal l.prog w K mg base 2 "check_number" ["value", "least", "most"] spCheckNumber := ⟨_, _, ok_checkNumber (k := 1) Fa2 A_is_whole, PySem.W.mg_of X G na2, ka2, Ba2⟩
  have A_is_any_log : Cal l.prog w K mg base 2 "is_any_log" ["value"] spIsAnyLog := ⟨_, _, ok_isAnyLog (k := 1) Fa6 B A_is_name, PySem.W.mg_of X G na6, ka6, Ba6⟩
  have A_is_insertion : Cal l.prog w K mg base 2 "is_insertion" ["log", "value"] spIsInsertion := ⟨_, _, ok_isInsertion (k := 1) Fa10 B A_is_whole A_is_name, PySem.W.mg_of X G na10, ka10, Ba10⟩
  have A__law_pick : Cal l.prog w K mg base 2 "_law_pick" ["dice", "items"] spPick := ⟨_, _, ok_pick (k := 1) Fa13 B A__law_roll, PySem.W.mg_of X G na13, ka13, Ba13⟩
  have A__law_mixed : Cal l.prog w K mg base 2 "_law_mixed" ["dice", "items"] spMixed := ⟨_, _, ok_mixed (k := 1) Fa14 B A__law_roll, PySem.W.mg_of X G na14, ka14, Ba14⟩
  have A_check_log : Cal l.prog w K mg base 3 "check_log" ["value"] spCheckLog := ⟨_, _, ok_checkLog (k := 2) Fa7 A_is_any_log, PySem.W.mg_of X G na7, ka7, Ba7⟩
  have A__law_letters : Cal l.prog w K mg base 3 "_law_letters" ["dice", "top"] spLetters := ⟨_, _, ok_letters (k := 2) Fa15 B A__law_pick A__law_mixed, PySem.W.mg_of X G na15, ka15, Ba15⟩
  have A__law_log : Cal l.prog w K mg base 3 "_law_log" ["dice", "letters", "top"] spLog := ⟨_, _, ok_log (k := 2) Fa16 B A__law_pick (A__law_roll.mono (by decide)), PySem.W.mg_of X G na16, ka16, Ba16⟩
  have A_first_places : Cal l.prog w K mg base 4 "first_places" ["log", "other"] spFirstPlaces := ⟨_, _, ok_firstPlaces (k := 3) Fa9 A_check_log (A_first_way.mono (by decide)), PySem.W.mg_of X G na9, ka9, Ba9⟩
  have FI : FnR l.prog w K mg base CX0 4 fm0 (spStar C) := ok_init (k := 3) Fm0 B T A_check_log (A_is_insertion.mono (by decide)) (A_check_events.mono (by decide)) (A_grown.mono (by decide))
  have P_begin : PCal l.prog w K mg base 1 C "begin" (spBegin C) := ⟨qp0, fp0, _, ⟨np0, gp0, tp0, _, ep0⟩, ok_begin (k := 0) Fp0 T, Bp0⟩
  have P_end : PCal l.prog w K mg base 1 C "end" (spEnd C) := ⟨qp1, fp1, _, ⟨np1, gp1, tp1, _, ep1⟩, ok_end (k := 0) Fp1 T, Bp1⟩
  have P_kept : PCal l.prog w K mg base 1 C "kept" (spKept C) := ⟨qp2, fp2, _, ⟨np2, gp2, tp2, _, ep2⟩, ok_kept (k := 0) Fp2 T, Bp2⟩
  have Q_len : MCal l.prog w K mg base 1 C "__len__" ["self"] (spLenG C) := ⟨fm5, _, ⟨nm5, im5, km5⟩, jm5, ok_len (k := 0) Fm5 B T, Bm5⟩
  have Q_str : MCal l.prog w K mg base 1 C "__str__" ["self"] (spStrG C) := ⟨fm7, _, ⟨nm7, im7, km7⟩, jm7, ok_str (k := 0) Fm7 B T, Bm7⟩
  have Q_eq : MCal l.prog w K mg base 1 C "__eq__" ["self", "other"] (spEqG C) := ⟨fm6, _, ⟨nm6, im6, km6⟩, jm6, ok_eq (k := 0) Fm6 B T I, Bm6⟩
  have Q_call : MCal l.prog w K mg base 3 C "__call__" ["self", "position"] (spCallG C) := ⟨fm1, _, ⟨nm1, im1, km1⟩, jm1, ok_call (k := 2) Fm1 B T A_check_number, Bm1⟩
  have Q_origin : MCal l.prog w K mg base 3 C "origin" ["self", "position"] (spOrigin C) := ⟨fm2, _, ⟨nm2, im2, km2⟩, jm2, ok_origin (k := 2) Fm2 B T A_check_number, Bm2⟩
  have Q_add : MCal l.prog w K mg base 6 C "__add__" ["self", "other"] (spAddG C) := ⟨fm3, _, ⟨nm3, im3, km3⟩, jm3, ok_add (k := 4) Fm3 B T I (A_insertions_of.mono (by decide)) MK FI, Bm3⟩
  have Q_steps : SCal l.prog w K mg base 6 C := ⟨fm4, _, ⟨nm4, im4, km4⟩, ok_steps (k := 4) Fm4 B T MK FI ⟨np1, gp1, tp1, _, ep1⟩ ((ok_end (k := 0) Fp1 T).mono (by decide)) Bp1, Bm4⟩
  have Q_between : BCal l.prog w K mg base 6 C := ⟨_, qb0, fb0, ⟨rd, ga⟩, ⟨nb0, ⟨_, eb0⟩, jb0⟩, raw0 (ok_between (k := 4) Fb0 T (A_check_log.mono (by decide)) (A_first_way.mono (by decide)) (A_insertions_of.mono (by decide)) MK FI) Bb0⟩
  have A__law_made : Cal l.prog w K mg base 6 "_law_made" ["log", "some"] (spMade C) := ⟨_, _, ok_made (k := 4) Fa17 B T MK FI, PySem.W.mg_of X G na17, ka17, Ba17⟩
  have D__law_told_right : FnG l.prog w K mg base 8 fa19 _ ["growth", "begin", "end", "stay"] (spTold C) := ok_told (k := 4) Fa19 B T (P_begin.mono (by decide)) (P_end.mono (by decide)) (P_kept.mono (by decide)) (Q_len.mono (by decide)) (Q_call.mono (by decide)) (Q_origin.mono (by decide)) (Q_str.mono (by decide)) bo
  have E_told : ∀ j, 8 ≤ j → GCal l.prog w K mg base j "_law_told_right" ["growth", "begin", "end", "stay"] (spTold C) := fun j hj => ⟨_, _, D__law_told_right.mono hj, PySem.W.mg_of X G na19, ka19, Ba19⟩
  have A__law_steps_right : Cal l.prog w K mg base 10 "_law_steps_right" ["growth"] (spStepsR C) := ⟨_, _, ok_stepsR (k := 6) Fa20 B T I MK (FI.mono (by decide)) (P_begin.mono (by decide)) (P_end.mono (by decide)) (P_kept.mono (by decide)) (Q_len.mono (by decide)) (Q_origin.mono (by decide)) Q_add (Q_eq.mono (by decide)) Q_steps ne sf, PySem.W.mg_of X G na20, ka20, Ba20⟩
  have D__law_joined_right : FnG l.prog w K mg base 10 fa21 _ ["one", "two", "three"] (spJoined C) := ok_joined (k := 8) Fa21 B T I MK (FI.mono (by decide)) (P_begin.mono (by decide)) (P_end.mono (by decide)) (Q_len.mono (by decide)) (Q_call.mono (by decide)) (Q_origin.mono (by decide)) (Q_add.mono (by decide)) (Q_eq.mono (by decide)) (E_told 8 (by decide)) ne sf
  have Q_b10 : BCal l.prog w K mg base 10 C := by
    obtain ⟨m, p, g, x1, x2, x3⟩ := Q_between
    exact ⟨m, p, g, x1, x2, x3.mono (by decide)⟩
  exact ok_law (k := 10) Fa22 B T I MK (FI.mono (by decide)) (A__law_dice.mono (by decide)) (A__law_letters.mono (by decide)) (A__law_log.mono (by decide)) (A__law_roll.mono (by decide)) (A__law_pick.mono (by decide)) (A__law_made.mono (by decide)) (A__law_laid.mono (by decide)) (E_told 10 (by decide))
    A__law_steps_right Q_b10 (A_first_places.mono (by decide)) ⟨_, _, D__law_joined_right, PySem.W.mg_of X G na21, ka21, Ba21⟩ (P_end.mono (by decide)) (P_kept.mono (by decide)) (Q_eq.mono (by decide)) ne nf
theorem walk {l : PySem.W.OpenLaw} {q : Program} {loose : List Str} {XP : (Str → Option Value) → Heap → Prop} {YP : World → Heap → Prop} {d : DefRec} {K : Params → PySem.W.Frag} (hn : l.most = some 63) (hdf : d.params.defaults = [])
    (hY : ∀ (w : World) (h : Heap), YP w h → (K w.params).In h)
    (F : ∀ (w : World) (mg : Str → Option Value) (fa : Addr) (h : Heap), (K w.params).In h → h.Ns mainGlobals mg → mg d.name = some (.ref fa) →
      ∃ fd : FuncData, (∀ (s : Shared) (u : Value), BindsTo s fd ⟨[u], []⟩ [("script", u)]) ∧ ∀ base : Heap, (K w.params).In base → base.Ns mainGlobals mg → FnG l.prog w (K w.params) mg base 12 fa fd ["script"] (spLaw (K w.params))) :
    PySem.W.WalkO q loose XP YP l.row.toRowW d [] (fun f vs => PySem.call f vs) :=
  walk_ofG (n := 63) (k := 12) (x := "script") (sp := fun w => spLaw (K w.params)) hn (by decide) hdf ⟨rfl, by decide, by decide⟩ hY F fun _ _ a ns hl _ hS => ⟨a, ns, rfl, hS, hl, fun _ => rfl⟩
end Sfl
open PySem PySem.W PyProof.Rows in
set_option maxHeartbeats 0 in
theorem PySem.Challenge.cw_seldomflip_k05_whole_growths_in_a_row_holds : PySem.Challenge.rw_seldomflip_k05_whole_growths_in_a_row.Holds := by
  w_on; o_law; k_head; (case hw => w_witness2)
  k_fill
  refine Sfl.walk (l := PySem.Challenge.rw_seldomflip_k05_whole_growths_in_a_row) rfl rfl (fun w h Y => PySem.W.kIn_of Y) ?F
  case F =>
    intro w mg fa h KX G hmg
    refine' Sfl.all_mk KX G hmg ?aC ?na0 ?la0 ?ca0 ?ka0 ?na1 ?la1 ?ca1 ?ka1 ?na2 ?la2 ?ca2 ?ka2 ?na3 ?la3 ?ca3 ?ka3 ?na4 ?la4 ?ca4 ?ka4 ?na5 ?la5 ?ca5 ?ka5 ?na6 ?la6 ?ca6 ?ka6 ?na7 ?la7 ?ca7 ?ka7 ?na8 ?la8 ?ca8 ?ka8 ?na9 ?la9 ?ca9 ?ka9 ?na10 ?la10 ?ca10 ?ka10 ?na11 ?la11 ?ca11 ?ka11 ?na12 ?la12 ?ca12 ?ka12 ?na13 ?la13 ?ca13 ?ka13 ?na14 ?la14 ?ca14 ?ka14 ?na15 ?la15 ?ca15 ?ka15 ?na16 ?la16 ?ca16 ?ka16 ?na17 ?la17 ?ca17 ?ka17 ?na18 ?la18 ?ca18 ?ka18 ?na19 ?la19 ?ca19 ?ka19 ?na20 ?la20 ?ca20 ?ka20 ?na21 ?la21 ?ca21 ?ka21 ?na22 ?la22 ?ca22 ?ka22 ?nm0 ?im0 ?jm0 ?lm0 ?cm0 ?km0 ?nm1 ?im1 ?jm1 ?lm1 ?cm1 ?km1 ?nm2 ?im2 ?jm2 ?lm2 ?cm2 ?km2 ?nm3 ?im3 ?jm3 ?lm3 ?cm3 ?km3 ?nm4 ?im4 ?jm4 ?lm4 ?cm4 ?km4 ?nm5 ?im5 ?jm5 ?lm5 ?cm5 ?km5 ?nm6 ?im6 ?jm6 ?lm6 ?cm6 ?km6 ?nm7 ?im7 ?jm7 ?lm7 ?cm7 ?km7 ?np0 ?gp0 ?tp0 ?ep0 ?lp0 ?cp0 ?kp0 ?np1 ?gp1 ?tp1 ?ep1 ?lp1 ?cp1 ?kp1 ?np2 ?gp2 ?tp2 ?ep2 ?lp2 ?cp2 ?kp2 ?ty ?rd ?ga ?nb0 ?eb0 ?jb0 ?lb0 ?cb0 ?kb0 ?pg ?hd ?po ?sa ?mk ?kc ?xB ?xI ?xE ?xK ?bo ?ne ?mro ?sf ?nf ?ca ?cn ?ct ?ic ?sb ?z_len ?z_enumerate ?z_tuple ?z_isinstance ?z_str ?z_all ?z_range ?z_min ?z_max ?z_list ?z_sorted ?z_abs ?z_int ?z_repr ?z_bool ?zS ?zE
    (case aC => k_is)
    (case na0 => k_is)
    (case la0 => k_is)
    (case ca0 => k_is)
    (case ka0 => k_is)
    (case na1 => k_is)
    (case la1 => k_is)
    (case ca1 => k_is)
    (case ka1 => k_is)
    (case na2 => k_is)
    (case la2 => k_is)
    (case ca2 => k_is)
    (case ka2 => k_is)
    (case na3 => k_is)
    (case la3 => k_is)
    (case ca3 => k_is)
    (case ka3 => k_is)
    (case na4 => k_is)
    (case la4 => k_is)
    (case ca4 => k_is)
    (case ka4 => k_is)
    (case na5 => k_is)
    (case la5 => k_is)
    (case ca5 => k_is)
    (case ka5 => k_is)
    (case na6 => k_is)
    (case la6 => k_is)
    (case ca6 => k_is)
    (case ka6 => k_is)
    (case na7 => k_is)
    (case la7 => k_is)
    (case ca7 => k_is)
    (case ka7 => k_is)
    (case na8 => k_is)
    (case la8 => k_is)
    (case ca8 => k_is)
    (case ka8 => k_is)
    (case na9 => k_is)
    (case la9 => k_is)
    (case ca9 => k_is)
    (case ka9 => k_is)
    (case na10 => k_is)
    (case la10 => k_is)
    (case ca10 => k_is)
    (case ka10 => k_is)
    (case na11 => k_is)
    (case la11 => k_is)
    (case ca11 => k_is)
    (case ka11 => k_is)
    (case na12 => k_is)
    (case la12 => k_is)
    (case ca12 => k_is)
    (case ka12 => k_is)
    (case na13 => k_is)
    (case la13 => k_is)
    (case ca13 => k_is)
    (case ka13 => k_is)
    (case na14 => k_is)
    (case la14 => k_is)
    (case ca14 => k_is)
    (case ka14 => k_is)
    (case na15 => k_is)
    (case la15 => k_is)
    (case ca15 => k_is)
    (case ka15 => k_is)
    (case na16 => k_is)
    (case la16 => k_is)
    (case ca16 => k_is)
    (case ka16 => k_is)
    (case na17 => k_is)
    (case la17 => k_is)
    (case ca17 => k_is)
    (case ka17 => k_is)
    (case na18 => k_is)
    (case la18 => k_is)
    (case ca18 => k_is)
    (case ka18 => k_is)
    (case na19 => k_is)
    (case la19 => k_is)
    (case ca19 => k_is)
    (case ka19 => k_is)
    (case na20 => k_is)
    (case la20 => k_is)
    (case ca20 => k_is)
    (case ka20 => k_is)
    (case na21 => k_is)
    (case la21 => k_is)
    (case ca21 => k_is)
    (case ka21 => k_is)
    (case na22 => k_is)
    (case la22 => k_is)
    (case ca22 => k_is)
    (case ka22 => k_is)
    (case nm0 => k_is)
    (case im0 => k_is)
    (case jm0 => k_is)
    (case lm0 => k_is)
    (case cm0 => k_is)
    (case km0 => k_is)
    (case nm1 => k_is)
    (case im1 => k_is)
    (case jm1 => k_is)
    (case lm1 => k_is)
    (case cm1 => k_is)
    (case km1 => k_is)
    (case nm2 => k_is)
    (case im2 => k_is)
    (case jm2 => k_is)
    (case lm2 => k_is)
    (case cm2 => k_is)
    (case km2 => k_is)
    (case nm3 => k_is)
    (case im3 => k_is)
    (case jm3 => k_is)
    (case lm3 => k_is)
    (case cm3 => k_is)
    (case km3 => k_is)
    (case nm4 => k_is)
    (case im4 => k_is)
    (case jm4 => k_is)
    (case lm4 => k_is)
    (case cm4 => k_is)
    (case km4 => k_is)
    (case nm5 => k_is)
    (case im5 => k_is)
    (case jm5 => k_is)
    (case lm5 => k_is)
    (case cm5 => k_is)
    (case km5 => k_is)
    (case nm6 => k_is)
    (case im6 => k_is)
    (case jm6 => k_is)
    (case lm6 => k_is)
    (case cm6 => k_is)
    (case km6 => k_is)
    (case nm7 => k_is)
    (case im7 => k_is)
    (case jm7 => k_is)
    (case lm7 => k_is)
    (case cm7 => k_is)
    (case km7 => k_is)
    (case np0 => k_is)
    (case gp0 => k_is)
    (case tp0 => k_is)
    (case ep0 => k_is)
    (case lp0 => k_is)
    (case cp0 => k_is)
    (case kp0 => k_is)
    (case np1 => k_is)
    (case gp1 => k_is)
    (case tp1 => k_is)
    (case ep1 => k_is)
    (case lp1 => k_is)
    (case cp1 => k_is)
    (case kp1 => k_is)
    (case np2 => k_is)
    (case gp2 => k_is)
    (case tp2 => k_is)
    (case ep2 => k_is)
    (case lp2 => k_is)
    (case cp2 => k_is)
    (case kp2 => k_is)
    (case ty => k_is)
    (case rd => k_is)
    (case ga => k_is)
    (case nb0 => k_is)
    (case eb0 => k_is)
    (case jb0 => k_is)
    (case lb0 => k_is)
    (case cb0 => k_is)
    (case kb0 => k_is)
    (case pg => k_is)
    (case hd => k_is)
    (case po => k_is)
    (case sa => k_is)
    (case mk => k_is)
    (case kc => k_is)
    (case xB => k_is)
    (case xI => k_is)
    (case xE => k_is)
    (case xK => k_is)
    (case bo => k_is)
    (case ne => k_is)
    (case mro => k_is)
    (case sf => k_is)
    (case nf => k_is)
    (case ca => k_is)
    (case cn => k_is)
    (case ct => k_is)
    (case ic => k_is)
    (case sb => k_is)
    (case z_len => k_is)
    (case z_enumerate => k_is)
    (case z_tuple => k_is)
    (case z_isinstance => k_is)
    (case z_str => k_is)
    (case z_all => k_is)
    (case z_range => k_is)
    (case z_min => k_is)
    (case z_max => k_is)
    (case z_list => k_is)
    (case z_sorted => k_is)
    (case z_abs => k_is)
    (case z_int => k_is)
    (case z_repr => k_is)
    (case z_bool => k_is)
    (case zS => k_is)
    (case zE => k_is)
#print axioms PySem.Challenge.cw_seldomflip_k05_whole_growths_in_a_row_holds
