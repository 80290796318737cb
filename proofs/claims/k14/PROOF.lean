import PyProof.Rows.All
import HandS.Iter
import HandS.List
import KE.GoesEnum
import KE.KRevSl
import HandS.ForMost
import HandS.TupAny
import HandS.TupMul
import HandS.Deep
import HandS.IsInst
import HandS.Wide
import HandS.Walk
import HandS.StrMore
import HandS.Style
import HandS.Conv
import HandS.Star
import HandS.Property
import HandS.ClsMeth
import HandS.SlotsOwn
import KE.KFmtOwn
import PyProof.InstNe
import HandS.GenList
import HandS.Strs
import HandS.TupSets
import PySem.Challenge.RW_seldomflip_k14_states_behind_logs
import HandS.Zip
import HandS.Defaults
import HandS.HeadNt
set_option Elab.async false
set_option linter.all false
set_option maxRecDepth 100000
namespace Sfl
open PySem PySem.Spec PyProof.Rows L2

/-! ### own rules: great powers, repr of a truth, a tuple turned round, enumerate over a tuple -/
def CPowW (i j : Int) : Prop := 0 ≤ j ∧ (Builtin.Int.intBits i : Int) * j ≤ 2 ^ 27
section
variable {X : Cx}
theorem op_powW : OpR X (binaryOp .Pow) (rI CPowW fun i j => .int (i ^ j.toNat)) :=
  opI fun _ _ _ _ _ _ _ hc q => pow_int hc.1 hc.2 q
theorem call_repr_bl : CallR X (.builtin "repr") (fun xs H Q => ∃ b : Bool, xs = [.bl b] ∧ Q (.str (if b then "True" else "False")) H) := by
  intro pins s σ H xs us Q I r h
  obtain ⟨b, rfl, q⟩ := h
  cases r with
  | cons r1 r2 =>
    cases r2
    cases r1
    exact PySem.P.repr_of_bool ⟨.str _, H, I.tok _, ⟨_, rfl⟩, q⟩
end

theorem revPick (xs : Array Value) :
    ((List.range xs.size).filterMap fun (k : Nat) => xs[(((xs.size : Int) - 1) + (k : Int) * -1).toNat]?) = xs.toList.reverse := by
  have e : ((List.range xs.size).filterMap fun (k : Nat) => xs[(((xs.size : Int) - 1) + (k : Int) * -1).toNat]?)
      = (((List.range xs.size).map (fun k => xs.size - 1 - k)).filterMap (xs[·]?)) := by
    rw [List.filterMap_map]
    have key : ∀ l : List Nat, (∀ k ∈ l, k < xs.size) →
        l.filterMap (fun (k : Nat) => xs[(((xs.size : Int) - 1) + (k : Int) * -1).toNat]?) = l.filterMap ((fun i => xs[i]?) ∘ fun k => xs.size - 1 - k) := by
      intro l
      induction l with
      | nil => intro _; rfl
      | cons a r ih =>
        intro hl
        have ha : a < xs.size := hl a List.mem_cons_self
        have e1 : (((xs.size : Int) - 1) + (a : Int) * -1).toNat = xs.size - 1 - a := by omega
        rw [List.filterMap_cons, List.filterMap_cons, ih fun k hk => hl k (List.mem_cons_of_mem _ hk), e1]
        rfl
    exact key _ fun k hk => List.mem_range.mp hk
  rw [e, PySem.W.krv_range, List.filterMap_reverse, PySem.W.krv_all]

theorem revSlice {prog : Program} {w : World} {A : Around} {E : Value → Shared → Prop} {s : Shared}
    {t sl : Addr} {items : Array Value} {vl vu vs : Value} {Q : Value → Shared → Prop}
    (ht : IsTup s.heap t items) (hs : s.heap.IsSliceOf sl vl vu vs)
    (pl : IsPart vl none) (pu : IsPart vu none) (ps : IsPart vs (some (-1)))
    (hsz : items.size ≤ sizeLine)
    (h : Q (.ref s.heap.objs.size)
      { s with heap := s.heap.push { cls := .type "tuple", data := .seq items.toList.reverse.toArray } }) :
    wpAny (model prog w) A (getItem (.ref t) (.ref sl)) Q E s := by
  obtain ⟨os, hos, hcs, hds⟩ := id hs
  have hTs : s.TypeIs (.ref sl) "slice" := ⟨os, hos, hcs⟩
  unfold getItem
  try with_reducible refine wpAny_holding ?_
  first
    | refine wpAny_bind (wpAny_pure ?_)
    | skip
  refine wpAny_bind
    (wpAny_sequenceKey ht.typeIs (by decide) ?_)
  refine wpAny_bind (wpAny_callSpecial?_slot
    (name := Str.ofString "__getitem__") ht.typeIs
    PyProof.Rows.slot_tuple_getitem
    (wpAny_call_entry
      PyProof.Rows.slot_tuple_getitem ht.typeIs
      entry_tuple_getitem ?_ (args_tuple_getitem _ _)))
  show wpAny _ _ (Builtin.Tuple.tupleItemsOf
    (.ref t) >>= _) _ _ s
  refine wpAny_bind (tupleItemsOf_ ht ?_)
  refine wpAny_bind (wpAny_typeOf hTs ?_)
  rw [if_pos (by decide)]
  have hap : wpAny (model prog w) A.in1 (Builtin.Slice.sliceApplied (.ref sl) (pure (items.size : Int)))
      (fun r s' => r = ((items.size : Int) - 1, -1, items.size) ∧ s' = s) E s := by
    unfold Builtin.Slice.sliceApplied Builtin.Slice.sliceFields
    refine wpAny_bind (wpAny_bind (wpAny_field hos hds (x := vl) rfl ?_))
    refine wpAny_bind (wpAny_field hos hds (x := vu) rfl ?_)
    refine wpAny_bind (wpAny_field hos hds (x := vs) rfl (wpAny_pure ?_))
    refine wpAny_bind (HT.slicePart_ ps ?_)
    show wpAny _ _ (if ((-1 : Int) == 0) = true then _ else _) _ _ s
    rw [if_neg (by decide)]
    refine wpAny_bind (HT.slicePart_ pl ?_)
    refine wpAny_bind (HT.slicePart_ pu ?_)
    refine wpAny_bind (wpAny_pure ?_)
    refine wpAny_pure ⟨?_, rfl⟩
    show (((items.size : Int) - 1, (-1 : Int), Builtin.Slice.slicePlaces ((items.size : Int) - 1) (-1) (-1)) : Int × Int × Nat) = _
    have : Builtin.Slice.slicePlaces ((items.size : Int) - 1) (-1) (-1) = items.size := by
      unfold Builtin.Slice.slicePlaces
      rw [if_neg (by decide)]
      rw [show (-(-1) : Int) = 1 by decide, Int.ediv_one]
      split <;> omega
    rw [this]
  refine wpAny_bind (thn hap fun r s1 hr => ?_)
  obtain ⟨rfl, rfl⟩ := hr
  show wpAny _ _ (if (((items.size : Int) - 1) == 0 && (-1 : Int) == 1 && items.size == items.size) = true then _ else _) _ _ _
  rw [if_neg (by simp)]
  rw [revPick]
  have hsz2 : sizeOk (.seq items.toList.reverse.toArray) := by
    show items.toList.reverse.toArray.size ≤ sizeLine
    simpa using hsz
  first
    | exact wpAny_bind (m := Builtin.Tuple.tupleExact _)
        (wpAny_newObj_type (wpAny_pure ⟨_, rfl, wpAny_pure h⟩) hsz2)
    | exact wpAny_bind (m := Builtin.Tuple.tupleExact _)
        (wpAny_newObj_type (wpAny_bind
          (wpAny_pure (wpAny_pure ⟨_, rfl, wpAny_pure h⟩))) hsz2)
    | exact wpAny_bind (wpAny_bind (m := Builtin.Tuple.tupleExact _)
        (wpAny_newObj_type (wpAny_pure
          (wpAny_pure ⟨_, rfl, wpAny_pure h⟩)) hsz2))
    | exact wpAny_bind (wpAny_bind (m := Builtin.Tuple.tupleExact _)
        (wpAny_newObj_type
          (wpAny_pure ⟨_, rfl, wpAny_pure h⟩) hsz2))

abbrev sliceLaid (s : Shared) (u v z : Value) : Shared := { s with heap := s.heap.push { cls := .type "slice", data := .fields #[u, v, z] } }
/-- t[::-1] of a tuple -/
def tRevT (K : PySem.W.Frag) (te : TE) : TE := fun σ H Q => te σ H fun x H1 => ∃ a xs, x = .ref a ∧ SqT K H1 a xs ∧
  ∀ p, H1 p = none → Q (.ref p) (upd H1 p (.tup xs.reverse))
theorem pe_revT {X : Cx} {e : Expr} {te : TE} {k : Nat} {p1 p2 p3 pos : Pos} (he : PE X e te) :
    PE X (.Subscript e (.Slice none none (some (.UnaryOp .USub (.Constant (.int 1) k p1) p2)) p3) pos) (tRevT X.K te) := by
  refine ⟨fun pins s σ H Q I h => ?_⟩
  refine Subscript_ (thn (he.run pins s σ H _ I h)
    fun v s1 ⟨x, H1, I1, r1, q1⟩ => ?_)
  obtain ⟨a, xs, ex, hx, q⟩ := q1
  subst ex
  cases r1
  have hst : PO X (some (.UnaryOp .USub (.Constant (.int 1) k p1) p2))
      (tPart (tUn (rU fun i => .int (-i)) (tC (.int 1)))) :=
    po_some (pe_un un_neg pe_int)
  refine wpAny_Slice (thn (po_none.run pins s1 σ H1
    (fun o H2 => o = none ∧ H2 = H1) I1 ⟨rfl, rfl⟩)
    fun vl s2 ⟨l, H2, I2, pl, el, e2⟩ => ?_)
  subst el e2
  refine thn (po_none.run pins s2 σ H2
    (fun o H3 => o = none ∧ H3 = H2) I2 ⟨rfl, rfl⟩)
    fun vu s3 ⟨u, H3, I3, pu, eu, e3⟩ => ?_
  subst eu e3
  refine thn (hst.run pins s3 σ H3
    (fun o H4 => o = some (-1) ∧ H4 = H3) I3
    ⟨1, rfl, -1, rfl, rfl, rfl⟩)
    fun vs s4 ⟨o, H4, I4, ps, eo, e4⟩ => ?_
  subst eo e4
  have I5 : L2.Inv X pins σ H4 (sliceLaid s4 vl vu vs) := I4.kept (t' := s4.toks) fun b ob q => Heap.get?_push_of_some _ q
  obtain ⟨its, r, ht, hz⟩ := I5.tuple hx
  have hlen := r.length
  show wpAny (model X.prog X.w) X.A (subscriptTail e (.Slice none none
    (some (.UnaryOp .USub (.Constant (.int 1) k p1) p2)) p3)
    (.ref a) (.ref s4.heap.objs.size)) (EP X pins σ Q) X.xe (sliceLaid s4 vl vu vs)
  refine tail_any (ops := [.ref a, .ref s4.heap.objs.size])
    ht.typeIs PyProof.Rows.slot_tuple_getitem.lookup ?_
    (by with_unfolding_all rfl)
  refine revSlice ht (Heap.IsSliceOf.new _ vl vu vs) pl pu ps
    (by rw [List.size_toArray]; omega) ?_
  refine ⟨.ref _, _, I5.laid (t' := s4.toks) (o := .tup xs.reverse)
    (fun b ob q => Heap.get?_push_of_some _ q) (Nat.le_refl _) ?_,
    rfl, q _ (I5.hok.fresh (Nat.le_refl _))⟩
  exact ⟨by rw [List.length_reverse]; exact hz, _, r.reverse, IsTup.new _ _⟩
end Sfl
namespace Sfl
open PySem PySem.Spec PyProof.Rows L2

abbrev enumLaid (s : Shared) (t : Addr) : Shared := { s with heap := (s.heap.push { cls := .type "tuple_iterator", data := .fields #[.ref t, .int 0 0] }).push { cls := .type "enumerate", data := .fields #[.none, .bool false, .ref s.heap.objs.size, rawInt 0, .none, .none] } }
set_option maxHeartbeats 1000000 in
theorem enumNewT (t : Addr) (items : Array Value) :
    Meets (Builtin.«enumerate.__new__» ⟨[.type "enumerate", .ref t], []⟩) (fun _ R s => s.heap.IsTuple t items ∧
      R (.ok (.ret (.ref (s.heap.push { cls := .type "tuple_iterator", data := .fields #[.ref t, .int 0 0] }).objs.size)))
        (enumLaid s t)) :=
  .of_wp fun prog w A R s h => by
    obtain ⟨hp, g, d, tk, os⟩ := s
    obtain ⟨h1, h⟩ := h
    have hsub := sub_enumerate
    have q1 : ∀ {A' : Around} {E : Value → Shared → Prop} {Q : Value → Shared → Prop},
        Q (.ref hp.objs.size) ⟨hp.push { cls := .type "tuple_iterator", data := .fields #[.ref t, .int 0 0] }, g, d, tk, os⟩ →
        wpAny (model prog w) A' (pyIter (.ref t)) Q E ⟨hp, g, d, tk, os⟩ := fun q => wpAny_pyIter_tuple h1 q
    wp_walk using q1
    refine wpAny_stack_any fun st => wpAny_pure ?_
    split
    · rename_i c _ _ _ _ _
      cases (c == Value.type "enumerate") <;>
        (wp_walk using q1; exact ⟨_, rfl, h⟩)
    · wp_walk using q1
      exact ⟨_, rfl, h⟩

theorem call_enumT {prog : Program} {w : World} {A : Around} {E : Value → Shared → Prop} {s : Shared} {t : Addr} {items : Array Value} {Q : Value → Shared → Prop} (hL : s.heap.IsTuple t items)
    (h : ∀ h', IsEnum h' (s.heap.objs.size + 1) s.heap.objs.size 0 .none → h'.IsTupleIter s.heap.objs.size t 0 →
      (∀ b o, s.heap.get? b = some o → h'.get? b = some o) → Q (.ref (s.heap.objs.size + 1)) { s with heap := h' }) :
    wpAny (model prog w) A (call (.type "enumerate") [.ref t]) Q E s := by
  refine callType_new F.called_enumerate (by decide)
    (F.typeCall_enumerate_1 _) (F.newCall_enumerate_1 _)
    (fun obj => F.args_object_init_2 obj _)
    F.entry_enumerate_new (enumNewT t items) ⟨hL, ?_⟩
  generalize ho : ({ cls := .type "tuple_iterator", data := .fields #[.ref t, .int 0 0] } : Obj) = oi
  have hf : oi.isFreed = false := by rw [← ho]; rfl
  have hz : (s.heap.push oi).objs.size = s.heap.objs.size + 1 := Heap.size_push ..
  unfold enumLaid
  rw [ho, hz]
  generalize hq : ({ cls := .type "enumerate", data := .fields #[.none, .bool false, .ref s.heap.objs.size, rawInt 0, .none, .none] } : Obj) = oe
  have he : IsEnum ((s.heap.push oi).push oe) (s.heap.objs.size + 1) s.heap.objs.size 0 .none := by
    have := Heap.get?_push_size (s.heap.push oi) (o := oe) (by rw [← hq]; rfl)
    rw [hz] at this
    show Heap.get? _ _ = some _
    rw [this, ← hq]
  refine ⟨⟨_, he, rfl⟩, h _ he ⟨oi, Heap.get?_push_of_some _ (Heap.get?_push_size _ hf), by rw [← ho], by rw [← ho]; rfl⟩ ?_⟩
  · exact fun b o x => Heap.get?_push_of_some _ (Heap.get?_push_of_some _ x)

/-- enumerate over the tuple at a: each item in a new pair -/
def ItEt (K : PySem.W.Frag) (a : Addr) : It :=
  ⟨fun i H => ∃ (xs : List V) (x : V), SqT K H a xs ∧ xs[i]? = some x,
    fun i H v H' => ∃ T x, v = .ref T ∧ H T = none ∧ H' = upd H T (.tup [.int (i : Nat), x]) ∧ ∀ xs, SqT K H a xs → xs[i]? = some x,
    fun i H => ∃ xs : List V, SqT K H a xs ∧ xs.length = i⟩
theorem turn_enumT {P : Program} {w : World} {K : PySem.W.Frag} {elts : List Expr} {kk : Nat} {tpos : Pos} (a e it : Addr) :
    Turn P w K (.Tuple elts kk tpos) (ItEt K a) [e, it] e
      (fun i h => (∃ old, IsEnum h e it ((i : Nat) : Int) old) ∧ h.IsTupleIter it a i ∧ e ≠ it ∧ a ≠ it ∧ e ≠ a) where
  mem := by simp
  obj := fun i h st b hb => by
    obtain ⟨⟨old, he⟩, ⟨o, ho, hc, hd⟩, _⟩ := st
    have e' : b = e ∨ b = it := by simpa using hb
    rcases e' with z | z <;> subst z
    · exact ⟨_, he, fun v q => nomatch q⟩
    · refine ⟨o, ho, fun v q => ?_⟩
      rw [hd] at q
      cases q
  keep := fun i h h' st k => by
    obtain ⟨⟨old, he⟩, hi, hne⟩ := st
    exact ⟨⟨old, k e (by simp) _ he⟩, hi.at fun o q => k it (by simp) o q, hne⟩
  item := by
    intro X hP hw hK hc i pins s σ H E I hf st hg
    subst hP hw hK
    obtain ⟨⟨old, he⟩, hit, hne, hat, hea⟩ := st
    obtain ⟨xs, x, hq, hx⟩ := hg
    obtain ⟨its, rv, p, hz⟩ := I.tuple hq
    obtain ⟨u, hu, ru⟩ := rv.get hx
    have hel : e < s.heap.objs.size := Heap.lt_size he
    have hil : it < s.heap.objs.size := by
      obtain ⟨_, q, _⟩ := hit
      exact Heap.lt_size q
    have D := Draws.tuple (prog := X.prog) (w := X.w) (A := X.A.in1) (I.ok.hd hc) it a hat its.toArray
    have hlt : i < its.toArray.size := by
      have := (List.getElem?_eq_some_iff.mp hu).1
      simpa using this
    refine wpAny_pyNext_enum_itemD D he ⟨hit, p⟩ hlt hne (by simp [hne, hea]) fun u' h' tk hP ho hst' hT hsz hk => ?_
    have eu : u' = u := by
      have : its.toArray[i]? = some u := by simpa using hu
      rw [this] at hP
      exact (Option.some.inj hP).symm
    subst eu
    refine ⟨_, rfl, wpAny_letOwnedTupleGo_enum (s := { s with heap := h', toks := tk + 1 }) ho fun h'' he' sb => ?_⟩
    have hT2 : h''.get? s.heap.objs.size = some { cls := .type "tuple", data := .seq #[.int i tk, u'] } := (sb.2 _ (Nat.ne_of_gt hel)).trans hT
    generalize hH2 : upd H s.heap.objs.size (.tup [.int (i : Nat), x]) = H2
    have new : ObjOk X.prog X.w H2 h'' s.heap.objs.size (.tup [.int (i : Nat), x]) :=
      ⟨by show 2 ≤ sizeLine; decide, [.int i tk, u'], .cons ⟨_, rfl⟩ (.cons ru .nil), ⟨_, hT2, rfl, _, rfl⟩⟩
    have I1 : L2.Inv X pins σ H2 { s with heap := h'', toks := tk + 1 } := by
      subst hH2
      exact I.turnedNew (ch := [e, it]) (fun b ob hb q => (sb.2 b (fun z => hb (by simp [z]))).trans
        (hk b ob (fun z => hb (by simp [z])) (fun z => hb (by simp [z])) q)) hf (Nat.le_refl _) new
    refine ⟨.ref s.heap.objs.size, _, I1, rfl, ⟨_, x, rfl, I.hok.fresh (Nat.le_refl _), hH2.symm, fun ys hy => ?_⟩, ⟨⟨u', ?_⟩, ?_, hne, hat, hea⟩, fun b hb => ?_⟩
    · rw [I.tuple_inj hy hq]
      exact hx
    · have e1 : ((i + 1 : Nat) : Int) = (i : Int) + 1 := by omega
      rw [e1]
      exact he'
    · exact hst'.1.at fun o q => (sb.2 it (Ne.symm hne)).trans q
    · have hb' : b < s.heap.objs.size := by
        have e' : b = e ∨ b = it := by simpa using hb
        rcases e' with z | z <;> subst z
        · exact hel
        · exact hil
      rw [← hH2, upd_ne (Nat.ne_of_lt hb')]
      exact (hf b hb).1
  done := by
    intro X hP hw hK hc i pins s σ H E I hf st hg
    subst hP hw hK
    obtain ⟨⟨old, he⟩, hit, hne, hat, hea⟩ := st
    obtain ⟨xs, hq, hx⟩ := hg
    obtain ⟨its, rv, p, hz⟩ := I.tuple hq
    obtain ⟨f0, f1, f2, f3, f4, f5⟩ := hf it (by simp)
    have hl := rv.length
    have D := Draws.tuple (prog := X.prog) (w := X.w) (A := X.A.in1) (I.ok.hd hc) it a hat its.toArray
    have en : its.toArray.size = i := by simpa using hl.symm.trans hx
    refine wpAny_pyNext_enum_endD D he ⟨by rw [en]; exact hit, p⟩ fun h' eb => ?_
    exact ⟨rfl, I.turned (t' := s.toks) (fun b o hb q => eb b o hb q) f0 f1 f3 f4 f5⟩
  self := fun A i s Q E st h => by
    obtain ⟨⟨_, he⟩, _⟩ := st
    exact wpAny_pyIter_enum he h
def iEnumT (K : PySem.W.Frag) (ta : TA) : TI := fun σ H R => ta σ H fun vs H1 => ∃ a xs, vs = [.ref a] ∧ SqT K H1 a xs ∧ R (ItEt K a) H1
theorem pi_enumT {X : Cx} {e : Expr} {ta : TA} {p pos tpos : Pos} {elts : List Expr} {kk : Nat} (hg : Gl X "enumerate") (hm : X.mg "enumerate" = none) (ha : PA X [e] ta)
    (hs : starEach [e] X.env = [(false, eval e X.env)] := by rfl) :
    PI X (.Tuple elts kk tpos) (.Call (.Name "enumerate" p) [e] [] pos) (iEnumT X.K ta) := by
  refine ⟨fun pins s σ H R I h => ?_⟩
  refine Call_ (ld_blt I hg hm boot_enumerate (PyProof.Rows.callWith_type1
    (thn (ha.run pos pins s σ H _ I h) fun us s1 ⟨vs, H1, I1, r1, q1⟩ => ?_) hs rfl))
  obtain ⟨a, xs, ex, hq, q⟩ := q1
  subst ex
  cases r1 with
  | cons r rr =>
    cases rr
    cases r
    obtain ⟨its, rv, p', hz⟩ := I1.tuple hq
    have hal : a < s1.heap.objs.size := by
      obtain ⟨o, e, _⟩ := id p'
      exact Heap.lt_size e
    refine call_enumT p' fun h' he hit hk => wpAny_pyIter_enum he ?_
    have I2 : L2.Inv X pins σ H1 { s1 with heap := h' } := I1.kept (t' := s1.toks) hk
    refine ⟨s1.heap.objs.size + 1, [s1.heap.objs.size + 1, s1.heap.objs.size], _, _, H1, rfl, I2,
      turn_enumT a (s1.heap.objs.size + 1) s1.heap.objs.size,
      ⟨⟨.none, he⟩, hit, Nat.succ_ne_self _, Nat.ne_of_lt hal, (Nat.ne_of_lt (Nat.lt_succ_of_lt hal)).symm⟩, fun b hb => ?_, q⟩
    have hle : s1.heap.objs.size ≤ b := by
      have e' : b = s1.heap.objs.size + 1 ∨ b = s1.heap.objs.size := by simpa using hb
      rcases e' with z | z <;> subst z
      · exact Nat.le_add_right _ _
      · exact Nat.le_refl _
    exact I1.fpOk hle (I1.hok.fresh hle)
end Sfl
namespace Sfl
open PySem PySem.Spec PyProof.Rows L2
theorem for_enumT {K : PySem.W.Frag} {a : Addr} {xs : List V} {g : TG} {tb : TS} {D : Ends} {σ : L2.St} {H : Hp} (Pv : Nat → L2.St → Hp → Prop) (h0 : Pv 0 σ H) (hl : ∀ i σ H, i ≤ xs.length → Pv i σ H → SqT K H a xs)
    (hs : ∀ (i : Nat) (x : V) (T : Addr) (σ : L2.St) (H : Hp), xs[i]? = some x → Pv i σ H → H T = none →
      g (.ref T) σ (upd H T (.tup [.int (i : Nat), x])) fun σ2 H2 => tb { D with nx := Pv (i + 1), ct := Pv (i + 1), bk := D.nx } σ2 H2)
    (hd : ∀ σ H, Pv xs.length σ H → D.nx σ H) :
    ∃ W : Nat → Nat → L2.St → Hp → Prop, (∃ m, W 0 m σ H) ∧ ∀ i m σ H, W i m σ H →
      ((ItEt K a).stop i H ∧ D.nx σ H) ∨ ((ItEt K a).go i H ∧ ∃ N : L2.St → Hp → Prop, (∀ σ' H', N σ' H' → ∃ m', m' < m ∧ W (i + 1) m' σ' H') ∧
        ∀ v H', (ItEt K a).yld i H v H' → g v σ H' fun σ2 H2 => tb { D with nx := N, ct := N, bk := D.nx } σ2 H2) := by
  refine ⟨fun i m σ H => m = xs.length - i ∧ i ≤ xs.length ∧ Pv i σ H, ⟨xs.length, by simp, Nat.zero_le _, h0⟩, ?_⟩
  rintro i m σ H ⟨rfl, hi, p⟩
  have q := hl i σ H hi p
  by_cases hlt : i < xs.length
  · refine .inr ⟨⟨xs, xs[i], q, by simp [hlt]⟩, Pv (i + 1), fun σ' H' p' => ⟨xs.length - (i + 1), by omega, rfl, hlt, p'⟩, fun v H' y => ?_⟩
    obtain ⟨T, x, rfl, hT, rfl, f⟩ := y
    exact hs i x T σ H (f xs q) p hT
  · have e : i = xs.length := by omega
    subst e
    exact .inl ⟨⟨xs, q, rfl⟩, hd σ H p⟩
/-- .. with a break: what holds behind the loop is shown once -/
theorem for_enumTB {K : PySem.W.Frag} {a : Addr} {xs : List V} {g : TG} {tb : TS} {D : Ends} {σ : L2.St} {H : Hp} (Pv : Nat → L2.St → Hp → Prop) (Bk : L2.St → Hp → Prop) (h0 : Pv 0 σ H) (hl : ∀ i σ H, i ≤ xs.length → Pv i σ H → SqT K H a xs)
    (hs : (∀ σ H, Bk σ H → D.nx σ H) → ∀ (i : Nat) (x : V) (T : Addr) (σ : L2.St) (H : Hp), xs[i]? = some x → Pv i σ H → H T = none →
      g (.ref T) σ (upd H T (.tup [.int (i : Nat), x])) fun σ2 H2 => tb { D with nx := Pv (i + 1), ct := Pv (i + 1), bk := D.nx } σ2 H2)
    (hd : ∀ σ H, Pv xs.length σ H → Bk σ H) (hb : ∀ σ H, Bk σ H → D.nx σ H) :
    ∃ W : Nat → Nat → L2.St → Hp → Prop, (∃ m, W 0 m σ H) ∧ ∀ i m σ H, W i m σ H →
      ((ItEt K a).stop i H ∧ D.nx σ H) ∨ ((ItEt K a).go i H ∧ ∃ N : L2.St → Hp → Prop, (∀ σ' H', N σ' H' → ∃ m', m' < m ∧ W (i + 1) m' σ' H') ∧
        ∀ v H', (ItEt K a).yld i H v H' → g v σ H' fun σ2 H2 => tb { D with nx := N, ct := N, bk := D.nx } σ2 H2) :=
  for_enumT Pv h0 hl (hs hb) fun σ H p => hb σ H (hd σ H p)
end Sfl
namespace Sfl
open PySem PySem.Spec PyProof.Rows L2

/-! ### plain words -/
def Nm (z : Str) : Bool := if z.length > 8 then false else (if Txt.isascii z then (if Txt.isalpha z then Txt.islower z else false) else false)
def nV (n : Nat) : V := .int (n : Nat)
/-- a tuple of texts stands at p -/
abbrev Tp (H : Hp) (p : Addr) (l : List Str) : Prop := H p = some (.tup (l.map V.str))
abbrev Ip (H : Hp) (p : Addr) (l : List Nat) : Prop := H p = some (.tup (l.map nV))
/-- all but a is as it was -/
def Kp (a : Addr) (H H' : Hp) : Prop := ∀ b o, b ≠ a → H b = some o → H' b = some o
theorem Kp.refl (a : Addr) (H : Hp) : Kp a H H := fun _ _ _ h => h
theorem Kp.trans {a : Addr} {H H1 H2 : Hp} (x : Kp a H H1) (y : Kp a H1 H2) : Kp a H H2 := fun b o n h => y b o n (x b o n h)
theorem Kp.of {a : Addr} {H H' : Hp} (s : Same H H') : Kp a H H' := fun b o _ h => s b o h
theorem same_upd {H : Hp} {p : Addr} {o : HO} (h : H p = none) : Same H (upd H p o) := fun b x e => by
  rw [upd_ne (ne_of_none e h)]
  exact e
theorem kp_upd {H : Hp} {a : Addr} {o : HO} : Kp a H (upd H a o) := fun b x n e => by
  rw [upd_ne n]
  exact e
/-- greedy places -/
def gr : List Str → List Str → Nat → List Nat
  | [], _, _ => []
  | _ :: _, [], _ => []
  | x :: xs, y :: ys, i => if y = x then i :: gr xs ys (i + 1) else gr (x :: xs) ys (i + 1)
theorem gr_nil (o : List Str) (i : Nat) : gr [] o i = [] := by
  cases o <;> rfl
theorem gr_end (l : List Str) (i : Nat) : gr l [] i = [] := by
  cases l <;> rfl
theorem gr_le : ∀ (l o : List Str) (i : Nat), (gr l o i).length ≤ l.length
  | [], o, i => by rw [gr_nil]; exact Nat.le_refl _
  | x :: xs, [], i => Nat.zero_le _
  | x :: xs, y :: ys, i => by
    unfold gr
    by_cases h : y = x
    · rw [if_pos h]
      exact Nat.succ_le_succ (gr_le xs ys (i + 1))
    · rw [if_neg h]
      exact gr_le (x :: xs) ys (i + 1)
/-- one turn -/
theorem gr_step {l o : List Str} {k i : Nat} {y : Str} (hk : k < l.length) (hi : o[i]? = some y) :
    gr (l.drop k) (o.drop i) i = if y = l[k] then i :: gr (l.drop (k + 1)) (o.drop (i + 1)) (i + 1) else gr (l.drop k) (o.drop (i + 1)) (i + 1) := by
  obtain ⟨h1, h2⟩ := List.getElem?_eq_some_iff.mp hi
  have e1 : l.drop k = l[k] :: l.drop (k + 1) := List.drop_eq_getElem_cons hk
  have e2 : o.drop i = y :: o.drop (i + 1) := by
    rw [List.drop_eq_getElem_cons h1, h2]
  rw [e1, e2]
  rfl
/-! ### rules that name the written part -/
def rLenK (K : PySem.W.Frag) : List V → Hp → VK → Prop := fun xs H Q => ∃ p ys, xs = [.ref p] ∧ (SqL K H p ys ∨ SqT K H p ys) ∧ Q (.int ys.length) H
theorem lenK {X : Cx} (K : PySem.W.Frag) (h : X.K = K := by rfl) : CallR X (.builtin "len") (rLenK K) := by
  subst h
  exact call_len_seq
theorem ixTK {X : Cx} (K : PySem.W.Frag) (h : X.K = K := by rfl) : IxR X (rIxT K) := by
  subst h
  exact ix_tup
theorem ixLK {X : Cx} (K : PySem.W.Frag) (h : X.K = K := by rfl) : IxR X (rIxL K) := by
  subst h
  exact ix_list
theorem catK {X : Cx} (K : PySem.W.Frag) (h : X.K = K := by rfl) : OpR X (binaryOp .Add) (rCatA K) := by
  subst h
  exact op_catA
theorem minK {X : Cx} (K : PySem.W.Frag) (hc : X.calm = true := by rfl) (h : X.K = K := by rfl) : CallR X (.builtin "min") (rMin K) := by
  subst h
  exact cr_min hc
theorem maxK {X : Cx} (K : PySem.W.Frag) (hc : X.calm = true := by rfl) (h : X.K = K := by rfl) : CallR X (.builtin "max") (rMax K) := by
  subst h
  exact cr_max hc
end Sfl
namespace Sfl
open PySem PySem.Spec PyProof.Rows L2
theorem sqt {K : PySem.W.Frag} {H : Hp} {p : Addr} {xs : List V} (h : H p = some (.tup xs)) : SqT K H p xs := .inl (.inl h)
theorem sql {K : PySem.W.Frag} {H : Hp} {p : Addr} {xs : List V} (h : H p = some (.lst xs)) : SqL K H p xs := .inl (.inl h)
/-! ### slices and sums of tuples, whatever object they are -/
def rSlS : V → Option Int → Option Int → Hp → VK → Prop := fun x lo hi H Q => ∃ a xs, x = .ref a ∧ H a = some (.tup xs) ∧
  ∀ p H', Same H H' → H' p = some (.tup (cutV xs lo hi)) → Q (.ref p) H'
theorem cutV_whole {xs : List V} {lo hi : Option Int} (h : HT.sIx xs.length 0 lo = 0 ∧ HT.sIx xs.length xs.length hi = xs.length) : cutV xs lo hi = xs := by
  unfold cutV
  rw [h.1, h.2, List.drop_zero, Nat.sub_zero, List.take_length]
theorem sl_tupS {X : Cx} : SlR X rSlS := by
  intro pins s σ H x v vl vu lo hi sl Q I rx hs pl pu h
  obtain ⟨a, xs, rfl, hx, q⟩ := h
  refine sl_tupA pins s σ H _ v vl vu lo hi sl Q I rx hs pl pu ⟨a, xs, rfl, sqt hx, fun hw => ?_, fun hw p hp => ?_⟩
  · exact q a H (Same.refl H) (by rw [cutV_whole hw]; exact hx)
  · exact q p _ (same_upd hp) upd_same
def rCatS : R2 := fun x y H Q => ∃ a b xs ys, x = .ref a ∧ y = .ref b ∧ H a = some (.tup xs) ∧ H b = some (.tup ys) ∧ xs.length + ys.length ≤ sizeLine ∧
  ∀ p H', Same H H' → H' p = some (.tup (xs ++ ys)) → Q (.ref p) H'
theorem op_catS {X : Cx} : OpR X (binaryOp .Add) rCatS := by
  intro pins s σ H x y v u Q I rx ry h
  obtain ⟨a, b, xs, ys, rfl, rfl, ha, hb, hz, q⟩ := h
  refine op_catA pins s σ H _ _ v u Q I rx ry ⟨a, b, xs, ys, rfl, rfl, sqt ha, sqt hb, hz, fun e => ?_, fun _ e => ?_, fun _ _ p hp => ?_⟩
  · subst e
    exact q b H (Same.refl H) hb
  · subst e
    exact q a H (Same.refl H) (by rw [List.append_nil]; exact ha)
  · exact q p _ (same_upd hp) upd_same
theorem cut_take (xs : List V) (k : Nat) (h : k ≤ xs.length) : cutV xs none (some (k : Int)) = xs.take k := by
  unfold cutV
  rw [HT.sIx_none, HT.sIx_nat, Nat.min_eq_left h, Nat.sub_zero, List.drop_zero]
theorem cut_drop (xs : List V) (k : Nat) (h : k ≤ xs.length) : cutV xs (some (k : Int)) none = xs.drop k := by
  unfold cutV
  rw [HT.sIx_none, HT.sIx_nat, Nat.min_eq_left h]
  apply List.take_of_length_le
  rw [List.length_drop]
  exact Nat.le_refl _
/-! ### data -/
theorem all_strs {K : PySem.W.Frag} {H : Hp} : ∀ l : List Str, DpAll K H (l.map V.str) (l.map PyData.str)
  | [] => .nil
  | x :: r => .cons (.str x) (all_strs r)
theorem all_ints {K : PySem.W.Frag} {H : Hp} : ∀ l : List Nat, DpAll K H (l.map nV) (l.map fun n => PyData.int (n : Nat))
  | [] => .nil
  | x :: r => .cons (.int _) (all_ints r)
theorem dp_tp {K : PySem.W.Frag} {H : Hp} {p : Addr} {l : List Str} (h : Tp H p l) : Dp K H (.ref p) (.tuple (l.map PyData.str)) := .tup (sqt h) (all_strs l)
theorem dp_ip {K : PySem.W.Frag} {H : Hp} {p : Addr} {l : List Nat} (h : Ip H p l) : Dp K H (.ref p) (.tuple (l.map fun n => PyData.int (n : Nat))) := .tup (sqt h) (all_ints l)
theorem nm_ok {z : Str} (h : Nm z = true) : PyData.strOk z = true := by
  unfold Nm at h
  by_cases c : z.length > 8
  · rw [if_pos c] at h
    cases h
  · rw [if_neg c] at h
    cases e : Txt.isascii z with
    | false =>
      rw [e] at h
      cases h
    | true =>
      unfold Txt.isascii at e
      unfold PyData.strOk
      rw [Array.all_eq_true] at e ⊢
      intro i hi
      have := e i hi
      simp only [decide_eq_true_eq] at this ⊢
      omega
theorem flat_strs : ∀ l : List Str, (∀ z ∈ l, PyData.strOk z = true) → PyData.canLayAll0 (l.map PyData.str) = true ∧ PyData.depthAll (l.map PyData.str) = 0
  | [], _ => ⟨rfl, rfl⟩
  | x :: r, h => by
    have ih := flat_strs r fun z hz => h z (List.mem_cons_of_mem _ hz)
    have hx := h x List.mem_cons_self
    constructor
    · show (PyData.canLay0 (.str x) && PyData.canLayAll0 (r.map PyData.str)) = true
      rw [ih.1]
      show (PyData.strOk x && true) = true
      rw [hx]
      rfl
    · show max (PyData.depth (.str x)) (PyData.depthAll (r.map PyData.str)) = 0
      rw [ih.2]
      rfl
theorem flat_ints : ∀ l : List Nat, PyData.canLayAll0 (l.map fun n => PyData.int (n : Nat)) = true ∧ PyData.depthAll (l.map fun n => PyData.int (n : Nat)) = 0
  | [] => ⟨rfl, rfl⟩
  | x :: r => by
    have ih := flat_ints r
    constructor
    · show (PyData.canLay0 (.int x) && PyData.canLayAll0 (r.map fun n => PyData.int (n : Nat))) = true
      rw [ih.1]
      rfl
    · show max (PyData.depth (.int x)) (PyData.depthAll (r.map fun n => PyData.int (n : Nat))) = 0
      rw [ih.2]
      rfl
theorem shaped_of {d : PyData} {n : Nat} (h : d.canLay0 = true) (h2 : d.depth = n) (h3 : n ≤ 64) : SeqAt.shaped d = true := by
  unfold SeqAt.shaped
  rw [h, h2, decide_eq_true h3]
  rfl
theorem shL {ds : List PyData} (h : PyData.canLayAll0 ds = true ∧ PyData.depthAll ds = 0) : SeqAt.shaped (.list ds) = true :=
  shaped_of (n := 1) h.1 (by show PyData.depthAll ds + 1 = 1; rw [h.2]) (by decide)
theorem shT {ds : List PyData} (h : PyData.canLayAll0 ds = true ∧ PyData.depthAll ds = 0) : SeqAt.shaped (.tuple ds) = true :=
  shaped_of (n := 1) h.1 (by show PyData.depthAll ds + 1 = 1; rw [h.2]) (by decide)
/-- a list, or a tuple, of these things -/
def It' (H : Hp) (p : Addr) (xs : List V) : Prop := H p = some (.lst xs) ∨ H p = some (.tup xs)
theorem It'.kp {a p : Addr} {H H' : Hp} {xs : List V} (h : It' H p xs) (x : Kp a H H') (hn : p ≠ a) : It' H' p xs := by
  rcases h with h | h
  · exact .inl (x p _ hn h)
  · exact .inr (x p _ hn h)
theorem It'.same {p : Addr} {H H' : Hp} {xs : List V} (h : It' H p xs) (x : Same H H') : It' H' p xs := by
  rcases h with h | h
  · exact .inl (x p _ h)
  · exact .inr (x p _ h)
theorem It'.sq {K : PySem.W.Frag} {H : Hp} {p : Addr} {xs : List V} (h : It' H p xs) : SqL K H p xs ∨ SqT K H p xs := by
  rcases h with h | h
  · exact .inl (sql h)
  · exact .inr (sqt h)
theorem It'.ix {K : PySem.W.Frag} {H : Hp} {p : Addr} {xs : List V} {i : Nat} {v : V} {Q : VK} (h : It' H p xs) (hv : xs[i]? = some v) (q : Q v H) : rIx K (.ref p) (.int (i : Int)) H Q := by
  rcases h with h | h
  · exact .inl ⟨p, xs, _, v, rfl, rfl, sql h, atI_nat hv, q⟩
  · exact .inr (.inl ⟨p, xs, _, v, rfl, rfl, sqt h, atI_nat hv, q⟩)
end Sfl
namespace Sfl
open PySem PySem.Spec PyProof.Rows L2
theorem piLK {X : Cx} {tg l : Expr} {tl : TE} (K : PySem.W.Frag) (hl : PE X l tl) (h : X.K = K := by rfl) : PI X tg l (iList K tl) := by
  subst h
  exact pi_list hl
theorem piTK {X : Cx} {tg l : Expr} {tl : TE} (K : PySem.W.Frag) (hl : PE X l tl) (h : X.K = K := by rfl) : PI X tg l (iTup K tl) := by
  subst h
  exact pi_tup hl
/-! ### parts of the text -/
def asgVal (s : Stmt) : Expr := match s with
  | .Assign _ v _ => v
  | _ => .Constant .none 0 ⟨0, 0, 0, 0⟩
def callArg (e : Expr) (i : Nat) : Expr := match e with
  | .Call _ as _ _ => as.getD i (.Constant .none 0 ⟨0, 0, 0, 0⟩)
  | _ => .Constant .none 0 ⟨0, 0, 0, 0⟩
def lcScope (e : Expr) : Scope := match e with
  | .ListComp _ _ sc _ => sc
  | _ => { kind := .function, names := [], isGenerator := false, isCoroutine := false }
def inBlock (e : Expr) (sc : Scope) : Scope := relS (lcScope e) sc
end Sfl
namespace Sfl
open PySem PySem.Spec PyProof.Rows L2
/-- list(range(a, b, c)) -/
def stepV (i c : Int) (n : Nat) : List V := (List.range n).map fun k => V.int (i + (k : Nat) * c)
def tLst3 (ta : TA) : TE := fun σ H Q => ta σ H fun vs H1 => ∃ (i j c : Int) (n : Nat), vs = [.int i, .int j, .int c] ∧ RgC i j c n ∧ n ≤ 2 ^ 24 ∧
  ∀ q, H1 q = none → Q (.ref q) (upd H1 q (.lst (stepV i c n)))
theorem pe_list3 {X : Cx} {a b c : Expr} {ta : TA} {p pos p2 pos2 : Pos} (hc : X.calm = true) (hg : Gl X "range") (hm : X.mg "range" = none) (hg2 : Gl X "list") (hm2 : X.mg "list" = none) (ha : PA X [a, b, c] ta)
    (hs : starEach [a, b, c] X.env = (false, eval a X.env) :: starEach [b, c] X.env := by rfl) (hpl : (backTo pos (starEach [b, c] X.env)).any (·.1) = false := by rfl)
    (na : starEach [.Call (.Name "range" p) [a, b, c] [] pos] X.env = (false, eval (.Call (.Name "range" p) [a, b, c] [] pos) X.env) :: starEach [] X.env := by rfl) :
    PE X (.Call (.Name "list" p2) [.Call (.Name "range" p) [a, b, c] [] pos] [] pos2) (tLst3 ta) := by
  refine ⟨fun pins s σ H Q I h => ?_⟩
  refine Call_ (ld_blt I hg2 hm2 boot_list (PyProof.Rows.callWith_type1 (args_cons (thn (Q := fun x s' => ∃ r i j k t u v n H', x = Value.ref r ∧ IsRange s'.heap r i j k t u v ∧ L2.Inv X pins σ H' s' ∧ RgC i j k n ∧ n ≤ 2 ^ 24 ∧
      ∀ q, H' q = none → Q (.ref q) (upd H' q (.lst (stepV i k n)))) ?_ fun x s1 h1 => args_nil ?_) na) na))
  · refine Call_ (ld_blt I hg hm boot_range (PyProof.Rows.callWith_type1 (thn (ha.run pos pins s σ H _ I h)
      fun us s1 ⟨vs, H1, I1, r1, q1⟩ => ?_) hs hpl))
    obtain ⟨i, j, k, n, e, hR, hn, q⟩ := q1
    subst e
    obtain ⟨c0, c1, c2, c3⟩ := id hR
    cases r1 with
    | cons r rr =>
      cases rr with
      | cons r' rr =>
        cases rr with
        | cons r'' rr =>
          cases rr
          obtain ⟨t, rfl⟩ := r
          obtain ⟨t', rfl⟩ := r'
          obtain ⟨t'', rfl⟩ := r''
          refine call_range_3 c0 ?_ (.inl (PyProof.noPylong_small c1))
          exact ⟨_, i, j, k, _, _, _, n, H1, rfl, IsRange.new .., I1.kept (t' := s1.toks) fun b o e => Heap.get?_push_of_some _ e, hR, hn, q⟩
  · obtain ⟨r, i, j, k, t, u, v, n, H1, ex, hr, I1, ⟨c0, c1, c2, c3⟩, hn, q⟩ := h1
    subst ex
    refine call_list_range (n := n) (I1.ok.hd hc) hr c2 c3 hn fun h' tk acc c' hk e' hi => ?_
    have hv : Vals (stepV i k n) acc.toList := by
      have e : acc.toList.length = n := by
        rw [Array.length_toList]
        exact hi.1
      unfold stepV
      rw [← e]
      refine vals_of_get acc.toList _ fun j' u' hj => ?_
      obtain ⟨t2, rfl⟩ := hi.2 j' u' (by rw [← hj, Array.getElem?_toList])
      exact ⟨t2, rfl⟩
    have hlen : (stepV i k n).length = n := by
      unfold stepV
      rw [List.length_map, List.length_range]
    have new : ObjOk X.prog X.w (upd H1 s1.heap.objs.size (.lst (stepV i k n))) h' s1.heap.objs.size (.lst (stepV i k n)) := by
      refine ⟨?_, acc.toList, c', hv, ?_⟩
      · rw [hlen, sizeLine_eq]
        omega
      · rw [Array.toArray_toList]
        exact e'
    exact ⟨.ref s1.heap.objs.size, _, I1.laid hk (Nat.le_refl _) new, rfl, q _ (I1.hok.fresh (Nat.le_refl _))⟩
end Sfl
namespace Sfl
open PySem PySem.Spec PyProof.Rows L2
section
variable {prog : Program} {w : World} {A : Around} {E : Value → Shared → Prop} {s : Shared} {K : PySem.W.Frag} {x C f : Addr} {ox : Obj} {od : Option Obj}
open PySem.W in
theorem truthy_len {Q : Bool → Shared → Prop} (X : K.In s.heap) (I : InstAt s.heap x ox C od) (hb : findIn K (.ref C) "__bool__" = some none) (hs : findIn K (.ref C) "__len__" = some (some (.ref f))) (hf : isFn K (.ref f) = true)
    (h : wpAny (model prog w) A.in1 (call (.ref f) [.ref x]) (fun v s' => ∃ n t, v = .int n t ∧ (0 ≤ n ∧ n < 2 ^ 63) ∧ ∀ tk, Q (n != 0) { s' with toks := tk }) E s) : wpAny (model prog w) A (truthy (.ref x)) Q E s := by
  unfold truthy
  refine wpAny_bind (m := callSpecial? (.ref x) (Str.ofString "__bool__")) (wpAny_bind (wpAny_bind (I.type.here ((looks_findIn X hb).here (wpAny_pure ?_)))))
  refine wpAny_bind (wpAny_bind (I.type.here ((looks_findIn X hs).here ?_)))
  refine wpAny_bind (wpAny_runValue ?_)
  refine codeAny_builtin entry_len ?_
  rw [Around.under_plainId plain_len _]
  unfold Builtin.«len»
  refine wpAny_bind (m := oneArg "len" _) (wpAny_pure ?_)
  refine wpAny_bind (m := callSpecial? (.ref x) (Str.ofString "__len__")) (special_fn X I hs (beq_iff_eq.mp hf) (wpAny_mono h (fun r s' hr => ?_) fun _ _ y => y))
  obtain ⟨n, u, rfl, ⟨h0, h1⟩, hq⟩ := hr
  refine wpAny_bind (wpAny_holding (wpAny_pure ?_))
  refine wpAny_bind (wpAny_letGo ?_)
  show wpAny _ _ (if n < 0 then _ else _) _ _ _
  rw [if_neg (by omega)]
  show wpAny _ _ (if n ≥ 2 ^ 63 then _ else _) _ _ _
  rw [if_neg (by omega)]
  exact wpAny_bind (wpAny_mkInt (wpAny_pure (wpAny_pure (hq _))))
open PySem.W in
theorem bool_own {Q : Value → Shared → Prop} (X : K.In s.heap) (I : InstAt s.heap x ox C od) (hb : findIn K (.ref C) "__bool__" = some none) (hs : findIn K (.ref C) "__len__" = some (some (.ref f))) (hf : isFn K (.ref f) = true)
    (h : wpAny (model prog w) A.in1.in1.in1 (call (.ref f) [.ref x]) (fun v s' => ∃ n t, v = .int n t ∧ (0 ≤ n ∧ n < 2 ^ 63) ∧ ∀ tk, Q (.bool (n != 0)) { s' with toks := tk }) E s) : wpAny (model prog w) A (call (.type "bool") [.ref x]) Q E s := by
  refine callType_codes (T := "bool") (Bi := Builtin.«object.__init__») (Q₁ := fun r s₁ => ∃ b, r = .bool b ∧ Q r s₁) PySem.F.called_bool (PySem.F.typeCall_bool_1 _) PySem.F.entry_object_init ?_ ?_
  · refine codeAny_of_tree ?_
    show wpAny _ A.in1.in1 (do checkBuiltinCall "bool.__new__" ⟨[.type "bool", .ref x], []⟩; again (.builtin "bool.__new__" ⟨[.type "bool", .ref x], []⟩)) _ _ s
    refine wpAny_bind (wpAny_of_eq (PySem.F.newCall_bool_1 _) (wpAny_pure ⟨plainId_quiet (by decide +kernel) _, codeAny_builtin PySem.F.entry_bool_new ?_⟩))
    rw [Around.under_plainId (by decide +kernel) _]
    unfold Builtin.«bool.__new__»
    refine wpAny_bind (wpAny_of_eq (a := true) (by rfl) ?_)
    refine PySem.W.KFB.if_not rfl ?_
    refine wpAny_bind (wpAny_of_eq (a := true) PySem.F.conv_sub_bool ?_)
    refine PySem.W.KFB.if_not rfl ?_
    refine wpAny_bind (wpAny_of_eq (a := [.ref x]) (by rfl) ?_)
    refine wpAny_bind (wpAny_mono (truthy_len (Q := fun b s₁ => Q (.bool b) s₁) X I hb hs hf h) (fun b s1 q => ?_) fun _ _ y => y)
    exact wpAny_pure ⟨b, rfl, q⟩
  · rintro obj s₁ ⟨b, rfl, hq⟩
    exact ⟨rfl, PySem.F.args_object_init_2 _ _, object_init_meets PySem.F.called_bool.init.lookup PySem.F.called_bool.made (by decide) prog w A.in1 _ s₁ ⟨rfl, rfl, hq⟩⟩
open PySem.W in
theorem str_own {Q : Value → Shared → Prop} (hu : A.in1.in1.units < cLine) (X : K.In s.heap) (I : InstAt s.heap x ox C od) (hs : findIn K (.ref C) "__str__" = some (some (.ref f))) (hf : isFn K (.ref f) = true)
    (h : wpAny (model prog w) A.in1.in1 (call (.ref f) [.ref x]) (fun v s' => ∃ y t, v = .str y t ∧ Q v s') E s) : wpAny (model prog w) A (call (.type "str") [.ref x]) Q E s := by
  refine callType_codes (T := "str") (Bi := Builtin.«object.__init__») (Q₁ := fun z s₁ => ∃ y t, z = .str y t ∧ Q z s₁) PySem.F.called_str (PySem.F.typeCall_str_1 _) PySem.F.entry_object_init ?_ ?_
  · refine codeAny_of_tree ?_
    show wpAny _ A.in1.in1 (do checkBuiltinCall "str.__new__" ⟨[.type "str", .ref x], []⟩; again (.builtin "str.__new__" ⟨[.type "str", .ref x], []⟩)) _ _ s
    refine wpAny_bind (wpAny_of_eq (PySem.F.newCall_str_1 _) (wpAny_pure ⟨plainId_quiet (by decide +kernel) _, codeAny_builtin PySem.F.entry_str_new ?_⟩))
    rw [Around.under_plainId (by decide +kernel) _, str_new_tree]
    refine wpAny_bind (wpAny_pure (wpAny_bind (wpAny_of_eq isSubtype_str_str ?_)))
    have key : wpAny (model prog w) A.in1.in1 (PySem.Builtin.Str.strOf (.ref x)) (fun z s₁ => ∃ y t, z = .str y t ∧ Q z s₁) E s := by
      unfold PySem.Builtin.Str.strOf
      rw [show Builtin.Str.isExactStr (.ref x) = false from rfl]
      refine wpAny_bind (m := cRoomFor _ _) (wpAny_cRoomFor hu ?_)
      refine wpAny_bind (m := callSpecial? (.ref x) (Str.ofString "__str__")) (special_fn X I hs (beq_iff_eq.mp hf) (wpAny_mono h (fun z s1 hz => ?_) fun _ _ q => q))
      obtain ⟨y, t, rfl, hq⟩ := hz
      exact wpAny_pure ⟨y, t, rfl, hq⟩
    exact wpAny_bind (wpAny_mono key (fun z s₁ hz => wpAny_pure hz) fun _ _ q => q)
  · rintro obj s₁ ⟨y, t, rfl, hq⟩
    exact ⟨typeIs_str _ _ _, PySem.F.args_object_init_2 _ _, object_init_meets PySem.F.called_str.init.lookup PySem.F.called_str.made (by decide) prog w A.in1 _ s₁ ⟨typeIs_str _ _ _, rfl, hq⟩⟩
end
section
variable {prog : Program} {w : World} {A : Around} {E : Value → Shared → Prop} {s : Shared} {K : PySem.W.Frag} {x C f : Addr} {ox : Obj} {od : Option Obj}
open PySem.W in
theorem ifBound_B {M : Model} {name : Str} {id : String} {args : List Value} {Q : Option Value → Shared → Prop} (X : K.In s.heap) (I : InstAt s.heap x ox C od) (hs : findIn K (.ref C) name = some (some (.builtin id)))
    (hb : ∀ self, bindSpecial (.builtin id) self = pure (.builtin id, [self])) (h : wpAny M A (call (.builtin id) (.ref x :: args)) (fun v => Q (some v)) E s) : wpAny M A (callSpecialIfBound? (.ref x) name args) Q E s := by
  simp only [callSpecialIfBound?, bindSpecialIfBound?]
  refine wpAny_holding (wpAny_bind (wpAny_bind (wpAny_bind (I.type.here ((looks_findIn X hs).here ?_)))))
  refine wpAny_bind (wpAny_askSetting (wpAny_ite ?_))
  have fin : wpAny M A (call (.builtin id) ([.ref x] ++ args) >>= fun v => pure (some v)) Q E s := wpAny_bind (wpAny_mono h (fun v s' z => wpAny_pure z) fun _ _ z => z)
  split
  · exact wpAny_bind ((Looks.of_pure (hb _)).here (wpAny_pure (by exact fin)))
  · exact wpAny_tryCatch (wpAny_bind ((Looks.of_pure (hb _)).here (wpAny_pure (by exact fin))))
open PySem.W in
theorem ne_own {b tb : Value} {Q : Value → Shared → Prop} (hu : A.units + 1 < cLine) (X : K.In s.heap) (I : InstAt s.heap x ox C od) (hb : Looks (model prog w) s.heap (typeOf b) tb) (hn : notFirst K C tb = true) (hm : mroIn K C (.type "object") = some true)
    (hs : findIn K (.ref C) (cmpInfo .NotEq).2.1 = some (some (.builtin "object.__ne__"))) (he : findIn K (.ref C) "__eq__" = some (some (.ref f))) (hf : isFn K (.ref f) = true)
    (h : wpAny (model prog w) A.in1 (call (.ref f) [.ref x, b]) (fun v s' => ∃ k, v = .bool k ∧ Q (.bool (!k)) s') E s) : wpAny (model prog w) A (richCompare .NotEq (.ref x) b) Q E s := by
  have one : wpAny (model prog w) A (tryCompare (.ref x) (cmpInfo .NotEq).2.1 b) (fun r s' => ∃ v, r = some v ∧ Q v s') E s := by
    unfold tryCompare
    refine wpAny_bind (ifBound_B X I hs PySem.F.cmp_object.ne.bind (wpAny_call (codeAny_call_builtin PySem.F.cmp_object.ne.plain PySem.F.cmpEntry_ne
      (check_slot (i := "object.__ne__") (owner := "object") (n := "__ne__") PySem.F.cmpKind_ne PySem.F.cmpSplit_ne (I.type.andThen (looks_mroIn X hm)) (PySem.F.cmpArgs_ne _ _) ?_))))
    unfold Builtin.«object.__ne__»
    refine wpAny_bind (m := slotArgs "__ne__" 1 _) (wpAny_pure ?_)
    refine wpAny_bind (m := cRoomFor _ _) (wpAny_cRoomFor hu ?_)
    refine wpAny_bind (m := callSpecialIfBound? (.ref x) (Str.ofString "__eq__") _) (ifBound_K X I he hf (wpAny_mono h (fun r s' hq => ?_) fun _ _ y => y))
    obtain ⟨k, rfl, q⟩ := hq
    exact wpAny_bind (wpAny_truthy_bool (wpAny_pure (wpAny_pure ⟨_, rfl, q⟩)))
  unfold richCompare
  simp only [oneThing_ref]
  refine wpAny_holding (wpAny_bind (wpAny_cRoomFor (Nat.lt_of_succ_lt hu) ?_))
  refine wpAny_bind (I.type.here (wpAny_bind (hb.here ?_)))
  split
  · rename_i q
    have e : subIn K tb (.ref C) = some false := by
      rcases Bool.or_eq_true_iff.mp hn with e | e
      · rw [beq_iff_eq.mp e] at q
        simp at q
      · exact beq_iff_eq.mp e
    refine wpAny_bind ((looks_subIn X e).here ?_)
    simp only [Bool.false_eq_true, if_false]
    refine wpAny_bind (wpAny_mono one (fun r s' z => ?_) fun _ _ e => e)
    obtain ⟨v, rfl, hq⟩ := z
    exact wpAny_pure hq
  · refine wpAny_bind (wpAny_pure ?_)
    simp only [Bool.false_eq_true, if_false]
    refine wpAny_bind (wpAny_mono one (fun r s' z => ?_) fun _ _ e => e)
    obtain ⟨v, rfl, hq⟩ := z
    exact wpAny_pure hq
end

/-! ### rules -/
/-- what the text's class has, for ==, !=, bool, len, str, + -/
structure OwnC (K : PySem.W.Frag) (C : Addr) : Prop where
  mro : PySem.W.mroIn K C (.type "object") = some true
  first : PySem.W.selfFirst K C = true
section
variable {X : Cx} {CX : CXT} {pins : List (Addr × Obj)} {σ : L2.St} {H : Hp} {s : Shared} {a C dx g : Addr} {fs : List (Str × V)} {n : Nat} {sp : Sp} {E : XK}
theorem ins_at (I : Inv X pins σ H s) (h : H a = some (.ins C dx fs)) : ∃ ox od, PySem.W.InstAt s.heap a ox C (some od) := by
  obtain ⟨mA, O, _⟩ := ins_get I.hok h
  obtain ⟨od, J, _⟩ := O.look
  exact ⟨_, od, J⟩
/-- len(x), bool(x), str(x) of an instance with its own defs -/
def rLenO (C : Addr) (sp : Sp) (E : XK) : List V → Hp → VK → Prop := fun xs H Q => ∃ a dx fs, xs = [V.ref a] ∧ H a = some (.ins C dx fs) ∧ sp [.ref a] H (fun z H' => ∃ i : Int, z = .int i ∧ (0 ≤ i ∧ i < 2 ^ 63) ∧ Q (.int i) H') E
def rBoolO (C : Addr) (sp : Sp) (E : XK) : List V → Hp → VK → Prop := fun xs H Q => ∃ a dx fs, xs = [V.ref a] ∧ H a = some (.ins C dx fs) ∧ sp [.ref a] H (fun z H' => ∃ i : Int, z = .int i ∧ (0 ≤ i ∧ i < 2 ^ 63) ∧ Q (.bl (i != 0)) H') E
def rStrO (C : Addr) (sp : Sp) (E : XK) : List V → Hp → VK → Prop := fun xs H Q => ∃ a dx fs, xs = [V.ref a] ∧ H a = some (.ins C dx fs) ∧ sp [.ref a] H (fun z H' => ∃ y : Str, z = .str y ∧ Q (.str y) H') E
theorem call_lenO (hs : PySem.W.findIn X.K (.ref C) "__len__" = some (some (.ref g))) (hf : PySem.W.isFn X.K (.ref g) = true) (F : FnR X.prog X.w X.K X.mg X.base CX n g sp) (hr : Room (n + 1) X.A) (hx : Passes CX X E) : CallR X (.builtin "len") (rLenO C sp E) := by
  intro pins s σ H xs us Q I r h
  obtain ⟨a, dx, fs, rfl, ha, q⟩ := h
  obtain ⟨u, rfl, ru⟩ := vals1 r
  cases (show u = Value.ref a from ru)
  obtain ⟨ox, od, J⟩ := ins_at I ha
  obtain ⟨m, hF⟩ := I.fr
  refine PySem.W.len_K hF I.ok.mod.kin J hs hf (wpAny_mono (wpAny_call (SlX.run_at (us := [.ref a]) (ws := [.ref a]) F hr.in1 I.env0.in1 hx I (.cons rfl .nil) q)) (fun v s' z => ?_) fun _ _ y => y)
  obtain ⟨z', H', I', rz, i, ei, hi, qz⟩ := z
  subst ei
  obtain ⟨t, e⟩ := (show ∃ t, v = Value.int i t from rz)
  subst e
  exact ⟨hi, .int i, H', I'.tok _, ⟨_, rfl⟩, qz⟩
theorem call_boolO (hb : PySem.W.findIn X.K (.ref C) "__bool__" = some none) (hs : PySem.W.findIn X.K (.ref C) "__len__" = some (some (.ref g))) (hf : PySem.W.isFn X.K (.ref g) = true) (F : FnR X.prog X.w X.K X.mg X.base CX n g sp)
    (hr : Room (n + 3) X.A) (hx : Passes CX X E) : CallR X (.type "bool") (rBoolO C sp E) := by
  intro pins s σ H xs us Q I r h
  obtain ⟨a, dx, fs, rfl, ha, q⟩ := h
  obtain ⟨u, rfl, ru⟩ := vals1 r
  cases (show u = Value.ref a from ru)
  obtain ⟨ox, od, J⟩ := ins_at I ha
  have hr3 : Room n X.A.in1.in1.in1 := (show Room (n + 1) X.A.in1.in1 from (show Room (n + 2) X.A.in1 from hr.in1).in1).in1
  refine bool_own I.kIn J hb hs hf (wpAny_mono (wpAny_call (SlX.run_at (us := [.ref a]) (ws := [.ref a]) F hr3 I.env0.in1.in1.in1 hx I (.cons rfl .nil) q)) (fun v s' z => ?_) fun _ _ y => y)
  obtain ⟨z', H', I', rz, i, ei, hi, qz⟩ := z
  subst ei
  obtain ⟨t, e⟩ := (show ∃ t, v = Value.int i t from rz)
  subst e
  exact ⟨i, t, rfl, hi, fun tk => ⟨.bl (i != 0), H', I'.tok _, rfl, qz⟩⟩
theorem call_strO (hs : PySem.W.findIn X.K (.ref C) "__str__" = some (some (.ref g))) (hf : PySem.W.isFn X.K (.ref g) = true) (F : FnR X.prog X.w X.K X.mg X.base CX n g sp) (hr : Room (n + 2) X.A) (hx : Passes CX X E) : CallR X (.type "str") (rStrO C sp E) := by
  intro pins s σ H xs us Q I r h
  obtain ⟨a, dx, fs, rfl, ha, q⟩ := h
  obtain ⟨u, rfl, ru⟩ := vals1 r
  cases (show u = Value.ref a from ru)
  obtain ⟨ox, od, J⟩ := ins_at I ha
  have hr2 : Room n X.A.in1.in1 := (show Room (n + 1) X.A.in1 from hr.in1).in1
  refine str_own hr2.units0 I.kIn J hs hf (wpAny_mono (wpAny_call (SlX.run_at (us := [.ref a]) (ws := [.ref a]) F hr2 I.env0.in1.in1 hx I (.cons rfl .nil) q)) (fun v s' z => ?_) fun _ _ y => y)
  obtain ⟨z', H', I', rz, i, ei, qz⟩ := z
  subst ei
  obtain ⟨t, e⟩ := (show ∃ t, v = Value.str i t from rz)
  subst e
  exact ⟨i, t, rfl, .str i, H', I', ⟨_, rfl⟩, qz⟩
/-- x op y of two instances of C -/
def rOwnO (C : Addr) (sp : Sp) (E : XK) : R2 := fun x y H Q => ∃ a dx fs b dy gs, x = .ref a ∧ y = .ref b ∧ H a = some (.ins C dx fs) ∧ H b = some (.ins C dy gs) ∧ sp [x, y] H Q E
theorem op_addO (hs : PySem.W.findIn X.K (.ref C) (PySem.dunder Operator.Add.info.2) = some (some (.ref g))) (hc : PySem.W.selfFirst X.K C = true) (hf : PySem.W.isFn X.K (.ref g) = true) (F : FnR X.prog X.w X.K X.mg X.base CX n g sp) (hr : Room n X.A) (hx : Passes CX X E) :
    OpR X (binaryOp .Add) (rOwnO C sp E) := by
  intro pins s σ H x y v u Q I rx ry h
  obtain ⟨a, dx, fs, b, dy, gs, rfl, rfl, ha, hb, q⟩ := h
  cases (show v = Value.ref a from rx)
  cases (show u = Value.ref b from ry)
  obtain ⟨ox, od, J⟩ := ins_at I ha
  obtain ⟨ox', od', J'⟩ := ins_at I hb
  obtain ⟨m, hF⟩ := I.fr
  refine PySem.W.binop_K hF I.ok.mod.kin J J'.type hc hs hf (wpAny_mono (wpAny_call (run_fnR (us := [.ref a, .ref b]) (vs := [.ref a, .ref b]) F hr hx I (.cons rfl (.cons rfl .nil)) q)) (fun z s' hz => ?_) fun _ _ y => y)
  obtain ⟨z', H', I', rz, qz⟩ := hz
  exact SlX.cmpback rz ⟨z', H', I', rz, qz⟩
theorem op_eqO (hs : PySem.W.findIn X.K (.ref C) (cmpInfo .Eq).2.1 = some (some (.ref g))) (hf : PySem.W.isFn X.K (.ref g) = true) (F : FnR X.prog X.w X.K X.mg X.base CX n g sp) (hr : Room n X.A) (hx : Passes CX X E) :
    OpR X (compareOp .Eq) (rOwnO C sp E) := by
  intro pins s σ H x y v u Q I rx ry h
  obtain ⟨a, dx, fs, b, dy, gs, rfl, rfl, ha, hb, q⟩ := h
  cases (show v = Value.ref a from rx)
  cases (show u = Value.ref b from ry)
  obtain ⟨ox, od, J⟩ := ins_at I ha
  obtain ⟨ox', od', J'⟩ := ins_at I hb
  obtain ⟨m, hF⟩ := I.fr
  show wpAny _ _ (richCompare .Eq (.ref a) (.ref b)) _ _ _
  refine PySem.W.cmp_K (op := .Eq) (tb := .ref C) hr.units0 hF I.ok.mod.kin J J'.type (by unfold PySem.W.notFirst; simp) hs hf ?_
  refine wpAny_mono (wpAny_call (run_fnR (us := [.ref a, .ref b]) (vs := [.ref a, .ref b]) F hr hx I (.cons rfl (.cons rfl .nil)) q)) (fun z s' hz => ?_) fun _ _ y => y
  obtain ⟨z', H', I', rz, qz⟩ := hz
  exact SlX.cmpback rz ⟨z', H', I', rz, qz⟩
/-- x == y, y a tuple -/
def rOwnT (C : Addr) (sp : Sp) (E : XK) : R2 := fun x y H Q => ∃ a dx fs b ys, x = .ref a ∧ y = .ref b ∧ H a = some (.ins C dx fs) ∧ H b = some (.tup ys) ∧ sp [x, y] H Q E
theorem op_eqT (hs : PySem.W.findIn X.K (.ref C) (cmpInfo .Eq).2.1 = some (some (.ref g))) (hf : PySem.W.isFn X.K (.ref g) = true) (hn : PySem.W.notFirst X.K C (.type "tuple") = true) (F : FnR X.prog X.w X.K X.mg X.base CX n g sp) (hr : Room n X.A) (hx : Passes CX X E) :
    OpR X (compareOp .Eq) (rOwnT C sp E) := by
  intro pins s σ H x y v u Q I rx ry h
  obtain ⟨a, dx, fs, b, ys, rfl, rfl, ha, hb, q⟩ := h
  cases (show v = Value.ref a from rx)
  cases (show u = Value.ref b from ry)
  obtain ⟨ox, od, J⟩ := ins_at I ha
  obtain ⟨m, hF⟩ := I.fr
  obtain ⟨_, its, rv, o, h1, h2, n2, h3⟩ := (show ObjOk X.prog X.w H s.heap b (.tup ys) from I.hok b _ hb)
  show wpAny _ _ (richCompare .Eq (.ref a) (.ref b)) _ _ _
  refine PySem.W.cmp_K (op := .Eq) (tb := .type "tuple") hr.units0 hF I.ok.mod.kin J ?_ hn hs hf ?_
  · exact h2 ▸ (PySem.W.Looks.ld h1).andThen .now
  refine wpAny_mono (wpAny_call (run_fnR (us := [.ref a, .ref b]) (vs := [.ref a, .ref b]) F hr hx I (.cons rfl (.cons rfl .nil)) q)) (fun z s' hz => ?_) fun _ _ y => y
  obtain ⟨z', H', I', rz, qz⟩ := hz
  exact SlX.cmpback rz ⟨z', H', I', rz, qz⟩
def rNeO (C : Addr) (sp : Sp) (E : XK) : R2 := fun x y H Q => ∃ a dx fs b dy gs, x = .ref a ∧ y = .ref b ∧ H a = some (.ins C dx fs) ∧ H b = some (.ins C dy gs) ∧ sp [x, y] H (fun z H' => ∃ k : Bool, z = .bl k ∧ Q (.bl (!k)) H') E
theorem op_neO (hs : PySem.W.findIn X.K (.ref C) (cmpInfo .NotEq).2.1 = some (some (.builtin "object.__ne__"))) (he : PySem.W.findIn X.K (.ref C) "__eq__" = some (some (.ref g))) (hf : PySem.W.isFn X.K (.ref g) = true) (hm : PySem.W.mroIn X.K C (.type "object") = some true)
    (F : FnR X.prog X.w X.K X.mg X.base CX n g sp) (hr : Room (n + 1) X.A) (hx : Passes CX X E) : OpR X (compareOp .NotEq) (rNeO C sp E) := by
  intro pins s σ H x y v u Q I rx ry h
  obtain ⟨a, dx, fs, b, dy, gs, rfl, rfl, ha, hb, q⟩ := h
  cases (show v = Value.ref a from rx)
  cases (show u = Value.ref b from ry)
  obtain ⟨ox, od, J⟩ := ins_at I ha
  obtain ⟨ox', od', J'⟩ := ins_at I hb
  show wpAny _ _ (richCompare .NotEq (.ref a) (.ref b)) _ _ _
  refine ne_own (tb := .ref C) (show X.A.in1.units < cLine from hr.in1.units0) I.kIn J J'.type (by unfold PySem.W.notFirst; simp) hm hs he hf ?_
  refine wpAny_mono (wpAny_call (SlX.run_at (us := [.ref a, .ref b]) (ws := [.ref a, .ref b]) F hr.in1 I.env0.in1 hx I (.cons rfl (.cons rfl .nil)) q)) (fun z s' hz => ?_) fun _ _ y => y
  obtain ⟨z', H', I', rz, k, ek, qz⟩ := hz
  subst ek
  exact ⟨k, rz, .bl (!k), H', I', rfl, qz⟩
end
section
variable {X : Cx} {CX : CXT} {k : Nat} {f C : Addr} {sp : Sp} {E : XK} {x : Str} {fe e : Expr} {es : List Expr} {tf : TE} {t : TA} {p pos : Pos}
/-- C(e, .., *y) -/
theorem pe_makeS (M : Mk X.K C f) (F : FnR X.prog X.w X.K X.mg X.base CX k f sp) (hr : Room (k + 1) X.A) (hg : Gl X x) (hm : X.mg x = some (.ref C)) (hx : Passes CX X E) (ha : PA X (e :: es) t) (hdb : (x == ("__debug__" : Str)) = false := by decide)
    (he : starEach (e :: es) X.env = (false, eval e X.env) :: starEach es X.env := by rfl) (hst : (backTo pos (starEach es X.env)).any (·.1) = true := by rfl) : PE X (.Call (.Name x p) (e :: es) [] pos) (StX.tMakeR C sp E t) := by
  refine ⟨fun pins s σ H Q I h => ?_⟩
  refine wpAny_Call_Name_kw (ld_glob I hg hm ?_ hdb)
  refine PySem.W.callWith_S2 (h₀ := X.base) I.ok.mod.kin M.kp (thn (ha.run pos pins s σ H _ I h) fun us s1 ⟨vs, H1, I1, r, q⟩ => ⟨I1.kIn, ?_⟩) he hst
  exact StX.run_makeR M F hr hx I1 r q
/-- c(e, .., *y), c an expression whose value is the class at C -/
def tMakeV (C : Addr) (sp : Sp) (E : XK) (tf : TE) (t : TA) : TE := fun σ H Q => tf σ H fun y H1 => y = V.ref C ∧ StX.tMakeR C sp E t σ H1 Q
theorem pe_makeV (hf : PE X fe tf) (M : Mk X.K C f) (F : FnR X.prog X.w X.K X.mg X.base CX k f sp) (hr : Room (k + 1) X.A) (hx : Passes CX X E) (ha : PA X (e :: es) t)
    (ht : eval (.Call fe (e :: es) [] pos) X.env = (do callWith pos (← eval fe X.env) [] (backTo pos (starEach (e :: es) X.env)) (backToKw pos (keywordEach [] X.env))) := by rfl)
    (he : starEach (e :: es) X.env = (false, eval e X.env) :: starEach es X.env := by rfl) (hst : (backTo pos (starEach es X.env)).any (·.1) = true := by rfl) : PE X (.Call fe (e :: es) [] pos) (tMakeV C sp E tf t) := by
  refine ⟨fun pins s σ H Q I h => ?_⟩
  refine Call_ (thn (hf.run pins s σ H _ I h) fun u s1 ⟨y, H1, I1, ry, ey, q⟩ => ?_) ht
  subst ey
  obtain rfl : u = Value.ref C := ry
  refine PySem.W.callWith_S2 (h₀ := X.base) I1.ok.mod.kin M.kp (thn (ha.run pos pins s1 σ H1 _ I1 q) fun us s2 ⟨vs, H2, I2, r, q2⟩ => ⟨I2.kIn, ?_⟩) he hst
  exact StX.run_makeR M F hr hx I2 r q2
end
end Sfl
namespace Sfl
open PySem PySem.Spec PyProof.Rows L2 GenW
section
variable {M : Model} {A : Around} {R : GenEnd} {Y : Protocol} {n : Nat} {s₀ : Shared} {c : Code} {fs : List Frame} {s : Shared} {env : Env}
  {gd : Bool → Bool} {lv : List Value → List Value}
theorem seg_bindW {α β : Type} {m : Sem α} {k : α → Sem β} {K : β → Sem PySem.Fin} {H : Value → Sem PySem.Fin}
    (h : wpAny M (A.over c fs) m (fun a s' => Seg M A R Y n s₀ c ((k a).wrap K H gd lv) fs s') (fun x s' => Seg M A R Y n s₀ c (H x) fs s') s) :
    Seg M A R Y n s₀ c ((m >>= k).wrap K H gd lv) fs s := by
  rw [Sem.bind_eq_wrap', Sem.wrap_wrap]
  exact seg_wrap h
theorem seg_If {test : Expr} {body orelse : List Stmt} {pos : Pos} {K : Flow → Sem PySem.Fin} {H : Value → Sem PySem.Fin}
    (h : wpAny M (A.over c fs) (isTrue test env (eval test env)) (fun b s' => if b = true then Seg M A R Y n s₀ c ((execs body env).wrap K H gd lv) fs s' else Seg M A R Y n s₀ c ((execs orelse env).wrap K H gd lv) fs s')
      (fun x s' => Seg M A R Y n s₀ c (H x) fs s') s) : Seg M A R Y n s₀ c ((exec (.If test body orelse pos) env).wrap K H gd lv) fs s := by
  rw [exec_If]
  refine seg_bindW (wpAny_standAt ?_)
  refine seg_bindW (wpAny_mono h (fun b s' hb => ?_) fun _ _ x => x)
  cases b with
  | true =>
    rw [if_pos rfl] at hb
    exact hb
  | false =>
    rw [if_neg Bool.false_ne_true] at hb
    exact hb
theorem seg_For {target iter : Expr} {body : List Stmt} {pos : Pos} {K : Flow → Sem PySem.Fin} {H : Value → Sem PySem.Fin}
    (h : wpAny M (A.over c fs) (eval iter env) (fun x s₁ => wpAny M (A.over c fs) (pyIter x) (fun it s₂ => ∀ p, Seg M A R Y n s₀ (.forLoop target it body [] env) (M.den (.forLoop target it body [] env))
      (.ret (fun r => ((match r with | .ok f => (.pure f : Sem Flow) | .error e => .raise e).onRaise (cameBack env)).wrap K H gd lv) none (gd false) (lv []) c p [] :: fs) s₂) (fun x s' => Seg M A R Y n s₀ c (H x) fs s') s₁) (fun x s' => Seg M A R Y n s₀ c (H x) fs s') s)
    (hs : ∀ x, foldedSetIterable iter env x = pure x) : Seg M A R Y n s₀ c ((exec (.For target iter body [] pos) env).wrap K H gd lv) fs s := by
  rw [exec_For]
  refine seg_bindW (wpAny_standAt ?_)
  refine seg_bindW (wpAny_mono h (fun x s1 h1 => ?_) fun _ _ x => x)
  rw [hs x]
  refine seg_bindW (wpAny_pure ?_)
  refine seg_bindW (wpAny_standAt ?_)
  refine seg_bindW (wpAny_holding (wpAny_mono h1 (fun it s2 h2 => ?_) fun _ _ x => x))
  exact seg_call h2
end
section
variable {prog : Program} {w : World} {A : Around} {R : GenEnd} {Y : Protocol} {n : Nat} {s₀ : Shared} {fs : List Frame} {s : Shared} {env : Env}
abbrev noteE (env : Env) (x : Value) : Sem PySem.Fin := (do noteFrame x env; theTreesLotGoes x : Sem Unit).bind fun _ => (Sem.raise x : Sem PySem.Fin)
abbrev forK (c0 : Code) : Flow → Sem PySem.Fin := fun f => match f with
  | .next | .cont => .pure (.again c0)
  | .brk => .pure (.done .next)
  | .ret v => .pure (.done (.ret v))
theorem seg_forLoop {target : Expr} {it : Value} {body : List Stmt}
    (h : wpAny (model prog w) (A.over (.forLoop target it body [] env) fs) (pyNext it) (fun r s₁ => match r with
      | none => Seg (model prog w) A R Y n s₀ (.block [] env) (.pure (.done .next)) fs s₁
      | some v => wpAny (model prog w) (A.over (.forLoop target it body [] env) fs) (letOwnedTupleGo target it v) (fun _ s₂ => wpAny (model prog w) (A.over (.forLoop target it body [] env) fs) (assign target env v) (fun _ s₃ =>
          Seg (model prog w) A R Y n s₀ (.forLoop target it body [] env) ((execs body env).wrap (forK (.forLoop target it body [] env)) (noteE env) id id) fs s₃)
            (fun x s' => Seg (model prog w) A R Y n s₀ (.forLoop target it body [] env) (noteE env x) fs s') s₂) (fun x s' => Seg (model prog w) A R Y n s₀ (.forLoop target it body [] env) (noteE env x) fs s') s₁)
      (fun x s' => Seg (model prog w) A R Y n s₀ (.forLoop target it body [] env) (noteE env x) fs s') s) :
    Seg (model prog w) A R Y n s₀ (.forLoop target it body [] env) ((model prog w).den (.forLoop target it body [] env)) fs s := by
  show Seg _ A R Y n s₀ _ ((forTurn target it body [] env).onRaise (fun x => do noteFrame x env; theTreesLotGoes x)) fs s
  rw [Sem.onRaise_eq_wrap]
  unfold forTurn
  refine seg_bindW (wpAny_standAt ?_)
  refine seg_bindW (wpAny_onRaise (wpAny_mono h (fun r s1 h1 => ?_) fun x s' hx => ?_))
  · cases r with
    | none => exact seg_again rfl h1
    | some v =>
      refine seg_bindW (wpAny_mono h1 (fun _ s2 h2 => ?_) fun x s' hx => ?_)
      · refine seg_bindW (wpAny_mono h2 (fun _ s3 h3 => ?_) fun x s' hx => ?_)
        · rw [Sem.bind_eq_wrap', Sem.wrap_wrap]
          refine Eq.mp (congrArg (fun t => Seg _ A R Y n s₀ _ t fs s3) (Sem.wrap_congr (execs body env) _ _ (fun f => ?_) (fun e => ?_))) h3
          · cases f <;> rfl
          · rfl
        · exact hx
      · exact hx
  · exact wpAny_standAt hx
end

section
variable {X : Cx}
def tGIf (t : TT) (a b : TGn) : TGn := fun D ys σ H => t σ H fun k H1 => if k = true then a D ys σ H1 else b D ys σ H1
theorem gs_if {test : Expr} {body orelse : List Stmt} {pos : Pos} {t : TT} {a b : TGn} (hc : PT X test t) (ha : GSs X body a) (hb : GSs X orelse b) : GS X (.If test body orelse pos) (tGIf t a b) := by
  refine ⟨fun A S ip R n ys s₀ c fs K J gd lv s σ H D g hn k hI ht => ?_⟩
  obtain ⟨acc, cc, r, I⟩ := hI
  refine seg_If ?_
  rw [g.over]
  refine wpAny_mono (hc.run _ s σ H _ I ht) (fun q s' hq => ?_) fun x s' hx => k.exc n s₀ x s' hx
  obtain ⟨H2, I2, q2⟩ := hq
  cases q with
  | true =>
    rw [if_pos rfl] at q2 ⊢
    exact ha.run A S ip R n ys s₀ c fs K J gd lv s' σ H2 D g hn k ⟨acc, cc, r, I2⟩ q2
  | false =>
    rw [if_neg Bool.false_ne_true] at q2 ⊢
    exact hb.run A S ip R n ys s₀ c fs K J gd lv s' σ H2 D g hn k ⟨acc, cc, r, I2⟩ q2
/-- for, with yields in its body -/
def tGFor (wi : TI) (g : TG) (tb : TGn) : TGn := fun D ys σ H => wi σ H fun Jt H1 => ∃ W : Nat → Nat → List V → L2.St → Hp → Prop, (∃ m, W 0 m ys σ H1) ∧ ∀ i m ys σ H, W i m ys σ H →
  (Jt.stop i H ∧ D.nx ys σ H) ∨ (Jt.go i H ∧ ∃ N : List V → L2.St → Hp → Prop, (∀ ys' σ' H', N ys' σ' H' → ∃ m', m' < m ∧ W (i + 1) m' ys' σ' H') ∧
    ∀ x H', Jt.yld i H x H' → g x σ H' fun σ2 H2 => tb { D with nx := N, ct := N, bk := D.nx } ys σ2 H2)
theorem fpOk_pins {b : Addr} {H H' : Hp} {S : Addr} {o o' : Obj} {ip : List (Addr × Obj)} (h : FpOk X ((S, o) :: ip) H b) (hn : H' b = none) : FpOk X ((S, o') :: ip) H' b := by
  obtain ⟨_, h1, h2, h3, h4, h5⟩ := h
  refine ⟨hn, h1, h2, h3, h4, fun p hp => ?_⟩
  rcases List.mem_append.mp hp with z | z
  · exact h5 p (List.mem_append_left _ z)
  · rcases List.mem_cons.mp z with z | z
    · subst z
      exact h5 (S, o) (List.mem_append_right _ List.mem_cons_self)
    · exact h5 p (List.mem_append_right _ (List.mem_cons_of_mem _ z))
theorem fpOk_ne {b : Addr} {H : Hp} {S : Addr} {o : Obj} {ip : List (Addr × Obj)} (h : FpOk X ((S, o) :: ip) H b) : b ≠ S := fun e => h.2.2.2.2.2 (S, o) (List.mem_append_right _ List.mem_cons_self) e.symm
theorem gs_for {iter tg : Expr} {body : List Stmt} {wi : TI} {g : TG} {tb : TGn} {pos : Pos} (hp : PassesOwn (model X.prog X.w) X.A X.env X.xe) (hc : X.calm = true) (hi : PI X tg iter wi) (hg : PG X tg g) (hb : GSs X body tb)
    (hs : ∀ x, foldedSetIterable iter X.env x = pure x := by intro _; rfl) : GS X (.For tg iter body [] pos) (tGFor wi g tb) := by
  refine ⟨fun A S ip R n ys s₀ c fs K J gd lv s σ H D gc hn k hI ht => ?_⟩
  obtain ⟨acc, cc, r, I⟩ := hI
  refine seg_For ?_ hs
  rw [gc.over]
  refine wpAny_mono (hi.run _ s σ H _ I ht) (fun v s1 h1 => wpAny_mono h1 (fun itv s2 h2 => ?_) fun x s' hx => k.exc n s₀ x s' hx) fun x s' hx => k.exc n s₀ x s' hx
  obtain ⟨it, fp, tn, Jt, H2, e, I2, T, st2, f2, W, ⟨m0, w0⟩, turn⟩ := h2
  subst e
  intro p
  have gl := fun (kk : Result → Sem PySem.Fin) (cl : Code) (hw : cl.weight = 0) (hu : cl.cUnits = 0) => gc_loop (k := kk) (c' := cl) (l := lv []) (kp := []) (p := p) gc hw hu
  have loop : ∀ (m i n : Nat) (ys : List V) (s₀ s : Shared) (σ : L2.St) (H : Hp), n + ys.length = sizeLine → W i m ys σ H → GI X S ip ys σ H s → tn i s.heap → (∀ b ∈ fp, H b = none) →
      Seg (model X.prog X.w) A R (GY X S) n s₀ (.forLoop tg (.ref it) body [] X.env) ((model X.prog X.w).den (.forLoop tg (.ref it) body [] X.env))
        (.ret (fun r => ((match r with | .ok f => (.pure f : Sem Flow) | .error e => .raise e).onRaise (cameBack X.env)).wrap K J gd lv) none (gd false) (lv []) c p [] :: fs) s := by
    intro m
    induction m using Nat.strongRecOn with
    | ind m ih =>
      intro i n ys s₀ s σ H hn w hI st3 fr3
      have ee : ∀ (n : Nat) (s₀ : Shared) (x : Value) (s' : Shared), X.xe x s' → Seg (model X.prog X.w) A R (GY X S) n s₀ (.forLoop tg (.ref it) body [] X.env) (noteE X.env x)
          (.ret (fun r => ((match r with | .ok f => (.pure f : Sem Flow) | .error e => .raise e).onRaise (cameBack X.env)).wrap K J gd lv) none (gd false) (lv []) c p [] :: fs) s' := fun n s₀ x s' hx => by
        unfold noteE
        rw [Sem.bind_eq_wrap]
        refine seg_wrap ?_
        rw [(gl _ (.forLoop tg (.ref it) body [] X.env) rfl rfl).over]
        refine wpAny_bind (wpAny_mono (hp x s' hx) (fun _ s'' hcb => wpAny_theTreesLotGoes ?_) fun y s'' hcb => ?_)
        · exact seg_leaf (.error x) (seg_cameBack gc k hcb)
        · exact seg_leaf (.error y) (seg_cameBack gc k hcb)
      refine seg_forLoop ?_
      rw [(gl _ (.forLoop tg (.ref it) body [] X.env) rfl rfl).over]
      obtain ⟨acc3, cc3, r3, I3⟩ := hI
      have stat : ∀ {H' : Hp}, (∀ b ∈ fp, H' b = none) → ∀ b ∈ fp, FpOk X ((S, lstObj acc3 cc3) :: ip) H' b := fun hn b hb => fpOk_pins (f2 b hb) (hn b hb)
      rcases turn i m ys σ H w with ⟨stop, qn⟩ | ⟨go, N, hN, step⟩
      · refine wpAny_mono (T.done X rfl rfl rfl hc i _ s σ H X.xe I3 (stat fr3) st3 stop) (fun r s4 ⟨hr, I4⟩ => ?_) fun x s' hx => ee n s₀ x s' hx
        subst hr
        exact seg_leaf (.ok .next) (k.ok n ys s₀ s4 .next hn ⟨σ, H, ⟨acc3, cc3, r3, I4⟩, qn⟩)
      · refine wpAny_mono (T.item X rfl rfl rfl hc i _ s σ H X.xe I3 (stat fr3) st3 go) (fun r s4 ⟨u, hr, h4⟩ => ?_) fun x s' hx => ee n s₀ x s' hx
        subst hr
        refine wpAny_mono h4 (fun _ s5 ⟨x, H5, I5, r5, y5, st5, fr5⟩ => ?_) fun x s' hx => ee n s₀ x s' hx
        have I5' := I5.pinned (stat fr5) (T.obj _ _ st5)
        refine wpAny_mono (hg.run _ s5 σ H5 x u _ I5' r5 (step x H5 y5)) (fun _ s6 ⟨σ6, H6, I6, q6⟩ => ?_) fun x s' hx => ee n s₀ x s' hx
        have gcl := gl (fun r => ((match r with | .ok f => (.pure f : Sem Flow) | .error e => .raise e).onRaise (cameBack X.env)).wrap K J gd lv) (.forLoop tg (.ref it) body [] X.env) rfl rfl
        refine hb.run A S (ip ++ pinsAt fp s5.heap) R n ys s₀ _ _ _ _ id id s6 σ6 H6 { D with nx := N, ct := N, bk := D.nx } ⟨gcl.pn, fun q hq => ?_, gcl.apart, gcl.over, gcl.split, gcl.guard, gcl.gd⟩ hn
          ⟨fun n' ys' s₀' s7 f hn' hs => ?_, fun n' s₀' x s7 hx => ee n' s₀' x s7 hx⟩ ⟨acc3, cc3, r3, I6⟩ q6
        · rcases List.mem_append.mp hq with z | z
          · exact gcl.ip q z
          · exact fpOk_ne (f2 _ (of_pinsAt z).1)
        · have again : ∀ {σ7 : L2.St} {H7 : Hp}, GI X S (ip ++ pinsAt fp s5.heap) ys' σ7 H7 s7 → N ys' σ7 H7 → Seg (model X.prog X.w) A R (GY X S) n' s₀' (.forLoop tg (.ref it) body [] X.env) (.pure (.again (.forLoop tg (.ref it) body [] X.env)))
              (.ret (fun r => ((match r with | .ok f => (.pure f : Sem Flow) | .error e => .raise e).onRaise (cameBack X.env)).wrap K J gd lv) none (gd false) (lv []) c p [] :: fs) s7 := fun {σ7 H7} G7 n7 => by
            obtain ⟨acc7, cc7, r7, I7⟩ := G7
            obtain ⟨m', hm, w7⟩ := hN ys' σ7 H7 n7
            have I7' : Inv X (((S, lstObj acc7 cc7) :: ip) ++ pinsAt fp s5.heap) σ7 H7 s7 := I7
            refine seg_again rfl (ih m' hm (i + 1) n' ys' s₀' s7 σ7 H7 hn' w7 ⟨acc7, cc7, r7, I7'.unpinned⟩ (T.keep _ _ _ st5 fun b hb o e => (I7'.pin (b, o) (List.mem_append_right _ (List.mem_append_right _ (mem_pinsAt hb e)))).1) fun b hb => ?_)
            obtain ⟨o, e, d⟩ := T.obj _ _ st5 b hb
            exact (I7'.pin (b, o) (List.mem_append_right _ (List.mem_append_right _ (mem_pinsAt hb e)))).2.1
          have un : ∀ {σ7 : L2.St} {H7 : Hp}, GI X S (ip ++ pinsAt fp s5.heap) ys' σ7 H7 s7 → GI X S ip ys' σ7 H7 s7 := fun {σ7 H7} G7 => by
            obtain ⟨acc7, cc7, r7, I7⟩ := G7
            have I7' : Inv X (((S, lstObj acc7 cc7) :: ip) ++ pinsAt fp s5.heap) σ7 H7 s7 := I7
            exact ⟨acc7, cc7, r7, I7'.unpinned⟩
          cases f with
          | next =>
            obtain ⟨σ7, H7, G7, n7⟩ := hs
            exact again G7 n7
          | cont =>
            obtain ⟨σ7, H7, G7, n7⟩ := hs
            exact again G7 n7
          | brk =>
            obtain ⟨σ7, H7, G7, q7⟩ := hs
            exact seg_leaf (.ok .next) (k.ok n' ys' s₀' s7 .next hn' ⟨σ7, H7, un G7, q7⟩)
          | ret v =>
            obtain ⟨x7, σ7, H7, G7, r7, q7⟩ := hs
            exact seg_leaf (.ok (.ret v)) (k.ok n' ys' s₀' s7 (.ret v) hn' ⟨x7, σ7, H7, un G7, r7, q7⟩)
  exact loop m0 0 n ys s₀ s2 σ H2 hn w0 ⟨acc, cc, r, I2⟩ st2 fun b hb => (f2 b hb).1
end
end Sfl
namespace Sfl
open PySem PySem.Spec PyProof.Rows L2
/-! ### o.f as one of several targets -/
def gFld (K : PySem.W.Frag) (ta : TE) (f : Str) : TG := fun y σ H Q => ta σ H fun x H1 => ∃ a C dx fs, x = .ref a ∧ H1 a = some (.ins C dx fs) ∧ Cls K C ∧ NoAttr K C f ∧ fs.length < 1000 ∧ Q σ (upd H1 a (.ins C dx (putF f y fs)))
theorem pg_fld {X : Cx} {o : Expr} {f : Str} {pos : Pos} {ta : TE} (ho : PE X o ta) : PG X (.Attribute o f pos) (gFld X.K ta f) := by
  refine ⟨fun pins s σ H y u Q I ry h => ?_⟩
  rw [assign_Attribute]
  refine wpAny_bind (wpAny_holding (thn (ho.run pins s σ H _ I h) fun ov s1 ⟨x, H1, I1, rx, a, C, dx, fs, ex, ea, c, n, l, q⟩ => ?_))
  subst ex
  obtain rfl : ov = Value.ref a := rx
  refine wpAny_bind (wpAny_standAt (wpAny_bind (wpAny_holding ?_)))
  exact setattr_ok I1 ea c n l ry fun s2 I2 => wpAny_release ⟨σ, _, I2, q⟩
/-! ### t.index(v), t a tuple of plain things -/
def rIndexT (K : PySem.W.Frag) : V → List V → Hp → VK → Prop := fun x xs H Q => ∃ (p : Addr) (ys : List V) (y : V) (j : Nat) (z : V), x = .ref p ∧ xs = [y] ∧ SqT K H p ys ∧ flatV y = true ∧ ys.all flatV = true ∧ ys[j]? = some z ∧ eqV z y = true ∧
  (∀ (m : Nat) (z' : V), m < j → ys[m]? = some z' → eqV z' y = false) ∧ Q (.int (j : Nat)) H
theorem mt_tupIndex {X : Cx} : MtR X "tuple.index" (rIndexT X.K) := by
  intro pins s σ H x xs v us Q I rx rxs h
  obtain ⟨p, ys, y, j, z, rfl, rfl, hq, fy, fys, hz, hzj, hno, q⟩ := h
  cases rx
  obtain ⟨uy, rfl, ry⟩ := vals1 rxs
  obtain ⟨its, rv, ⟨⟨cls, dd, dt, sl⟩, ho, hc, n, hd⟩, hlen⟩ := I.tuple hq
  simp only at hc hd
  subst hc hd
  have hvl := rv.length
  obtain ⟨u, hu, ru⟩ := rv.get hz
  obtain ⟨hjl, hje⟩ := List.getElem?_eq_some_iff.mp hu
  have hj : j < its.toArray.size := by simpa using hjl
  refine call_meets PySem.F.slot_tuple_index ⟨_, ho, rfl⟩ PySem.F.entry_tuple_index (PySem.F.args_tuple_index_2 _ _) (TI.tuple_indexAt p its.toArray n dd sl uy (eqU y) j hj ?_ ?_)
    ⟨ho, fun w hw => mem_eqAt ry fy rv fys w (by simpa using hw), ⟨.int (j : Nat), H, I.tok _, ⟨_, rfl⟩, q⟩⟩
  · rw [show its.toArray[j] = u by simpa using hje, eqU_of ru (flat_at fys hz)]
    exact hzj
  · intro m hm hmj
    have hml : m < its.length := by simpa using hm
    have hy' : ys[m]? = some (ys[m]'(by omega)) := List.getElem?_eq_getElem (by omega)
    obtain ⟨u2, hu2, ru2⟩ := rv.get hy'
    rw [show its.toArray[m] = u2 by simpa using (List.getElem?_eq_some_iff.mp hu2).2, eqU_of ru2 (flat_at fys hy')]
    exact hno m _ hmj hy'
/-! ### a tuple whose object is known -/
def Kt (H : Hp) (p : Addr) (ys : List V) : Prop := ∃ ob : Obj, H p = some (.frz ob (.tup ys)) ∧ ob.dict = none ∧ ob.cls = .type "tuple"
theorem Kt.sq {K : PySem.W.Frag} {H : Hp} {p : Addr} {ys : List V} (h : Kt H p ys) : SqT K H p ys := by
  obtain ⟨ob, e, _⟩ := h
  exact .inl (.inr ⟨ob, e⟩)
theorem Kt.same {H H' : Hp} {p : Addr} {ys : List V} (h : Kt H p ys) (s : Same H H') : Kt H' p ys := by
  obtain ⟨ob, e, r⟩ := h
  exact ⟨ob, s _ _ e, r⟩
section
variable {X : Cx}
theorem call_tupleF : CallR X (.type "tuple") (fun xs H Q => ∃ p ys, xs = [.ref p] ∧ SqL X.K H p ys ∧ ∀ l ob, H l = none → ob.dict = none → ob.cls = .type "tuple" → Q (.ref l) (upd H l (.frz ob (.tup ys)))) := by
  intro pins s σ H xs us Q I r h
  obtain ⟨p, ys, rfl, hq, q⟩ := h
  obtain ⟨u, rfl, rx⟩ := vals1 r
  cases rx
  obtain ⟨its, rv, pl, hz⟩ := I.list hq
  have hl := rv.length
  refine call_tuple_list pl.isList (fun h' kp => ?_) (by simp only [List.size_toArray] <;> omega)
  have I1 : Inv X pins σ H { s with heap := h' } := I.kept (t' := s.toks) kp
  have I2 : Inv X pins σ (upd H h'.objs.size (.frz { cls := .type "tuple", data := .seq its.toArray } (.tup ys))) { s with heap := h'.push { cls := .type "tuple", data := .seq its.toArray } } :=
    I1.laid (t' := s.toks) (fun b o e => Heap.get?_push_of_some _ e) (Nat.le_refl _) (show ObjOk X.prog X.w _ _ _ (.frz _ (.tup ys)) from ⟨Heap.get?_push_size _ rfl, hz, its, rv, IsTup.new _ _⟩)
  exact ⟨.ref h'.objs.size, _, I2, rfl, q _ _ (I1.hok.fresh (Nat.le_refl _)) rfl rfl⟩
def tBMF (r : V → List V → Hp → VK → Prop) (to : TE) (t : TA) : TE := fun σ H Q => to σ H fun x H1 => (∃ p ys, x = .ref p ∧ Kt H1 p ys) ∧ t σ H1 fun xs H2 => r x xs H2 Q
theorem pe_bmF {o e : Expr} {es : List Expr} {to : TE} {t : TA} {name : Str} {apos cpos : Pos} {id : String} {r : V → List V → Hp → VK → Prop} (slot : Slot "tuple" name id) (hty : typeOf (.builtin id) = pure (.type "method_descriptor")) (hm : MtR X id r) (ho : PE X o to) (ha : PA X (e :: es) t)
    (hbase : attributeBase o name X.env (eval o X.env) = eval o X.env := by rfl)
    (hfew : ((backTo cpos (starEach (e :: es) X.env)).all (fun x => !x.1) && (backToKw cpos (keywordEach [] X.env)).all (fun x => x.1.isSome)
      && decide ((e :: es).length + ([] : List Keyword).length + (if ([] : List Keyword).isEmpty then 0 else 1) < 30)) = true := by rfl)
    (hline : (apos.endLine == cpos.line) = true := by rfl) (hs : starEach (e :: es) X.env = (false, eval e X.env) :: starEach es X.env := by rfl) (hplain : (backTo cpos (starEach es X.env)).any (·.1) = false := by rfl) :
    PE X (.Call (.Attribute o name apos) (e :: es) [] cpos) (tBMF r to t) := by
  refine ⟨fun pins s σ H Q I h => wpAny_Call_method_late hbase hfew hline rfl (thn (ho.run pins s σ H _ I h) fun v s1 ⟨x, H1, I1, r1, hk, q1⟩ => ?_)⟩
  obtain ⟨p, ys, rfl, ob, hp, hd, hc⟩ := hk
  cases (show v = Value.ref p from r1)
  have hg := (I1.hok p _ hp).1
  refine ⟨"tuple", id, PySem.F.plainAttrs_tuple, slot, hty, ⟨ob, hg, hc⟩, fun a ea => ?_, ?_⟩
  · cases ea
    exact ⟨ob, hg, hd⟩
  have hA := ha.run cpos pins s1 σ H1 _ I1 q1
  rw [hs] at hA ⊢
  refine Calls.callWith_builtin ((congrArg (false || ·) hplain).trans rfl) (Calls.evalArgs_plain ?_)
  exact thn hA fun us s2 ⟨vs, H2, I2, r2, q2⟩ => hm pins s2 σ H2 (.ref p) vs (.ref p) us Q I2 r1 r2 q2
end
end Sfl
set_option maxHeartbeats 4000000
namespace Sfl
open PySem PySem.Spec PyProof.Rows L2
/-! ### tuple * int, of any small int -/
theorem tuple_mul1 (l : Addr) (items : Array Value) (n : Nat) (dd : Option Addr) (sl : Array (Option Value)) (u : Tok) :
    Meets (Builtin.«tuple.__mul__» ⟨[.ref l, .int 1 u], []⟩) (fun _ R s => s.heap.get? l = some { cls := .type "tuple", dict := dd, data := .seq items n, slots := sl } ∧ R (.ok (.ret (Value.ref l))) s) :=
  .of_wp fun prog w A R s h => by
    obtain ⟨hp, g, d, tk, os⟩ := s
    obtain ⟨hl, h⟩ := h
    have f1 := AutoSeq1.idx_int
    have c1 : (items.isEmpty || (1 : Int) == 1) = true := by
      rw [show ((1 : Int) == 1) = true from rfl, Bool.or_true]
    wp_walk using wpAny_loadPart' hl
    repeat (first
      | (refine wpAny_ite_true (decide_eq_true c1) ?_; wp_walk using wpAny_loadPart' hl))
    exact ⟨_, rfl, h⟩
theorem tuple_mul0 (l : Addr) (items : Array Value) (n : Nat) (dd : Option Addr) (sl : Array (Option Value)) (u : Tok) (he : items.isEmpty = false) :
    Meets (Builtin.«tuple.__mul__» ⟨[.ref l, .int 0 u], []⟩) (fun _ R s => s.heap.get? l = some { cls := .type "tuple", dict := dd, data := .seq items n, slots := sl } ∧
      R (.ok (.ret (Value.ref s.heap.objs.size))) { s with heap := s.heap.push { cls := Value.type "tuple", data := Data.seq #[] }, toks := s.toks }) :=
  .of_wp fun prog w A R s h => by
    obtain ⟨hp, g, d, tk, os⟩ := s
    obtain ⟨hl, h⟩ := h
    have f1 := AutoSeq1.idx_int
    have c1 : (items.isEmpty || (0 : Int) == 1) = false := by
      rw [he]
      rfl
    wp_walk using wpAny_loadPart' hl
    repeat (first
      | (refine wpAny_ite_false (decide_eq_false (by rw [c1]; exact Bool.false_ne_true)) ?_; wp_walk using wpAny_loadPart' hl))
    exact ⟨_, rfl, h⟩
def rRepS : R2 := fun x y H Q => ∃ (l : Addr) (k : Int) (xs : List V), x = .ref l ∧ y = .int k ∧ H l = some (.tup xs) ∧ xs ≠ [] ∧ 0 ≤ k ∧ k ≤ 1000 ∧ xs.length ≤ 1000 ∧ ∀ p H', Same H H' → H' p = some (.tup (List.replicate k.toNat xs).flatten) → Q (.ref p) H'
theorem op_repS {X : Cx} : OpR X (binaryOp .Mult) rRepS := by
  intro pins s σ H x y v u Q I rx ry h
  obtain ⟨l, k, xs, rfl, rfl, hT, hne, h1, h2, hz, q⟩ := h
  by_cases k2 : 2 ≤ k
  · exact op_repT pins s σ H _ _ v u Q I rx ry ⟨l, k, xs, rfl, rfl, sqt hT, hne, k2, h2, hz, fun p np => q p _ (same_upd np) upd_same⟩
  · cases rx
    obtain ⟨t, rfl⟩ := ry
    obtain ⟨its, r, ⟨⟨cls, dd, data, sl⟩, ho, hc, n, hd⟩, hs⟩ := I.tuple (sqt hT)
    simp only at hc hd
    subst hc hd
    have hle : its.length = xs.length := r.length.symm
    have hn : its ≠ [] := fun e => hne (by
      rw [e] at hle
      exact List.eq_nil_of_length_eq_zero hle.symm)
    have hi : its.toArray.isEmpty = false := by
      cases its with
      | nil => exact absurd rfl hn
      | cons a b => rfl
    by_cases e1 : k = 1
    · subst e1
      refine wpAny_binaryOp_repeat_ref (T := "tuple") (U := "int") (by decide) ⟨_, ho, rfl⟩ (fun s' => typeIs_int s' 1 t) noFill_tuple_mul F.fills_int_mul F.slot_int_rmul repeat_tuple F.slot_int_index.lookup
        (call_meets F.slot_int_rmul (typeIs_int s 1 t) F.entry_int_rmul (F.args_int_rmul_2 _ _) (int_rmul_tuple 1 t l its.toArray n dd sl)
          ⟨ho, rfl, ⟨_, ho, rfl⟩, call_meets F.slot_tuple_mul ⟨_, ho, rfl⟩ F.entry_tuple_mul (F.args_tuple_mul_2 _ _) (tuple_mul1 l its.toArray n dd sl t) ⟨ho, ?_⟩⟩)
      refine ⟨.ref l, H, I, rfl, q l H (Same.refl H) ?_⟩
      rw [hT]
      simp
    · have e0 : k = 0 := by omega
      subst e0
      refine wpAny_binaryOp_repeat_ref (T := "tuple") (U := "int") (by decide) ⟨_, ho, rfl⟩ (fun s' => typeIs_int s' 0 t) noFill_tuple_mul F.fills_int_mul F.slot_int_rmul repeat_tuple F.slot_int_index.lookup
        (call_meets F.slot_int_rmul (typeIs_int s 0 t) F.entry_int_rmul (F.args_int_rmul_2 _ _) (int_rmul_tuple 0 t l its.toArray n dd sl)
          ⟨ho, rfl, ⟨_, ho, rfl⟩, call_meets F.slot_tuple_mul ⟨_, ho, rfl⟩ F.entry_tuple_mul (F.args_tuple_mul_2 _ _) (tuple_mul0 l its.toArray n dd sl t hi) ⟨ho, ?_⟩⟩)
      refine ⟨.ref s.heap.objs.size, _, I.laid (t' := s.toks) (o := .tup []) (fun b ob q => Heap.get?_push_of_some _ q) (Nat.le_refl _) ⟨Nat.zero_le _, [], .nil, IsTup.new _ _⟩, rfl, ?_⟩
      exact q _ _ (same_upd (I.hok.fresh (Nat.le_refl _))) upd_same
/-! ### a written tuple whose object is known -/
def tTupF (ta : TA) : TE := fun σ H Q => ta σ H fun xs H1 => xs.length ≤ sizeLine ∧ ∀ p, ∀ ob : Obj, H1 p = none → ob.dict = none → ob.cls = .type "tuple" → Q (.ref p) (upd H1 p (.frz ob (.tup xs)))
theorem pe_tupF {X : Cx} {es : List Expr} {t : TA} {x1 : Nat} {pos : Pos} (h : PA X es t) : PE X (.Tuple es x1 pos) (tTupF t) := by
  refine ⟨fun pins s σ H Q I hq => ?_⟩
  refine wpAny_Tuple_spliced (thn (h.run pos pins s σ H _ I hq) fun us s1 ⟨xs, H1, I1, r, z, q⟩ => ⟨by rw [← r.length]; exact z, ?_⟩)
  have hf : H1 s1.heap.objs.size = none := I1.hok.fresh (Nat.le_refl _)
  have I2 : Inv X pins σ (upd H1 s1.heap.objs.size (.frz { cls := .type "tuple", data := .seq us.toArray } (.tup xs))) { s1 with heap := s1.heap.push { cls := .type "tuple", data := .seq us.toArray } } :=
    I1.laid (t' := s1.toks) (fun b o e => Heap.get?_push_of_some _ e) (Nat.le_refl _) (show ObjOk X.prog X.w _ _ _ (.frz _ (.tup xs)) from ⟨Heap.get?_push_size _ rfl, z, us, r, IsTup.new _ _⟩)
  exact ⟨.ref s1.heap.objs.size, _, I2, rfl, q _ _ hf rfl rfl⟩
end Sfl
namespace Sfl
/-! the mathematics of first paths: a search by queues finds for each state the first word -/
def nx (rows : List (List Nat)) (s a : Nat) : Nat := (rows.getD s []).getD a 0
def run (rows : List (List Nat)) (s : Nat) (w : List Nat) : Nat := w.foldl (nx rows) s
abbrev PQ := List (Option (List Nat)) × List Nat
def add (rows : List (List Nat)) (x : PQ) (w : List Nat) : PQ :=
  if x.1.getD (run rows 0 w) none = none then (x.1.set (run rows 0 w) (some w), x.2 ++ [run rows 0 w]) else x
def kids (k : Nat) (w : List Nat) : List (List Nat) := (List.range k).map fun a => w ++ [a]
def lev (k : Nat) : Nat → List (List Nat)
  | 0 => [[]]
  | n + 1 => (lev k n).flatMap (kids k)
def upto (k : Nat) : Nat → List (List Nat)
  | 0 => []
  | n + 1 => upto k n ++ lev k n
def empty (rows : List (List Nat)) : PQ := (List.replicate rows.length none, [])
def lv (rows : List (List Nat)) (k n : Nat) : PQ := (upto k n).foldl (add rows) (empty rows)
def visit (rows : List (List Nat)) (k : Nat) (x : PQ) (i : Nat) : PQ :=
  match x.2[i]? with
  | none => x
  | some s => match x.1.getD s none with
    | none => x
    | some w => (kids k w).foldl (add rows) x
def proc (rows : List (List Nat)) (k : Nat) : Nat → PQ
  | 0 => lv rows k 1
  | j + 1 => visit rows k (proc rows k j) j
/-- rows as a machine has them -/
structure Rw (rows : List (List Nat)) (k : Nat) : Prop where
  pos : 0 < rows.length
  wid : ∀ r ∈ rows, r.length = k
  bd : ∀ r ∈ rows, ∀ s ∈ r, s < rows.length
theorem getD_of {α : Type} {l : List α} {i : Nat} {d : α} (h : i < l.length) : l.getD i d = l[i] := by
  rw [List.getD_eq_getElem?_getD, List.getElem?_eq_getElem h]
  rfl
theorem nx_lt {rows : List (List Nat)} {k : Nat} (R : Rw rows k) (s a : Nat) : nx rows s a < rows.length := by
  unfold nx
  by_cases hs : s < rows.length
  · rw [getD_of hs]
    by_cases ha : a < rows[s].length
    · rw [getD_of ha]
      exact R.bd _ (List.getElem_mem hs) _ (List.getElem_mem ha)
    · rw [List.getD_eq_getElem?_getD, List.getElem?_eq_none (by omega)]
      exact R.pos
  · have e : rows.getD s [] = [] := by
      rw [List.getD_eq_getElem?_getD, List.getElem?_eq_none (by omega)]
      rfl
    rw [e]
    exact R.pos
theorem run_lt {rows : List (List Nat)} {k : Nat} (R : Rw rows k) : ∀ (w : List Nat) (s : Nat), s < rows.length → run rows s w < rows.length
  | [], s, h => h
  | a :: w, s, _ => run_lt R w (nx rows s a) (nx_lt R s a)
theorem run_snoc (rows : List (List Nat)) (s : Nat) (w : List Nat) (a : Nat) : run rows s (w ++ [a]) = nx rows (run rows s w) a := by
  unfold run
  rw [List.foldl_append]
  rfl
theorem run_app (rows : List (List Nat)) (s : Nat) (v w : List Nat) : run rows s (v ++ w) = run rows (run rows s v) w := by
  unfold run
  rw [List.foldl_append]
/-- what holds of paths and a queue when the words of V have been gone through -/
structure Iv (rows : List (List Nat)) (V : List (List Nat)) (x : PQ) : Prop where
  len : x.1.length = rows.length
  src : ∀ s w, x.1.getD s none = some w → w ∈ V ∧ run rows 0 w = s
  all : ∀ w ∈ V, x.1.getD (run rows 0 w) none ≠ none
  nd : x.2.Nodup
  mem : ∀ s, s ∈ x.2 ↔ x.1.getD s none ≠ none
theorem set_getD {l : List (Option (List Nat))} {i j : Nat} {y : Option (List Nat)} (hi : i < l.length) : (l.set i y).getD j none = if i = j then y else l.getD j none := by
  rw [List.getD_eq_getElem?_getD, List.getD_eq_getElem?_getD, List.getElem?_set]
  by_cases e : i = j
  · rw [if_pos e, if_pos e, if_pos hi]
    rfl
  · rw [if_neg e, if_neg e]
theorem Iv.start (rows : List (List Nat)) : Iv rows [] (empty rows) := by
  have e : ∀ s, (empty rows).1.getD s none = none := by
    intro s
    unfold empty
    rw [List.getD_eq_getElem?_getD, List.getElem?_replicate]
    split <;> rfl
  refine ⟨by unfold empty; rw [List.length_replicate], fun s w h => ?_, fun w h => (nomatch h), List.nodup_nil, fun s => ?_⟩
  · rw [e] at h
    cases h
  · constructor
    · intro h
      cases h
    · intro h
      exact absurd (e s) h
theorem Iv.add {rows : List (List Nat)} {k : Nat} (R : Rw rows k) {V : List (List Nat)} {x : PQ} (I : Iv rows V x) (w : List Nat) : Iv rows (V ++ [w]) (add rows x w) := by
  have hlt : run rows 0 w < x.1.length := by
    rw [I.len]
    exact run_lt R w 0 R.pos
  unfold Sfl.add
  by_cases c : x.1.getD (run rows 0 w) none = none
  · rw [if_pos c]
    refine ⟨?_, fun s v h => ?_, fun v hv => ?_, ?_, fun s => ?_⟩
    · show (x.1.set _ _).length = _
      rw [List.length_set]
      exact I.len
    · have h' : (x.1.set (run rows 0 w) (some w)).getD s none = some v := h
      rw [set_getD hlt] at h'
      by_cases e : run rows 0 w = s
      · rw [if_pos e] at h'
        have e2 : w = v := Option.some.inj h'
        subst e2
        exact ⟨List.mem_append_right _ List.mem_cons_self, e⟩
      · rw [if_neg e] at h'
        obtain ⟨a, b⟩ := I.src s v h'
        exact ⟨List.mem_append_left _ a, b⟩
    · show (x.1.set (run rows 0 w) (some w)).getD _ none ≠ none
      rw [set_getD hlt]
      by_cases e : run rows 0 w = run rows 0 v
      · rw [if_pos e]
        intro z
        cases z
      · rw [if_neg e]
        rcases List.mem_append.mp hv with h | h
        · exact I.all v h
        · rw [List.mem_singleton.mp h] at e
          exact absurd rfl e
    · show (x.2 ++ [run rows 0 w]).Nodup
      rw [List.nodup_append]
      refine ⟨I.nd, by simp, fun a ha b hb => ?_⟩
      rw [List.mem_singleton.mp hb]
      intro e
      subst e
      exact (I.mem _).mp ha c
    · show s ∈ x.2 ++ [run rows 0 w] ↔ (x.1.set (run rows 0 w) (some w)).getD s none ≠ none
      rw [set_getD hlt]
      by_cases e : run rows 0 w = s
      · rw [if_pos e]
        constructor
        · intro _ z
          cases z
        · intro _
          rw [e]
          exact List.mem_append_right _ List.mem_cons_self
      · rw [if_neg e, ← I.mem s]
        constructor
        · intro h
          rcases List.mem_append.mp h with h | h
          · exact h
          · exact absurd (List.mem_singleton.mp h).symm e
        · exact List.mem_append_left _
  · rw [if_neg c]
    refine ⟨I.len, fun s v h => ?_, fun v hv => ?_, I.nd, I.mem⟩
    · obtain ⟨a, b⟩ := I.src s v h
      exact ⟨List.mem_append_left _ a, b⟩
    · rcases List.mem_append.mp hv with h | h
      · exact I.all v h
      · rw [List.mem_singleton.mp h]
        exact c
theorem Iv.adds {rows : List (List Nat)} {k : Nat} (R : Rw rows k) : ∀ (L V : List (List Nat)) (x : PQ), Iv rows V x → Iv rows (V ++ L) (L.foldl (Sfl.add rows) x)
  | [], V, x, I => by
    rw [List.append_nil]
    exact I
  | w :: L, V, x, I => by
    have := Iv.adds R L (V ++ [w]) (Sfl.add rows x w) (I.add R w)
    rw [List.append_assoc] at this
    exact this
/-- what stands, stands -/
theorem add_keep {rows : List (List Nat)} {x : PQ} {w : List Nat} {s : Nat} {v : List Nat} (h : x.1.getD s none = some v) : (add rows x w).1.getD s none = some v := by
  unfold add
  by_cases c : x.1.getD (run rows 0 w) none = none
  · rw [if_pos c]
    show (x.1.set (run rows 0 w) (some w)).getD s none = some v
    have e : run rows 0 w ≠ s := by
      intro e
      rw [e, h] at c
      cases c
    rw [List.getD_eq_getElem?_getD, List.getElem?_set, if_neg e, ← List.getD_eq_getElem?_getD]
    exact h
  · rw [if_neg c]
    exact h
theorem adds_keep {rows : List (List Nat)} {s : Nat} {v : List Nat} : ∀ (L : List (List Nat)) (x : PQ), x.1.getD s none = some v → (L.foldl (add rows) x).1.getD s none = some v
  | [], _, h => h
  | w :: L, x, h => adds_keep L (add rows x w) (add_keep h)
/-- the words that are set on the way -/
def fs (rows : List (List Nat)) : PQ → List (List Nat) → List (List Nat)
  | _, [] => []
  | x, w :: L => if x.1.getD (run rows 0 w) none = none then w :: fs rows (add rows x w) L else fs rows x L
theorem fs_cons (rows : List (List Nat)) (x : PQ) (w : List Nat) (L : List (List Nat)) : fs rows x (w :: L) = if x.1.getD (run rows 0 w) none = none then w :: fs rows (add rows x w) L else fs rows x L := rfl
theorem adds_q (rows : List (List Nat)) : ∀ (L : List (List Nat)) (x : PQ), (L.foldl (add rows) x).2 = x.2 ++ (fs rows x L).map (run rows 0)
  | [], x => by simp [fs]
  | w :: L, x => by
    show (L.foldl (add rows) (add rows x w)).2 = _
    rw [adds_q rows L (add rows x w), fs_cons]
    by_cases c : x.1.getD (run rows 0 w) none = none
    · rw [if_pos c]
      have e : (add rows x w).2 = x.2 ++ [run rows 0 w] := by
        unfold add
        rw [if_pos c]
      rw [e, List.append_assoc]
      rfl
    · rw [if_neg c]
      have e : add rows x w = x := by
        unfold add
        rw [if_neg c]
      rw [e]
theorem adds_full {rows : List (List Nat)} : ∀ (L : List (List Nat)) (x : PQ), (∀ w ∈ L, x.1.getD (run rows 0 w) none ≠ none) → L.foldl (add rows) x = x
  | [], _, _ => rfl
  | w :: L, x, h => by
    have e : add rows x w = x := by
      unfold add
      rw [if_neg (h w List.mem_cons_self)]
    show L.foldl (add rows) (add rows x w) = x
    rw [e]
    exact adds_full L x fun v hv => h v (List.mem_cons_of_mem _ hv)
theorem kids_run {rows : List (List Nat)} {k : Nat} {v w : List Nat} (e : run rows 0 v = run rows 0 w) {u : List Nat} (h : u ∈ kids k w) : ∃ u' ∈ kids k v, run rows 0 u' = run rows 0 u := by
  unfold kids at h
  obtain ⟨a, ha, rfl⟩ := List.mem_map.mp h
  refine ⟨v ++ [a], List.mem_map.mpr ⟨a, ha, rfl⟩, ?_⟩
  rw [run_snoc, run_snoc, e]
/-- a level by the queue -/
theorem level_go {rows : List (List Nat)} {k : Nat} (R : Rw rows k) {z : PQ} : ∀ (L V : List (List Nat)) (y : PQ) (B : List (List Nat)) (x : PQ) (j : Nat),
    Iv rows V y → L.foldl (add rows) y = z → Iv rows B x → (∀ v ∈ V, ∀ u ∈ kids k v, x.1.getD (run rows 0 u) none ≠ none) → (∀ s v, z.1.getD s none = some v → x.1.getD s none = some v) →
    (∃ more, x.2 = z.2 ++ more) → proc rows k j = x → j + (fs rows y L).length = z.2.length → z.2.drop j = (fs rows y L).map (run rows 0) →
    proc rows k z.2.length = (L.flatMap (kids k)).foldl (add rows) x
  | [], V, y, B, x, j, _, _, _, _, _, _, hp, hj, _ => by
    have e : j = z.2.length := by
      have : (fs rows y []).length = 0 := rfl
      omega
    rw [← e, hp]
    rfl
  | w :: L, V, y, B, x, j, Iy, hz, Ix, hc, hk, hm, hp, hj, hd => by
    rw [List.flatMap_cons, List.foldl_append]
    have hz' : L.foldl (add rows) (add rows y w) = z := hz
    by_cases c : y.1.getD (run rows 0 w) none = none
    · -- the word is the first one of its state
      have ef : fs rows y (w :: L) = w :: fs rows (add rows y w) L := by
        show (if _ then _ else _) = _
        rw [if_pos c]
      rw [ef] at hj hd
      have hlt : run rows 0 w < y.1.length := by
        rw [Iy.len]
        exact run_lt R w 0 R.pos
      have hy : (add rows y w).1.getD (run rows 0 w) none = some w := by
        unfold add
        rw [if_pos c]
        show (y.1.set (run rows 0 w) (some w)).getD _ none = some w
        rw [set_getD hlt, if_pos rfl]
      have hzw : z.1.getD (run rows 0 w) none = some w := by
        rw [← hz']
        exact adds_keep L _ hy
      have hxw := hk _ _ hzw
      rw [List.length_cons] at hj
      have hjl : j < z.2.length := by omega
      have hq : x.2[j]? = some (run rows 0 w) := by
        obtain ⟨more, hm⟩ := hm
        rw [hm, List.getElem?_append_left hjl]
        have e1 : (z.2.drop j)[0]? = some (run rows 0 w) := by
          rw [hd]
          rfl
        rw [List.getElem?_drop] at e1
        exact e1
      have hv : visit rows k x j = (kids k w).foldl (add rows) x := by
        unfold visit
        rw [hq]
        show (match x.1.getD (run rows 0 w) none with
          | none => x
          | some w => (kids k w).foldl (add rows) x) = _
        rw [hxw]
      refine level_go R L (V ++ [w]) (add rows y w) (B ++ kids k w) ((kids k w).foldl (add rows) x) (j + 1) (Iy.add R w) hz' (Ix.adds R _) ?_ ?_ ?_ ?_ ?_ ?_
      · intro v hv2 u hu
        rcases List.mem_append.mp hv2 with h | h
        · have := hc v h u hu
          cases e : x.1.getD (run rows 0 u) none with
          | none => exact absurd e this
          | some t =>
            rw [adds_keep _ _ e]
            intro z
            cases z
        · rw [List.mem_singleton.mp h] at hu
          exact (Ix.adds R (kids k w)).all u (List.mem_append_right _ hu)
      · intro s v h
        exact adds_keep _ _ (hk s v h)
      · obtain ⟨more, hm⟩ := hm
        refine ⟨more ++ (fs rows x (kids k w)).map (run rows 0), ?_⟩
        rw [adds_q, hm, List.append_assoc]
      · show visit rows k (proc rows k j) j = _
        rw [hp, hv]
      · omega
      · have : z.2.drop (j + 1) = (z.2.drop j).drop 1 := by rw [List.drop_drop]
        rw [this, hd]
        rfl
    · -- an earlier word leads to the same state
      have ef : fs rows y (w :: L) = fs rows y L := by
        show (if _ then _ else _) = _
        rw [if_neg c]
      rw [ef] at hj hd
      have ea : add rows y w = y := by
        unfold add
        rw [if_neg c]
      rw [ea] at hz'
      have he : (kids k w).foldl (add rows) x = x := by
        refine adds_full _ _ fun u hu => ?_
        cases e : y.1.getD (run rows 0 w) none with
        | none => exact absurd e c
        | some v =>
          obtain ⟨a, b⟩ := Iy.src _ _ e
          obtain ⟨u', hu', e2⟩ := kids_run b hu
          rw [← e2]
          exact hc v a u' hu'
      rw [he]
      have I2 := Iy.add R w
      rw [ea] at I2
      refine level_go R L (V ++ [w]) y B x j I2 hz' Ix ?_ hk hm hp hj hd
      intro v hv2 u hu
      rcases List.mem_append.mp hv2 with h | h
      · exact hc v h u hu
      · rw [List.mem_singleton.mp h] at hu
        cases e : y.1.getD (run rows 0 w) none with
        | none => exact absurd e c
        | some v =>
          obtain ⟨a, b⟩ := Iy.src _ _ e
          obtain ⟨u', hu', e2⟩ := kids_run b hu
          rw [← e2]
          exact hc v a u' hu'
theorem lv_iv {rows : List (List Nat)} {k : Nat} (R : Rw rows k) (n : Nat) : Iv rows (upto k n) (lv rows k n) := by
  have := Iv.adds R (upto k n) [] (empty rows) (Iv.start rows)
  rw [List.nil_append] at this
  exact this
theorem lv_succ (rows : List (List Nat)) (k n : Nat) : lv rows k (n + 1) = (lev k n).foldl (add rows) (lv rows k n) := by
  unfold lv
  show (upto k n ++ lev k n).foldl _ _ = _
  rw [List.foldl_append]
theorem kids_upto {k : Nat} {v u : List Nat} : ∀ {n : Nat}, v ∈ upto k n → u ∈ kids k v → u ∈ upto k (n + 1)
  | 0, h, _ => (nomatch h)
  | n + 1, h, hu => by
    rcases List.mem_append.mp h with h | h
    · exact List.mem_append_left _ (kids_upto h hu)
    · exact List.mem_append_right _ (List.mem_flatMap.mpr ⟨v, h, hu⟩)
theorem proc_lv {rows : List (List Nat)} {k : Nat} (R : Rw rows k) : ∀ n, proc rows k (lv rows k n).2.length = lv rows k (n + 1)
  | 0 => rfl
  | n + 1 => by
    rw [lv_succ rows k (n + 1)]
    have hz : (lev k n).foldl (add rows) (lv rows k n) = lv rows k (n + 1) := (lv_succ rows k n).symm
    have hq := adds_q rows (lev k n) (lv rows k n)
    rw [hz] at hq
    refine level_go R (z := lv rows k (n + 1)) (lev k n) (upto k n) (lv rows k n) (upto k (n + 1)) (lv rows k (n + 1)) (lv rows k n).2.length (lv_iv R n) hz (lv_iv R (n + 1)) ?_ (fun s v h => h) ⟨[], by rw [List.append_nil]⟩ (proc_lv R n) ?_ ?_
    · intro v hv u hu
      exact (lv_iv R (n + 1)).all u (kids_upto hv hu)
    · rw [hq, List.length_append, List.length_map]
    · rw [hq, List.drop_left]
theorem Iv.lt {rows : List (List Nat)} {k : Nat} (R : Rw rows k) {V : List (List Nat)} {x : PQ} (I : Iv rows V x) {s : Nat} (h : s ∈ x.2) : s < rows.length := by
  have := (I.mem s).mp h
  rcases Nat.lt_or_ge s x.1.length with c | c
  · rw [I.len] at c
    exact c
  · exact absurd (by rw [List.getD_eq_getElem?_getD, List.getElem?_eq_none c]; rfl) this
theorem Iv.le {rows : List (List Nat)} {k : Nat} (R : Rw rows k) {V : List (List Nat)} {x : PQ} (I : Iv rows V x) : x.2.length ≤ rows.length := by
  have := L2.nat_nodup_len x.2 (List.range rows.length) I.nd fun s h => List.mem_range.mpr (I.lt R h)
  rw [List.length_range] at this
  exact this
theorem Iv.full {rows : List (List Nat)} {k : Nat} (R : Rw rows k) {V : List (List Nat)} {x : PQ} (I : Iv rows V x) (h : rows.length ≤ x.2.length) {s : Nat} (hs : s < rows.length) : x.1.getD s none ≠ none := by
  rw [← I.mem s]
  rcases Classical.em (s ∈ x.2) with c | c
  · exact c
  · have := L2.nat_nodup_len (s :: x.2) (List.range rows.length) (List.nodup_cons.mpr ⟨c, I.nd⟩) fun t ht => by
      rcases List.mem_cons.mp ht with e | e
      · rw [e]
        exact List.mem_range.mpr hs
      · exact List.mem_range.mpr (I.lt R e)
    rw [List.length_range, List.length_cons] at this
    omega
/-- where nothing is left in the queue, nothing changes -/
theorem visit_end {rows : List (List Nat)} {k : Nat} {x : PQ} {i : Nat} (h : x.2.length ≤ i) : visit rows k x i = x := by
  unfold visit
  rw [List.getElem?_eq_none h]
theorem proc_end {rows : List (List Nat)} {k : Nat} {x : PQ} {j : Nat} (h : proc rows k j = x) (hl : x.2.length ≤ j) : ∀ i, proc rows k (j + i) = x
  | 0 => h
  | i + 1 => by
    show visit rows k (proc rows k (j + i)) (j + i) = x
    rw [proc_end h hl i]
    exact visit_end (by omega)
theorem visit_full {rows : List (List Nat)} {k : Nat} (R : Rw rows k) {x : PQ} (h : ∀ s, s < rows.length → x.1.getD s none ≠ none) (i : Nat) : visit rows k x i = x := by
  unfold visit
  split
  · rfl
  · split
    · rfl
    · exact adds_full _ _ fun w _ => h _ (run_lt R w 0 R.pos)
theorem proc_full {rows : List (List Nat)} {k : Nat} (R : Rw rows k) {x : PQ} {j : Nat} (h : proc rows k j = x) (hf : ∀ s, s < rows.length → x.1.getD s none ≠ none) : ∀ i, proc rows k (j + i) = x
  | 0 => h
  | i + 1 => by
    show visit rows k (proc rows k (j + i)) (j + i) = x
    rw [proc_full R h hf i]
    exact visit_full R hf _
theorem lv_grow (rows : List (List Nat)) (k n : Nat) : (lv rows k n).2.length ≤ (lv rows k (n + 1)).2.length := by
  rw [lv_succ, adds_q, List.length_append]
  omega
theorem lv_end {rows : List (List Nat)} {k : Nat} (R : Rw rows k) : ∀ n, (lv rows k (n + 1)).2.length ≤ (lv rows k n).2.length ∨ n + 1 ≤ (lv rows k (n + 1)).2.length
  | 0 => by
    right
    show 1 ≤ (lv rows k 1).2.length
    have h0 : (lv rows k 1).1.getD (run rows 0 []) none ≠ none := (lv_iv R 1).all [] (List.mem_append_right _ List.mem_cons_self)
    have := ((lv_iv R 1).mem _).mpr h0
    exact List.length_pos_of_mem this
  | n + 1 => by
    rcases lv_end R n with h | h
    · left
      have e1 := proc_end (proc_lv R n) h ((lv rows k (n + 1)).2.length - (lv rows k n).2.length)
      have e2 : (lv rows k n).2.length + ((lv rows k (n + 1)).2.length - (lv rows k n).2.length) = (lv rows k (n + 1)).2.length := by
        have := lv_grow rows k n
        omega
      rw [e2, proc_lv R (n + 1)] at e1
      rw [e1]
      exact Nat.le_refl _
    · have := lv_grow rows k (n + 1)
      omega
/-- the search ends with the first words of all states -/
theorem proc_all {rows : List (List Nat)} {k : Nat} (R : Rw rows k) : proc rows k rows.length = lv rows k rows.length := by
  have hp := R.pos
  obtain ⟨n, hn⟩ : ∃ n, rows.length = n + 1 := ⟨rows.length - 1, by omega⟩
  have key := proc_lv R n
  have hle := (lv_iv R n).le R
  have e2 : (lv rows k n).2.length + (rows.length - (lv rows k n).2.length) = rows.length := by omega
  rcases lv_end R n with h | h
  · have e1 := proc_end key h (rows.length - (lv rows k n).2.length)
    rw [e2] at e1
    rw [e1, hn]
  · have e1 := proc_full R key (fun s hs => (lv_iv R (n + 1)).full R (by omega) hs) (rows.length - (lv rows k n).2.length)
    rw [e2] at e1
    rw [e1, hn]
/-- at each turn the search stands within the queue -/
theorem proc_iv {rows : List (List Nat)} {k : Nat} (R : Rw rows k) : ∀ j, ∃ V, Iv rows V (proc rows k j)
  | 0 => ⟨_, lv_iv R 1⟩
  | j + 1 => by
    obtain ⟨V, I⟩ := proc_iv R j
    show ∃ V, Iv rows V (visit rows k (proc rows k j) j)
    unfold visit
    split
    · exact ⟨V, I⟩
    · split
      · exact ⟨V, I⟩
      · exact ⟨_, I.adds R _⟩
end Sfl
namespace Sfl
open PySem PySem.Spec PyProof.Rows L2
def topS (i : Nat) : Stmt := PySem.Challenge.pw_seldomflip_k14_states_behind_logs.main.body.getD i (.Pass ⟨0, 0, 0, 0⟩)
abbrev sIsWhole : Stmt := topS 7
abbrev sIsName : Stmt := topS 8
abbrev sIsAscending : Stmt := topS 9
abbrev sCheckNumber : Stmt := topS 10
abbrev sIsAnyLog : Stmt := topS 14
abbrev sIsLetters : Stmt := topS 15
abbrev sStateAfter : Stmt := topS 17
abbrev sAreRows : Stmt := topS 20
abbrev sIsMachine : Stmt := topS 21
abbrev sCheckMachine : Stmt := topS 22
abbrev sIsLogOver : Stmt := topS 23
abbrev sCheckLogOver : Stmt := topS 24
abbrev sPathOf : Stmt := topS 25
abbrev sLogOf : Stmt := topS 26
abbrev sStateOf : Stmt := topS 27
abbrev sLabelOf : Stmt := topS 28
abbrev sStateBehind : Stmt := topS 29
abbrev sContains : Stmt := topS 30
abbrev sFirstPaths : Stmt := topS 31
abbrev sFirstLogs : Stmt := topS 32
abbrev sDice : Stmt := topS 34
abbrev sRoll : Stmt := topS 35
abbrev sPick : Stmt := topS 36
abbrev sMixed : Stmt := topS 37
abbrev sLetters : Stmt := topS 38
abbrev sLog : Stmt := topS 39
abbrev sRows : Stmt := topS 40
abbrev sWords : Stmt := topS 41
abbrev sMachine : Stmt := topS 42
abbrev sBehind : Stmt := topS 43
abbrev sRight : Stmt := topS 44
abbrev sGreat : Stmt := topS 45
abbrev sLaw : Stmt := topS 46

/-- what the top leaves of the built-in names -/
structure Bn (mg : Str → Option Value) : Prop where
  len : mg "len" = none
  enum : mg "enumerate" = none
  tuple : mg "tuple" = none
  isi : mg "isinstance" = none
  str : mg "str" = none
  all : mg "all" = none
  range : mg "range" = none
  min : mg "min" = none
  max : mg "max" = none
  list : mg "list" = none
  sorted : mg "sorted" = none
  abs : mg "abs" = none
  int : mg "int" = none
  repr : mg "repr" = none
  zip : mg "zip" = none
  bool : mg "bool" = none
  signs : ∃ t, mg "MAX_SIGNS" = some (.int 8 t)
  lets : ∃ t, mg "MAX_LETTERS" = some (.int 4 t)
  states : ∃ t, mg "MAX_STATES" = some (.int 200 t)
  events : ∃ t, mg "MAX_EVENTS" = some (.int 200 t)

section
variable {P : Program} {w : World} {K : PySem.W.Frag} {mg : Str → Option Value} {base : Heap}

/-! ### is_name -/
theorem scIsName : FnScope ["value"] ["value"] (defScope sIsName) := ⟨rfl, rfl, rfl, by decide +kernel, rfl, by decide +kernel, by decide +kernel⟩
def spIsName : Sp := fun vs H Q _ => ∃ z : Str, vs = [.str z] ∧ z.length ≤ sizeLine ∧ Q (.bl (Nm z)) H
theorem ok_isName {f : Addr} {fd : FuncData} {k : Nat} (F : Fun K "is_name" "is_name" sIsName f fd) (B : Bn mg) : FnOk P w K mg base CX0 (k + 1) f fd ["value"] spIsName := by
  refine F.ok scIsName (fun vs H Q E h => ?_) (fun cdv A outer s H vs Q E hr h => ?_)
  · obtain ⟨z, rfl, _⟩ := h
    rfl
  · obtain ⟨z, rfl, hz, q⟩ := h
    obtain ⟨tS, gS⟩ := B.signs
    refine ⟨_, pss_cons (ps_if (PW.pt (pw_or (pt_not (pt_val (pe_callB call_isi (by rfl) B.isi (by decide +kernel) (pa_cons (pv 0) (pa_cons (pe_bltn (v := .ty "str") (by rfl) B.str (by decide +kernel) rfl) pa_nil)))))
        (pw_or1 (pt_cmpR op_gt (pe_callB call_len_str (by rfl) B.len PySem.boot_len (pa_cons (pv 0) pa_nil)) (pe_glob (v := .int 8) rfl gS ⟨_, rfl⟩) (nomark _)))))
        (pss_one (ps_ret pe_bl)) pss_nil)
      (pss_one (ps_ret (pe_and (pe_m0 PySem.F.slot_str_isascii PySem.F.type_str_isascii mt_isascii (pv 0))
        (pe_and (pe_m0 PySem.F.slot_str_isalpha PySem.F.type_str_isalpha mt_isalpha (pv 0))
        (pe_one (pe_m0 PySem.F.slot_str_islower PySem.F.type_str_islower mt_islower (pv 0))))))), ?_⟩
    refine ⟨_, rfl, .str z, .ty "str", _, .type "str", true, rfl, .ty _, .base (.str _), kit_ty (by decide +kernel), _, rfl, iteF ?_⟩
    refine ⟨_, rfl, z, rfl, hz, _, _, rfl, rfl, _, rfl, ?_⟩
    have hq : Nm z = if z.length > 8 then false else (if Txt.isascii z then (if Txt.isalpha z then Txt.islower z else false) else false) := rfl
    refine ite2 (fun hc => ?_) (fun hc => ?_)
    · have h8 : z.length > 8 := by
        have := of_decide_eq_true hc
        omega
      rw [if_pos h8] at hq
      rw [hq] at q
      exact q
    · have h8 : ¬ z.length > 8 := fun z' => hc (decide_eq_true (by omega))
      rw [if_neg h8] at hq
      rw [hq] at q
      refine ⟨_, rfl, ⟨_, rfl⟩, z, rfl, rfl, trivial, _, rfl, ?_⟩
      cases e1 : Txt.isascii z with
      | false =>
        rw [e1] at q
        exact iteF q
      | true =>
        rw [e1] at q
        refine iteT ⟨_, rfl, ⟨_, rfl⟩, z, rfl, rfl, trivial, _, rfl, ?_⟩
        cases e2 : Txt.isalpha z with
        | false =>
          rw [e2] at q
          exact iteF q
        | true =>
          rw [e2] at q
          exact iteT ⟨_, rfl, ⟨_, rfl⟩, z, rfl, rfl, trivial, q⟩
end
end Sfl
namespace Sfl
open PySem PySem.Spec PyProof.Rows L2
/-- a list, a tuple, or a tuple whose object is known -/
def It3 (H : Hp) (p : Addr) (xs : List V) : Prop := H p = some (.lst xs) ∨ H p = some (.tup xs) ∨ Kt H p xs
theorem It3.kp {a p : Addr} {H H' : Hp} {xs : List V} (h : It3 H p xs) (x : Kp a H H') (hn : p ≠ a) : It3 H' p xs := by
  rcases h with h | h | ⟨ob, e, r⟩
  · exact .inl (x p _ hn h)
  · exact .inr (.inl (x p _ hn h))
  · exact .inr (.inr ⟨ob, x p _ hn e, r⟩)
theorem It3.same {p : Addr} {H H' : Hp} {xs : List V} (h : It3 H p xs) (x : Same H H') : It3 H' p xs := by
  rcases h with h | h | h
  · exact .inl (x p _ h)
  · exact .inr (.inl (x p _ h))
  · exact .inr (.inr (h.same x))
theorem It3.sq {K : PySem.W.Frag} {H : Hp} {p : Addr} {xs : List V} (h : It3 H p xs) : SqL K H p xs ∨ SqT K H p xs := by
  rcases h with h | h | h
  · exact .inl (sql h)
  · exact .inr (sqt h)
  · exact .inr h.sq
theorem It3.ix {K : PySem.W.Frag} {H : Hp} {p : Addr} {xs : List V} {i : Nat} {v : V} {Q : VK} (h : It3 H p xs) (hv : xs[i]? = some v) (q : Q v H) : rIx K (.ref p) (.int (i : Int)) H Q := by
  rcases h with h | h | h
  · exact .inl ⟨p, xs, _, v, rfl, rfl, sql h, atI_nat hv, q⟩
  · exact .inr (.inl ⟨p, xs, _, v, rfl, rfl, sqt h, atI_nat hv, q⟩)
  · exact .inr (.inl ⟨p, xs, _, v, rfl, rfl, h.sq, atI_nat hv, q⟩)
/-- letters: a tuple of texts whose object is known -/
abbrev Lk (H : Hp) (p : Addr) (l : List Str) : Prop := Kt H p (l.map V.str)
end Sfl

namespace Sfl
open PySem PySem.Spec PyProof.Rows L2
section
variable {P : Program} {w : World} {K : PySem.W.Frag} {mg : Str → Option Value} {base : Heap}
theorem get_map {α β : Type} {f : α → β} {xs : List α} {i : Nat} (h : i < xs.length) : (xs.map f)[i]? = some (f xs[i]) := by
  rw [List.getElem?_map, List.getElem?_eq_getElem h]
  rfl
theorem get_map' {α β : Type} {f : α → β} {xs : List α} {i : Nat} {y : β} (h : (xs.map f)[i]? = some y) : ∃ x, xs[i]? = some x ∧ f x = y := by
  rw [List.getElem?_map] at h
  cases e : xs[i]? with
  | none => rw [e] at h; cases h
  | some x => rw [e] at h; exact ⟨x, rfl, Option.some.inj h⟩
theorem get_lt {α : Type} {xs : List α} {i : Nat} {x : α} (h : xs[i]? = some x) : i < xs.length := (List.getElem?_eq_some_iff.mp h).1
/-! ### first_way -/
end
end Sfl

namespace Sfl
open PySem PySem.Spec PyProof.Rows L2
/-- a def of the text as its callers see it -/
def Cal (P : Program) (w : World) (K : PySem.W.Frag) (mg : Str → Option Value) (base : Heap) (k : Nat) (x : Str) (ps : List Str) (sp : Sp) : Prop :=
  ∃ (f : Addr) (fd : FuncData), FnOk P w K mg base CX0 k f fd ps sp ∧ mg x = some (.ref f) ∧ PySem.W.keepIn K (.ref f) = true ∧ Binds K fd ps []
section
variable {P : Program} {w : World} {K : PySem.W.Frag} {mg : Str → Option Value} {base : Heap}
theorem Cal.mono {j k : Nat} {x : Str} {ps : List Str} {sp : Sp} (C : Cal P w K mg base j x ps sp) (h : j ≤ k) : Cal P w K mg base k x ps sp := by
  obtain ⟨f, fd, G, g, kp, b⟩ := C
  exact ⟨f, fd, G.mono h, g, kp, b⟩

end
end Sfl

namespace Sfl
open PySem PySem.Spec PyProof.Rows L2
theorem nm_len {z : Str} (h : Nm z = true) : z.length ≤ 8 := by
  unfold Nm at h
  by_cases c : z.length > 8
  · rw [if_pos c] at h
    cases h
  · omega
theorem nm_line {z : Str} (h : Nm z = true) : z.length ≤ sizeLine := Nat.le_trans (nm_len h) (by decide)
/-- a log that is passed -/
structure Lg (l : List Str) : Prop where
  len : l.length ≤ 200
  nm : ∀ z ∈ l, Nm z = true
theorem Lg.k {l : List Str} (h : Lg l) : l.length ≤ 1000 := Nat.le_trans h.len (by decide)
section
variable {P : Program} {w : World} {K : PySem.W.Frag} {mg : Str → Option Value} {base : Heap}
theorem scIsAnyLog : FnScope ["value", "event"] ["value"] (defScope sIsAnyLog) := ⟨rfl, rfl, rfl, by decide +kernel, rfl, by decide +kernel, by decide +kernel⟩
def spIsAnyLog : Sp := fun vs H Q _ => ∃ (p : Addr) (l : List Str), vs = [.ref p] ∧ Tp H p l ∧ Lg l ∧ ∀ H', Same H H' → Q (.bl true) H'
theorem ok_isAnyLog {f : Addr} {fd : FuncData} {k : Nat} (F : Fun K "is_any_log" "is_any_log" sIsAnyLog f fd) (B : Bn mg) (C1 : Cal P w K mg base k "is_name" ["value"] spIsName) :
    FnOk P w K mg base CX0 (k + 1) f fd ["value"] spIsAnyLog := by
  obtain ⟨f1, fd1, G1, g1, kp1, b1⟩ := C1
  refine F.ok scIsAnyLog (fun vs H Q E h => ?_) (fun cdv A outer s H vs Q E hr h => ?_)
  · obtain ⟨p, l, rfl, _⟩ := h
    rfl
  · obtain ⟨p, l, rfl, hp, hl, q⟩ := h
    obtain ⟨tS, gS⟩ := B.events
    refine ⟨_, pss_cons (ps_if (PW.pt (pw_or (pt_not (pt_val (pe_callB call_isi (by rfl) B.isi (by decide +kernel) (pa_cons (pv 0) (pa_cons (pe_bltn (v := .ty "tuple") (by rfl) B.tuple (by decide +kernel) rfl) pa_nil)))))
        (pw_or1 (pt_cmpR op_gt (pe_callB call_len_seq (by rfl) B.len PySem.boot_len (pa_cons (pv 0) pa_nil)) (pe_glob (v := .int 200) rfl gS ⟨_, rfl⟩) (nomark _)))))
        (pss_one (ps_ret pe_bl)) pss_nil)
      (pss_one (ps_ret (pe_callB (cr_all rfl) (by rfl) B.all (by decide +kernel) (pa_cons
        (pe_lc (own := [("event", 1)]) (g := gName 1) (tt := tYes) rfl scIsAnyLog.nd (pi_tup (pv 0)) (blkOk_by (own := [("event", 1)]) (N := ["value", "event"]) (sc := defScope sIsAnyLog) (by decide +kernel))
          (fun _ _ _ _ _ => pg_name (i := 1) scIsAnyLog.nd rfl (Or.inl rfl)) (fun _ _ _ _ _ => pts_nil)
          (fun _ _ _ _ _ => pe_call G1 hr (by rfl) g1 kp1 b1 .nil pass0 (pa_cons (pv 1) pa_nil))) pa_nil)))), ?_⟩
    refine ⟨_, rfl, .ref p, .ty "tuple", _, .type "tuple", true, rfl, .ty _, .base (.tup hp), kit_ty (by decide +kernel), _, rfl, iteF ?_⟩
    refine ⟨_, rfl, p, _, rfl, .inr (sqt hp), _, _, rfl, rfl, _, rfl, ?_⟩
    rw [List.length_map]
    refine ite2 (fun hc => ?_) (fun _ => ?_)
    · have := of_decide_eq_true hc
      have := hl.len
      omega
    · refine ⟨.ref p, rfl, p, rfl, ⟨_, sqt hp⟩, fun D nD => ?_⟩
      refine lc_tup (xs := l.map V.str) (fun i H4 => Same H H4 ∧ H4 D = some (.lst ((List.replicate i true).map V.bl)))
        ⟨same_upd nD, by rw [upd_same]; rfl⟩ (fun i H4 hi hp4 => sqt (hp4.1 _ _ hp)) (fun i x H4 hx hp4 => ?_) (fun H4 hp4 => ?_)
      · obtain ⟨sm, hD⟩ := hp4
        obtain ⟨z, hz, rfl⟩ := get_map' hx
        have nz := hl.nm z (List.mem_of_getElem? hz)
        refine ⟨rfl, .str z, rfl, z, rfl, nm_line nz, _, hD, ?_, ?_, ?_⟩
        · rw [List.length_map, List.length_replicate]
          have := get_lt hz
          have := hl.len
          exact small1000 (by omega)
        · intro b u e
          rw [upd_ne (ne_of_none e nD)]
          exact sm _ _ e
        · rw [upd_same, nz, List.replicate_succ', List.map_append]
          rfl
      · obtain ⟨sm, hD⟩ := hp4
        refine ⟨D, List.replicate (l.map V.str).length true, rfl, sql hD, ?_⟩
        have e : (List.replicate (l.map V.str).length true).all id = true := by simp
        rw [e]
        exact q _ sm
end
end Sfl

namespace Sfl
open PySem PySem.Spec PyProof.Rows L2
/-- dice stand at a: three numbers, the last one counts the rolls -/
def Dc (H : Hp) (a : Addr) (m : Nat) : Prop := ∃ i j k : Int, H a = some (.lst [.int i, .int j, .int k]) ∧ 0 ≤ k ∧ k ≤ (m : Int)
theorem Dc.mono {H : Hp} {a : Addr} {m n : Nat} (d : Dc H a m) (h : m ≤ n) : Dc H a n := by
  obtain ⟨i, j, k, e, h0, h1⟩ := d
  exact ⟨i, j, k, e, h0, by omega⟩
theorem Dc.same {H H' : Hp} {a : Addr} {m : Nat} (d : Dc H a m) (s : Same H H') : Dc H' a m := by
  obtain ⟨i, j, k, e, h0, h1⟩ := d
  exact ⟨i, j, k, s _ _ e, h0, h1⟩
theorem Dc.ne {H : Hp} {a p : Addr} {m : Nat} {xs : List V} (d : Dc H a m) (h : H p = some (.tup xs)) : p ≠ a := by
  obtain ⟨i, j, k, e, h0, h1⟩ := d
  exact ne_of h e (by intro z; cases z)
theorem Dc.new {H : Hp} {a p : Addr} {m : Nat} (d : Dc H a m) (h : H p = none) : p ≠ a := by
  obtain ⟨i, j, k, e, h0, h1⟩ := d
  exact (ne_of_none e h).symm
theorem Kp.tup {a p : Addr} {H H' : Hp} {m : Nat} {xs : List V} (x : Kp a H H') (d : Dc H a m) (h : H p = some (.tup xs)) : H' p = some (.tup xs) := x p _ (d.ne h) h
theorem Kp.new {a p : Addr} {H H' : Hp} {m : Nat} (x : Kp a H H') (d : Dc H a m) (h : H' p = none) (hp : p ≠ a) : H p = none := by
  cases e : H p with
  | none => rfl
  | some o =>
    have := x p o hp e
    rw [h] at this
    cases this
theorem Dc.neK {H : Hp} {a p : Addr} {m : Nat} {xs : List V} (d : Dc H a m) (h : Kt H p xs) : p ≠ a := by
  obtain ⟨i, j, k, e, h0, h1⟩ := d
  obtain ⟨ob, e2, _⟩ := h
  exact ne_of e2 e (by intro z; cases z)
theorem Kp.kt {a p : Addr} {H H' : Hp} {m : Nat} {xs : List V} (x : Kp a H H') (d : Dc H a m) (h : Kt H p xs) : Kt H' p xs := by
  have n := d.neK h
  obtain ⟨ob, e, r⟩ := h
  exact ⟨ob, x p _ n e, r⟩
def mmax : Nat := 1000000
theorem two_bound {q one k : Int} {m : Nat} (h0 : 0 ≤ q) (h1 : q < 18014398509481951) (h2 : 0 ≤ one) (h3 : one < 36028797018963913) (h4 : 0 ≤ k) (h5 : k ≤ (m : Int)) (h6 : m ≤ mmax + 1) :
    (q * one + 374761393 * k).natAbs < 2 ^ 200 := by
  have a1 : q * one ≤ 18014398509481951 * 36028797018963913 := Int.mul_le_mul (by omega) (by omega) h2 (by omega)
  have a2 : 0 ≤ q * one := Int.mul_nonneg h0 h2
  have h6' : m ≤ 1000001 := h6
  have e : (2 : Nat) ^ 200 = 1606938044258990275541962092341162602522202993782792835301376 := by decide +kernel
  rw [e]
  omega
section
variable {P : Program} {w : World} {K : PySem.W.Frag} {mg : Str → Option Value} {base : Heap}
theorem scRoll : FnScope ["dice", "size", "found", "one", "two"] ["dice", "size"] (defScope sRoll) := ⟨rfl, rfl, rfl, by decide +kernel, rfl, by decide +kernel, by decide +kernel⟩
def spRoll : Sp := fun vs H Q _ => ∃ (a : Addr) (n : Int) (m : Nat), vs = [.ref a, .int n] ∧ Dc H a m ∧ m ≤ mmax ∧ 0 < n ∧ n < 1073741824 ∧
  ∀ H' r, Kp a H H' → Dc H' a (m + 1) → 0 ≤ r → r < n → Q (.int r) H'
theorem ok_roll {f : Addr} {fd : FuncData} {k : Nat} (F : Fun K "_law_roll" "_law_roll" sRoll f fd) (B : Bn mg) : FnOk P w K mg base CX0 (k + 1) f fd ["dice", "size"] spRoll := by
  refine F.ok scRoll (fun vs H Q E h => ?_) (fun cdv A outer s H vs Q E hr h => ?_)
  · obtain ⟨a, n, m, rfl, _⟩ := h
    rfl
  · obtain ⟨a, n, m, rfl, hd, hm, hn0, hn1, q⟩ := h
    obtain ⟨i, j, kk, ha, hk0, hk1⟩ := id hd
    refine ⟨_, pss_cons (ps_if (pt_cmpR op_gt (pe_ix ix_list (pv 0) pe_int (fun _ _ => rfl)) pe_int (nomark _))
        (pss_cons (ps_set (i := 2) scRoll.nd rfl (.inl rfl) (pe_op op_mod (pe_callTy call_int1 (by rfl) B.int (by decide +kernel) (pa_cons (pe_ix ix_list (pv 0) pe_int (fun _ _ => rfl)) pa_nil)) (pv 1)))
        (pss_cons (ps_asg (pe_op op_fdivN (pe_ix ix_list (pv 0) pe_int (fun _ _ => rfl)) (pv 1)) (pg_sub (pv 0) pe_int set_list))
        (pss_one (ps_ret (pv 2))))) pss_nil)
      (pss_cons (ps_asg (pe_op op_add (pe_ix ix_list (pv 0) pe_int (fun _ _ => rfl)) pe_int) (pg_sub (pv 0) pe_int set_list))
      (pss_cons (ps_set (i := 3) scRoll.nd rfl (.inl rfl) (pe_op op_mod (pe_callTy call_int1 (by rfl) B.int (by decide +kernel) (pa_cons (pe_op op_add (pe_ix ix_list (pv 0) pe_int (fun _ _ => rfl)) (pe_op op_mul pe_int (pe_ix ix_list (pv 0) pe_int (fun _ _ => rfl)))) pa_nil)) pe_int))
      (pss_cons (ps_set (i := 4) scRoll.nd rfl (.inl rfl) (pe_op op_add (pe_op op_mul (pe_op op_mod (pe_callTy call_int1 (by rfl) B.int (by decide +kernel) (pa_cons (pe_op op_mul (pv 3) (pv 3)) pa_nil)) pe_int) (pv 3)) (pe_op op_mul pe_int (pe_ix ix_list (pv 0) pe_int (fun _ _ => rfl)))))
      (pss_one (ps_ret (pe_op op_mod (pe_callTy call_int1 (by rfl) B.int (by decide +kernel) (pa_cons (pe_op op_fdiv (pe_op op_mod (pe_callTy call_int1 (by rfl) B.int (by decide +kernel) (pa_cons (pe_op op_add (pe_op op_mulW (pv 4) (pv 4)) (pe_ix ix_list (pv 0) pe_int (fun _ _ => rfl))) pa_nil)) pe_int) pe_int) pa_nil)) (pv 1))))))), ?_⟩
    have at0 : ∀ x y z : V, atI [x, y, z] 0 = some x := fun _ _ _ => rfl
    have at1 : ∀ x y z : V, atI [x, y, z] 1 = some y := fun _ _ _ => rfl
    have at2 : ∀ x y z : V, atI [x, y, z] 2 = some z := fun _ _ _ => rfl
    refine ⟨.ref a, rfl, a, _, 0, _, rfl, rfl, sql ha, at0 _ _ _, i, 0, rfl, rfl, _, rfl, ite2 (fun hc => ?_) (fun hc => ?_)⟩
    · refine ⟨.ref a, rfl, a, _, 0, _, rfl, rfl, sql ha, at0 _ _ _, .inl ⟨i, rfl, .int n, rfl, i, n, rfl, rfl, hn0, ?_⟩⟩
      refine ⟨.ref a, rfl, a, _, 0, _, rfl, rfl, sql ha, at0 _ _ _, .int n, rfl, i, n, rfl, rfl, ⟨by omega, by omega⟩, ?_⟩
      refine ⟨.ref a, rfl, a, _, 0, 0, rfl, rfl, ha, rfl, .int (i % n), rfl, ?_⟩
      exact q _ _ kp_upd ⟨_, j, kk, upd_same, hk0, by omega⟩ (Int.emod_nonneg _ (by omega)) (Int.emod_lt_of_pos _ hn0)
    · refine ⟨.ref a, rfl, a, _, 2, _, rfl, rfl, sql ha, at2 _ _ _, kk, 1, rfl, rfl, .ref a, rfl, a, _, 2, 2, rfl, rfl, ha, rfl, ?_⟩
      generalize hH2 : upd H a _ = H2
      have h2 : H2 a = some (.lst [.int i, .int j, .int (kk + 1)]) := by
        rw [← hH2]
        exact upd_same
      have k2 : Kp a H H2 := by
        rw [← hH2]
        exact kp_upd
      refine ⟨.ref a, rfl, a, _, 1, _, rfl, rfl, sql h2, at1 _ _ _, .ref a, rfl, a, _, 2, _, rfl, rfl, sql h2, at2 _ _ _, _, _, rfl, rfl, .inl (by decide), _, _, rfl, rfl, .inl ⟨_, rfl, _, _, rfl, rfl, (show (0 : Int) < 36028797018963913 by decide), ?_⟩⟩
      generalize ho : (j + 1442695041 * (kk + 1)) % 36028797018963913 = one
      have o0 : 0 ≤ one := by rw [← ho]; exact Int.emod_nonneg _ (by decide)
      have o1 : one < 36028797018963913 := by rw [← ho]; exact Int.emod_lt_of_pos _ (by decide)
      refine ⟨.int one, (by rw [← ho]; rfl), .int one, (by rw [← ho]; rfl), one, one, rfl, rfl, .inl ⟨by omega, by omega⟩, .inl ⟨_, rfl, _, _, rfl, rfl, (show (0 : Int) < 18014398509481951 by decide), ?_⟩⟩
      generalize hqq : (one * one) % 18014398509481951 = qq
      have q0 : 0 ≤ qq := by rw [← hqq]; exact Int.emod_nonneg _ (by decide)
      have q1 : qq < 18014398509481951 := by rw [← hqq]; exact Int.emod_lt_of_pos _ (by decide)
      refine ⟨.int one, (by rw [← ho]; rfl), qq, one, (by rw [← hqq]), rfl, .inl ⟨by omega, by omega⟩, .ref a, rfl, a, _, 2, _, rfl, rfl, sql h2, at2 _ _ _, _, _, rfl, rfl, .inl (by decide), _, _, rfl, rfl, ?_⟩
      have hb := two_bound (m := m + 1) q0 q1 o0 o1 (show 0 ≤ kk + 1 by omega) (by omega) (by omega)
      generalize ht : qq * one + 374761393 * (kk + 1) = two at hb
      refine ⟨.int two, (by rw [← ht, ← hqq, ← ho]; rfl), .int two, (by rw [← ht, ← hqq, ← ho]; rfl), two, two, rfl, rfl, wide_mul hb hb (by decide) (by decide) (by decide), .ref a, rfl, a, _, 1, _, rfl, rfl, sql h2, at1 _ _ _, _, _, rfl, rfl, .inl ⟨_, rfl, _, _, rfl, rfl, (show (0 : Int) < 1125899906842597 by decide), _, _, rfl, rfl, (show (0 : Int) < 1024 ∧ (1024 : Int) < 1073741824 by decide), .inl ⟨_, rfl, .int n, rfl, _, n, rfl, rfl, hn0, ?_⟩⟩⟩
      exact q _ _ k2 ⟨_, _, _, h2, by omega, by omega⟩ (Int.emod_nonneg _ (by omega)) (Int.emod_lt_of_pos _ hn0)
end
end Sfl

namespace Sfl
open PySem PySem.Spec PyProof.Rows L2
theorem pow_a : L2.CPow 10 61 := ⟨by decide, by decide, by decide⟩
theorem pow_b : L2.CPow 10 18 := ⟨by decide, by decide, by decide⟩
theorem pow_ok : CPowW ((10 : Int) ^ (61 : Int).toNat) 11 := by
  constructor <;> decide +kernel
theorem pow_pos11 : (0 : Int) < ((10 : Int) ^ (61 : Int).toNat) ^ (11 : Int).toNat := by decide +kernel
section
variable {P : Program} {w : World} {K : PySem.W.Frag} {mg : Str → Option Value} {base : Heap}
theorem scDice : FnScope ["script", "spot", "cell", "great", "mixed"] ["script", "spot"] (defScope sDice) := ⟨rfl, rfl, rfl, by decide +kernel, rfl, by decide +kernel, by decide +kernel⟩
def spDice (K : PySem.W.Frag) : Sp := fun vs H Q _ => ∃ (sc : Addr) (ns : List Int) (i : Nat), vs = [.ref sc, .int (i : Nat)] ∧ SqL K H sc (ns.map V.int) ∧ i ≤ 100 ∧
  ∀ H' p, Same H H' → H p = none → Dc H' p 0 → Q (.ref p) H'
theorem ok_dice {f : Addr} {fd : FuncData} {k : Nat} (F : Fun K "_law_dice" "_law_dice" sDice f fd) (B : Bn mg) : FnOk P w K mg base CX0 (k + 1) f fd ["script", "spot"] (spDice K) := by
  refine F.ok scDice (fun vs H Q E h => ?_) (fun cdv A outer s H vs Q E hr h => ?_)
  · obtain ⟨sc, ns, i, rfl, _⟩ := h
    rfl
  · obtain ⟨sc, ns, i, rfl, hs, hi, q⟩ := h
    refine ⟨_, pss_cons (ps_set (i := 2) scDice.nd rfl (.inl rfl) (pe_ifExp (pt_cmpR op_lt (pv 1) (pe_callB call_len_seq (by rfl) B.len PySem.boot_len (pa_cons (pv 0) pa_nil)) (nomark _))
          (pe_ix ix_list (pv 0) (pv 1) (fun _ _ => rfl)) (pe_op op_add (pe_op op_mul pe_int (pv 1)) pe_int)))
      (pss_cons (ps_set (i := 3) scDice.nd rfl (.inl rfl) (pe_op op_mod (pe_callTy call_int1 (by rfl) B.int (by decide +kernel) (pa_cons (pe_callB call_abs (by rfl) B.abs (by decide +kernel) (pa_cons (pv 2) pa_nil)) pa_nil))
          (pe_op op_powW (pe_op op_pow pe_int pe_int) pe_int)))
      (pss_cons (ps_set (i := 4) scDice.nd rfl (.inl rfl) (pe_op op_add (pe_op op_add (pe_op op_add (pe_op op_mul (pv 3) pe_int) (pe_op op_mul pe_int (pv 1)))
          (pe_op op_mul pe_int (pe_callTy call_int1 (by rfl) B.int (by decide +kernel) (pa_cons (pe_cmpR op_lt (pv 2) pe_int (nomark _)) pa_nil)))) pe_int))
      (pss_cons (ps_set (i := 4) scDice.nd rfl (.inl rfl) (pe_op op_mod (pe_callTy call_int1 (by rfl) B.int (by decide +kernel) (pa_cons (pv 4) pa_nil)) pe_int))
      (pss_one (ps_ret (pe_lst (pa_cons (pe_callB (call_max2 rfl) (by rfl) B.max (by decide +kernel) (pa_cons pe_int (pa_cons (pe_op op_add (pe_op op_sub (pv 3) (pe_op op_pow pe_int pe_int)) pe_int) pa_nil))) (pa_cons (pv 4) (pa_cons pe_int pa_nil))))))))), ?_⟩
    refine ⟨.int (i : Nat), rfl, .ref sc, rfl, sc, _, rfl, .inl hs, _, _, rfl, rfl, _, rfl, ?_⟩
    rw [List.length_map]
    refine ite2 (fun hc => ?_) (fun hc => ?_)
    · have hlt : i < ns.length := by
        have := of_decide_eq_true hc
        omega
      refine ⟨.ref sc, rfl, .int (i : Nat), rfl, sc, _, _, .int ns[i], rfl, rfl, hs, atI_nat (get_map hlt), ?_⟩
      refine ⟨.int ns[i], rfl, ns[i], rfl, .inl ⟨_, rfl, 10, 61, rfl, rfl, pow_a, _, 11, rfl, rfl, pow_ok, _, _, rfl, rfl, pow_pos11, ?_⟩⟩
      refine ⟨_, rfl, _, _, rfl, rfl, .inr ⟨by decide, by decide⟩, .int (i : Nat), rfl, _, _, rfl, rfl, .inl ⟨by decide, by decide⟩, _, _, rfl, rfl, .int ns[i], rfl, _, _, rfl, rfl, .inr ⟨_, rfl, _, _, rfl, rfl, .inl ⟨by decide, by decide⟩, _, _, rfl, rfl, _, _, rfl, rfl, ?_⟩⟩
      refine ⟨_, rfl, .inl ⟨_, rfl, _, _, rfl, rfl, (show (0 : Int) < 2305843009213693951 by decide), ?_⟩⟩
      refine ⟨_, rfl, 10, 18, rfl, rfl, pow_b, _, _, rfl, rfl, _, _, rfl, rfl, _, _, rfl, _, rfl, (show 3 ≤ sizeLine by decide), fun p hp => ?_⟩
      exact q _ p (same_upd hp) hp ⟨_, _, 0, upd_same, by decide, by decide⟩
    · refine ⟨.int (i : Nat), rfl, 31, _, rfl, rfl, .inl ⟨by decide, by decide⟩, _, _, rfl, rfl, ?_⟩
      refine ⟨_, rfl, _, rfl, .inl ⟨_, rfl, 10, 61, rfl, rfl, pow_a, _, 11, rfl, rfl, pow_ok, _, _, rfl, rfl, pow_pos11, ?_⟩⟩
      refine ⟨_, rfl, _, _, rfl, rfl, .inr ⟨by decide, by decide⟩, .int (i : Nat), rfl, _, _, rfl, rfl, .inl ⟨by decide, by decide⟩, _, _, rfl, rfl, _, rfl, _, _, rfl, rfl, .inr ⟨_, rfl, _, _, rfl, rfl, .inl ⟨by decide, by decide⟩, _, _, rfl, rfl, _, _, rfl, rfl, ?_⟩⟩
      refine ⟨_, rfl, .inl ⟨_, rfl, _, _, rfl, rfl, (show (0 : Int) < 2305843009213693951 by decide), ?_⟩⟩
      refine ⟨_, rfl, 10, 18, rfl, rfl, pow_b, _, _, rfl, rfl, _, _, rfl, rfl, _, _, rfl, _, rfl, (show 3 ≤ sizeLine by decide), fun p hp => ?_⟩
      exact q _ p (same_upd hp) hp ⟨_, _, 0, upd_same, by decide, by decide⟩
end
end Sfl

namespace Sfl
open PySem PySem.Spec PyProof.Rows L2
section
variable {P : Program} {w : World} {K : PySem.W.Frag} {mg : Str → Option Value} {base : Heap}
/-! ### _law_pick -/
theorem scPick : FnScope ["dice", "items"] ["dice", "items"] (defScope sPick) := ⟨rfl, rfl, rfl, by decide +kernel, rfl, by decide +kernel, by decide +kernel⟩
def spPick : Sp := fun vs H Q _ => ∃ (a it : Addr) (xs : List V) (m : Nat), vs = [.ref a, .ref it] ∧ Dc H a m ∧ m ≤ mmax ∧ It3 H it xs ∧ it ≠ a ∧ 0 < xs.length ∧ xs.length ≤ 1000 ∧
  ∀ (H' : Hp) (i : Nat) (x : V), xs[i]? = some x → Kp a H H' → Dc H' a (m + 1) → Q x H'
theorem ok_pick {f : Addr} {fd : FuncData} {k : Nat} (F : Fun K "_law_pick" "_law_pick" sPick f fd) (B : Bn mg) (C1 : Cal P w K mg base k "_law_roll" ["dice", "size"] spRoll) :
    FnOk P w K mg base CX0 (k + 1) f fd ["dice", "items"] spPick := by
  obtain ⟨f1, fd1, G1, g1, kp1, b1⟩ := C1
  refine F.ok scPick (fun vs H Q E h => ?_) (fun cdv A outer s H vs Q E hr h => ?_)
  · obtain ⟨a, it, xs, m, rfl, _⟩ := h
    rfl
  · obtain ⟨a, it, xs, m, rfl, hd, hm, hit, hne, h0, h1, q⟩ := h
    refine ⟨_, pss_one (ps_ret (pe_ix ix_seq (pv 1) (pe_call G1 hr (by rfl) g1 kp1 b1 .nil pass0 (pa_cons (pv 0) (pa_cons (pe_callB call_len_seq (by rfl) B.len PySem.boot_len (pa_cons (pv 1) pa_nil)) pa_nil))) (fun _ _ => rfl))), ?_⟩
    refine ⟨.ref it, rfl, .ref a, rfl, .ref it, rfl, it, xs, rfl, hit.sq, a, _, m, rfl, hd, hm, by omega, by omega, fun H' r hk hd' r0 r1 => ?_⟩
    have hlt : r.toNat < xs.length := by omega
    have er : r = ((r.toNat : Nat) : Int) := by omega
    rw [er]
    exact (hit.kp hk hne).ix (List.getElem?_eq_getElem hlt) (q H' _ _ (List.getElem?_eq_getElem hlt) hk hd')
/-! ### _law_mixed, of texts -/
theorem scMixed : FnScope ["dice", "items", "left", "found"] ["dice", "items"] (defScope sMixed) := ⟨rfl, rfl, rfl, by decide +kernel, rfl, by decide +kernel, by decide +kernel⟩
def spMixed : Sp := fun vs H Q _ => ∃ (a it : Addr) (l : List Str) (m : Nat), vs = [.ref a, .ref it] ∧ Dc H a m ∧ m + l.length ≤ mmax ∧ It3 H it (l.map V.str) ∧ it ≠ a ∧ l.length ≤ 1000 ∧ (∀ z ∈ l, PyData.strOk z = true) ∧
  ∀ H' p r, List.Perm r l → Kp a H H' → Dc H' a (m + l.length) → H p = none → H' p = some (.lst (r.map V.str)) → Q (.ref p) H'
theorem erase_perm : ∀ {α : Type} {l : List α} {k : Nat} {x : α}, l[k]? = some x → List.Perm (x :: l.eraseIdx k) l
  | _, [], k, x, h => by simp at h
  | _, y :: r, 0, x, h => by
    have e : y = x := Option.some.inj h
    subst e
    exact List.Perm.refl _
  | _, y :: r, k + 1, x, h => by
    have ih := erase_perm (l := r) (k := k) (x := x) h
    show List.Perm (x :: y :: r.eraseIdx k) (y :: r)
    exact (List.Perm.swap y x _).trans (List.Perm.cons y ih)
theorem map_erase {α β : Type} (f : α → β) : ∀ (l : List α) (k : Nat), (l.map f).eraseIdx k = (l.eraseIdx k).map f
  | [], _ => rfl
  | _ :: _, 0 => rfl
  | x :: r, k + 1 => by
    show f x :: (r.map f).eraseIdx k = f x :: (r.eraseIdx k).map f
    rw [map_erase f r k]
theorem ok_mixed {f : Addr} {fd : FuncData} {k : Nat} (F : Fun K "_law_mixed" "_law_mixed" sMixed f fd) (B : Bn mg) (C1 : Cal P w K mg base k "_law_roll" ["dice", "size"] spRoll) :
    FnOk P w K mg base CX0 (k + 1) f fd ["dice", "items"] spMixed := by
  obtain ⟨f1, fd1, G1, g1, kp1, b1⟩ := C1
  refine F.ok scMixed (fun vs H Q E h => ?_) (fun cdv A outer s H vs Q E hr h => ?_)
  · obtain ⟨a, it, l, m, rfl, _⟩ := h
    rfl
  · obtain ⟨a, it, l, m, rfl, hd, hm, hit, hne, hlen, hok, q⟩ := h
    refine ⟨_, pss_cons (ps_par (i := 2) (j := 3) (by rfl) scMixed.nd rfl rfl (by decide) rfl rfl (pa_cons (pe_callTy call_list_of (by rfl) B.list (by decide +kernel) (pa_cons (pv 1) pa_nil)) (pa_cons (pe_lst pa_nil) pa_nil)) (by rfl))
      (pss_cons (ps_while PassesOwn.never (pt_cmpR (op_neD hr.units) (pv 2) (pe_lst pa_nil) (nomark _))
        (pss_one (ps_expr (pe_bm PySem.F.plainAttrs_list PySem.F.slot_list_append PySem.F.type_list_append mt_append (pv 3) (pa_cons
          (pe_bm PySem.F.plainAttrs_list PySem.F.slot_list_pop PySem.F.type_list_pop mt_popAt (pv 2) (pa_cons
            (pe_call G1 hr (by rfl) g1 kp1 b1 .nil pass0 (pa_cons (pv 0) (pa_cons (pe_callB call_len_seq (by rfl) B.len PySem.boot_len (pa_cons (pv 2) pa_nil)) pa_nil))) pa_nil)) pa_nil)))))
      (pss_one (ps_ret (pv 3)))), ?_⟩
    refine ⟨.ref it, rfl, it, l.map V.str, rfl, hit.sq, fun lf nlf => ⟨Nat.zero_le _, fun fo nfo => ⟨_, _, rfl, ?_⟩⟩⟩
    have nla : lf ≠ a := hd.new nlf
    have s1 := same_upd (o := .lst (l.map V.str)) nlf
    have s2 := s1.trans (same_upd (o := .lst []) nfo)
    have nfa : fo ≠ a := (hd.same s1).new nfo
    have nlo : lf ≠ fo := ne_of_none upd_same nfo
    refine while_by (fun σ H3 => ∃ (lf' r : List Str), σ = [some (.ref a), some (.ref it), some (.ref lf), some (.ref fo)] ∧ H3 lf = some (.lst (lf'.map V.str)) ∧ H3 fo = some (.lst (r.map V.str)) ∧
        List.Perm (r ++ lf') l ∧ Kp a H H3 ∧ Dc H3 a (m + r.length))
      (fun _ H3 => match H3 lf with
        | some (.lst xs) => xs.length
        | _ => 0) ?_ ?_ ?_
    · refine ⟨l, [], rfl, ?_, upd_same, List.Perm.refl _, Kp.of s2, (hd.same s2).mono (Nat.le_add_right _ _)⟩
      rw [upd_ne nlo, upd_same]
    · rintro σ H3 ⟨lf', r, rfl, hl3, hf3, hp, hk, hd3⟩
      have hpl := hp.length_eq
      rw [List.length_append] at hpl
      have hok' : ∀ z ∈ lf', PyData.strOk z = true := fun z hz => hok z (hp.subset (List.mem_append_right _ hz))
      refine ⟨.ref lf, rfl, Nat.zero_le _, fun t nt => ?_⟩
      have s4 := same_upd (o := .lst []) nt
      refine ⟨_, _, .lst (sql (s4 _ _ hl3)) (all_strs lf'), .lst (sql upd_same) .nil, shL (flat_strs lf' hok'), rfl, _, rfl, ?_⟩
      cases lf' with
      | nil =>
        refine iteF ⟨.ref fo, rfl, ?_⟩
        rw [List.append_nil] at hp
        refine q _ fo r hp (hk.trans (Kp.of s4)) ?_ (s1.free nfo) (s4 _ _ hf3)
        have := (hd3.same s4)
        rw [hp.length_eq] at this
        exact this
      | cons x rest =>
        refine iteT ⟨.ref fo, rfl, .inl ⟨rfl, _, .inl (.inl (s4 _ _ hf3))⟩, .ref lf, rfl, .inl ⟨rfl, _, .inl (.inl (s4 _ _ hl3))⟩, ?_⟩
        refine ⟨.ref a, rfl, .ref lf, rfl, lf, _, rfl, .inl (sql (s4 _ _ hl3)), a, _, _, rfl, hd3.same s4, ?_, ?_, ?_, fun H5 i hk5 hd5 i0 i1 => ?_⟩
        · rw [List.length_cons] at hpl
          omega
        · rw [List.length_map, List.length_cons]
          omega
        · rw [List.length_map]
          rw [List.length_cons] at hpl ⊢
          omega
        rw [List.length_map] at i1
        have hlt : i.toNat < (x :: rest).length := by omega
        have hl5 := hk5 _ _ nla (s4 _ _ hl3)
        have hf5 := hk5 _ _ nfa (s4 _ _ hf3)
        generalize hall : x :: rest = all at *
        have hy : all[i.toNat]? = some all[i.toNat] := List.getElem?_eq_getElem hlt
        refine ⟨lf, _, i, i.toNat, .str all[i.toNat], rfl, rfl, hl5, by omega, by omega, ?_, ?_, ?_⟩
        · rw [List.length_map]
          unfold seqIndex?
          rw [if_neg (show ¬ i < 0 by omega)]
          show (if (decide (0 ≤ i) && decide (i < all.length)) = true then some i.toNat else none) = some i.toNat
          rw [decide_eq_true i0, decide_eq_true (show i < (all.length : Int) by omega)]
          rfl
        · exact get_map hlt
        · have hf6 : (upd H5 lf (.lst ((all.map V.str).eraseIdx i.toNat))) fo = some (.lst (r.map V.str)) := by
            rw [upd_ne nlo.symm]
            exact hf5
          refine ⟨fo, _, _, rfl, rfl, hf6, ?_, ?_, ?_⟩
          · rw [List.length_map]
            exact small1000 (by omega)
          · refine ⟨all.eraseIdx i.toNat, r ++ [all[i.toNat]], rfl, ?_, ?_, ?_, ?_, ?_⟩
            · rw [upd_ne nlo, upd_same, map_erase]
            · rw [upd_same, List.map_append]
              rfl
            · rw [List.append_assoc]
              exact ((erase_perm hy).append_left r).trans hp
            · intro b o nb e
              have n1 : b ≠ fo := ne_of_none (s1 _ _ e) nfo
              have n2 : b ≠ lf := ne_of_none e nlf
              rw [upd_ne n1, upd_ne n2]
              exact hk5 _ _ nb (s4 _ _ (hk _ _ nb e))
            · obtain ⟨u1, u2, u3, e, v0, v1⟩ := hd5
              refine ⟨u1, u2, u3, ?_, v0, ?_⟩
              · rw [upd_ne nfa.symm, upd_ne nla.symm]
                exact e
              · rw [List.length_append]
                show u3 ≤ ((m + (r.length + 1) : Nat) : Int)
                omega
          · rw [upd_ne nlo, upd_same, hl3]
            show ((all.map V.str).eraseIdx i.toNat).length < (all.map V.str).length
            rw [List.length_eraseIdx, List.length_map, if_pos hlt]
            omega
    · intro σ H3 Q1 Q2 hm h
      obtain ⟨v, e1, h1, h2⟩ := h
      refine ⟨v, e1, h1, fun p hp => ?_⟩
      obtain ⟨d, e, c1, c2, c3, c4, k', c5, c6⟩ := h2 p hp
      exact ⟨d, e, c1, c2, c3, c4, k', c5, hm _ _ c6⟩
end
end Sfl

namespace Sfl
open PySem PySem.Spec PyProof.Rows L2
structure Pool (l : List Str) : Prop where
  len : l.length = 4
  nm : ∀ z ∈ l, Nm z = true
  nd : l.Nodup
theorem pool1 : Pool ["a", "b", "c", "d"] := ⟨rfl, by decide +kernel, by decide +kernel⟩
theorem pool2 : Pool ["a", "ab", "b", "ba"] := ⟨rfl, by decide +kernel, by decide +kernel⟩
theorem pool3 : Pool ["log", "logs", "none", "yes"] := ⟨rfl, by decide +kernel, by decide +kernel⟩
theorem pool4 : Pool ["p", "q", "zzzzzzzz", "r"] := ⟨rfl, by decide +kernel, by decide +kernel⟩
/-- letters as they are drawn -/
structure Lt (ls : List Str) (top : Nat) : Prop where
  pos : 0 < ls.length
  len : ls.length ≤ top
  le4 : ls.length ≤ 4
  nm : ∀ z ∈ ls, Nm z = true
  nd : ls.Nodup
  so : sortedS ls = true
theorem pool_of {H : Hp} {t1 t2 t3 t4 : Addr} {i : Nat} {x : V} (h1 : Tp H t1 ["a", "b", "c", "d"]) (h2 : Tp H t2 ["a", "ab", "b", "ba"]) (h3 : Tp H t3 ["log", "logs", "none", "yes"]) (h4 : Tp H t4 ["p", "q", "zzzzzzzz", "r"])
    (h : [V.ref t1, .ref t2, .ref t3, .ref t4][i]? = some x) : ∃ t l, x = .ref t ∧ Tp H t l ∧ Pool l := by
  match i, h with
  | 0, h => exact ⟨t1, _, (Option.some.inj h).symm, h1, pool1⟩
  | 1, h => exact ⟨t2, _, (Option.some.inj h).symm, h2, pool2⟩
  | 2, h => exact ⟨t3, _, (Option.some.inj h).symm, h3, pool3⟩
  | 3, h => exact ⟨t4, _, (Option.some.inj h).symm, h4, pool4⟩
theorem int_of {i : Nat} {x : V} (h : [V.int 0, .int 1, .int 1, .int 1, .int 2, .int 2, .int 3][i]? = some x) : ∃ j : Nat, x = .int (j : Nat) ∧ j ≤ 3 := by
  match i, h with
  | 0, h => exact ⟨0, (Option.some.inj h).symm, by decide⟩
  | 1, h => exact ⟨1, (Option.some.inj h).symm, by decide⟩
  | 2, h => exact ⟨1, (Option.some.inj h).symm, by decide⟩
  | 3, h => exact ⟨1, (Option.some.inj h).symm, by decide⟩
  | 4, h => exact ⟨2, (Option.some.inj h).symm, by decide⟩
  | 5, h => exact ⟨2, (Option.some.inj h).symm, by decide⟩
  | 6, h => exact ⟨3, (Option.some.inj h).symm, by decide⟩
section
variable {P : Program} {w : World} {K : PySem.W.Frag} {mg : Str → Option Value} {base : Heap}
theorem scLetters : FnScope ["dice", "top", "pools", "pool"] ["dice", "top"] (defScope sLetters) := ⟨rfl, rfl, rfl, by decide +kernel, rfl, by decide +kernel, by decide +kernel⟩
def spLetters : Sp := fun vs H Q _ => ∃ (a : Addr) (top m : Nat), vs = [.ref a, .int (top : Nat)] ∧ Dc H a m ∧ m + 6 ≤ mmax ∧ 1 ≤ top ∧ top ≤ 4 ∧
  ∀ H' p ls, Lt ls top → Kp a H H' → Dc H' a (m + 6) → H p = none → Lk H' p ls → Q (.ref p) H'
theorem ok_letters {f : Addr} {fd : FuncData} {k : Nat} (F : Fun K "_law_letters" "_law_letters" sLetters f fd) (B : Bn mg)
    (C1 : Cal P w K mg base k "_law_pick" ["dice", "items"] spPick) (C2 : Cal P w K mg base k "_law_mixed" ["dice", "items"] spMixed) :
    FnOk P w K mg base CX0 (k + 1) f fd ["dice", "top"] spLetters := by
  obtain ⟨f1, fd1, G1, g1, kp1, b1⟩ := C1
  obtain ⟨f2, fd2, G2, g2, kp2, b2⟩ := C2
  refine F.ok scLetters (fun vs H Q E h => ?_) (fun cdv A outer s H vs Q E hr h => ?_)
  · obtain ⟨a, top, m, rfl, _⟩ := h
    rfl
  · obtain ⟨a, top, m, rfl, hd, hm, ht1, ht4, q⟩ := h
    refine ⟨_, pss_cons (ps_set (i := 2) scLetters.nd rfl (.inl rfl) (pe_lst (pa_cons (pe_tup (pa_cons pe_str (pa_cons pe_str (pa_cons pe_str (pa_cons pe_str pa_nil)))))
          (pa_cons (pe_tup (pa_cons pe_str (pa_cons pe_str (pa_cons pe_str (pa_cons pe_str pa_nil)))))
          (pa_cons (pe_tup (pa_cons pe_str (pa_cons pe_str (pa_cons pe_str (pa_cons pe_str pa_nil))))) pa_nil)))))
      (pss_cons (ps_set (i := 2) scLetters.nd rfl (.inl rfl) (pe_op op_cat (pv 2) (pe_lst (pa_cons (pe_tup (pa_cons pe_str (pa_cons pe_str (pa_cons pe_str (pa_cons pe_str pa_nil))))) pa_nil))))
      (pss_cons (ps_set (i := 3) scLetters.nd rfl (.inl rfl) (pe_call G2 hr (by rfl) g2 kp2 b2 .nil pass0 (pa_cons (pv 0) (pa_cons (pe_call G1 hr (by rfl) g1 kp1 b1 .nil pass0 (pa_cons (pv 0) (pa_cons (pv 2) pa_nil))) pa_nil))))
      (pss_one (ps_ret (pe_callTy call_tupleF (by rfl) B.tuple (by decide +kernel) (pa_cons (pe_callB cr_sortedS (by rfl) B.sorted (by decide +kernel) (pa_cons
        (pe_slice sl_list (pv 3) po_none (po_some (pe_op op_add pe_int (pe_callB (call_min2 rfl) (by rfl) B.min (by decide +kernel) (pa_cons (pe_op op_sub (pv 1) pe_int)
          (pa_cons (pe_call G1 hr (by rfl) g1 kp1 b1 .nil pass0 (pa_cons (pv 0) (pa_cons (pe_lst (pa_cons pe_int (pa_cons pe_int (pa_cons pe_int (pa_cons pe_int (pa_cons pe_int (pa_cons pe_int (pa_cons pe_int pa_nil)))))))) pa_nil))) pa_nil)))))) pa_nil)) pa_nil)))))), ?_⟩
    have h4 : 4 ≤ sizeLine := by decide
    -- pools
    refine ⟨h4, fun t1 n1 => ⟨h4, fun t2 n2 => ⟨h4, fun t3 n3 => ⟨(show 3 ≤ sizeLine by decide), fun pl npl => ?_⟩⟩⟩⟩
    have s1 := same_upd (o := .tup [.str "a", .str "b", .str "c", .str "d"]) n1
    have s2 := same_upd (o := .tup [.str "a", .str "ab", .str "b", .str "ba"]) n2
    have s3 := same_upd (o := .tup [.str "log", .str "logs", .str "none", .str "yes"]) n3
    have s4 := same_upd (o := .lst [.ref t1, .ref t2, .ref t3]) npl
    have s14 := s1.trans (s2.trans (s3.trans s4))
    refine ⟨.ref pl, rfl, h4, fun t4 n4 => ⟨(show 1 ≤ sizeLine by decide), fun l1 nl1 => ?_⟩⟩
    have s5 := same_upd (o := .tup [.str "p", .str "q", .str "zzzzzzzz", .str "r"]) n4
    have s6 := same_upd (o := .lst [.ref t4]) nl1
    refine ⟨pl, l1, [.ref t1, .ref t2, .ref t3], [.ref t4], rfl, rfl, s6 _ _ (s5 _ _ upd_same), upd_same, h4, fun pp npp => ?_⟩
    have s7 := same_upd (o := .lst ([.ref t1, .ref t2, .ref t3] ++ [.ref t4])) npp
    have sA := s14.trans (s5.trans (s6.trans s7))
    have e1 := s7 _ _ (s6 _ _ (s5 _ _ (s4 _ _ (s3 _ _ (s2 _ _ (upd_same (H := H) (a := t1) (o := .tup [.str "a", .str "b", .str "c", .str "d"])))))))
    have e2 := s7 _ _ (s6 _ _ (s5 _ _ (s4 _ _ (s3 _ _ (upd_same (a := t2) (o := .tup [.str "a", .str "ab", .str "b", .str "ba"]))))))
    have e3 := s7 _ _ (s6 _ _ (s5 _ _ (s4 _ _ (upd_same (a := t3) (o := .tup [.str "log", .str "logs", .str "none", .str "yes"])))))
    have e4 := s7 _ _ (s6 _ _ (upd_same (a := t4) (o := .tup [.str "p", .str "q", .str "zzzzzzzz", .str "r"])))
    have dA := hd.same sA
    have npa : pp ≠ a := (hd.same (s14.trans (s5.trans s6))).new npp
    generalize hHA : upd _ pp _ = HA at *
    have epp : HA pp = some (.lst [.ref t1, .ref t2, .ref t3, .ref t4]) := by
      rw [← hHA]
      exact upd_same
    -- pool
    refine ⟨.ref a, rfl, .ref a, rfl, .ref pp, rfl, a, pp, _, m, rfl, dA, by omega, .inl epp, npa, (show 0 < 4 by decide), (show 4 ≤ 1000 by decide), fun HB i x hx kB dB => ?_⟩
    obtain ⟨t, l, rfl, ht, pl'⟩ := pool_of (kB.tup dA e1) (kB.tup dA e2) (kB.tup dA e3) (kB.tup dA e4) hx
    refine ⟨a, t, l, m + 1, rfl, dB, by rw [pl'.len]; omega, .inr (.inl ht), dB.ne ht, by rw [pl'.len]; decide, fun z hz => nm_ok (pl'.nm z hz), fun HC p r hp kC dC np hr => ?_⟩
    have npaC : p ≠ a := dB.new np
    rw [pl'.len] at dC
    -- the slice
    refine ⟨.ref p, rfl, ?_⟩
    refine ⟨.int (top : Nat), rfl, (top : Int), 1, rfl, rfl, .ref a, rfl, (show 7 ≤ sizeLine by decide), fun l7 nl7 => ?_⟩
    have s8 := same_upd (o := .lst [.int 0, .int 1, .int 1, .int 1, .int 2, .int 2, .int 3]) nl7
    refine ⟨a, l7, _, m + 1 + 4, rfl, dC.same s8, by omega, .inl upd_same, dC.new nl7, (show 0 < 7 by decide), (show 7 ≤ 1000 by decide), fun HD i2 x2 hx2 kD dD => ?_⟩
    obtain ⟨j, rfl, hj⟩ := int_of hx2
    have hpD := kD p _ npaC (s8 _ _ hr)
    generalize hkk : 1 + min (top - 1) j = kk
    refine ⟨_, _, rfl, 1, _, rfl, rfl, ((kk : Nat) : Int), ?_, p, _, rfl, sql hpD, fun p9 n9 => ?_⟩
    · show V.int (1 + (if ((j : Nat) : Int) < ((top : Nat) : Int) - 1 then ((j : Nat) : Int) else ((top : Nat) : Int) - 1)) = V.int ((kk : Nat) : Int)
      congr 1
      split <;> omega
    have hrl : r.length = 4 := hp.length_eq.trans pl'.len
    have hk1 : 1 ≤ kk := by omega
    have hkt : kk ≤ top := by omega
    have hk4 : kk ≤ 4 := by omega
    rw [cut_take _ _ (by rw [List.length_map, hrl]; exact hk4), ← List.map_take]
    refine ⟨p9, r.take kk, rfl, sql upd_same, ?_, fun ys p10 perm so n10 => ?_⟩
    · rw [List.length_take]
      omega
    refine ⟨p10, _, rfl, sql upd_same, fun p11 ob n11 hob1 hob2 => ?_⟩
    have s9 := (same_upd (o := .lst ((r.take kk).map V.str)) n9).trans ((same_upd (o := .lst (ys.map V.str)) n10).trans (same_upd (o := .frz ob (.tup (ys.map V.str))) n11))
    have kAll : Kp a H HD := (Kp.of sA).trans (kB.trans (kC.trans ((Kp.of s8).trans kD)))
    have n11' : p11 ≠ a := by
      have := ((dD.same (same_upd (o := .lst ((r.take kk).map V.str)) n9)).same (same_upd (o := .lst (ys.map V.str)) n10)).new n11
      exact this
    refine q _ p11 ys ?_ (kAll.trans (Kp.of s9)) (dD.same s9) ?_ ⟨ob, upd_same, hob1, hob2⟩
    · have hl : ys.length = kk := by
        rw [perm.length_eq, List.length_take]
        omega
      have hsub : ∀ z ∈ ys, z ∈ l := fun z hz => hp.subset (List.mem_of_mem_take (perm.subset hz))
      exact ⟨by omega, by omega, by omega, fun z hz => pl'.nm z (hsub z hz), perm.nodup_iff.mpr ((hp.nodup_iff.mpr pl'.nd).sublist (List.take_sublist kk r)), so⟩
    · refine kAll.new hd ?_ n11'
      have := ((same_upd (o := .lst ((r.take kk).map V.str)) n9).trans (same_upd (o := .lst (ys.map V.str)) n10)).free n11
      exact this
end
end Sfl

namespace Sfl
open PySem PySem.Spec PyProof.Rows L2
section
variable {P : Program} {w : World} {K : PySem.W.Frag} {mg : Str → Option Value} {base : Heap}
theorem mmax_le {m : Nat} (h : m ≤ mmax) : m ≤ 1000000 := h
/-! ### _law_log -/
theorem scLog : FnScope ["dice", "letters", "top", "turn"] ["dice", "letters", "top"] (defScope sLog) := ⟨rfl, rfl, rfl, by decide +kernel, rfl, by decide +kernel, by decide +kernel⟩
def spLog : Sp := fun vs H Q _ => ∃ (a lt : Addr) (ls : List Str) (top m : Nat), vs = [.ref a, .ref lt, .int (top : Nat)] ∧ Dc H a m ∧ m + top + 1 ≤ mmax ∧ Lk H lt ls ∧ 0 < ls.length ∧ ls.length ≤ 1000 ∧ top ≤ 1000 ∧
  ∀ H' p l, l.length ≤ top → (∀ z ∈ l, z ∈ ls) → Kp a H H' → Dc H' a (m + top + 1) → H p = none → Tp H' p l → Q (.ref p) H'
theorem ok_log {f : Addr} {fd : FuncData} {k : Nat} (F : Fun K "_law_log" "_law_log" sLog f fd) (B : Bn mg)
    (C1 : Cal P w K mg base k "_law_pick" ["dice", "items"] spPick) (C2 : Cal P w K mg base k "_law_roll" ["dice", "size"] spRoll) :
    FnOk P w K mg base CX0 (k + 1) f fd ["dice", "letters", "top"] spLog := by
  obtain ⟨f1, fd1, G1, g1, kp1, b1⟩ := C1
  obtain ⟨f2, fd2, G2, g2, kp2, b2⟩ := C2
  refine F.ok scLog (fun vs H Q E h => ?_) (fun cdv A outer s H vs Q E hr h => ?_)
  · obtain ⟨a, lt, ls, top, m, rfl, _⟩ := h
    rfl
  · obtain ⟨a, lt, ls, top, m, rfl, hd, hm, hlt, h0, h1, htop, q⟩ := h
    refine ⟨_, pss_one (ps_ret (pe_callTy call_tuple_of (by rfl) B.tuple (by decide +kernel) (pa_cons
        (pe_lc (own := [("turn", 3)]) (g := gName 3) (tt := tYes) rfl scLog.nd (pi_range1 rfl B.range (pa_cons (pe_call G2 hr (by rfl) g2 kp2 b2 .nil pass0 (pa_cons (pv 0) (pa_cons (pe_op op_add (pv 2) pe_int) pa_nil))) pa_nil))
          (blkOk_by (own := [("turn", 3)]) (N := ["dice", "letters", "top", "turn"]) (sc := defScope sLog) (by decide +kernel))
          (fun _ _ _ _ _ => pg_name (i := 3) scLog.nd rfl (Or.inl rfl)) (fun _ _ _ _ _ => pts_nil)
          (fun _ _ _ _ _ => pe_call G1 hr (by rfl) g1 kp1 b1 .nil pass0 (pa_cons (pv 0) (pa_cons (pv 1) pa_nil)))) pa_nil))), ?_⟩
    refine ⟨.ref a, rfl, .int (top : Nat), rfl, (top : Int), 1, rfl, rfl, a, (top : Int) + 1, m, rfl, hd, by omega, by omega, by omega, fun H1 r k1 d1 r0 r1 => ?_⟩
    refine ⟨r, rfl, by omega, by omega, fun D nD => ?_⟩
    have nDa : D ≠ a := d1.new nD
    refine lc_range (lo := 0) (n := r.toNat) (fun i H4 => ∃ l : List Str, H4 D = some (.lst (l.map V.str)) ∧ l.length = i ∧ (∀ z ∈ l, z ∈ ls) ∧ Kp a H1 H4 ∧ Dc H4 a (m + 1 + i)) ?_ ?_ ?_
    · exact ⟨[], upd_same, rfl, (fun z hz => by cases hz), Kp.of (same_upd nD), d1.same (same_upd nD)⟩
    · rintro i H4 hi ⟨l, hD, hl, hsub, hk, hd4⟩
      have hltt : Lk H4 lt ls := hk.kt d1 (k1.kt hd hlt)
      refine ⟨rfl, .ref a, rfl, .ref lt, rfl, a, lt, _, m + 1 + i, rfl, hd4, by omega, .inr (.inr hltt), hd4.neK hltt, by rw [List.length_map]; exact h0, by rw [List.length_map]; exact h1, fun H5 j x hx k5 d5 => ?_⟩
      obtain ⟨z, hz, rfl⟩ := get_map' hx
      have hD5 := k5 _ _ nDa hD
      refine ⟨_, hD5, ?_, l ++ [z], ?_, ?_, ?_, ?_, ?_⟩
      · rw [List.length_map]
        exact small1000 (by omega)
      · rw [upd_same, List.map_append]
        rfl
      · rw [List.length_append, hl]
        rfl
      · intro y hy
        rcases List.mem_append.mp hy with hy | hy
        · exact hsub y hy
        · rw [List.mem_singleton.mp hy]
          exact List.mem_of_getElem? hz
      · intro b o nb e
        rw [upd_ne (ne_of_none e nD)]
        exact k5 _ _ nb (hk _ _ nb e)
      · obtain ⟨u1, u2, u3, e, v0, v1⟩ := d5
        exact ⟨u1, u2, u3, by rw [upd_ne nDa.symm]; exact e, v0, by omega⟩
    · rintro H4 ⟨l, hD, hl, hsub, hk, hd4⟩
      refine ⟨D, _, rfl, .inl ⟨sql hD, fun p np => ?_⟩⟩
      have npa : p ≠ a := hd4.new np
      refine q _ p l (by omega) hsub ((k1.trans hk).trans (Kp.of (same_upd np))) ((hd4.same (same_upd np)).mono (by omega)) ((k1.trans hk).new hd np npa) upd_same

end
end Sfl
namespace Sfl
open PySem PySem.Spec PyProof.Rows L2
/-- a walk over zip of two tuples of any lengths -/
theorem walk_zipT {K : PySem.W.Frag} {a b : Addr} {xs ys : List V} {n : Nat} (hn : n = min xs.length ys.length) : Walk (RZ.ItzT K a b) n (fun H => SqT K H a xs ∧ SqT K H b ys) (YPair (fun i => xs[i]?) (fun i => ys[i]?)) := by
  subst hn
  refine ⟨fun j _ hj q => ?_, fun _ q => ⟨xs, ys, q.1, q.2, by omega⟩, fun j H v H' _ q y => ?_⟩
  · have l1 : j < xs.length := by omega
    have l2 : j < ys.length := by omega
    exact ⟨xs, ys, xs[j], ys[j], q.1, q.2, List.getElem?_eq_getElem l1, List.getElem?_eq_getElem l2⟩
  · obtain ⟨U, x, z, e1, e2, e3, e4, e5⟩ := y
    exact ⟨U, x, z, e1, e2, e3, e4 xs q.1, e5 ys q.2⟩
/-- whether names ascend -/
def ascL (l : List Str) : List Bool := (l.zip (l.drop 1)).map fun z => decide (z.1.cps.toList < z.2.cps.toList)
def asc (l : List Str) : Bool := (ascL l).all id
theorem pgTupQ {X : Cx} {es : List Expr} {k : Nat} {pos : Pos} {t : TGs} (K : PySem.W.Frag) (n : Nat) (hc : X.calm = true) (hp : PGs X es t) (hn : (assignEach es X.env).length = n := by rfl) (hst : (assignEach es X.env).findIdx? (·.1) = none := by rfl) (h : X.K = K := by rfl) : PG X (.Tuple es k pos) (gTup K n t) := by
  subst h hn
  exact pg_tup hc hp rfl hst
section
variable {P : Program} {w : World} {K : PySem.W.Frag} {mg : Str → Option Value} {base : Heap}
theorem scIsWhole : FnScope ["value"] ["value"] (defScope sIsWhole) := ⟨rfl, rfl, rfl, by decide +kernel, rfl, by decide +kernel, by decide +kernel⟩
def spIsWhole : Sp := fun vs H Q _ => ∃ i : Int, vs = [.int i] ∧ Q (.bl true) H
theorem ok_isWhole {f : Addr} {fd : FuncData} {k : Nat} (F : Fun K "is_whole" "is_whole" sIsWhole f fd) (B : Bn mg) : FnOk P w K mg base CX0 (k + 1) f fd ["value"] spIsWhole := by
  refine F.ok scIsWhole (fun vs H Q E h => ?_) (fun cdv A outer s H vs Q E hr h => ?_)
  · obtain ⟨i, rfl, _⟩ := h
    rfl
  · obtain ⟨i, rfl, q⟩ := h
    refine ⟨_, pss_one (ps_ret (pe_and (pe_callB call_isi (by rfl) B.isi (by decide +kernel) (pa_cons (pv 0) (pa_cons (pe_bltn (v := .ty "int") (by rfl) B.int (by decide +kernel) rfl) pa_nil)))
      (pe_one (pe_not (pe_callB call_isi (by rfl) B.isi (by decide +kernel) (pa_cons (pv 0) (pa_cons (pe_bltn (v := .ty "bool") (by rfl) B.bool (by decide +kernel) rfl) pa_nil))))))), ?_⟩
    refine ⟨_, rfl, .int i, .ty "int", _, .type "int", true, rfl, .ty _, .base (.int i), kit_ty (by decide +kernel), _, rfl, iteT ?_⟩
    exact ⟨_, rfl, .int i, .ty "bool", _, .type "bool", false, rfl, .ty _, .base (.int i), kit_ty (by decide +kernel), _, rfl, q⟩
theorem scCheckNumber : FnScope ["value", "least", "most"] ["value", "least", "most"] (defScope sCheckNumber) := ⟨rfl, rfl, rfl, by decide +kernel, rfl, by decide +kernel, by decide +kernel⟩
def spCheckNumber : Sp := fun vs H Q _ => ∃ i lo hi : Int, vs = [.int i, .int lo, .int hi] ∧ lo ≤ i ∧ i ≤ hi ∧ Q .non H
theorem ok_checkNumber {f : Addr} {fd : FuncData} {k : Nat} (F : Fun K "check_number" "check_number" sCheckNumber f fd) (C1 : Cal P w K mg base k "is_whole" ["value"] spIsWhole) : FnOk P w K mg base CX0 (k + 1) f fd ["value", "least", "most"] spCheckNumber := by
  obtain ⟨f1, fd1, G1, g1, kp1, b1⟩ := C1
  refine F.ok scCheckNumber (fun vs H Q E h => ?_) (fun cdv A outer s H vs Q E hr h => ?_)
  · obtain ⟨i, lo, hi, rfl, _⟩ := h
    rfl
  · obtain ⟨i, lo, hi, rfl, h1, h2, q⟩ := h
    refine ⟨_, pss_one (ps_if (PW.pt (pw_or (pt_not (pt_val (pe_call G1 hr (by rfl) g1 kp1 b1 .nil pass0 (pa_cons (pv 0) pa_nil)))) (pw_or1 (pt_not (pt_chain op_le op_le (pv 1) (pv 0) (pv 2))))))
      (pss_one ps_never) pss_nil), ?_⟩
    refine ⟨.int i, rfl, i, rfl, _, rfl, iteF ?_⟩
    refine ⟨.int lo, rfl, .int i, rfl, _, _, rfl, rfl, _, rfl, ?_⟩
    rw [decide_eq_true h1]
    refine iteT ⟨.int hi, rfl, _, _, rfl, rfl, _, rfl, ?_⟩
    rw [decide_eq_true h2]
    exact iteF q
theorem scIsAsc : FnScope ["row", "one", "other"] ["row"] (defScope sIsAscending) := ⟨rfl, rfl, rfl, by decide +kernel, rfl, by decide +kernel, by decide +kernel⟩
def spIsAsc : Sp := fun vs H Q _ => ∃ (p : Addr) (l : List Str), vs = [.ref p] ∧ 0 < l.length ∧ Lk H p l ∧ l.length ≤ 1000 ∧ ∀ H', Same H H' → Q (.bl (asc l)) H'
theorem ok_isAsc {f : Addr} {fd : FuncData} {k : Nat} (F : Fun K "is_ascending" "is_ascending" sIsAscending f fd) (B : Bn mg) : FnOk P w K mg base CX0 (k + 1) f fd ["row"] spIsAsc := by
  refine F.ok scIsAsc (fun vs H Q E h => ?_) (fun cdv A outer s H vs Q E hr h => ?_)
  · obtain ⟨p, l, rfl, _⟩ := h
    rfl
  · obtain ⟨p, l, rfl, hpos, hp, hl, q⟩ := h
    refine ⟨_, pss_one (ps_ret (pe_callB (cr_all rfl) (by rfl) B.all (by decide +kernel) (pa_cons
        (pe_lc (own := [("one", 1), ("other", 2)]) (tt := tYes) rfl scIsAsc.nd (RZ.pi_zipA (by rfl) B.zip (pa_cons (pv 0) (pa_cons (pe_slice sl_tupA (pv 0) (po_some pe_int) po_none) pa_nil))) (blkOk_by (own := [("one", 1), ("other", 2)]) (N := ["row", "one", "other"]) (sc := defScope sIsAscending) (by decide +kernel))
          (fun _ _ _ _ _ => pgTupQ K 2 rfl (pgs_cons (pg_name (i := 1) scIsAsc.nd rfl (Or.inl rfl)) (pgs_cons (pg_name (i := 2) scIsAsc.nd rfl (Or.inl rfl)) pgs_nil))) (fun _ _ _ _ _ => pts_nil)
          (fun _ _ _ _ _ => pe_cmpR op_lt_str (pv 1) (pv 2) (nomark _))) pa_nil))), ?_⟩
    have ec : cutV (l.map V.str) (some (1 : Int)) none = (l.drop 1).map V.str := by
      rw [show (1 : Int) = ((1 : Nat) : Int) from rfl, cut_drop _ _ (by rw [List.length_map]; omega), ← List.map_drop]
    refine ⟨.ref p, rfl, .ref p, rfl, (1 : Int), rfl, p, _, rfl, hp.sq, fun hw => ?_, fun _ p1 np1 => ?_⟩
    · exfalso
      have := hw.1
      rw [show (1 : Int) = ((1 : Nat) : Int) from rfl, HT.sIx_nat, List.length_map] at this
      omega
    have s1 := same_upd (o := .tup (cutV (l.map V.str) (some (1 : Int)) none)) np1
    generalize hH1 : upd H p1 _ = H1 at *
    have e1 : H1 p1 = some (.tup ((l.drop 1).map V.str)) := by
      rw [← hH1, upd_same, ec]
    have hz : (l.zip (l.drop 1)).length = min (l.map V.str).length ((l.drop 1).map V.str).length := by
      rw [List.length_zip, List.length_map, List.length_map]
    refine ⟨p, p1, _, _, rfl, .inr ⟨(hp.same s1).sq, sqt e1, fun D nD => ?_⟩⟩
    refine lc_it (walk_zipT hz) (fun i H4 => Same H1 H4 ∧ H4 D = some (.lst (((ascL l).take i).map V.bl)))
      ⟨same_upd nD, by rw [upd_same]; rfl⟩ (fun i H4 hi hp4 => ⟨((hp.same s1).same hp4.1).sq, sqt (hp4.1 _ _ e1)⟩) (fun i x H4 H5 hi hp4 y => ?_) (fun H4 hp4 => ?_)
    · obtain ⟨sm, hD⟩ := hp4
      obtain ⟨T, u, v, rfl, nT, rfl, hu, hv⟩ := y
      obtain ⟨za, ha, rfl⟩ := get_map' hu
      obtain ⟨zb, hb, rfl⟩ := get_map' hv
      have nDT : D ≠ T := ne_of_none hD nT
      have st := same_upd (o := .tup [V.str za, V.str zb]) nT
      have hq : (ascL l)[i]? = some (decide (za.cps.toList < zb.cps.toList)) := by
        show ((l.zip (l.drop 1)).map _)[i]? = _
        rw [List.getElem?_map, List.getElem?_zip_eq_some (z := (za, zb)) |>.mpr ⟨ha, hb⟩]
        rfl
      refine ⟨T, [.str za, .str zb], rfl, sqt upd_same, rfl, _, _, rfl, _, _, rfl, rfl, rfl, _, rfl, _, rfl, za, zb, rfl, rfl, _, (st _ _ hD), ?_, ?_, ?_⟩
      · rw [List.length_map, List.length_take]
        rw [List.length_zip] at hi
        exact small1000 (by omega)
      · intro b o e
        have e4 := sm b o e
        rw [upd_ne (ne_of_none e nD)]
        exact st _ _ e4
      · rw [upd_same, List.take_add_one, hq, List.map_append]
        rfl
    · obtain ⟨sm, hD⟩ := hp4
      rw [show (l.zip (l.drop 1)).length = (ascL l).length by unfold ascL; rw [List.length_map], List.take_length] at hD
      exact ⟨D, ascL l, rfl, sql hD, q _ (s1.trans sm)⟩
end
end Sfl
namespace Sfl
open PySem PySem.Spec PyProof.Rows L2
theorem isiK {X : Cx} (K : PySem.W.Frag) (h : X.K = K := by rfl) : CallR X (.builtin "isinstance") (rIsi K) := by
  subst h
  exact call_isi
/-! ### letters ascend -/
theorem lt_of_not : ∀ a b : List Nat, ltCps b a = false → a ≠ b → ltCps a b = true
  | [], [], _, h => absurd rfl h
  | [], y :: ys, _, _ => rfl
  | x :: xs, [], h, _ => by
    have e : ltCps [] (x :: xs) = true := rfl
    rw [e] at h
    cases h
  | x :: xs, y :: ys, h, hn => by
    unfold ltCps at h ⊢
    by_cases c1 : x < y
    · simp [c1]
    · by_cases c2 : y < x
      · simp [c2] at h
      · have e : x = y := by omega
        subst e
        have hn' : xs ≠ ys := fun z => hn (by rw [z])
        simp at h ⊢
        exact lt_of_not xs ys h hn'
theorem asc_of : ∀ (x : Str) (l : List Str), risingS x l = true → (x :: l).Nodup → asc (x :: l) = true
  | x, [], _, _ => rfl
  | x, y :: r, h, hn => by
    have h1 : (!ltCps y.cps.toList x.cps.toList && risingS y r) = true := h
    rw [Bool.and_eq_true] at h1
    obtain ⟨h2, h3⟩ := h1
    obtain ⟨n1, n2⟩ := List.nodup_cons.mp hn
    have ih := asc_of y r h3 n2
    have hne : x.cps.toList ≠ y.cps.toList := by
      intro e
      have e2 : x = y := by
        cases x with
        | mk a => cases y with
          | mk b =>
            congr 1
            exact Array.toList_inj.mp e
      exact n1 (by rw [e2]; exact List.mem_cons_self)
    have hlt := lt_of_not _ _ (by simpa using h2) hne
    rw [← lt_meets] at hlt
    show (decide (x.cps.toList < y.cps.toList) && asc (y :: r)) = true
    rw [hlt, ih]
    rfl
/-- letters of a machine -/
structure LsM (l : List Str) : Prop where
  one : 1 ≤ l.length
  four : l.length ≤ 4
  nm : ∀ z ∈ l, Nm z = true
  nd : l.Nodup
  up : asc l = true
theorem Lt.lsm {ls : List Str} {top : Nat} (h : Lt ls top) : LsM ls := by
  refine ⟨h.pos, h.le4, h.nm, h.nd, ?_⟩
  cases ls with
  | nil => exact absurd h.pos (by simp)
  | cons x r => exact asc_of x r h.so h.nd
/-! ### a machine in the heap -/
def RwAt (H : Hp) (R : Addr) (rows : List (List Nat)) : Prop := ∃ rs : List Addr, H R = some (.tup (rs.map V.ref)) ∧ rs.length = rows.length ∧ ∀ (i : Nat) (a : Addr) (r : List Nat), rs[i]? = some a → rows[i]? = some r → Ip H a r
theorem RwAt.same {H H' : Hp} {R : Addr} {rows : List (List Nat)} (h : RwAt H R rows) (s : Same H H') : RwAt H' R rows := by
  obtain ⟨rs, e, l, f⟩ := h
  exact ⟨rs, s _ _ e, l, fun i a r x y => s _ _ (f i a r x y)⟩
/-- the row of a state -/
theorem RwAt.row {K : PySem.W.Frag} {H : Hp} {R : Addr} {rows : List (List Nat)} (h : RwAt H R rows) {s : Nat} (hs : s < rows.length) : ∃ (vs : List V) (a : Addr), SqT K H R vs ∧ vs.length = rows.length ∧ vs[s]? = some (.ref a) ∧ Ip H a rows[s] := by
  obtain ⟨rs, e, l, f⟩ := h
  have hs' : s < rs.length := by omega
  exact ⟨_, rs[s], sqt e, by rw [List.length_map, l], get_map hs', f s _ _ (List.getElem?_eq_getElem hs') (List.getElem?_eq_getElem hs)⟩
structure Mc (H : Hp) (m L R G : Addr) (ls : List Str) (rows : List (List Nat)) (good : List Bool) : Prop where
  m : H m = some (.tup [.ref L, .ref R, .ref G])
  l : Lk H L ls
  r : RwAt H R rows
  g : H G = some (.tup (good.map V.bl))
theorem Mc.same {H H' : Hp} {m L R G : Addr} {ls : List Str} {rows : List (List Nat)} {good : List Bool} (h : Mc H m L R G ls rows good) (s : Same H H') : Mc H' m L R G ls rows good :=
  ⟨s _ _ h.m, h.l.same s, h.r.same s, s _ _ h.g⟩
structure MOk (ls : List Str) (rows : List (List Nat)) (good : List Bool) : Prop where
  lm : LsM ls
  rw : Rw rows ls.length
  le : rows.length ≤ 200
  gl : good.length = rows.length
section
variable {P : Program} {w : World} {K : PySem.W.Frag} {mg : Str → Option Value} {base : Heap}
/-! ### is_letters -/
theorem scIsLetters : FnScope ["value", "letter"] ["value"] (defScope sIsLetters) := ⟨rfl, rfl, rfl, by decide +kernel, rfl, by decide +kernel, by decide +kernel⟩
def spIsLetters : Sp := fun vs H Q _ => ∃ (p : Addr) (l : List Str), vs = [.ref p] ∧ Lk H p l ∧ LsM l ∧ ∀ H', Same H H' → Q (.bl true) H'
theorem ok_isLetters {f : Addr} {fd : FuncData} {k : Nat} (F : Fun K "is_letters" "is_letters" sIsLetters f fd) (B : Bn mg) (C1 : Cal P w K mg base k "is_name" ["value"] spIsName)
    (C2 : Cal P w K mg base k "is_ascending" ["row"] spIsAsc) : FnOk P w K mg base CX0 (k + 1) f fd ["value"] spIsLetters := by
  obtain ⟨f1, fd1, G1, g1, kp1, b1⟩ := C1
  obtain ⟨f2, fd2, G2, g2, kp2, b2⟩ := C2
  refine F.ok scIsLetters (fun vs H Q E h => ?_) (fun cdv A outer s H vs Q E hr h => ?_)
  · obtain ⟨p, l, rfl, _⟩ := h
    rfl
  · obtain ⟨p, l, rfl, hp, hl, q⟩ := h
    obtain ⟨tS, gS⟩ := B.lets
    refine ⟨_, pss_cons (ps_if (PW.pt (pw_or (pt_not (pt_val (pe_callB call_isi (by rfl) B.isi (by decide +kernel) (pa_cons (pv 0) (pa_cons (pe_bltn (v := .ty "tuple") (by rfl) B.tuple (by decide +kernel) rfl) pa_nil)))))
        (pw_or1 (pt_not (pt_chain op_le op_le pe_int (pe_callB call_len_seq (by rfl) B.len PySem.boot_len (pa_cons (pv 0) pa_nil)) (pe_glob (v := .int 4) rfl gS ⟨_, rfl⟩))))))
        (pss_one (ps_ret pe_bl)) pss_nil)
      (pss_one (ps_ret (pe_and (pe_callB (cr_all rfl) (by rfl) B.all (by decide +kernel) (pa_cons
        (pe_lc (own := [("letter", 1)]) (g := gName 1) (tt := tYes) rfl scIsLetters.nd (pi_tup (pv 0)) (blkOk_by (own := [("letter", 1)]) (N := ["value", "letter"]) (sc := defScope sIsLetters) (by decide +kernel))
          (fun _ _ _ _ _ => pg_name (i := 1) scIsLetters.nd rfl (Or.inl rfl)) (fun _ _ _ _ _ => pts_nil)
          (fun _ _ _ _ _ => pe_call G1 hr (by rfl) g1 kp1 b1 .nil pass0 (pa_cons (pv 1) pa_nil))) pa_nil))
        (pe_one (pe_call G2 hr (by rfl) g2 kp2 b2 .nil pass0 (pa_cons (pv 0) pa_nil)))))), ?_⟩
    have h1 := hl.one
    have h4 := hl.four
    obtain ⟨ob, hob, _⟩ := id hp
    refine ⟨_, rfl, .ref p, .ty "tuple", _, .type "tuple", true, rfl, .ty _, .fTuple hob, kit_ty (by decide +kernel), _, rfl, iteF ?_⟩
    refine ⟨.ref p, rfl, p, _, rfl, .inr hp.sq, _, _, rfl, rfl, _, rfl, ?_⟩
    rw [List.length_map, decide_eq_true (show (1 : Int) ≤ ((l.length : Nat) : Int) by omega)]
    refine iteT ⟨_, _, rfl, rfl, _, rfl, ?_⟩
    rw [decide_eq_true (show ((l.length : Nat) : Int) ≤ 4 by omega)]
    refine iteF ⟨.ref p, rfl, p, rfl, ⟨_, hp.sq⟩, fun D nD => ?_⟩
    refine lc_tup (xs := l.map V.str) (fun i H4 => Same H H4 ∧ H4 D = some (.lst ((List.replicate i true).map V.bl)))
      ⟨same_upd nD, by rw [upd_same]; rfl⟩ (fun i H4 hi hp4 => (hp.same hp4.1).sq) (fun i x H4 hx4 hp4 => ?_) (fun H4 hp4 => ?_)
    · obtain ⟨sm, hD⟩ := hp4
      obtain ⟨z, hz, rfl⟩ := get_map' hx4
      have hi := get_lt hz
      have nz := hl.nm z (List.mem_of_getElem? hz)
      refine ⟨rfl, .str z, rfl, z, rfl, nm_line nz, _, hD, ?_, ?_, ?_⟩
      · rw [List.length_map, List.length_replicate]
        exact small1000 (by omega)
      · intro b u e
        rw [upd_ne (ne_of_none e nD)]
        exact sm _ _ e
      · rw [upd_same, nz, List.replicate_succ', List.map_append]
        rfl
    · obtain ⟨sm, hD⟩ := hp4
      refine ⟨D, List.replicate (l.map V.str).length true, rfl, sql hD, ?_⟩
      have e : (List.replicate (l.map V.str).length true).all id = true := by simp
      rw [e]
      refine ⟨_, rfl, iteT ⟨_, rfl, p, l, rfl, by omega, hp.same sm, by omega, fun H' s' => ?_⟩⟩
      rw [hl.up]
      exact q _ (sm.trans s')
/-! ### state_after -/
theorem scStateAfter : FnScope ["rows", "begin", "path", "state", "at"] ["rows", "begin", "path"] (defScope sStateAfter) := ⟨rfl, rfl, rfl, by decide +kernel, rfl, by decide +kernel, by decide +kernel⟩
def spStateAfter : Sp := fun vs H Q _ => ∃ (R p : Addr) (rows : List (List Nat)) (kk b : Nat) (ws : List Nat), vs = [.ref R, nV b, .ref p] ∧ RwAt H R rows ∧ Rw rows kk ∧ b < rows.length ∧ H p = some (.lst (ws.map nV)) ∧ (∀ a ∈ ws, a < kk) ∧ Q (nV (run rows b ws)) H
theorem ok_stateAfter {f : Addr} {fd : FuncData} {k : Nat} (F : Fun K "state_after" "state_after" sStateAfter f fd) (B : Bn mg) : FnOk P w K mg base CX0 (k + 1) f fd ["rows", "begin", "path"] spStateAfter := by
  refine F.ok scStateAfter (fun vs H Q E h => ?_) (fun cdv A outer s H vs Q E hr h => ?_)
  · obtain ⟨R, p, rows, kk, b, ws, rfl, _⟩ := h
    rfl
  · obtain ⟨R, p, rows, kk, b, ws, rfl, hR, rw', hb, hp, hw, q⟩ := h
    refine ⟨_, pss_cons (ps_set (i := 3) scStateAfter.nd rfl (.inl rfl) (pv 1))
      (pss_cons (ps_for PassesOwn.never rfl (pi_list (pv 2)) (pg_name (i := 4) scStateAfter.nd rfl (.inl rfl))
        (pss_one (ps_set (i := 3) scStateAfter.nd rfl (.inl rfl) (pe_ix ix_tup (pe_ix ix_tup (pv 0) (pv 3) (fun _ _ => rfl)) (pv 4) (fun _ _ => rfl)))))
      (pss_one (ps_ret (pv 3)))), ?_⟩
    refine ⟨_, rfl, .ref p, rfl, p, rfl, ⟨_, sql hp⟩, ?_⟩
    refine for_list (K := K) (a := p) (xs := ws.map nV) (fun i σ H3 => ∃ y, σ = [some (.ref R), some (nV b), some (.ref p), some (nV (run rows b (ws.take i))), y] ∧ H3 = H) ⟨none, rfl, rfl⟩ ?_ ?_ ?_
    · rintro i σ H3 hi ⟨y, rfl, rfl⟩
      exact sql hp
    · rintro i x σ H3 hx ⟨y, rfl, rfl⟩
      obtain ⟨a, ha, rfl⟩ := get_map' hx
      have hlt := run_lt rw' (ws.take i) b hb
      obtain ⟨vs, r, h1, hl, h2, h3⟩ := hR.row (K := K) hlt
      have hak : a < (rows[run rows b (ws.take i)]).length := by
        rw [rw'.wid _ (List.getElem_mem hlt)]
        exact hw a (List.mem_of_getElem? ha)
      refine ⟨.ref R, rfl, nV (run rows b (ws.take i)), rfl, R, vs, _, .ref r, rfl, rfl, h1, atI_nat h2, nV a, rfl, r, _, _, nV (nx rows (run rows b (ws.take i)) a), rfl, rfl, sqt h3, ?_, ?_⟩
      · have e : (rows[run rows b (ws.take i)].map nV)[a]? = some (nV (nx rows (run rows b (ws.take i)) a)) := by
          rw [get_map hak]
          unfold nx
          rw [getD_of hlt, getD_of hak]
        exact atI_nat e
      · refine ⟨some (nV a), ?_, rfl⟩
        rw [List.take_add_one, ha, run_app]
        rfl
    · rintro σ H3 ⟨y, rfl, rfl⟩
      rw [List.length_map, List.take_length]
      exact ⟨_, rfl, q⟩
end
end Sfl
namespace Sfl
open PySem PySem.Spec PyProof.Rows L2
section
variable {P : Program} {w : World} {K : PySem.W.Frag} {mg : Str → Option Value} {base : Heap}
theorem ifNe {A B : Prop} {x y : V} (h : x = y) (b : B) : if (!decide (x = y)) = true then A else B := by
  subst h
  rw [decide_eq_true rfl]
  exact iteF b
/-! ### are_rows -/
theorem scAreRows : FnScope ["letters", "value", "most", "row", "state"] ["letters", "value", "most"] (defScope sAreRows) := ⟨rfl, rfl, rfl, by decide +kernel, rfl, by decide +kernel, by decide +kernel⟩
def spAreRows : Sp := fun vs H Q _ => ∃ (L R : Addr) (ls : List Str) (rows : List (List Nat)), vs = [.ref L, .ref R, .int 200] ∧ Lk H L ls ∧ RwAt H R rows ∧ Rw rows ls.length ∧ rows.length ≤ 200 ∧ Q (.bl true) H
theorem ok_areRows {f : Addr} {fd : FuncData} {k : Nat} (F : Fun K "are_rows" "are_rows" sAreRows f fd) (B : Bn mg) (C1 : Cal P w K mg base k "is_whole" ["value"] spIsWhole) : FnOk P w K mg base CX0 (k + 1) f fd ["letters", "value", "most"] spAreRows := by
  obtain ⟨f1, fd1, G1, g1, kp1, b1⟩ := C1
  refine F.ok scAreRows (fun vs H Q E h => ?_) (fun cdv A outer s H vs Q E hr h => ?_)
  · obtain ⟨L, R, ls, rows, rfl, _⟩ := h
    rfl
  · obtain ⟨L, R, ls, rows, rfl, hL, hR, rw', hle, q⟩ := h
    refine ⟨_, pss_cons (ps_if (PW.pt (pw_or (pt_not (pt_val (pe_callB call_isi (by rfl) B.isi (by decide +kernel) (pa_cons (pv 1) (pa_cons (pe_bltn (v := .ty "tuple") (by rfl) B.tuple (by decide +kernel) rfl) pa_nil)))))
        (pw_or1 (pt_not (pt_chain op_le op_le pe_int (pe_callB call_len_seq (by rfl) B.len PySem.boot_len (pa_cons (pv 1) pa_nil)) (pv 2))))))
        (pss_one (ps_ret pe_bl)) pss_nil)
      (pss_cons (ps_for PassesOwn.never rfl (pi_tup (pv 1)) (pg_name (i := 3) scAreRows.nd rfl (.inl rfl))
        (pss_cons (ps_if (PW.pt (pw_or (pt_not (pt_val (pe_callB call_isi (by rfl) B.isi (by decide +kernel) (pa_cons (pv 3) (pa_cons (pe_bltn (v := .ty "tuple") (by rfl) B.tuple (by decide +kernel) rfl) pa_nil)))))
          (pw_or1 (pt_cmpR op_ne (pe_callB call_len_seq (by rfl) B.len PySem.boot_len (pa_cons (pv 3) pa_nil)) (pe_callB call_len_seq (by rfl) B.len PySem.boot_len (pa_cons (pv 0) pa_nil)) (nomark _)))))
          (pss_one (ps_ret pe_bl)) pss_nil)
        (pss_one (ps_for PassesOwn.never rfl (pi_tup (pv 3)) (pg_name (i := 4) scAreRows.nd rfl (.inl rfl))
          (pss_one (ps_if (PW.pt (pw_or (pt_not (pt_val (pe_call G1 hr (by rfl) g1 kp1 b1 .nil pass0 (pa_cons (pv 4) pa_nil))))
            (pw_or1 (pt_not (pt_chain op_le op_lt pe_int (pv 4) (pe_callB call_len_seq (by rfl) B.len PySem.boot_len (pa_cons (pv 1) pa_nil)))))))
            (pss_one (ps_ret pe_bl)) pss_nil))))))
      (pss_one (ps_ret pe_bl))), ?_⟩
    obtain ⟨rs, eR, lR, fR⟩ := hR
    have hpos := rw'.pos
    refine ⟨_, rfl, .ref R, .ty "tuple", _, .type "tuple", true, rfl, .ty _, .base (.tup eR), kit_ty (by decide +kernel), _, rfl, iteF ?_⟩
    refine ⟨.ref R, rfl, R, _, rfl, .inr (sqt eR), _, _, rfl, rfl, _, rfl, ?_⟩
    rw [List.length_map, decide_eq_true (show (1 : Int) ≤ ((rs.length : Nat) : Int) by omega)]
    refine iteT ⟨.int 200, rfl, _, _, rfl, rfl, _, rfl, ?_⟩
    rw [decide_eq_true (show ((rs.length : Nat) : Int) ≤ 200 by omega)]
    refine iteF ⟨.ref R, rfl, R, rfl, ⟨_, sqt eR⟩, ?_⟩
    refine for_tup (xs := rs.map V.ref) (fun i σ H3 => ∃ y3 y4, σ = [some (.ref L), some (.ref R), some (.int 200), y3, y4] ∧ H3 = H) ⟨none, none, rfl, rfl⟩ ?_ ?_ ?_
    · rintro i σ H3 hi ⟨y3, y4, rfl, rfl⟩
      exact sqt eR
    · rintro i x σ H3 hx ⟨y3, y4, rfl, rfl⟩
      obtain ⟨r, hr', rfl⟩ := get_map' hx
      have hi : i < rows.length := by
        rw [← lR]
        exact get_lt hr'
      have hrow := fR i r _ hr' (List.getElem?_eq_getElem hi)
      have hwid := rw'.wid _ (List.getElem_mem hi)
      refine ⟨_, rfl, .ref r, .ty "tuple", _, .type "tuple", true, rfl, .ty _, .base (.tup hrow), kit_ty (by decide +kernel), _, rfl, iteF ?_⟩
      refine ⟨.ref r, rfl, r, _, rfl, .inr (sqt hrow), .ref L, rfl, L, _, rfl, .inr hL.sq, rfl, _, rfl, ?_⟩
      refine ifNe (by rw [List.length_map, List.length_map, hwid]) ?_
      refine ⟨.ref r, rfl, r, rfl, ⟨_, sqt hrow⟩, ?_⟩
      refine for_tup (xs := (rows[i]).map nV) (fun j σ H4 => ∃ y4, σ = [some (.ref L), some (.ref R), some (.int 200), some (.ref r), y4] ∧ H4 = H3) ⟨y4, rfl, rfl⟩ ?_ ?_ ?_
      · rintro j σ H4 hj ⟨y5, rfl, rfl⟩
        exact sqt hrow
      · rintro j x σ H4 hx4 ⟨y5, rfl, rfl⟩
        obtain ⟨n, hn, rfl⟩ := get_map' hx4
        have hlt := rw'.bd _ (List.getElem_mem hi) n (List.mem_of_getElem? hn)
        refine ⟨nV n, rfl, (n : Int), rfl, _, rfl, iteF ?_⟩
        refine ⟨nV n, rfl, _, _, rfl, rfl, _, rfl, ?_⟩
        rw [decide_eq_true (show (0 : Int) ≤ ((n : Nat) : Int) by omega)]
        refine iteT ⟨.ref R, rfl, R, _, rfl, .inr (sqt eR), _, _, rfl, rfl, _, rfl, ?_⟩
        rw [List.length_map, decide_eq_true (show ((n : Nat) : Int) < ((rs.length : Nat) : Int) by omega)]
        exact iteF ⟨_, rfl, rfl⟩
      · rintro σ H4 ⟨y5, rfl, rfl⟩
        exact ⟨_, _, rfl, rfl⟩
    · rintro σ H3 ⟨y3, y4, rfl, rfl⟩
      exact q
/-! ### is_machine, check_machine -/
theorem scIsMachine : FnScope ["value", "letters", "rows", "good", "one"] ["value"] (defScope sIsMachine) := ⟨rfl, rfl, rfl, by decide +kernel, rfl, by decide +kernel, by decide +kernel⟩
def spIsMachine : Sp := fun vs H Q _ => ∃ (m L R G : Addr) (ls : List Str) (rows : List (List Nat)) (good : List Bool), vs = [.ref m] ∧ Mc H m L R G ls rows good ∧ MOk ls rows good ∧ ∀ H', Same H H' → Q (.bl true) H'
theorem ok_isMachine {f : Addr} {fd : FuncData} {k : Nat} (F : Fun K "is_machine" "is_machine" sIsMachine f fd) (B : Bn mg) (C1 : Cal P w K mg base k "is_letters" ["value"] spIsLetters)
    (C2 : Cal P w K mg base k "are_rows" ["letters", "value", "most"] spAreRows) : FnOk P w K mg base CX0 (k + 1) f fd ["value"] spIsMachine := by
  obtain ⟨f1, fd1, G1, g1, kp1, b1⟩ := C1
  obtain ⟨f2, fd2, G2, g2, kp2, b2⟩ := C2
  refine F.ok scIsMachine (fun vs H Q E h => ?_) (fun cdv A outer s H vs Q E hr h => ?_)
  · obtain ⟨m, L, R, G, ls, rows, good, rfl, _⟩ := h
    rfl
  · obtain ⟨m, L, R, G, ls, rows, good, rfl, hm, ok, q⟩ := h
    obtain ⟨tS, gS⟩ := B.states
    refine ⟨_, pss_cons (ps_if (PW.pt (pw_or (pt_not (pt_val (pe_callB call_isi (by rfl) B.isi (by decide +kernel) (pa_cons (pv 0) (pa_cons (pe_bltn (v := .ty "tuple") (by rfl) B.tuple (by decide +kernel) rfl) pa_nil)))))
        (pw_or1 (pt_cmpR op_ne (pe_callB call_len_seq (by rfl) B.len PySem.boot_len (pa_cons (pv 0) pa_nil)) pe_int (nomark _))))) (pss_one (ps_ret pe_bl)) pss_nil)
      (pss_cons (ps_asg (pv 0) (pg_tup rfl (pgs_cons (pg_name (i := 1) scIsMachine.nd rfl (.inl rfl)) (pgs_cons (pg_name (i := 2) scIsMachine.nd rfl (.inl rfl)) (pgs_cons (pg_name (i := 3) scIsMachine.nd rfl (.inl rfl)) pgs_nil)))))
      (pss_cons (ps_if (PW.pt (pw_or (pt_not (pt_val (pe_call G1 hr (by rfl) g1 kp1 b1 .nil pass0 (pa_cons (pv 1) pa_nil))))
        (pw_or1 (pt_not (pt_val (pe_call G2 hr (by rfl) g2 kp2 b2 .nil pass0 (pa_cons (pv 1) (pa_cons (pv 2) (pa_cons (pe_glob (v := .int 200) rfl gS ⟨_, rfl⟩) pa_nil))))))))) (pss_one (ps_ret pe_bl)) pss_nil)
      (pss_cons (ps_if (PW.pt (pw_or (pt_not (pt_val (pe_callB call_isi (by rfl) B.isi (by decide +kernel) (pa_cons (pv 3) (pa_cons (pe_bltn (v := .ty "tuple") (by rfl) B.tuple (by decide +kernel) rfl) pa_nil)))))
        (pw_or1 (pt_cmpR op_ne (pe_callB call_len_seq (by rfl) B.len PySem.boot_len (pa_cons (pv 3) pa_nil)) (pe_callB call_len_seq (by rfl) B.len PySem.boot_len (pa_cons (pv 2) pa_nil)) (nomark _))))) (pss_one (ps_ret pe_bl)) pss_nil)
      (pss_one (ps_ret (pe_callB (cr_all rfl) (by rfl) B.all (by decide +kernel) (pa_cons
        (pe_lc (own := [("one", 4)]) (g := gName 4) (tt := tYes) rfl scIsMachine.nd (pi_tup (pv 3)) (blkOk_by (own := [("one", 4)]) (N := ["value", "letters", "rows", "good", "one"]) (sc := defScope sIsMachine) (by decide +kernel))
          (fun _ _ _ _ _ => pg_name (i := 4) scIsMachine.nd rfl (Or.inl rfl)) (fun _ _ _ _ _ => pts_nil)
          (fun _ _ _ _ _ => pe_callB (isiK K) (by rfl) B.isi (by decide +kernel) (pa_cons (pv 4) (pa_cons (pe_bltn (v := .ty "bool") (by rfl) B.bool (by decide +kernel) rfl) pa_nil)))) pa_nil))))))), ?_⟩
    refine ⟨_, rfl, .ref m, .ty "tuple", _, .type "tuple", true, rfl, .ty _, .base (.tup hm.m), kit_ty (by decide +kernel), _, rfl, iteF ?_⟩
    refine ⟨_, rfl, m, _, rfl, .inr (sqt hm.m), rfl, _, rfl, ?_⟩
    refine iteF ?_
    refine ⟨.ref m, rfl, m, _, rfl, sqt hm.m, rfl, _, _, rfl, _, _, rfl, _, _, rfl, rfl, ?_⟩
    refine ⟨.ref L, rfl, L, ls, rfl, hm.l, ok.lm, fun H1 s1 => ⟨_, rfl, iteF ?_⟩⟩
    refine ⟨.ref L, rfl, .ref R, rfl, L, R, ls, rows, rfl, hm.l.same s1, hm.r.same s1, ok.rw, ok.le, _, rfl, iteF ?_⟩
    have hG := s1 _ _ hm.g
    refine ⟨_, rfl, .ref G, .ty "tuple", _, .type "tuple", true, rfl, .ty _, .base (.tup hG), kit_ty (by decide +kernel), _, rfl, iteF ?_⟩
    obtain ⟨vs, eR, lR⟩ : ∃ vs, SqT K H1 R vs ∧ vs.length = rows.length := by
      obtain ⟨rs, a, b, _⟩ := hm.r.same s1
      exact ⟨_, sqt a, by rw [List.length_map, b]⟩
    refine ⟨.ref G, rfl, G, _, rfl, .inr (sqt hG), .ref R, rfl, R, vs, rfl, .inr eR, rfl, _, rfl, ?_⟩
    refine ifNe (by rw [List.length_map, lR, ok.gl]) ?_
    refine ⟨.ref G, rfl, G, rfl, ⟨_, sqt hG⟩, fun D nD => ?_⟩
    refine lc_tup (xs := good.map V.bl) (fun i H4 => Same H1 H4 ∧ H4 D = some (.lst ((List.replicate i true).map V.bl)))
      ⟨same_upd nD, by rw [upd_same]; rfl⟩ (fun i H4 hi hp4 => sqt (hp4.1 _ _ hG)) (fun i x H4 hx4 hp4 => ?_) (fun H4 hp4 => ?_)
    · obtain ⟨sm, hD⟩ := hp4
      obtain ⟨z, hz, rfl⟩ := get_map' hx4
      have hi := get_lt hz
      refine ⟨rfl, .bl z, rfl, .bl z, .ty "bool", _, .type "bool", true, rfl, .ty _, .base (.bl z), kit_ty (by decide +kernel), _, hD, ?_, ?_, ?_⟩
      · rw [List.length_map, List.length_replicate]
        have := ok.gl
        have := ok.le
        exact small1000 (by omega)
      · intro b u e
        rw [upd_ne (ne_of_none e nD)]
        exact sm _ _ e
      · rw [upd_same, List.replicate_succ', List.map_append]
        rfl
    · obtain ⟨sm, hD⟩ := hp4
      refine ⟨D, List.replicate (good.map V.bl).length true, rfl, sql hD, ?_⟩
      have e : (List.replicate (good.map V.bl).length true).all id = true := by simp
      rw [e]
      exact q _ (s1.trans sm)
theorem scCheckMachine : FnScope ["value"] ["value"] (defScope sCheckMachine) := ⟨rfl, rfl, rfl, by decide +kernel, rfl, by decide +kernel, by decide +kernel⟩
def spCheckMachine : Sp := fun vs H Q _ => ∃ (m L R G : Addr) (ls : List Str) (rows : List (List Nat)) (good : List Bool), vs = [.ref m] ∧ Mc H m L R G ls rows good ∧ MOk ls rows good ∧ ∀ H', Same H H' → Q .non H'
theorem ok_checkMachine {f : Addr} {fd : FuncData} {k : Nat} (F : Fun K "check_machine" "check_machine" sCheckMachine f fd) (C1 : Cal P w K mg base k "is_machine" ["value"] spIsMachine) :
    FnOk P w K mg base CX0 (k + 1) f fd ["value"] spCheckMachine := by
  obtain ⟨f1, fd1, G1, g1, kp1, b1⟩ := C1
  refine F.ok scCheckMachine (fun vs H Q E h => ?_) (fun cdv A outer s H vs Q E hr h => ?_)
  · obtain ⟨m, L, R, G, ls, rows, good, rfl, _⟩ := h
    rfl
  · obtain ⟨m, L, R, G, ls, rows, good, rfl, hm, ok, q⟩ := h
    refine ⟨_, pss_one (ps_if (pt_not (pt_val (pe_call G1 hr (by rfl) g1 kp1 b1 .nil pass0 (pa_cons (pv 0) pa_nil)))) (pss_one ps_never) pss_nil), ?_⟩
    exact ⟨_, rfl, m, L, R, G, ls, rows, good, rfl, hm, ok, fun H' sm => ⟨_, rfl, iteF (q H' sm)⟩⟩
end
end Sfl
namespace Sfl
open PySem PySem.Spec PyProof.Rows L2
theorem inQ {X : Cx} (K : PySem.W.Frag) (h : X.K = K := by rfl) : OpR X (compareOp .In) (rIn K false) := by
  subst h
  exact op_in_seq
theorem inV_strs (z : Str) : ∀ ls : List Str, inV (.str z) (ls.map V.str) = decide (z ∈ ls)
  | [] => rfl
  | y :: r => by
    have ih := inV_strs z r
    show (eqV (.str y) (.str z) || inV (.str z) (r.map V.str)) = _
    rw [ih]
    show (decide _ || _) = _
    by_cases e : y = z
    · subst e
      simp [eqV]
    · have e' : ¬ z = y := fun h => e h.symm
      simp [eqV, e, e']
theorem flatV_strs (ls : List Str) : (ls.map V.str).all flatV = true := by
  rw [List.all_map]
  exact List.all_eq_true.mpr fun _ _ => rfl
theorem mtTupIndexK {X : Cx} (K : PySem.W.Frag) (h : X.K = K := by rfl) : MtR X "tuple.index" (rIndexT K) := by
  subst h
  exact mt_tupIndex
/-- the first place of a letter -/
def ixOf : List Str → Str → Nat
  | [], _ => 0
  | y :: r, z => if y = z then 0 else ixOf r z + 1
theorem ixOf_spec : ∀ (ls : List Str) (z : Str), z ∈ ls → ls[ixOf ls z]? = some z ∧ ixOf ls z < ls.length ∧ ∀ (m : Nat) (y : Str), m < ixOf ls z → ls[m]? = some y → y ≠ z
  | [], _, h => (nomatch h)
  | x :: r, z, h => by
    unfold ixOf
    by_cases e : x = z
    · rw [if_pos e]
      subst e
      exact ⟨rfl, by rw [List.length_cons]; omega, fun m y hm => absurd hm (by omega)⟩
    · rw [if_neg e]
      have hz : z ∈ r := by
        rcases List.mem_cons.mp h with h | h
        · exact absurd h.symm e
        · exact h
      obtain ⟨a, b, c⟩ := ixOf_spec r z hz
      refine ⟨a, by rw [List.length_cons]; omega, fun m y hm hy => ?_⟩
      cases m with
      | zero =>
        have : x = y := Option.some.inj hy
        rw [← this]
        exact e
      | succ m => exact c m y (by omega) hy
theorem eqV_str (y z : Str) : eqV (.str y) (.str z) = decide (y = z) := by
  by_cases e : y = z
  · subst e
    simp [eqV]
  · simp [eqV, e]
/-- places of a log -/
def ixs (ls : List Str) (l : List Str) : List Nat := l.map (ixOf ls)
section
variable {P : Program} {w : World} {K : PySem.W.Frag} {mg : Str → Option Value} {base : Heap}
/-! ### is_log_over, check_log_over -/
theorem scIsLogOver : FnScope ["letters", "value", "event"] ["letters", "value"] (defScope sIsLogOver) := ⟨rfl, rfl, rfl, by decide +kernel, rfl, by decide +kernel, by decide +kernel⟩
def spIsLogOver : Sp := fun vs H Q _ => ∃ (L p : Addr) (ls l : List Str), vs = [.ref L, .ref p] ∧ Lk H L ls ∧ Tp H p l ∧ Lg l ∧ (∀ z ∈ l, z ∈ ls) ∧ ∀ H', Same H H' → Q (.bl true) H'
theorem ok_isLogOver {f : Addr} {fd : FuncData} {k : Nat} (F : Fun K "is_log_over" "is_log_over" sIsLogOver f fd) (B : Bn mg) (C1 : Cal P w K mg base k "is_any_log" ["value"] spIsAnyLog) :
    FnOk P w K mg base CX0 (k + 1) f fd ["letters", "value"] spIsLogOver := by
  obtain ⟨f1, fd1, G1, g1, kp1, b1⟩ := C1
  refine F.ok scIsLogOver (fun vs H Q E h => ?_) (fun cdv A outer s H vs Q E hr h => ?_)
  · obtain ⟨L, p, ls, l, rfl, _⟩ := h
    rfl
  · obtain ⟨L, p, ls, l, rfl, hL, hp, hl, hsub, q⟩ := h
    refine ⟨_, pss_one (ps_ret (pe_and (pe_call G1 hr (by rfl) g1 kp1 b1 .nil pass0 (pa_cons (pv 1) pa_nil))
        (pe_one (pe_callB (cr_all rfl) (by rfl) B.all (by decide +kernel) (pa_cons
        (pe_lc (own := [("event", 2)]) (g := gName 2) (tt := tYes) rfl scIsLogOver.nd (pi_tup (pv 1)) (blkOk_by (own := [("event", 2)]) (N := ["letters", "value", "event"]) (sc := defScope sIsLogOver) (by decide +kernel))
          (fun _ _ _ _ _ => pg_name (i := 2) scIsLogOver.nd rfl (Or.inl rfl)) (fun _ _ _ _ _ => pts_nil)
          (fun _ _ _ _ _ => pe_cmpR (inQ K) (pv 2) (pv 0) (by rfl))) pa_nil))))), ?_⟩
    refine ⟨_, rfl, p, l, rfl, hp, hl, fun H1 s1 => ⟨_, rfl, ?_⟩⟩
    refine iteT ⟨.ref p, rfl, p, rfl, ⟨_, sqt (s1 _ _ hp)⟩, fun D nD => ?_⟩
    refine lc_tup (xs := l.map V.str) (fun i H4 => Same H1 H4 ∧ H4 D = some (.lst ((List.replicate i true).map V.bl)))
      ⟨same_upd nD, by rw [upd_same]; rfl⟩ (fun i H4 hi hp4 => sqt (hp4.1 _ _ (s1 _ _ hp))) (fun i x H4 hx4 hp4 => ?_) (fun H4 hp4 => ?_)
    · obtain ⟨sm, hD⟩ := hp4
      obtain ⟨z, hz, rfl⟩ := get_map' hx4
      have hi := get_lt hz
      have hm := hsub z (List.mem_of_getElem? hz)
      refine ⟨rfl, .str z, rfl, .ref L, rfl, L, _, rfl, .inr ((hL.same s1).same sm).sq, rfl, flatV_strs ls, _, hD, ?_, ?_, ?_⟩
      · rw [List.length_map, List.length_replicate]
        have := hl.len
        exact small1000 (by omega)
      · intro b u e
        rw [upd_ne (ne_of_none e nD)]
        exact sm _ _ e
      · rw [upd_same, inV_strs, decide_eq_true hm, List.replicate_succ', List.map_append]
        rfl
    · obtain ⟨sm, hD⟩ := hp4
      refine ⟨D, List.replicate (l.map V.str).length true, rfl, sql hD, ?_⟩
      have e : (List.replicate (l.map V.str).length true).all id = true := by simp
      rw [e]
      exact q _ (s1.trans sm)
theorem scCheckLogOver : FnScope ["letters", "value"] ["letters", "value"] (defScope sCheckLogOver) := ⟨rfl, rfl, rfl, by decide +kernel, rfl, by decide +kernel, by decide +kernel⟩
def spCheckLogOver : Sp := fun vs H Q _ => ∃ (L p : Addr) (ls l : List Str), vs = [.ref L, .ref p] ∧ Lk H L ls ∧ Tp H p l ∧ Lg l ∧ (∀ z ∈ l, z ∈ ls) ∧ ∀ H', Same H H' → Q .non H'
theorem ok_checkLogOver {f : Addr} {fd : FuncData} {k : Nat} (F : Fun K "check_log_over" "check_log_over" sCheckLogOver f fd) (C1 : Cal P w K mg base k "is_log_over" ["letters", "value"] spIsLogOver) :
    FnOk P w K mg base CX0 (k + 1) f fd ["letters", "value"] spCheckLogOver := by
  obtain ⟨f1, fd1, G1, g1, kp1, b1⟩ := C1
  refine F.ok scCheckLogOver (fun vs H Q E h => ?_) (fun cdv A outer s H vs Q E hr h => ?_)
  · obtain ⟨L, p, ls, l, rfl, _⟩ := h
    rfl
  · obtain ⟨L, p, ls, l, rfl, hL, hp, hl, hsub, q⟩ := h
    refine ⟨_, pss_one (ps_if (pt_not (pt_val (pe_call G1 hr (by rfl) g1 kp1 b1 .nil pass0 (pa_cons (pv 0) (pa_cons (pv 1) pa_nil))))) (pss_one ps_never) pss_nil), ?_⟩
    exact ⟨.ref L, rfl, .ref p, rfl, L, p, ls, l, rfl, hL, hp, hl, hsub, fun H' sm => ⟨_, rfl, iteF (q H' sm)⟩⟩
/-! ### path_of, log_of -/
theorem scPathOf : FnScope ["letters", "log", "event"] ["letters", "log"] (defScope sPathOf) := ⟨rfl, rfl, rfl, by decide +kernel, rfl, by decide +kernel, by decide +kernel⟩
def spPathOf : Sp := fun vs H Q _ => ∃ (L p : Addr) (ls l : List Str), vs = [.ref L, .ref p] ∧ Lk H L ls ∧ Tp H p l ∧ l.length ≤ 1000 ∧ (∀ z ∈ l, z ∈ ls) ∧ ∀ H' r, Same H H' → H r = none → H' r = some (.lst ((ixs ls l).map nV)) → Q (.ref r) H'
theorem ok_pathOf {f : Addr} {fd : FuncData} {k : Nat} (F : Fun K "path_of" "path_of" sPathOf f fd) (B : Bn mg) : FnOk P w K mg base CX0 (k + 1) f fd ["letters", "log"] spPathOf := by
  refine F.ok scPathOf (fun vs H Q E h => ?_) (fun cdv A outer s H vs Q E hr h => ?_)
  · obtain ⟨L, p, ls, l, rfl, _⟩ := h
    rfl
  · obtain ⟨L, p, ls, l, rfl, hL, hp, hl, hsub, q⟩ := h
    refine ⟨_, pss_one (ps_ret (pe_lc (own := [("event", 2)]) (g := gName 2) (tt := tYes) rfl scPathOf.nd (pi_tup (pv 1)) (blkOk_by (own := [("event", 2)]) (N := ["letters", "log", "event"]) (sc := defScope sPathOf) (by decide +kernel))
          (fun _ _ _ _ _ => pg_name (i := 2) scPathOf.nd rfl (Or.inl rfl)) (fun _ _ _ _ _ => pts_nil)
          (fun _ _ _ _ _ => pe_bmF PySem.F.slot_tuple_index PySem.F.type_tuple_index (mtTupIndexK K) (pv 0) (pa_cons (pv 2) pa_nil)))), ?_⟩
    refine ⟨.ref p, rfl, p, rfl, ⟨_, sqt hp⟩, fun D nD => ?_⟩
    refine lc_tup (xs := l.map V.str) (fun i H4 => Same H H4 ∧ H4 D = some (.lst (((ixs ls l).take i).map nV)))
      ⟨same_upd nD, by rw [upd_same]; rfl⟩ (fun i H4 hi hp4 => sqt (hp4.1 _ _ hp)) (fun i x H4 hx4 hp4 => ?_) (fun H4 hp4 => ?_)
    · obtain ⟨sm, hD⟩ := hp4
      obtain ⟨z, hz, rfl⟩ := get_map' hx4
      have hi := get_lt hz
      have hm := hsub z (List.mem_of_getElem? hz)
      obtain ⟨e1, e2, e3⟩ := ixOf_spec ls z hm
      have hg : (ixs ls l)[i]? = some (ixOf ls z) := by
        unfold ixs
        rw [List.getElem?_map, hz]
        rfl
      have hL4 := hL.same sm
      refine ⟨rfl, .ref L, rfl, ⟨L, _, rfl, hL4⟩, .str z, rfl, L, ls.map V.str, .str z, ixOf ls z, .str z, rfl, rfl, hL4.sq, rfl, flatV_strs ls, ?_, ?_, ?_, _, hD, ?_, ?_, ?_⟩
      · rw [List.getElem?_map, e1]
        rfl
      · rw [eqV_str]
        exact decide_eq_true rfl
      · intro m z' hm' hz'
        obtain ⟨y, hy, rfl⟩ := get_map' hz'
        rw [eqV_str]
        exact decide_eq_false (e3 m y hm' hy)
      · rw [List.length_map, List.length_take]
        exact Nat.lt_of_le_of_lt (Nat.min_le_left _ _) (small1000 (by omega))
      · intro b u e
        rw [upd_ne (ne_of_none e nD)]
        exact sm _ _ e
      · rw [upd_same, List.take_add_one, hg, List.map_append]
        rfl
    · obtain ⟨sm, hD⟩ := hp4
      rw [List.length_map, List.take_of_length_le (by unfold ixs; rw [List.length_map]; exact Nat.le_refl _)] at hD
      exact q _ D sm nD hD
/-- the log of a path -/
def lgOf (ls : List Str) (p : List Nat) : List Str := p.map fun a => ls.getD a ""
theorem scLogOf : FnScope ["letters", "path", "at"] ["letters", "path"] (defScope sLogOf) := ⟨rfl, rfl, rfl, by decide +kernel, rfl, by decide +kernel, by decide +kernel⟩
def spLogOf : Sp := fun vs H Q _ => ∃ (L p : Addr) (ls : List Str) (ws : List Nat), vs = [.ref L, .ref p] ∧ Lk H L ls ∧ Ip H p ws ∧ ws.length ≤ 1000 ∧ (∀ a ∈ ws, a < ls.length) ∧ ∀ H' r, Same H H' → H r = none → Tp H' r (lgOf ls ws) → Q (.ref r) H'
theorem ok_logOf {f : Addr} {fd : FuncData} {k : Nat} (F : Fun K "log_of" "log_of" sLogOf f fd) (B : Bn mg) : FnOk P w K mg base CX0 (k + 1) f fd ["letters", "path"] spLogOf := by
  refine F.ok scLogOf (fun vs H Q E h => ?_) (fun cdv A outer s H vs Q E hr h => ?_)
  · obtain ⟨L, p, ls, ws, rfl, _⟩ := h
    rfl
  · obtain ⟨L, p, ls, ws, rfl, hL, hp, hl, hsub, q⟩ := h
    refine ⟨_, pss_one (ps_ret (pe_callTy call_tuple_of (by rfl) B.tuple (by decide +kernel) (pa_cons
        (pe_lc (own := [("at", 2)]) (g := gName 2) (tt := tYes) rfl scLogOf.nd (pi_tup (pv 1)) (blkOk_by (own := [("at", 2)]) (N := ["letters", "path", "at"]) (sc := defScope sLogOf) (by decide +kernel))
          (fun _ _ _ _ _ => pg_name (i := 2) scLogOf.nd rfl (Or.inl rfl)) (fun _ _ _ _ _ => pts_nil)
          (fun _ _ _ _ _ => pe_ix (ixTK K) (pv 0) (pv 2) (fun _ _ => rfl))) pa_nil))), ?_⟩
    refine ⟨.ref p, rfl, p, rfl, ⟨_, sqt hp⟩, fun D nD => ?_⟩
    refine lc_tup (xs := ws.map nV) (fun i H4 => Same H H4 ∧ H4 D = some (.lst (((lgOf ls ws).take i).map V.str)))
      ⟨same_upd nD, by rw [upd_same]; rfl⟩ (fun i H4 hi hp4 => sqt (hp4.1 _ _ hp)) (fun i x H4 hx4 hp4 => ?_) (fun H4 hp4 => ?_)
    · obtain ⟨sm, hD⟩ := hp4
      obtain ⟨a, ha, rfl⟩ := get_map' hx4
      have hi := get_lt ha
      have hm := hsub a (List.mem_of_getElem? ha)
      have hg : (lgOf ls ws)[i]? = some (ls.getD a "") := by
        unfold lgOf
        rw [List.getElem?_map, ha]
        rfl
      refine ⟨rfl, .ref L, rfl, nV a, rfl, L, _, _, .str (ls.getD a ""), rfl, rfl, (hL.same sm).sq, ?_, _, hD, ?_, ?_, ?_⟩
      · refine atI_nat ?_
        rw [get_map hm, getD_of hm]
      · rw [List.length_map, List.length_take]
        exact Nat.lt_of_le_of_lt (Nat.min_le_left _ _) (small1000 (by omega))
      · intro b u e
        rw [upd_ne (ne_of_none e nD)]
        exact sm _ _ e
      · rw [upd_same, List.take_add_one, hg, List.map_append]
        rfl
    · obtain ⟨sm, hD⟩ := hp4
      rw [List.length_map, List.take_of_length_le (by unfold lgOf; rw [List.length_map]; exact Nat.le_refl _)] at hD
      exact ⟨D, _, rfl, .inl ⟨sql hD, fun r nr => q _ r (sm.trans (same_upd nr)) (sm.free nr) upd_same⟩⟩
end
end Sfl
namespace Sfl
open PySem PySem.Spec PyProof.Rows L2
theorem ixs_lt {ls l : List Str} (h : ∀ z ∈ l, z ∈ ls) : ∀ a ∈ ixs ls l, a < ls.length := by
  intro a ha
  obtain ⟨z, hz, rfl⟩ := List.mem_map.mp ha
  exact (ixOf_spec ls z (h z hz)).2.1
/-- whether the log is good -/
def gd (rows : List (List Nat)) (good : List Bool) (ls l : List Str) : Bool := good.getD (run rows 0 (ixs ls l)) false
section
variable {P : Program} {w : World} {K : PySem.W.Frag} {mg : Str → Option Value} {base : Heap}
/-! ### state_of, label_of -/
theorem scStateOf : FnScope ["machine", "log", "letters", "rows", "_"] ["machine", "log"] (defScope sStateOf) := ⟨rfl, rfl, rfl, by decide +kernel, rfl, by decide +kernel, by decide +kernel⟩
def spStateOf : Sp := fun vs H Q _ => ∃ (m L R G p : Addr) (ls : List Str) (rows : List (List Nat)) (good : List Bool) (l : List Str), vs = [.ref m, .ref p] ∧ Mc H m L R G ls rows good ∧ MOk ls rows good ∧ Tp H p l ∧ l.length ≤ 1000 ∧ (∀ z ∈ l, z ∈ ls) ∧
  ∀ H', Same H H' → Q (nV (run rows 0 (ixs ls l))) H'
theorem ok_stateOf {f : Addr} {fd : FuncData} {k : Nat} (F : Fun K "state_of" "state_of" sStateOf f fd) (B : Bn mg) (C1 : Cal P w K mg base k "state_after" ["rows", "begin", "path"] spStateAfter)
    (C2 : Cal P w K mg base k "path_of" ["letters", "log"] spPathOf) : FnOk P w K mg base CX0 (k + 1) f fd ["machine", "log"] spStateOf := by
  obtain ⟨f1, fd1, G1, g1, kp1, b1⟩ := C1
  obtain ⟨f2, fd2, G2, g2, kp2, b2⟩ := C2
  refine F.ok scStateOf (fun vs H Q E h => ?_) (fun cdv A outer s H vs Q E hr h => ?_)
  · obtain ⟨m, L, R, G, p, ls, rows, good, l, rfl, _⟩ := h
    rfl
  · obtain ⟨m, L, R, G, p, ls, rows, good, l, rfl, hm, ok, hp, hl, hsub, q⟩ := h
    refine ⟨_, pss_cons (ps_asg (pv 0) (pg_tup rfl (pgs_cons (pg_name (i := 2) scStateOf.nd rfl (.inl rfl)) (pgs_cons (pg_name (i := 3) scStateOf.nd rfl (.inl rfl)) (pgs_cons (pg_name (i := 4) scStateOf.nd rfl (.inl rfl)) pgs_nil)))))
      (pss_one (ps_ret (pe_call G1 hr (by rfl) g1 kp1 b1 .nil pass0 (pa_cons (pv 3) (pa_cons pe_int (pa_cons (pe_call G2 hr (by rfl) g2 kp2 b2 .nil pass0 (pa_cons (pv 2) (pa_cons (pv 1) pa_nil))) pa_nil)))))), ?_⟩
    refine ⟨.ref m, rfl, m, _, rfl, sqt hm.m, rfl, _, _, rfl, _, _, rfl, _, _, rfl, rfl, ?_⟩
    refine ⟨.ref R, rfl, .ref L, rfl, .ref p, rfl, L, p, ls, l, rfl, hm.l, hp, hl, hsub, fun H1 r s1 nr hr1 => ?_⟩
    exact ⟨R, r, rows, ls.length, 0, ixs ls l, rfl, hm.r.same s1, ok.rw, ok.rw.pos, hr1, ixs_lt hsub, q _ s1⟩
theorem scLabelOf : FnScope ["machine", "log"] ["machine", "log"] (defScope sLabelOf) := ⟨rfl, rfl, rfl, by decide +kernel, rfl, by decide +kernel, by decide +kernel⟩
def spLabelOf : Sp := fun vs H Q _ => ∃ (m L R G p : Addr) (ls : List Str) (rows : List (List Nat)) (good : List Bool) (l : List Str), vs = [.ref m, .ref p] ∧ Mc H m L R G ls rows good ∧ MOk ls rows good ∧ Tp H p l ∧ l.length ≤ 1000 ∧ (∀ z ∈ l, z ∈ ls) ∧
  ∀ H', Same H H' → Q (.bl (gd rows good ls l)) H'
theorem atI_0 {x y z : V} : atI [x, y, z] 0 = some x := rfl
theorem atI_1 {x y z : V} : atI [x, y, z] 1 = some y := rfl
theorem atI_2 {x y z : V} : atI [x, y, z] 2 = some z := rfl
theorem ok_labelOf {f : Addr} {fd : FuncData} {k : Nat} (F : Fun K "label_of" "label_of" sLabelOf f fd) (B : Bn mg) (C1 : Cal P w K mg base k "state_of" ["machine", "log"] spStateOf) : FnOk P w K mg base CX0 (k + 1) f fd ["machine", "log"] spLabelOf := by
  obtain ⟨f1, fd1, G1, g1, kp1, b1⟩ := C1
  refine F.ok scLabelOf (fun vs H Q E h => ?_) (fun cdv A outer s H vs Q E hr h => ?_)
  · obtain ⟨m, L, R, G, p, ls, rows, good, l, rfl, _⟩ := h
    rfl
  · obtain ⟨m, L, R, G, p, ls, rows, good, l, rfl, hm, ok, hp, hl, hsub, q⟩ := h
    refine ⟨_, pss_one (ps_ret (pe_ix ix_tup (pe_ix ix_tup (pv 0) pe_int (fun _ _ => rfl)) (pe_call G1 hr (by rfl) g1 kp1 b1 .nil pass0 (pa_cons (pv 0) (pa_cons (pv 1) pa_nil))) (fun _ _ => rfl))), ?_⟩
    refine ⟨.ref m, rfl, m, _, _, .ref G, rfl, rfl, sqt hm.m, atI_2, .ref m, rfl, .ref p, rfl, m, L, R, G, p, ls, rows, good, l, rfl, hm, ok, hp, hl, hsub, fun H1 s1 => ?_⟩
    have hlt : run rows 0 (ixs ls l) < good.length := by
      rw [ok.gl]
      exact run_lt ok.rw _ 0 ok.rw.pos
    have hg : (good.map V.bl)[run rows 0 (ixs ls l)]? = some (.bl (gd rows good ls l)) := by
      rw [get_map hlt]
      unfold gd
      rw [getD_of hlt]
    exact ⟨G, _, _, _, rfl, rfl, sqt (s1 _ _ hm.g), atI_nat hg, q _ s1⟩
/-! ### state_behind, contains -/
theorem scStateBehind : FnScope ["machine", "log", "begin", "letters", "rows", "_"] ["machine", "log", "begin"] (defScope sStateBehind) := ⟨rfl, rfl, rfl, by decide +kernel, rfl, by decide +kernel, by decide +kernel⟩
def spStateBehind : Sp := fun vs H Q _ => ∃ (m L R G p : Addr) (ls : List Str) (rows : List (List Nat)) (good : List Bool) (l : List Str) (b : Nat), vs = [.ref m, .ref p, nV b] ∧ Mc H m L R G ls rows good ∧ MOk ls rows good ∧ Tp H p l ∧ Lg l ∧ (∀ z ∈ l, z ∈ ls) ∧ b < rows.length ∧
  ∀ H', Same H H' → Q (nV (run rows b (ixs ls l))) H'
theorem ok_stateBehind {f : Addr} {fd : FuncData} {k : Nat} {dvs : List V} {kws : List (Str × V)} (F : FunD K "state_behind" "state_behind" (defArgs sStateBehind) (defBody sStateBehind) (defScope sStateBehind) dvs kws f fd) (B : Bn mg) (C1 : Cal P w K mg base k "check_machine" ["value"] spCheckMachine)
    (C2 : Cal P w K mg base k "check_log_over" ["letters", "value"] spCheckLogOver) (C3 : Cal P w K mg base k "check_number" ["value", "least", "most"] spCheckNumber) (C4 : Cal P w K mg base k "state_after" ["rows", "begin", "path"] spStateAfter)
    (C5 : Cal P w K mg base k "path_of" ["letters", "log"] spPathOf) : FnOk P w K mg base CX0 (k + 1) f fd ["machine", "log", "begin"] spStateBehind := by
  obtain ⟨f1, fd1, G1, g1, kp1, b1⟩ := C1
  obtain ⟨f2, fd2, G2, g2, kp2, b2⟩ := C2
  obtain ⟨f3, fd3, G3, g3, kp3, b3⟩ := C3
  obtain ⟨f4, fd4, G4, g4, kp4, b4⟩ := C4
  obtain ⟨f5, fd5, G5, g5, kp5, b5⟩ := C5
  refine F.ok scStateBehind (fun vs H Q E h => ?_) (fun cdv A outer s H vs Q E hr h => ?_)
  · obtain ⟨m, L, R, G, p, ls, rows, good, l, b, rfl, _⟩ := h
    rfl
  · obtain ⟨m, L, R, G, p, ls, rows, good, l, b, rfl, hm, ok, hp, hl, hsub, hb, q⟩ := h
    refine ⟨_, pss_cons (ps_expr (pe_call G1 hr (by rfl) g1 kp1 b1 .nil pass0 (pa_cons (pv 0) pa_nil)))
      (pss_cons (ps_asg (pv 0) (pg_tup rfl (pgs_cons (pg_name (i := 3) scStateBehind.nd rfl (.inl rfl)) (pgs_cons (pg_name (i := 4) scStateBehind.nd rfl (.inl rfl)) (pgs_cons (pg_name (i := 5) scStateBehind.nd rfl (.inl rfl)) pgs_nil)))))
      (pss_cons (ps_expr (pe_call G2 hr (by rfl) g2 kp2 b2 .nil pass0 (pa_cons (pv 3) (pa_cons (pv 1) pa_nil))))
      (pss_cons (ps_expr (pe_call G3 hr (by rfl) g3 kp3 b3 .nil pass0 (pa_cons (pv 2) (pa_cons pe_int (pa_cons (pe_op op_sub (pe_callB call_len_seq (by rfl) B.len PySem.boot_len (pa_cons (pv 4) pa_nil)) pe_int) pa_nil)))))
      (pss_one (ps_ret (pe_call G4 hr (by rfl) g4 kp4 b4 .nil pass0 (pa_cons (pv 4) (pa_cons (pv 2) (pa_cons (pe_call G5 hr (by rfl) g5 kp5 b5 .nil pass0 (pa_cons (pv 3) (pa_cons (pv 1) pa_nil))) pa_nil))))))))), ?_⟩
    refine ⟨.ref m, rfl, m, L, R, G, ls, rows, good, rfl, hm, ok, fun H1 s1 => ?_⟩
    have m1 := hm.same s1
    refine ⟨.ref m, rfl, m, _, rfl, sqt m1.m, rfl, _, _, rfl, _, _, rfl, _, _, rfl, rfl, ?_⟩
    refine ⟨.ref L, rfl, .ref p, rfl, L, p, ls, l, rfl, m1.l, s1 _ _ hp, hl, hsub, fun H2 s2 => ?_⟩
    have m2 := m1.same s2
    obtain ⟨vs, eR, lR⟩ : ∃ vs, SqT K H2 R vs ∧ vs.length = rows.length := by
      obtain ⟨rs, a, b, _⟩ := m2.r
      exact ⟨_, sqt a, by rw [List.length_map, b]⟩
    refine ⟨nV b, rfl, .ref R, rfl, R, vs, rfl, .inr eR, _, _, rfl, rfl, (b : Int), 0, _, rfl, by omega, by omega, ?_⟩
    refine ⟨.ref R, rfl, nV b, rfl, .ref L, rfl, .ref p, rfl, L, p, ls, l, rfl, m2.l, s2 _ _ (s1 _ _ hp), by have := hl.len; omega, hsub, fun H3 r s3 nr hr1 => ?_⟩
    exact ⟨R, r, rows, ls.length, b, ixs ls l, rfl, m2.r.same s3, ok.rw, hb, hr1, ixs_lt hsub, q _ ((s1.trans s2).trans s3)⟩
theorem scContains : FnScope ["machine", "log"] ["machine", "log"] (defScope sContains) := ⟨rfl, rfl, rfl, by decide +kernel, rfl, by decide +kernel, by decide +kernel⟩
def spContains : Sp := fun vs H Q _ => ∃ (m L R G p : Addr) (ls : List Str) (rows : List (List Nat)) (good : List Bool) (l : List Str), vs = [.ref m, .ref p] ∧ Mc H m L R G ls rows good ∧ MOk ls rows good ∧ Tp H p l ∧ Lg l ∧ (∀ z ∈ l, z ∈ ls) ∧
  ∀ H', Same H H' → Q (.bl (gd rows good ls l)) H'
theorem ok_contains {f : Addr} {fd : FuncData} {k : Nat} (F : Fun K "contains" "contains" sContains f fd) (B : Bn mg) (C1 : Cal P w K mg base k "check_machine" ["value"] spCheckMachine)
    (C2 : Cal P w K mg base k "check_log_over" ["letters", "value"] spCheckLogOver) (C3 : Cal P w K mg base k "label_of" ["machine", "log"] spLabelOf) : FnOk P w K mg base CX0 (k + 1) f fd ["machine", "log"] spContains := by
  obtain ⟨f1, fd1, G1, g1, kp1, b1⟩ := C1
  obtain ⟨f2, fd2, G2, g2, kp2, b2⟩ := C2
  obtain ⟨f3, fd3, G3, g3, kp3, b3⟩ := C3
  refine F.ok scContains (fun vs H Q E h => ?_) (fun cdv A outer s H vs Q E hr h => ?_)
  · obtain ⟨m, L, R, G, p, ls, rows, good, l, rfl, _⟩ := h
    rfl
  · obtain ⟨m, L, R, G, p, ls, rows, good, l, rfl, hm, ok, hp, hl, hsub, q⟩ := h
    refine ⟨_, pss_cons (ps_expr (pe_call G1 hr (by rfl) g1 kp1 b1 .nil pass0 (pa_cons (pv 0) pa_nil)))
      (pss_cons (ps_expr (pe_call G2 hr (by rfl) g2 kp2 b2 .nil pass0 (pa_cons (pe_ix ix_tup (pv 0) pe_int (fun _ _ => rfl)) (pa_cons (pv 1) pa_nil))))
      (pss_one (ps_ret (pe_call G3 hr (by rfl) g3 kp3 b3 .nil pass0 (pa_cons (pv 0) (pa_cons (pv 1) pa_nil)))))), ?_⟩
    refine ⟨.ref m, rfl, m, L, R, G, ls, rows, good, rfl, hm, ok, fun H1 s1 => ?_⟩
    have m1 := hm.same s1
    refine ⟨.ref m, rfl, m, _, _, .ref L, rfl, rfl, sqt m1.m, atI_0, .ref p, rfl, L, p, ls, l, rfl, m1.l, s1 _ _ hp, hl, hsub, fun H2 s2 => ?_⟩
    refine ⟨.ref m, rfl, .ref p, rfl, m, L, R, G, p, ls, rows, good, l, rfl, m1.same s2, ok, s2 _ _ (s1 _ _ hp), by have := hl.len; omega, hsub, fun H3 s3 => q _ ((s1.trans s2).trans s3)⟩
end
/-! ### the call with a keyword -/
theorem FunD.kbindsN {K : PySem.W.Frag} {x qual : Str} {params : Arguments} {body : List Stmt} {scope : Scope} {kws : List (Str × V)} {f : Addr} {fd : FuncData} {ps : List Str} (F : FunD K x qual params body scope [] kws f fd) (n : Nat) (ks : List Str)
    (h : ∀ (kV doc pm : Value) (an : Option Addr) (cdv ct : Value) (us ws : List Value), us.length = n → ws.length = ks.length → bindArgs (PySem.W.fnOf x qual params body scope .none kV doc pm an cdv ct) ⟨us, ks.zip ws⟩ = pure (ps.zip (us ++ ws))) :
    KBn K fd ps n ks (fun us ws => us ++ ws) (fun vs zs => vs ++ zs) := by
  obtain ⟨oc, od, dV, kV, doc, pm, an, cdv, ct, osl, rfl, lk, hcd, hD, hK⟩ := F.ex
  rcases hD with ⟨_, rfl⟩ | ⟨e, _⟩
  · exact ⟨fun s us ws X l1 l2 => .of_eq (h kV doc pm an cdv ct us ws l1 l2), fun r1 r2 => r1.append r2⟩
  · exact absurd rfl e
/-- state_behind as its callers see it -/
def CalSB (P : Program) (w : World) (K : PySem.W.Frag) (mg : Str → Option Value) (base : Heap) (k : Nat) : Prop :=
  ∃ (f : Addr) (fd : FuncData) (ds : List Value), FnOk P w K mg base CX0 k f fd ["machine", "log", "begin"] spStateBehind ∧ mg "state_behind" = some (.ref f) ∧ PySem.W.keepIn K (.ref f) = true ∧ Vals [.int 0] ds ∧ Binds K fd ["machine", "log", "begin"] ds ∧
    KBn K fd ["machine", "log", "begin"] 2 ["begin"] (fun us ws => us ++ ws) (fun vs zs => vs ++ zs)
theorem sb_binds {K : PySem.W.Frag} {f : Addr} {fd : FuncData} (F : FunD K "state_behind" "state_behind" (defArgs sStateBehind) (defBody sStateBehind) (defScope sStateBehind) [] [("begin", .int 0)] f fd) :
    (∃ ds, Vals [.int 0] ds ∧ Binds K fd ["machine", "log", "begin"] ds) ∧ KBn K fd ["machine", "log", "begin"] 2 ["begin"] (fun us ws => us ++ ws) (fun vs zs => vs ++ zs) := by
  refine ⟨?_, ?_⟩
  · refine F.binds0 (ps := ["machine", "log", "begin"]) 2 (by simp) rfl fun D doc pm an cdv ct us ks h1 h2 => ?_
    match us, h1, ks, h2 with
    | [u1, u2], _, [k1], _ => exact ⟨_, _, _, _, _, _, rfl, rfl, rfl⟩
  · refine FunD.kbindsN F 2 ["begin"] fun kV doc pm an cdv ct us ws h1 h2 => ?_
    match us, h1, ws, h2 with
    | [u1, u2], _, [k1], _ => rfl
end Sfl
namespace Sfl
open PySem PySem.Spec PyProof.Rows L2
theorem ixN_nat {n j : Nat} (h : j < n) : ixN n (j : Int) = some j := by
  unfold ixN
  rw [if_pos (by omega), if_pos (by omega)]
  rfl
/-! ### the lengths of paths -/
def Bd (x : PQ) : Prop := ∀ s w, x.1.getD s none = some w → w.length ≤ x.2.length
theorem Bd.start (rows : List (List Nat)) : Bd (empty rows) := by
  intro s w h
  have := (Iv.start rows).src s w h
  exact absurd this.1 (by simp)
theorem Bd.add {rows : List (List Nat)} {x : PQ} (b : Bd x) {w : List Nat} (hw : w.length ≤ x.2.length + 1) : Bd (add rows x w) := by
  unfold Sfl.add
  by_cases c : x.1.getD (run rows 0 w) none = none
  · rw [if_pos c]
    intro s v h
    have h' : (x.1.set (run rows 0 w) (some w)).getD s none = some v := h
    show v.length ≤ (x.2 ++ [run rows 0 w]).length
    rw [List.length_append, List.length_singleton]
    by_cases hl : run rows 0 w < x.1.length
    · rw [set_getD hl] at h'
      by_cases e : run rows 0 w = s
      · rw [if_pos e] at h'
        cases Option.some.inj h'
        exact hw
      · rw [if_neg e] at h'
        have := b s v h'
        omega
    · rw [List.set_eq_of_length_le (by omega)] at h'
      have := b s v h'
      omega
  · rw [if_neg c]
    exact b
theorem add_q (rows : List (List Nat)) (x : PQ) (w : List Nat) : x.2.length ≤ (add rows x w).2.length := by
  unfold add
  split
  · show _ ≤ (x.2 ++ [_]).length
    rw [List.length_append]
    omega
  · exact Nat.le_refl _
theorem Bd.adds {rows : List (List Nat)} : ∀ (L : List (List Nat)) (x : PQ), Bd x → (∀ w ∈ L, w.length ≤ x.2.length + 1) → Bd (L.foldl (Sfl.add rows) x)
  | [], _, b, _ => b
  | w :: L, x, b, h => Bd.adds L (Sfl.add rows x w) (b.add (h w List.mem_cons_self)) fun v hv => by
    have h1 := h v (List.mem_cons_of_mem _ hv)
    have h2 := add_q rows x w
    omega
theorem proc_bd {rows : List (List Nat)} (k : Nat) : ∀ j, Bd (proc rows k j)
  | 0 => by
    show Bd (lv rows k 1)
    unfold lv
    refine Bd.adds _ _ (Bd.start rows) fun w hw => ?_
    have : w = [] := List.mem_singleton.mp hw
    rw [this]
    exact Nat.zero_le _
  | j + 1 => by
    have b := proc_bd (rows := rows) k j
    show Bd (visit rows k (proc rows k j) j)
    unfold visit
    split
    · exact b
    · split
      · exact b
      · rename_i s _ _ w hw
        refine Bd.adds _ _ b fun v hv => ?_
        obtain ⟨a, _, rfl⟩ := List.mem_map.mp hv
        have := b s w hw
        rw [List.length_append, List.length_singleton]
        omega
/-- words of levels are made of letters -/
theorem lev_mem {k : Nat} : ∀ {n : Nat} {w : List Nat}, w ∈ lev k n → w.length = n ∧ ∀ a ∈ w, a < k
  | 0, w, h => by
    have : w = [] := List.mem_singleton.mp h
    subst this
    exact ⟨rfl, fun a ha => (nomatch ha)⟩
  | n + 1, w, h => by
    obtain ⟨v, hv, hw⟩ := List.mem_flatMap.mp h
    obtain ⟨h1, h2⟩ := lev_mem hv
    obtain ⟨a, ha, rfl⟩ := List.mem_map.mp hw
    refine ⟨by rw [List.length_append, h1]; rfl, fun b hb => ?_⟩
    rcases List.mem_append.mp hb with hb | hb
    · exact h2 b hb
    · rw [List.mem_singleton.mp hb]
      exact List.mem_range.mp ha
theorem upto_mem {k : Nat} : ∀ {n : Nat} {w : List Nat}, w ∈ upto k n → w.length < n ∧ ∀ a ∈ w, a < k
  | 0, w, h => (nomatch h)
  | n + 1, w, h => by
    rcases List.mem_append.mp h with h | h
    · obtain ⟨a, b⟩ := upto_mem h
      exact ⟨by omega, b⟩
    · obtain ⟨a, b⟩ := lev_mem h
      exact ⟨by omega, b⟩
/-! ### paths in the heap -/
def PV (H : Hp) (v : V) : Option (List Nat) → Prop
  | none => v = .non
  | some w => ∃ a, v = .ref a ∧ Ip H a w
def PthAt (H : Hp) (p : Addr) (D : List (Option (List Nat))) : Prop := ∃ vs : List V, H p = some (.lst vs) ∧ vs.length = D.length ∧ ∀ (i : Nat) (v : V) (o : Option (List Nat)), vs[i]? = some v → D[i]? = some o → PV H v o
theorem PV.kp {H H' : Hp} {v : V} {o : Option (List Nat)} {p : Addr} {vs : List V} (h : PV H v o) (hp : H p = some (.lst vs)) (k : Kp p H H') : PV H' v o := by
  cases o with
  | none => exact h
  | some w =>
    obtain ⟨a, e, ia⟩ := h
    exact ⟨a, e, k a _ (ne_of ia hp (by intro z; cases z)) ia⟩
theorem PV.same {H H' : Hp} {v : V} {o : Option (List Nat)} (h : PV H v o) (k : Same H H') : PV H' v o := by
  cases o with
  | none => exact h
  | some w =>
    obtain ⟨a, e, ia⟩ := h
    exact ⟨a, e, k a _ ia⟩
theorem PthAt.same {H H' : Hp} {p : Addr} {D : List (Option (List Nat))} (h : PthAt H p D) (s : Same H H') : PthAt H' p D := by
  obtain ⟨vs, a, b, c⟩ := h
  exact ⟨vs, s _ _ a, b, fun i v o x y => (c i v o x y).same s⟩
/-- another list changes -/
theorem PthAt.kp {H H' : Hp} {p q : Addr} {D : List (Option (List Nat))} {ys : List V} (h : PthAt H p D) (hq : H q = some (.lst ys)) (hn : p ≠ q) (s : Kp q H H') : PthAt H' p D := by
  obtain ⟨vs, a, b, c⟩ := h
  exact ⟨vs, s _ _ hn a, b, fun i v o x y => (c i v o x y).kp hq s⟩
/-- a place -/
theorem PthAt.get {H : Hp} {p : Addr} {D : List (Option (List Nat))} (h : PthAt H p D) {i : Nat} (hi : i < D.length) : ∃ (vs : List V) (v : V), H p = some (.lst vs) ∧ vs.length = D.length ∧ vs[i]? = some v ∧ PV H v (D.getD i none) := by
  obtain ⟨vs, a, b, c⟩ := h
  have hv : i < vs.length := by omega
  refine ⟨vs, vs[i], a, b, List.getElem?_eq_getElem hv, ?_⟩
  rw [getD_of hi]
  exact c i _ _ (List.getElem?_eq_getElem hv) (List.getElem?_eq_getElem hi)
/-- a place is set -/
theorem PthAt.put {H : Hp} {p a : Addr} {D : List (Option (List Nat))} {vs : List V} {i : Nat} {w : List Nat} (h : PthAt H p D) (hp : H p = some (.lst vs)) (hi : i < D.length) (ha : Ip H a w) : PthAt (upd H p (.lst (vs.set i (.ref a)))) p (D.set i (some w)) := by
  obtain ⟨vs', e, b, c⟩ := h
  rw [hp] at e
  cases e
  refine ⟨_, upd_same, by rw [List.length_set, List.length_set, b], fun j v o hv ho => ?_⟩
  have k : Kp p H (upd H p (.lst (vs.set i (.ref a)))) := kp_upd
  rw [List.getElem?_set] at hv ho
  by_cases e : i = j
  · rw [if_pos e, if_pos (by omega)] at hv ho
    cases hv
    cases ho
    exact ⟨a, rfl, k a _ (ne_of ha hp (by intro z; cases z)) ha⟩
  · rw [if_neg e] at hv ho
    exact (c j v o hv ho).kp hp k
section
variable {P : Program} {w : World} {K : PySem.W.Frag} {mg : Str → Option Value} {base : Heap}
/-! ### first_paths -/
theorem scFirstPaths : FnScope ["rows", "paths", "queue", "at", "state", "place", "following", "_"] ["rows"] (defScope sFirstPaths) := ⟨rfl, rfl, rfl, by decide +kernel, rfl, by decide +kernel, by decide +kernel⟩
def spFirstPaths : Sp := fun vs H Q _ => ∃ (R : Addr) (rows : List (List Nat)) (kk : Nat), vs = [.ref R] ∧ RwAt H R rows ∧ Rw rows kk ∧ rows.length ≤ 200 ∧
  ∀ H' p, Same H H' → H p = none → PthAt H' p (lv rows kk rows.length).1 → Q (.ref p) H'
theorem same_put2 {H H' : Hp} {p : Addr} {o : HO} (s : Same H H') (n : H p = none) : Same H (upd H' p o) := fun b z e => by
  rw [upd_ne (ne_of_none e n)]
  exact s _ _ e
theorem kids_take (k : Nat) (w : List Nat) {i : Nat} (h : i < k) : (kids k w).take (i + 1) = (kids k w).take i ++ [w ++ [i]] := by
  have e : (kids k w)[i]? = some (w ++ [i]) := by
    unfold kids
    rw [List.getElem?_map, List.getElem?_range h]
    rfl
  rw [List.take_add_one, e]
  rfl
theorem ok_firstPaths {f : Addr} {fd : FuncData} {k : Nat} (F : Fun K "first_paths" "first_paths" sFirstPaths f fd) (B : Bn mg) : FnOk P w K mg base CX0 (k + 1) f fd ["rows"] spFirstPaths := by
  refine F.ok scFirstPaths (fun vs H Q E h => ?_) (fun cdv A outer s H vs Q E hr h => ?_)
  · obtain ⟨R, rows, kk, rfl, _⟩ := h
    rfl
  · obtain ⟨R, rows, kk, rfl, hR, rw', hle, q⟩ := h
    refine ⟨_, pss_cons (ps_setLc (i := 1) (own := [("_", 7)]) (g := gName 7) (tt := tYes) rfl scFirstPaths.nd rfl rfl (sw_true rfl rfl rfl (by decide +kernel)) (pi_tup (pv 0)) (blkOk_by (own := [("_", 7)]) (N := ["rows", "paths", "queue", "at", "state", "place", "following", "_"]) (sc := defScope sFirstPaths) (by decide +kernel))
          (fun _ _ _ _ _ => pg_name (i := 7) scFirstPaths.nd rfl (Or.inl rfl)) (fun _ _ _ _ _ => pts_nil) (fun _ _ _ _ _ => pe_non))
      (pss_cons (ps_asg (pe_tup pa_nil) (pg_sub (pv 1) pe_int set_list))
      (pss_cons (ps_set (i := 2) scFirstPaths.nd rfl (.inl rfl) (pe_lst (pa_cons pe_int pa_nil)))
      (pss_cons (ps_set (i := 3) scFirstPaths.nd rfl (.inl rfl) pe_int)
      (pss_cons (ps_while PassesOwn.never (pt_cmpR op_lt (pv 3) (pe_callB call_len_seq (by rfl) B.len PySem.boot_len (pa_cons (pv 2) pa_nil)) (nomark _))
        (pss_cons (ps_set (i := 4) scFirstPaths.nd rfl (.inl rfl) (pe_ix ix_list (pv 2) (pv 3) (fun _ _ => rfl)))
        (pss_cons (ps_aug (i := 3) scFirstPaths.nd rfl (.inl rfl) pe_int ip_add)
        (pss_one (ps_for PassesOwn.never rfl (pi_enumT (by rfl) B.enum (pa_cons (pe_ix ix_tup (pv 0) (pv 4) (fun _ _ => rfl)) pa_nil)) (pg_tup rfl (pgs_cons (pg_name (i := 5) scFirstPaths.nd rfl (.inl rfl)) (pgs_cons (pg_name (i := 6) scFirstPaths.nd rfl (.inl rfl)) pgs_nil)))
          (pss_one (ps_if (pt_cmpR op_isN (pe_ix ix_list (pv 1) (pv 6) (fun _ _ => rfl)) pe_non (nomark _))
            (pss_cons (ps_asg (pe_op op_catS (pe_ix ix_list (pv 1) (pv 4) (fun _ _ => rfl)) (pe_tup (pa_cons (pv 5) pa_nil))) (pg_sub (pv 1) (pv 6) set_list))
            (pss_one (ps_expr (pe_bm PySem.F.plainAttrs_list PySem.F.slot_list_append PySem.F.type_list_append mt_append (pv 2) (pa_cons (pv 6) pa_nil))))) pss_nil)))))))
      (pss_one (ps_ret (pv 1))))))), ?_⟩
    have hpos := rw'.pos
    obtain ⟨rs, eR, lR, fR⟩ := id hR
    -- paths = [None for _ in rows]
    refine ⟨.ref R, rfl, R, rfl, ⟨_, sqt eR⟩, fun pl npl => ?_⟩
    refine lc_tup (xs := rs.map V.ref) (fun i H4 => Same H H4 ∧ H4 pl = some (.lst (List.replicate i V.non)))
      ⟨same_upd npl, by rw [upd_same]; rfl⟩ (fun i H4 hi hp4 => sqt (hp4.1 _ _ eR)) (fun i x H4 hx hp4 => ?_) (fun H4 hp4 => ?_)
    · obtain ⟨sm, hD⟩ := hp4
      have hi := get_lt hx
      rw [List.length_map] at hi
      refine ⟨rfl, _, hD, ?_, ?_, ?_⟩
      · rw [List.length_replicate]
        exact small1000 (by omega)
      · exact same_put2 sm npl
      · rw [upd_same, List.replicate_succ']
    obtain ⟨sm4, hD4⟩ := hp4
    rw [List.length_map, lR] at hD4
    -- paths[0] = ()
    refine ⟨Nat.zero_le _, fun t0 nt0 => ?_⟩
    have st := same_upd (o := .tup []) nt0
    refine ⟨.ref pl, rfl, pl, _, 0, 0, rfl, rfl, st _ _ hD4, by rw [List.length_replicate]; exact ixN_nat hpos, ?_⟩
    have hP0 : PthAt (upd H4 t0 (.tup [])) pl (empty rows).1 := by
      refine ⟨_, st _ _ hD4, by unfold empty; rw [List.length_replicate, List.length_replicate], fun i v o hv ho => ?_⟩
      have e1 : v = .non := List.eq_of_mem_replicate (List.mem_of_getElem? hv)
      have e2 : o = none := List.eq_of_mem_replicate (List.mem_of_getElem? ho)
      subst e1 e2
      rfl
    have hP1 := hP0.put (st _ _ hD4) (i := 0) (w := []) (by unfold empty; rw [List.length_replicate]; exact hpos) (show Ip (upd H4 t0 (.tup [])) t0 [] from upd_same)
    have s5 : Same H (upd (upd H4 t0 (.tup [])) pl (.lst ((List.replicate rows.length V.non).set 0 (.ref t0)))) := same_put2 (sm4.trans st) npl
    generalize hH5 : upd (upd H4 t0 (.tup [])) pl _ = H5 at *
    -- queue = [0]; at = 0
    refine ⟨(show 1 ≤ sizeLine by decide), fun ql nql => ?_⟩
    have s6 := same_upd (o := .lst [V.int 0]) nql
    have npq : pl ≠ ql := by
      obtain ⟨vs, a, _⟩ := hP1
      exact ne_of_none a nql
    have hlv1 : proc rows kk 0 = ((empty rows).1.set 0 (some []), [0]) := by
      show add rows (empty rows) [] = _
      unfold add
      have e : (empty rows).1.getD (run rows 0 []) none = none := by
        show (List.replicate rows.length none).getD 0 none = none
        rw [List.getD_eq_getElem?_getD, List.getElem?_replicate]
        split <;> rfl
      rw [if_pos e]
      rfl
    have nH : ∀ z, H5 z = none → H z = none := fun z hz => s5.free hz
    refine while_by (fun σ H3 => ∃ (j : Nat) (y4 y5 y6 y7 : Option V), σ = [some (.ref R), some (.ref pl), some (.ref ql), some (nV j), y4, y5, y6, y7] ∧ Same H H3 ∧ PthAt H3 pl (proc rows kk j).1 ∧ H3 ql = some (.lst ((proc rows kk j).2.map nV)) ∧ j ≤ (proc rows kk j).2.length)
      (fun σ _ => match σ[3]? with
        | some (some (V.int i)) => rows.length - i.toNat
        | _ => 0) ?_ ?_ ?_
    · refine ⟨0, _, _, _, _, rfl, s5.trans s6, ?_, ?_, Nat.zero_le _⟩
      · rw [hlv1]
        exact hP1.same s6
      · rw [hlv1]
        exact upd_same
    · rintro σ H3 ⟨j, y4, y5, y6, y7, rfl, s3, hP, hQ, hj⟩
      obtain ⟨V0, I0⟩ := proc_iv rw' j
      have hql := I0.le rw'
      refine ⟨nV j, rfl, .ref ql, rfl, ql, _, rfl, .inl (sql hQ), _, _, rfl, rfl, _, rfl, ?_⟩
      rw [List.length_map]
      refine ite2 (fun hc => ?_) (fun hc => ?_)
      · have hlt : j < (proc rows kk j).2.length := by
          have := of_decide_eq_true hc
          omega
        -- state = queue[at]
        generalize hst : (proc rows kk j).2[j] = st
        have hq : (proc rows kk j).2[j]? = some st := by rw [List.getElem?_eq_getElem hlt, hst]
        have hstm : st ∈ (proc rows kk j).2 := List.mem_of_getElem? hq
        have hslt := I0.lt rw' hstm
        obtain ⟨wd, hwd⟩ : ∃ wd, (proc rows kk j).1.getD st none = some wd := by
          cases e : (proc rows kk j).1.getD st none with
          | none => exact absurd e ((I0.mem st).mp hstm)
          | some v => exact ⟨v, rfl⟩
        have hrun := (I0.src st wd hwd).2
        have hvis : proc rows kk (j + 1) = (kids kk wd).foldl (add rows) (proc rows kk j) := by
          show visit rows kk (proc rows kk j) j = _
          unfold visit
          rw [hq]
          show (match (proc rows kk j).1.getD st none with
            | none => proc rows kk j
            | some w => (kids kk w).foldl (add rows) (proc rows kk j)) = _
          rw [hwd]
        refine ⟨.ref ql, rfl, nV j, rfl, ql, _, _, nV st, rfl, rfl, sql hQ, atI_nat (by rw [List.getElem?_map, hq]; rfl), ?_⟩
        refine ⟨nV j, rfl, _, _, rfl, rfl, ?_⟩
        obtain ⟨vR, r, h1, hl1, h2, h3⟩ := (hR.same s3).row (K := K) hslt
        have hwid := rw'.wid _ (List.getElem_mem hslt)
        refine ⟨.ref R, rfl, nV st, rfl, R, vR, _, .ref r, rfl, rfl, h1, atI_nat h2, r, (rows[st]).map nV, rfl, sqt h3, ?_⟩
        generalize hX0 : proc rows kk j = X0 at *
        have hrow3 : ∀ H7, Same H3 H7 → Ip H7 r rows[st] := fun H7 s7 => s7 _ _ h3
        refine for_enumT (K := K) (xs := (rows[st]).map nV) (fun i σ H7 => ∃ (y5 y6 : Option V), σ = [some (.ref R), some (.ref pl), some (.ref ql), some (.int ((j : Int) + 1)), some (nV st), y5, y6, y7] ∧ Same H H7 ∧ Ip H7 r rows[st] ∧
            PthAt H7 pl (((kids kk wd).take i).foldl (add rows) X0).1 ∧ H7 ql = some (.lst ((((kids kk wd).take i).foldl (add rows) X0).2.map nV))) ?_ ?_ ?_ ?_
        · exact ⟨_, _, rfl, s3, h3, hP, hQ⟩
        · rintro i σ H7 hi ⟨z5, z6, rfl, s7, hr7, hP7, hQ7⟩
          exact sqt hr7
        · rintro i x T σ H7 hx ⟨z5, z6, rfl, s7, hr7, hP7, hQ7⟩ nT
          obtain ⟨t, ht, rfl⟩ := get_map' hx
          have hi : i < kk := by
            have := get_lt ht
            omega
          have htt : t = run rows 0 (wd ++ [i]) := by
            rw [run_snoc, hrun]
            unfold nx
            rw [getD_of hslt]
            rw [List.getD_eq_getElem?_getD, ht]
            rfl
          have htl : t < rows.length := by
            rw [htt]
            exact run_lt rw' _ 0 hpos
          generalize hX7 : ((kids kk wd).take i).foldl (add rows) X0 = X7 at *
          have hX8 : ((kids kk wd).take (i + 1)).foldl (add rows) X0 = add rows X7 (wd ++ [i]) := by
            rw [kids_take kk wd hi, List.foldl_append, hX7]
            rfl
          have I7 : ∃ V7, Iv rows V7 X7 := by
            rw [← hX7]
            exact ⟨_, I0.adds rw' _⟩
          obtain ⟨V7, I7⟩ := I7
          have b7 : Bd X7 := by
            rw [← hX7]
            refine Bd.adds _ _ ?_ fun v hv => ?_
            · rw [← hX0]
              exact proc_bd kk j
            · obtain ⟨a, _, rfl⟩ := List.mem_map.mp (List.mem_of_mem_take hv)
              have := (proc_bd (rows := rows) kk j) st wd (by rw [hX0]; exact hwd)
              rw [hX0] at this
              rw [List.length_append, List.length_singleton]
              omega
          have hwd7 : X7.1.getD st none = some wd := by
            rw [← hX7]
            exact adds_keep _ _ hwd
          have wlen : wd.length ≤ 200 := by
            have h1 := b7 st wd hwd7
            have h2 := I7.le rw'
            omega
          have hT : Same H7 (upd H7 T (.tup [.int (i : Nat), nV t])) := same_upd nT
          have hT' := s7.trans hT
          have hr8 := hT _ _ hr7
          have hP8 := hP7.same hT
          have hQ8 := hT _ _ hQ7
          have hTT : (upd H7 T (.tup [.int (i : Nat), nV t])) T = some (.tup [.int (i : Nat), nV t]) := upd_same
          generalize hH8 : upd H7 T _ = H8 at *
          refine ⟨T, _, rfl, .inl (.inl hTT), rfl, _, _, rfl, _, _, rfl, rfl, ?_⟩
          obtain ⟨vs, v, e1, e2, e3, e4⟩ := hP8.get (i := t) (by rw [I7.len]; exact htl)
          refine ⟨.ref pl, rfl, nV t, rfl, pl, vs, _, v, rfl, rfl, sql e1, atI_nat e3, rfl, _, rfl, ?_⟩
          cases hcase : X7.1.getD t none with
          | some u =>
            rw [hcase] at e4
            obtain ⟨a, rfl, _⟩ := e4
            refine iteF ⟨_, _, rfl, hT', hr8, ?_, ?_⟩
            · rw [hX8]
              unfold add
              rw [← htt, if_neg (by rw [hcase]; exact Option.some_ne_none u)]
              exact hP8
            · rw [hX8]
              unfold add
              rw [← htt, if_neg (by rw [hcase]; exact Option.some_ne_none u)]
              exact hQ8
          | none =>
            rw [hcase] at e4
            have ev : v = .non := e4
            subst ev
            have ha : add rows X7 (wd ++ [i]) = (X7.1.set t (some (wd ++ [i])), X7.2 ++ [t]) := by
              unfold add
              rw [← htt, if_pos hcase]
            refine iteT ?_
            -- paths[following] = paths[state] + (place,)
            obtain ⟨vs2, v2, f1, f2, f3, f4⟩ := hP8.get (i := st) (by rw [I7.len]; exact hslt)
            rw [hwd7] at f4
            obtain ⟨aw, rfl, hw8⟩ := f4
            refine ⟨.ref pl, rfl, nV st, rfl, pl, vs2, _, _, rfl, rfl, sql f1, atI_nat f3, .int (i : Nat), rfl, (show 1 ≤ sizeLine by decide), fun t1 nt1 => ?_⟩
            have s9 := same_upd (o := .tup [V.int (i : Nat)]) nt1
            refine ⟨aw, t1, wd.map nV, [V.int (i : Nat)], rfl, rfl, s9 _ _ hw8, upd_same, ?_, fun p2 H9 s10 hp2 => ?_⟩
            · rw [List.length_map]
              have : (1000 : Nat) ≤ sizeLine := by decide
              show wd.length + 1 ≤ sizeLine
              omega
            have s11 := s9.trans s10
            have hP9 := hP8.same s11
            have hQ9 := s11 _ _ hQ8
            have hr9 := s11 _ _ hr8
            have hvs9 := s11 _ _ e1
            have hp2' : Ip H9 p2 (wd ++ [i]) := by
              show H9 p2 = some (.tup ((wd ++ [i]).map nV))
              rw [List.map_append]
              exact hp2
            refine ⟨.ref pl, rfl, nV t, rfl, pl, vs, (t : Int), t, rfl, rfl, hvs9, ixN_nat (by rw [e2, I7.len]; exact htl), ?_⟩
            have hPA := hP9.put hvs9 (i := t) (by rw [I7.len]; exact htl) hp2'
            have kA : Kp pl H9 (upd H9 pl (.lst (vs.set t (.ref p2)))) := kp_upd
            have hQA := kA _ _ npq.symm hQ9
            have hrA := kA _ _ (ne_of hr9 hvs9 (by intro z; cases z)) hr9
            have sA : Same H (upd H9 pl (.lst (vs.set t (.ref p2)))) := same_put2 ((hT').trans s11) npl
            generalize hHA : upd H9 pl _ = HA at *
            refine ⟨.ref ql, rfl, .inl ⟨rfl, _, sql hQA⟩, nV t, rfl, ql, _, _, rfl, rfl, hQA, ?_, ?_⟩
            · rw [List.length_map]
              have := I7.le rw'
              exact small1000 (by omega)
            · refine ⟨_, _, rfl, same_put2 sA (s5.free nql), ?_, ?_, ?_⟩
              · show _ = _
                rw [upd_ne (ne_of hrA hQA (by intro z; cases z))]
                exact hrA
              · rw [hX8, ha]
                exact hPA.kp hQA npq kp_upd
              · rw [upd_same, hX8, ha, List.map_append]
                rfl
        · rintro σ H7 ⟨z5, z6, rfl, s7, hr7, hP7, hQ7⟩
          have et : (kids kk wd).take ((rows[st]).map nV).length = kids kk wd := by
            apply List.take_of_length_le
            unfold kids
            rw [List.length_map, List.length_range, List.length_map]
            omega
          rw [et, ← hvis] at hP7 hQ7
          refine ⟨⟨j + 1, _, _, _, _, rfl, s7, hP7, hQ7, ?_⟩, ?_⟩
          · have h1 : (X0.2).length ≤ (proc rows kk (j + 1)).2.length := by
              rw [hvis, adds_q, List.length_append]
              omega
            omega
          · show rows.length - ((j : Int) + 1).toNat < rows.length - ((j : Int)).toNat
            omega
      · -- return paths
        have hend : (proc rows kk j).2.length ≤ j := by
          rcases Nat.lt_or_ge j (proc rows kk j).2.length with c | c
          · exact absurd (decide_eq_true (show (j : Int) < ((proc rows kk j).2.length : Int) by omega)) hc
          · exact c
        have e1 := proc_end (rows := rows) (k := kk) rfl hend (rows.length - j)
        have e2 : j + (rows.length - j) = rows.length := by omega
        rw [e2, proc_all rw'] at e1
        rw [← e1] at hP
        exact ⟨_, rfl, q _ pl s3 npl hP⟩
    · intro σ H3 Q1 Q2 hm h
      obtain ⟨v, e1, u, e2, p, ys, e3, h1, a, b, e4, e5, b2, e6, h2⟩ := h
      exact ⟨v, e1, u, e2, p, ys, e3, h1, a, b, e4, e5, b2, e6, hm _ _ h2⟩
end
end Sfl
namespace Sfl
open PySem PySem.Spec PyProof.Rows L2
/-! ### logs, perhaps none, in a tuple or a list -/
def LV (H : Hp) (v : V) : Option (List Str) → Prop
  | none => v = .non
  | some l => ∃ a, v = .ref a ∧ Tp H a l
theorem LV.same {H H' : Hp} {v : V} {o : Option (List Str)} (h : LV H v o) (k : Same H H') : LV H' v o := by
  cases o with
  | none => exact h
  | some w =>
    obtain ⟨a, e, ia⟩ := h
    exact ⟨a, e, k a _ ia⟩
/-- values and what they are -/
def LVs (H : Hp) (vs : List V) (D : List (Option (List Str))) : Prop := vs.length = D.length ∧ ∀ (i : Nat) (v : V) (o : Option (List Str)), vs[i]? = some v → D[i]? = some o → LV H v o
theorem LVs.same {H H' : Hp} {vs : List V} {D : List (Option (List Str))} (h : LVs H vs D) (k : Same H H') : LVs H' vs D := ⟨h.1, fun i v o a b => (h.2 i v o a b).same k⟩
theorem LVs.snoc {H : Hp} {vs : List V} {D : List (Option (List Str))} {v : V} {o : Option (List Str)} (h : LVs H vs D) (hv : LV H v o) : LVs H (vs ++ [v]) (D ++ [o]) := by
  refine ⟨by rw [List.length_append, List.length_append, h.1]; rfl, fun i v' o' a b => ?_⟩
  by_cases c : i < vs.length
  · rw [List.getElem?_append_left c] at a
    rw [List.getElem?_append_left (by rw [← h.1]; exact c)] at b
    exact h.2 i v' o' a b
  · rw [List.getElem?_append_right (by omega)] at a
    rw [List.getElem?_append_right (by rw [← h.1]; omega), ← h.1] at b
    cases e : i - vs.length with
    | zero =>
      rw [e] at a b
      cases a
      cases b
      exact hv
    | succ n =>
      rw [e] at a
      cases a
def Lgt (H : Hp) (p : Addr) (D : List (Option (List Str))) : Prop := ∃ vs : List V, H p = some (.tup vs) ∧ LVs H vs D
theorem Lgt.same {H H' : Hp} {p : Addr} {D : List (Option (List Str))} (h : Lgt H p D) (k : Same H H') : Lgt H' p D := by
  obtain ⟨vs, a, b⟩ := h
  exact ⟨vs, k _ _ a, b.same k⟩
/-- what first_logs tells -/
def flg (rows : List (List Nat)) (ls : List Str) : List (Option (List Str)) := (lv rows ls.length rows.length).1.map (Option.map (lgOf ls))
section
variable {P : Program} {w : World} {K : PySem.W.Frag} {mg : Str → Option Value} {base : Heap}
theorem scFirstLogs : FnScope ["machine", "letters", "rows", "_", "path"] ["machine"] (defScope sFirstLogs) := ⟨rfl, rfl, rfl, by decide +kernel, rfl, by decide +kernel, by decide +kernel⟩
def spFirstLogs : Sp := fun vs H Q _ => ∃ (m L R G : Addr) (ls : List Str) (rows : List (List Nat)) (good : List Bool), vs = [.ref m] ∧ Mc H m L R G ls rows good ∧ MOk ls rows good ∧ ∀ H' p, Same H H' → Lgt H' p (flg rows ls) → Q (.ref p) H'
theorem ok_firstLogs {f : Addr} {fd : FuncData} {k : Nat} (F : Fun K "first_logs" "first_logs" sFirstLogs f fd) (B : Bn mg) (C1 : Cal P w K mg base k "check_machine" ["value"] spCheckMachine)
    (C2 : Cal P w K mg base k "first_paths" ["rows"] spFirstPaths) (C3 : Cal P w K mg base k "log_of" ["letters", "path"] spLogOf) : FnOk P w K mg base CX0 (k + 1) f fd ["machine"] spFirstLogs := by
  obtain ⟨f1, fd1, G1, g1, kp1, b1⟩ := C1
  obtain ⟨f2, fd2, G2, g2, kp2, b2⟩ := C2
  obtain ⟨f3, fd3, G3, g3, kp3, b3⟩ := C3
  refine F.ok scFirstLogs (fun vs H Q E h => ?_) (fun cdv A outer s H vs Q E hr h => ?_)
  · obtain ⟨m, L, R, G, ls, rows, good, rfl, _⟩ := h
    rfl
  · obtain ⟨m, L, R, G, ls, rows, good, rfl, hm, ok, q⟩ := h
    refine ⟨_, pss_cons (ps_expr (pe_call G1 hr (by rfl) g1 kp1 b1 .nil pass0 (pa_cons (pv 0) pa_nil)))
      (pss_cons (ps_asg (pv 0) (pg_tup rfl (pgs_cons (pg_name (i := 1) scFirstLogs.nd rfl (.inr rfl)) (pgs_cons (pg_name (i := 2) scFirstLogs.nd rfl (.inl rfl)) (pgs_cons (pg_name (i := 3) scFirstLogs.nd rfl (.inl rfl)) pgs_nil)))))
      (pss_one (ps_ret (pe_callTy call_tuple_of (by rfl) B.tuple (by decide +kernel) (pa_cons
        (pe_lc (own := [("path", 4)]) (g := gName 4) (tt := tYes) rfl scFirstLogs.nd (pi_list (pe_call G2 hr (by rfl) g2 kp2 b2 .nil pass0 (pa_cons (pv 2) pa_nil))) (blkOk_by (own := [("path", 4)]) (N := ["machine", "letters", "rows", "_", "path"]) (sc := defScope sFirstLogs) (by decide +kernel))
          (fun _ _ _ _ _ => pg_name (i := 4) scFirstLogs.nd rfl (Or.inl rfl)) (fun _ _ _ _ _ => pts_nil)
          (fun _ _ _ _ _ => pe_ifExp (pt_cmpR op_isN (pv 4) pe_non (nomark _)) pe_non (pe_call G3 hr (by rfl) g3 kp3 b3 .nil pass0 (pa_cons (pv 1) (pa_cons (pv 4) pa_nil))))) pa_nil))))), ?_⟩
    refine ⟨.ref m, rfl, m, L, R, G, ls, rows, good, rfl, hm, ok, fun H1 s1 => ?_⟩
    have m1 := hm.same s1
    refine ⟨.ref m, rfl, m, _, rfl, sqt m1.m, rfl, _, _, rfl, _, _, rfl, _, _, rfl, rfl, ?_⟩
    refine ⟨.ref R, rfl, R, rows, ls.length, rfl, m1.r, ok.rw, ok.le, fun H2 pl s2 npl hP => ?_⟩
    have m2 := m1.same s2
    obtain ⟨vs, e1, e2, e3⟩ := id hP
    have I := lv_iv ok.rw rows.length
    have hlen : vs.length = rows.length := by rw [e2, I.len]
    refine ⟨pl, rfl, ⟨_, sql e1⟩, fun D nD => ?_⟩
    refine lc_list (K := K) (a := pl) (xs := vs) (fun i H4 => Same H2 H4 ∧ ∃ us, H4 D = some (.lst us) ∧ LVs H4 us ((flg rows ls).take i))
      ⟨same_upd nD, [], upd_same, rfl, fun i v o a b => (nomatch a)⟩ (fun i H4 hi hp4 => sql (hp4.1 _ _ e1)) (fun i x H4 hx hp4 => ?_) (fun H4 hp4 => ?_)
    · obtain ⟨sm, us, hD, hu⟩ := hp4
      have hi := get_lt hx
      have hi2 : i < (lv rows ls.length rows.length).1.length := by omega
      have hg : (flg rows ls)[i]? = some (Option.map (lgOf ls) ((lv rows ls.length rows.length).1[i])) := by
        unfold flg
        exact get_map hi2
      have hpv := (e3 i x _ hx (List.getElem?_eq_getElem hi2)).same sm
      have hul : us.length ≤ 200 := by
        have := ok.le
        rw [hu.1, List.length_take]
        omega
      refine ⟨rfl, x, rfl, rfl, _, rfl, ?_⟩
      generalize ho : (lv rows ls.length rows.length).1[i] = o at hpv hg
      cases o with
      | none =>
        have ex : x = .non := hpv
        subst ex
        refine iteT ⟨_, hD, small1000 (by omega), same_put2 sm nD, _, upd_same, ?_⟩
        rw [List.take_add_one, hg]
        refine LVs.snoc (o := none) ?_ rfl
        refine ⟨hu.1, fun i v o a b => ?_⟩
        have := hu.2 i v o a b
        cases o with
        | none => exact this
        | some l =>
          obtain ⟨a', h1, h2⟩ := this
          refine ⟨a', h1, ?_⟩
          show _ = _
          rw [upd_ne (ne_of h2 hD (by intro z; cases z))]
          exact h2
      | some wd =>
        obtain ⟨a, rfl, ha⟩ := hpv
        have hsrc := I.src i wd (by rw [getD_of hi2, ho])
        obtain ⟨hw1, hw2⟩ := upto_mem hsrc.1
        have hle := ok.le
        refine iteF ⟨.ref L, rfl, .ref a, rfl, L, a, ls, wd, rfl, m2.l.same sm, ha, by omega, hw2, fun H5 r s5 nr hr5 => ?_⟩
        have hD5 := s5 _ _ hD
        refine ⟨_, hD5, small1000 (by omega), same_put2 (sm.trans s5) nD, _, upd_same, ?_⟩
        rw [List.take_add_one, hg]
        refine LVs.snoc (o := some (lgOf ls wd)) ?_ ?_
        · refine ⟨hu.1, fun i v o a b => ?_⟩
          have := (hu.2 i v o a b).same s5
          cases o with
          | none => exact this
          | some l =>
            obtain ⟨a', h1, h2⟩ := this
            refine ⟨a', h1, ?_⟩
            show _ = _
            rw [upd_ne (ne_of h2 hD5 (by intro z; cases z))]
            exact h2
        · refine ⟨r, rfl, ?_⟩
          show _ = _
          rw [upd_ne (ne_of hr5 hD5 (by intro z; cases z))]
          exact hr5
    · obtain ⟨sm, us, hD, hu⟩ := hp4
      rw [List.take_of_length_le (by unfold flg; rw [List.length_map]; omega)] at hu
      refine ⟨D, _, rfl, .inl ⟨sql hD, fun p np => ?_⟩⟩
      exact q _ p ((s1.trans s2).trans (sm.trans (same_upd np))) ⟨us, upd_same, hu.same (same_upd np)⟩
end
end Sfl
namespace Sfl
open PySem PySem.Spec PyProof.Rows L2
/-! ### rows of addresses -/
def RsAt (H : Hp) (rs : List Addr) (rows : List (List Nat)) : Prop := rs.length = rows.length ∧ ∀ (i : Nat) (a : Addr) (r : List Nat), rs[i]? = some a → rows[i]? = some r → Ip H a r
theorem RsAt.kp {a : Addr} {H H' : Hp} {m : Nat} {rs : List Addr} {rows : List (List Nat)} (h : RsAt H rs rows) (d : Dc H a m) (k : Kp a H H') : RsAt H' rs rows :=
  ⟨h.1, fun i b r x y => k.tup d (h.2 i b r x y)⟩
theorem RsAt.put {H : Hp} {p : Addr} {xs ys : List V} {rs : List Addr} {rows : List (List Nat)} (h : RsAt H rs rows) (hp : H p = some (.lst xs)) : RsAt (upd H p (.lst ys)) rs rows :=
  ⟨h.1, fun i b r x y => by
    have := h.2 i b r x y
    show _ = _
    rw [upd_ne (ne_of this hp (by intro z; cases z))]
    exact this⟩
theorem RsAt.same {H H' : Hp} {rs : List Addr} {rows : List (List Nat)} (h : RsAt H rs rows) (k : Same H H') : RsAt H' rs rows := ⟨h.1, fun i b r x y => k _ _ (h.2 i b r x y)⟩
theorem RsAt.snoc {H : Hp} {rs : List Addr} {rows : List (List Nat)} {a : Addr} {r : List Nat} (h : RsAt H rs rows) (ha : Ip H a r) : RsAt H (rs ++ [a]) (rows ++ [r]) := by
  refine ⟨by rw [List.length_append, List.length_append, h.1]; rfl, fun i v o x y => ?_⟩
  by_cases c : i < rs.length
  · rw [List.getElem?_append_left c] at x
    rw [List.getElem?_append_left (by rw [← h.1]; exact c)] at y
    exact h.2 i v o x y
  · rw [List.getElem?_append_right (by omega)] at x
    rw [List.getElem?_append_right (by rw [← h.1]; omega), ← h.1] at y
    cases e : i - rs.length with
    | zero =>
      rw [e] at x y
      cases x
      cases y
      exact ha
    | succ n =>
      rw [e] at x
      cases x
theorem Dc.put {H : Hp} {a p : Addr} {m : Nat} {o : HO} (d : Dc H a m) (h : p ≠ a) : Dc (upd H p o) a m := by
  obtain ⟨u1, u2, u3, e, v0, v1⟩ := d
  exact ⟨u1, u2, u3, by rw [upd_ne h.symm]; exact e, v0, v1⟩
theorem kp_put {a p : Addr} {H H' : Hp} {o : HO} (k : Kp a H H') (n : H p = none) : Kp a H (upd H' p o) := fun b z hb e => by
  rw [upd_ne (ne_of_none e n)]
  exact k b z hb e
theorem low_if {c : Prop} [Decidable c] {i : Nat} {σ : L2.St} {H : Hp} {Qc : V → Hp → Prop} (hσ : σ[4]? = some (some (.int (0 + (i : Nat))))) (h : ∀ lw : Nat, lw ≤ i → Qc (nV lw) H) : if c then tVar 4 σ H Qc else tC (.int 0) σ H Qc := by
  by_cases hc : c
  · rw [if_pos hc]
    refine ⟨_, hσ, ?_⟩
    have := h i (Nat.le_refl _)
    unfold nV at this
    rw [Int.zero_add]
    exact this
  · rw [if_neg hc]
    exact h 0 (Nat.zero_le _)
section
variable {P : Program} {w : World} {K : PySem.W.Frag} {mg : Str → Option Value} {base : Heap}
/-! ### _law_rows -/
theorem scRows : FnScope ["dice", "letters", "size", "found", "state", "low", "letter"] ["dice", "letters", "size"] (defScope sRows) := ⟨rfl, rfl, rfl, by decide +kernel, rfl, by decide +kernel, by decide +kernel⟩
def spRows : Sp := fun vs H Q _ => ∃ (a L : Addr) (ls : List Str) (n m : Nat), vs = [.ref a, .ref L, .int (n : Nat)] ∧ Dc H a m ∧ m + 5 * n ≤ mmax ∧ Lk H L ls ∧ ls.length ≤ 4 ∧ 0 < n ∧ n ≤ 5 ∧
  ∀ H' p rows, Rw rows ls.length → rows.length = n → Kp a H H' → Dc H' a (m + 5 * n) → H p = none → RwAt H' p rows → Q (.ref p) H'
theorem ok_rows {f : Addr} {fd : FuncData} {k : Nat} (F : Fun K "_law_rows" "_law_rows" sRows f fd) (B : Bn mg) (C1 : Cal P w K mg base k "_law_roll" ["dice", "size"] spRoll) :
    FnOk P w K mg base CX0 (k + 1) f fd ["dice", "letters", "size"] spRows := by
  obtain ⟨f1, fd1, G1, g1, kp1, b1⟩ := C1
  refine F.ok scRows (fun vs H Q E h => ?_) (fun cdv A outer s H vs Q E hr h => ?_)
  · obtain ⟨a, L, ls, n, m, rfl, _⟩ := h
    rfl
  · obtain ⟨a, L, ls, n, m, rfl, hd, hm, hL, hl4, hn0, hn5, q⟩ := h
    have hmm : mmax = 1000000 := rfl
    refine ⟨_, pss_cons (ps_set (i := 3) scRows.nd rfl (.inl rfl) (pe_lst pa_nil))
      (pss_cons (ps_for PassesOwn.never rfl (pi_range1 rfl B.range (pa_cons (pv 2) pa_nil)) (pg_name (i := 4) scRows.nd rfl (Or.inl rfl))
        (pss_cons (ps_set (i := 5) scRows.nd rfl (.inr rfl) (pe_ifExp (pt_cmpR op_gt (pe_call G1 hr (by rfl) g1 kp1 b1 .nil pass0 (pa_cons (pv 0) (pa_cons pe_int pa_nil))) pe_int (nomark _)) (pv 4) pe_int))
        (pss_one (ps_expr (pe_bm PySem.F.plainAttrs_list PySem.F.slot_list_append PySem.F.type_list_append mt_append (pv 3) (pa_cons
          (pe_callTy call_tuple_of (by rfl) B.tuple (by decide +kernel) (pa_cons
            (pe_lc (own := [("letter", 6)]) (g := gName 6) (tt := tYes) rfl scRows.nd (pi_tup (pv 1)) (blkOk_by (own := [("letter", 6)]) (N := ["dice", "letters", "size", "found", "state", "low", "letter"]) (sc := defScope sRows) (by decide +kernel))
              (fun _ _ _ _ _ => pg_name (i := 6) scRows.nd rfl (Or.inl rfl)) (fun _ _ _ _ _ => pts_nil)
              (fun _ _ _ _ _ => pe_op op_add (pv 5) (pe_call G1 hr (by rfl) g1 kp1 b1 .nil pass0 (pa_cons (pv 0) (pa_cons (pe_op op_sub (pv 2) (pv 5)) pa_nil))))) pa_nil)) pa_nil))))))
      (pss_one (ps_ret (pe_callTy call_tuple_of (by rfl) B.tuple (by decide +kernel) (pa_cons (pv 3) pa_nil))))), ?_⟩
    refine ⟨Nat.zero_le _, fun fo nfo => ?_⟩
    have s1 := same_upd (o := .lst []) nfo
    have nfa : fo ≠ a := hd.new nfo
    refine ⟨.int (n : Nat), rfl, (n : Int), rfl, by omega, by omega, ?_⟩
    rw [show ((n : Int)).toNat = n from rfl]
    refine for_range (lo := 0) (n := n) (fun i σ H3 => ∃ (y4 y5 y6 : Option V) (rs : List Addr) (rows : List (List Nat)), σ = [some (.ref a), some (.ref L), some (.int (n : Nat)), some (.ref fo), y4, y5, y6] ∧ Kp a H H3 ∧ Dc H3 a (m + 5 * i) ∧
        H3 fo = some (.lst (rs.map V.ref)) ∧ RsAt H3 rs rows ∧ rows.length = i ∧ (∀ r ∈ rows, r.length = ls.length ∧ ∀ s ∈ r, s < n)) ?_ ?_ ?_
    · exact ⟨none, none, none, [], [], rfl, Kp.of s1, hd.same s1, upd_same, ⟨rfl, fun i b r x y => (nomatch x)⟩, rfl, fun r hr => (nomatch hr)⟩
    · rintro i σ H3 hi ⟨y4, y5, y6, rs, rows, rfl, hk, hd3, hf3, hrs, hrl, hro⟩
      have hL3 := hk.kt hd hL
      -- low
      refine ⟨.ref a, rfl, a, 3, m + 5 * i, rfl, hd3, by omega, by decide, by decide, fun H4 r k4 d4 r0 r1 => ?_⟩
      refine ⟨_, _, rfl, rfl, _, rfl, ?_⟩
      refine low_if rfl fun lw hlw => ?_
      have nfa4 : H4 fo = some (.lst (rs.map V.ref)) := k4 _ _ nfa hf3
      have hrs4 := hrs.kp hd3 k4
      have hL4 := k4.kt hd3 hL3
      have hk4 := hk.trans k4
      refine ⟨.ref fo, rfl, .inl ⟨rfl, _, sql nfa4⟩, ?_⟩
      refine ⟨.ref L, rfl, L, rfl, ⟨_, hL4.sq⟩, fun D nD => ?_⟩
      have nDa : D ≠ a := d4.new nD
      have nDf : fo ≠ D := ne_of_none nfa4 nD
      refine lc_tup (xs := ls.map V.str) (fun j H5 => ∃ r : List Nat, H5 D = some (.lst (r.map nV)) ∧ r.length = j ∧ (∀ s ∈ r, s < n) ∧ Kp a H4 H5 ∧ Dc H5 a (m + 5 * i + 1 + j)) ?_ ?_ ?_ ?_
      · exact ⟨[], upd_same, rfl, (fun s hs => nomatch hs), Kp.of (same_upd nD), d4.same (same_upd nD)⟩
      · rintro j H5 hj ⟨r5, hD5, hr5, hb5, k5, d5⟩
        exact (k5.kt d4 hL4).sq
      · rintro j x H5 hx ⟨r5, hD5, hr5, hb5, k5, d5⟩
        have hj : j < ls.length := by
          have := get_lt hx
          rw [List.length_map] at this
          exact this
        refine ⟨rfl, nV lw, rfl, .ref a, rfl, .int (n : Nat), rfl, nV lw, rfl, (n : Int), (lw : Int), rfl, rfl, a, (n : Int) - lw, m + 5 * i + 1 + j, rfl, d5, by omega, by omega, by omega, fun H6 z k6 d6 z0 z1 => ?_⟩
        obtain ⟨y, rfl⟩ := Int.eq_ofNat_of_zero_le z0
        refine ⟨(lw : Int), (y : Int), rfl, rfl, _, k6 _ _ nDa hD5, ?_, r5 ++ [lw + y], ?_, ?_, ?_, ?_, ?_⟩
        · rw [List.length_map]
          exact small1000 (by omega)
        · rw [upd_same, List.map_append]
          rfl
        · rw [List.length_append, hr5]
          rfl
        · intro s hs
          rcases List.mem_append.mp hs with hs | hs
          · exact hb5 s hs
          · rw [List.mem_singleton.mp hs]
            omega
        · exact kp_put (k5.trans k6) nD
        · exact d6.put nDa
      · rintro H5 ⟨r5, hD5, hr5, hb5, k5, d5⟩
        rw [List.length_map] at hr5 d5
        refine ⟨D, _, rfl, .inl ⟨sql hD5, fun p np => ?_⟩⟩
        have sp := same_upd (o := .tup (r5.map nV)) np
        have hf5 : H5 fo = some (.lst (rs.map V.ref)) := k5 _ _ nfa nfa4
        refine ⟨fo, _, _, rfl, rfl, sp _ _ hf5, ?_, ?_⟩
        · rw [List.length_map]
          have := hrs.1
          exact small1000 (by omega)
        · refine ⟨_, _, _, rs ++ [p], rows ++ [r5], rfl, ?_, ?_, ?_, ?_, ?_, ?_⟩
          · exact kp_put ((hk4.trans k5).trans (Kp.of sp)) nfo
          · exact ((d5.same sp).put nfa).mono (by omega)
          · rw [upd_same, List.map_append]
            rfl
          · refine RsAt.put (RsAt.snoc ((hrs4.kp d4 k5).same sp) upd_same) (sp _ _ hf5)
          · rw [List.length_append, hrl]
            rfl
          · intro r hr'
            rcases List.mem_append.mp hr' with hr' | hr'
            · exact hro r hr'
            · rw [List.mem_singleton.mp hr']
              exact ⟨hr5, hb5⟩
    · rintro σ H3 ⟨y4, y5, y6, rs, rows, rfl, hk, hd3, hf3, hrs, hrl, hro⟩
      refine ⟨.ref fo, rfl, fo, _, rfl, .inl ⟨sql hf3, fun p np => ?_⟩⟩
      have npa : p ≠ a := hd3.new np
      refine q _ p rows ⟨by omega, fun r hr => (hro r hr).1, fun r hr s hs => by rw [hrl]; exact (hro r hr).2 s hs⟩ hrl (hk.trans (Kp.of (same_upd np))) (hd3.same (same_upd np)) (hk.new hd np npa) ?_
      exact ⟨rs, upd_same, hrs.1, fun i b r x y => same_upd np _ _ (hrs.2 i b r x y)⟩
end
end Sfl
namespace Sfl
open PySem PySem.Spec PyProof.Rows L2
theorem RwAt.kp {a : Addr} {H H' : Hp} {m : Nat} {R : Addr} {rows : List (List Nat)} (h : RwAt H R rows) (d : Dc H a m) (k : Kp a H H') : RwAt H' R rows := by
  obtain ⟨rs, e, l, f⟩ := h
  exact ⟨rs, k.tup d e, l, fun i b r x y => k.tup d (f i b r x y)⟩
theorem Mc.kp {a : Addr} {H H' : Hp} {m L R G : Addr} {x : Nat} {ls : List Str} {rows : List (List Nat)} {good : List Bool} (h : Mc H m L R G ls rows good) (d : Dc H a x) (k : Kp a H H') : Mc H' m L R G ls rows good :=
  ⟨k.tup d h.m, k.kt d h.l, h.r.kp d k, k.tup d h.g⟩
section
variable {P : Program} {w : World} {K : PySem.W.Frag} {mg : Str → Option Value} {base : Heap}
/-! ### _law_machine -/
theorem scMachine : FnScope ["dice", "letters", "most", "some", "many", "rows", "good", "turn", "state"] ["dice", "letters", "most"] (defScope sMachine) := ⟨rfl, rfl, rfl, by decide +kernel, rfl, by decide +kernel, by decide +kernel⟩
def spMachine : Sp := fun vs H Q _ => ∃ (a L : Addr) (ls : List Str) (m : Nat), vs = [.ref a, .ref L, .int 5] ∧ Dc H a m ∧ m + 50 ≤ mmax ∧ Lk H L ls ∧ LsM ls ∧
  ∀ H' M R G rows good, MOk ls rows good → rows.length ≤ 5 → Mc H' M L R G ls rows good → Kp a H H' → Dc H' a (m + 50) → Q (.ref M) H'
theorem ok_machine {f : Addr} {fd : FuncData} {k : Nat} (F : Fun K "_law_machine" "_law_machine" sMachine f fd) (B : Bn mg) (C1 : Cal P w K mg base k "_law_roll" ["dice", "size"] spRoll)
    (C2 : Cal P w K mg base k "_law_rows" ["dice", "letters", "size"] spRows) : FnOk P w K mg base CX0 (k + 1) f fd ["dice", "letters", "most"] spMachine := by
  obtain ⟨f1, fd1, G1, g1, kp1, b1⟩ := C1
  obtain ⟨f2, fd2, G2, g2, kp2, b2⟩ := C2
  refine F.ok scMachine (fun vs H Q E h => ?_) (fun cdv A outer s H vs Q E hr h => ?_)
  · obtain ⟨a, L, ls, m, rfl, _⟩ := h
    rfl
  · obtain ⟨a, L, ls, m, rfl, hd, hm, hL, hls, q⟩ := h
    have hmm : mmax = 1000000 := rfl
    refine ⟨_, pss_cons (ps_setLc (i := 3) (own := [("turn", 7)]) (g := gName 7) (tt := tYes) rfl scMachine.nd rfl rfl (sw_true rfl rfl rfl (by decide +kernel)) (pi_range1 rfl B.range (pa_cons pe_int pa_nil))
          (blkOk_by (own := [("turn", 7)]) (N := ["dice", "letters", "most", "some", "many", "rows", "good", "turn", "state"]) (sc := defScope sMachine) (by decide +kernel))
          (fun _ _ _ _ _ => pg_name (i := 7) scMachine.nd rfl (Or.inl rfl)) (fun _ _ _ _ _ => pts_nil) (fun _ _ _ _ _ => pe_call G1 hr (by rfl) g1 kp1 b1 .nil pass0 (pa_cons (pv 0) (pa_cons (pv 2) pa_nil))))
      (pss_cons (ps_set (i := 4) scMachine.nd rfl (.inl rfl) (pe_op op_add pe_int (pe_callB (call_max2 rfl) (by rfl) B.max (by decide +kernel) (pa_cons (pe_ix ix_list (pv 3) pe_int (fun _ _ => rfl)) (pa_cons (pe_ix ix_list (pv 3) pe_int (fun _ _ => rfl)) pa_nil)))))
      (pss_cons (ps_set (i := 5) scMachine.nd rfl (.inl rfl) (pe_call G2 hr (by rfl) g2 kp2 b2 .nil pass0 (pa_cons (pv 0) (pa_cons (pv 1) (pa_cons (pv 4) pa_nil)))))
      (pss_cons (ps_setLc (i := 6) (own := [("state", 8)]) (g := gName 8) (tt := tYes) rfl scMachine.nd rfl rfl (sw_true rfl rfl rfl (by decide +kernel)) (pi_range1 rfl B.range (pa_cons (pv 4) pa_nil))
          (blkOk_by (own := [("state", 8)]) (N := ["dice", "letters", "most", "some", "many", "rows", "good", "turn", "state"]) (sc := defScope sMachine) (by decide +kernel))
          (fun _ _ _ _ _ => pg_name (i := 8) scMachine.nd rfl (Or.inl rfl)) (fun _ _ _ _ _ => pts_nil) (fun _ _ _ _ _ => pe_cmpR op_eq (pe_call G1 hr (by rfl) g1 kp1 b1 .nil pass0 (pa_cons (pv 0) (pa_cons pe_int pa_nil))) pe_int (nomark _)))
      (pss_one (ps_ret (pe_tup (pa_cons (pv 1) (pa_cons (pv 5) (pa_cons (pe_callTy call_tuple_of (by rfl) B.tuple (by decide +kernel) (pa_cons (pv 6) pa_nil)) pa_nil))))))))), ?_⟩
    -- some
    refine ⟨2, rfl, by decide, by decide, fun D nD => ?_⟩
    have nDa : D ≠ a := hd.new nD
    refine lc_range (lo := 0) (n := 2) (fun i H4 => ∃ r : List Nat, H4 D = some (.lst (r.map nV)) ∧ r.length = i ∧ (∀ s ∈ r, s < 5) ∧ Kp a H H4 ∧ Dc H4 a (m + i)) ?_ ?_ ?_
    · exact ⟨[], upd_same, rfl, (fun s hs => nomatch hs), Kp.of (same_upd nD), hd.same (same_upd nD)⟩
    · rintro i H4 hi ⟨r, hD, hl, hb, k4, d4⟩
      refine ⟨rfl, .ref a, rfl, .int 5, rfl, a, 5, m + i, rfl, d4, by omega, by decide, by decide, fun H5 z k5 d5 z0 z1 => ?_⟩
      obtain ⟨y, rfl⟩ := Int.eq_ofNat_of_zero_le z0
      refine ⟨_, k5 _ _ nDa hD, ?_, r ++ [y], ?_, ?_, ?_, ?_, ?_⟩
      · rw [List.length_map]
        exact small1000 (by omega)
      · rw [upd_same, List.map_append]
        rfl
      · rw [List.length_append, hl]
        rfl
      · intro s hs
        rcases List.mem_append.mp hs with hs | hs
        · exact hb s hs
        · rw [List.mem_singleton.mp hs]
          omega
      · exact kp_put (k4.trans k5) nD
      · exact d5.put nDa
    · rintro H4 ⟨r, hD, hl, hb, k4, d4⟩
      match r, hl, hb, hD with
      | [x, y], _, hb, hD =>
      have hx := hb x (by simp)
      have hy := hb y (by simp)
      -- many
      refine ⟨.ref D, rfl, D, _, 0, nV x, rfl, rfl, sql hD, rfl, .ref D, rfl, D, _, 1, nV y, rfl, rfl, sql hD, rfl, (x : Int), (y : Int), rfl, 1, _, rfl, rfl, ?_⟩
      obtain ⟨n, hn, n0, n5⟩ : ∃ n : Nat, ((1 : Int) + (if ((y : Nat) : Int) > ((x : Nat) : Int) then ((y : Nat) : Int) else ((x : Nat) : Int))) = ((n : Nat) : Int) ∧ 0 < n ∧ n ≤ 5 := by
        by_cases c : ((y : Nat) : Int) > ((x : Nat) : Int)
        · rw [if_pos c]
          exact ⟨1 + y, by omega, by omega, by omega⟩
        · rw [if_neg c]
          exact ⟨1 + x, by omega, by omega, by omega⟩
      dsimp only
      rw [hn]
      have hL4 := k4.kt hd hL
      refine ⟨.ref a, rfl, .ref L, rfl, .int (n : Nat), rfl, a, L, ls, n, m + 2, rfl, d4, by omega, hL4, hls.four, n0, n5, fun H5 R rows hRw hlen k5 d5 nR hR => ?_⟩
      -- good
      refine ⟨.int (n : Nat), rfl, (n : Int), rfl, by omega, by omega, fun D2 nD2 => ?_⟩
      rw [show ((n : Int)).toNat = n from rfl]
      have nD2a : D2 ≠ a := d5.new nD2
      refine lc_range (lo := 0) (n := n) (fun i H6 => ∃ r : List Bool, H6 D2 = some (.lst (r.map V.bl)) ∧ r.length = i ∧ Kp a H5 H6 ∧ Dc H6 a (m + 2 + 5 * n + i)) ?_ ?_ ?_
      · exact ⟨[], upd_same, rfl, Kp.of (same_upd nD2), d5.same (same_upd nD2)⟩
      · rintro i H6 hi ⟨r, hD6, hl6, k6, d6⟩
        refine ⟨rfl, .ref a, rfl, a, 2, m + 2 + 5 * n + i, rfl, d6, by omega, by decide, by decide, fun H7 z k7 d7 z0 z1 => ?_⟩
        refine ⟨rfl, _, k7 _ _ nD2a hD6, ?_, r ++ [decide (V.int z = V.int 0)], ?_, ?_, ?_, ?_⟩
        · rw [List.length_map]
          exact small1000 (by omega)
        · rw [upd_same, List.map_append]
          rfl
        · rw [List.length_append, hl6]
          rfl
        · exact kp_put (k6.trans k7) nD2
        · exact d7.put nD2a
      · rintro H6 ⟨r, hD6, hl6, k6, d6⟩
        have hL6 := k6.kt d5 (k5.kt d4 hL4)
        have hR6 := hR.kp d5 k6
        refine ⟨.ref L, rfl, .ref R, rfl, .ref D2, rfl, D2, _, rfl, .inl ⟨sql hD6, fun G nG => ⟨(show 3 ≤ sizeLine by decide), fun M nM => ?_⟩⟩⟩
        have sG := same_upd (o := .tup (r.map V.bl)) nG
        have sM := same_upd (o := .tup [V.ref L, V.ref R, V.ref G]) nM
        have s2 := sG.trans sM
        refine q _ M R G rows r ⟨hls, hRw, by omega, by omega⟩ (by omega) ⟨upd_same, hL6.same s2, hR6.same s2, sM _ _ upd_same⟩ ((k4.trans (k5.trans k6)).trans (Kp.of s2)) ((d6.same s2).mono (by omega))
/-! ### _law_behind -/
theorem scBehind : FnScope ["machine", "state", "log", "event"] ["machine", "state", "log"] (defScope sBehind) := ⟨rfl, rfl, rfl, by decide +kernel, rfl, by decide +kernel, by decide +kernel⟩
def spBehind : Sp := fun vs H Q _ => ∃ (m L R G p : Addr) (ls : List Str) (rows : List (List Nat)) (good : List Bool) (l : List Str) (b : Nat), vs = [.ref m, nV b, .ref p] ∧ Mc H m L R G ls rows good ∧ MOk ls rows good ∧ Tp H p l ∧ (∀ z ∈ l, z ∈ ls) ∧ b < rows.length ∧ Q (nV (run rows b (ixs ls l))) H
theorem ok_behind {f : Addr} {fd : FuncData} {k : Nat} (F : Fun K "_law_behind" "_law_behind" sBehind f fd) (B : Bn mg) : FnOk P w K mg base CX0 (k + 1) f fd ["machine", "state", "log"] spBehind := by
  refine F.ok scBehind (fun vs H Q E h => ?_) (fun cdv A outer s H vs Q E hr h => ?_)
  · obtain ⟨m, L, R, G, p, ls, rows, good, l, b, rfl, _⟩ := h
    rfl
  · obtain ⟨m, L, R, G, p, ls, rows, good, l, b, rfl, hm, ok, hp, hsub, hb, q⟩ := h
    refine ⟨_, pss_cons (ps_for PassesOwn.never rfl (pi_tup (pv 2)) (pg_name (i := 3) scBehind.nd rfl (.inl rfl))
        (pss_one (ps_set (i := 1) scBehind.nd rfl (.inl rfl) (pe_ix ix_tup (pe_ix ix_tup (pe_ix ix_tup (pv 0) pe_int (fun _ _ => rfl)) (pv 1) (fun _ _ => rfl))
          (pe_bmF PySem.F.slot_tuple_index PySem.F.type_tuple_index mt_tupIndex (pe_ix ix_tup (pv 0) pe_int (fun _ _ => rfl)) (pa_cons (pv 3) pa_nil)) (fun _ _ => rfl)))))
      (pss_one (ps_ret (pv 1))), ?_⟩
    refine ⟨.ref p, rfl, p, rfl, ⟨_, sqt hp⟩, ?_⟩
    refine for_tup (xs := l.map V.str) (fun i σ H3 => ∃ y, σ = [some (.ref m), some (nV (run rows b (ixs ls (l.take i)))), some (.ref p), y] ∧ H3 = H) ⟨none, rfl, rfl⟩ ?_ ?_ ?_
    · rintro i σ H3 hi ⟨y, rfl, rfl⟩
      exact sqt hp
    · rintro i x σ H3 hx ⟨y, rfl, rfl⟩
      obtain ⟨z, hz, rfl⟩ := get_map' hx
      have hlt := run_lt ok.rw (ixs ls (l.take i)) b hb
      obtain ⟨vs, r, h1, hl, h2, h3⟩ := hm.r.row (K := K) hlt
      have hmz := hsub z (List.mem_of_getElem? hz)
      obtain ⟨e1, e2, e3⟩ := ixOf_spec ls z hmz
      have hak : ixOf ls z < (rows[run rows b (ixs ls (l.take i))]).length := by
        rw [ok.rw.wid _ (List.getElem_mem hlt)]
        exact e2
      refine ⟨.ref m, rfl, m, _, _, .ref R, rfl, rfl, sqt hm.m, atI_1, nV (run rows b (ixs ls (l.take i))), rfl, R, vs, _, .ref r, rfl, rfl, h1, atI_nat h2, ?_⟩
      refine ⟨.ref m, rfl, m, _, _, .ref L, rfl, rfl, sqt hm.m, atI_0, ⟨L, _, rfl, hm.l⟩, .str z, rfl, L, ls.map V.str, .str z, ixOf ls z, .str z, rfl, rfl, hm.l.sq, rfl, flatV_strs ls, ?_, ?_, ?_, ?_⟩
      · rw [List.getElem?_map, e1]
        rfl
      · rw [eqV_str]
        exact decide_eq_true rfl
      · intro m' z' hm' hz'
        obtain ⟨y', hy, rfl⟩ := get_map' hz'
        rw [eqV_str]
        exact decide_eq_false (e3 m' y' hm' hy)
      · refine ⟨r, _, _, nV (nx rows (run rows b (ixs ls (l.take i))) (ixOf ls z)), rfl, rfl, sqt h3, ?_, ?_⟩
        · refine atI_nat ?_
          rw [get_map hak]
          unfold nx
          rw [getD_of hlt, getD_of hak]
        · refine ⟨some (.str z), ?_, rfl⟩
          have e : ixs ls (l.take (i + 1)) = ixs ls (l.take i) ++ [ixOf ls z] := by
            rw [List.take_add_one, hz]
            unfold ixs
            rw [List.map_append]
            rfl
          rw [e, run_snoc]
          rfl
    · rintro σ H3 ⟨y, rfl, rfl⟩
      rw [List.length_map, List.take_length]
      exact ⟨_, rfl, q⟩
end
end Sfl
namespace Sfl
open PySem PySem.Spec PyProof.Rows L2
theorem kids_len (k : Nat) (w : List Nat) : (kids k w).length = k := by
  unfold kids
  rw [List.length_map, List.length_range]
theorem lev_len (k : Nat) : ∀ n, (lev k n).length = k ^ n
  | 0 => rfl
  | n + 1 => by
    have key : ∀ l : List (List Nat), (l.flatMap (kids k)).length = l.length * k := by
      intro l
      induction l with
      | nil => simp
      | cons a r ih =>
        rw [List.flatMap_cons, List.length_append, ih, kids_len, List.length_cons, Nat.succ_mul]
        omega
    show ((lev k n).flatMap (kids k)).length = _
    rw [key, lev_len k n, Nat.pow_succ]
theorem lev_81 {k n : Nat} (hk : k ≤ 3) (hn : n ≤ 4) : (lev k n).length ≤ 81 := by
  rw [lev_len]
  have h1 : k ^ n ≤ 3 ^ n := Nat.pow_le_pow_left hk n
  have h2 : 3 ^ n ≤ 3 ^ 4 := Nat.pow_le_pow_right (by decide) hn
  have h3 : 3 ^ 4 = 81 := rfl
  omega
theorem upto_81 {k : Nat} (hk : k ≤ 3) : ∀ n, n ≤ 5 → (upto k n).length ≤ 81 * n
  | 0, _ => Nat.zero_le _
  | n + 1, h => by
    show (upto k n ++ lev k n).length ≤ _
    have h1 := upto_81 hk n (by omega)
    have h2 := lev_81 hk (show n ≤ 4 by omega)
    rw [List.length_append]
    omega
theorem flat_81 {k : Nat} (hk : k ≤ 3) (l : List (List Nat)) : (l.flatMap (kids k)).length ≤ 3 * l.length := by
  induction l with
  | nil => simp
  | cons a r ih =>
    rw [List.flatMap_cons, List.length_append, kids_len, List.length_cons]
    omega
/-! ### addresses of logs -/
def WsAt (ls : List Str) (H : Hp) (rs : List Addr) (ws : List (List Nat)) : Prop := rs.length = ws.length ∧ ∀ (i : Nat) (a : Addr) (r : List Nat), rs[i]? = some a → ws[i]? = some r → Tp H a (lgOf ls r)
theorem WsAt.nil {ls : List Str} {H : Hp} : WsAt ls H [] [] := ⟨rfl, fun _ _ _ x _ => (nomatch x)⟩
theorem WsAt.put {ls : List Str} {H : Hp} {p : Addr} {xs ys : List V} {rs : List Addr} {ws : List (List Nat)} (h : WsAt ls H rs ws) (hp : H p = some (.lst xs)) : WsAt ls (upd H p (.lst ys)) rs ws :=
  ⟨h.1, fun i b r x y => by
    have := h.2 i b r x y
    show _ = _
    rw [upd_ne (ne_of this hp (by intro z; cases z))]
    exact this⟩
theorem WsAt.same {ls : List Str} {H H' : Hp} {rs : List Addr} {ws : List (List Nat)} (h : WsAt ls H rs ws) (k : Same H H') : WsAt ls H' rs ws := ⟨h.1, fun i b r x y => k _ _ (h.2 i b r x y)⟩
theorem WsAt.app {ls : List Str} {H : Hp} {rs rs2 : List Addr} {ws ws2 : List (List Nat)} (h : WsAt ls H rs ws) (h2 : WsAt ls H rs2 ws2) : WsAt ls H (rs ++ rs2) (ws ++ ws2) := by
  refine ⟨by rw [List.length_append, List.length_append, h.1, h2.1], fun i v o x y => ?_⟩
  by_cases c : i < rs.length
  · rw [List.getElem?_append_left c] at x
    rw [List.getElem?_append_left (by rw [← h.1]; exact c)] at y
    exact h.2 i v o x y
  · rw [List.getElem?_append_right (by omega)] at x
    rw [List.getElem?_append_right (by rw [← h.1]; omega), ← h.1] at y
    exact h2.2 _ v o x y
theorem WsAt.one {ls : List Str} {H : Hp} {a : Addr} {r : List Nat} (h : Tp H a (lgOf ls r)) : WsAt ls H [a] [r] := by
  refine ⟨rfl, fun i b o x y => ?_⟩
  cases i with
  | zero =>
    cases x
    cases y
    exact h
  | succ n => cases x
theorem lgOf_snoc (ls : List Str) (w : List Nat) (t : Nat) : lgOf ls (w ++ [t]) = lgOf ls w ++ [ls.getD t ""] := by
  unfold lgOf
  rw [List.map_append]
  rfl
section
variable {P : Program} {w : World} {K : PySem.W.Frag} {mg : Str → Option Value} {base : Heap}
/-! ### _law_words -/
theorem scWords : FnScope ["letters", "top", "found", "last", "turn", "longer", "log", "letter"] ["letters", "top"] (defScope sWords) := ⟨rfl, rfl, rfl, by decide +kernel, rfl, by decide +kernel, by decide +kernel⟩
def spWords : Sp := fun vs H Q _ => ∃ (L : Addr) (ls : List Str) (top : Nat), vs = [.ref L, .int (top : Nat)] ∧ Lk H L ls ∧ ls.length ≤ 3 ∧ top ≤ 4 ∧
  ∀ H' p rs, Same H H' → H p = none → H' p = some (.lst (rs.map V.ref)) → WsAt ls H' rs (upto ls.length (top + 1)) → Q (.ref p) H'
theorem ok_words {f : Addr} {fd : FuncData} {k : Nat} (F : Fun K "_law_words" "_law_words" sWords f fd) (B : Bn mg) : FnOk P w K mg base CX0 (k + 1) f fd ["letters", "top"] spWords := by
  refine F.ok scWords (fun vs H Q E h => ?_) (fun cdv A outer s H vs Q E hr h => ?_)
  · obtain ⟨L, ls, top, rfl, _⟩ := h
    rfl
  · obtain ⟨L, ls, top, rfl, hL, hl3, htop, q⟩ := h
    refine ⟨_, pss_cons (ps_par (i := 2) (j := 3) (by rfl) scWords.nd rfl rfl (by decide) rfl rfl (pa_cons (pe_lst (pa_cons (pe_tup pa_nil) pa_nil)) (pa_cons (pe_lst (pa_cons (pe_tup pa_nil) pa_nil)) pa_nil)) (by rfl))
      (pss_cons (ps_for PassesOwn.never rfl (pi_range1 rfl B.range (pa_cons (pv 1) pa_nil)) (pg_name (i := 4) scWords.nd rfl (Or.inl rfl))
        (pss_cons (ps_set (i := 5) scWords.nd rfl (.inl rfl) (pe_lst pa_nil))
        (pss_cons (ps_for PassesOwn.never rfl (pi_list (pv 3)) (pg_name (i := 6) scWords.nd rfl (Or.inr rfl))
          (pss_one (ps_expr (pe_bm PySem.F.plainAttrs_list PySem.F.slot_list_extend PySem.F.type_list_extend mt_extend (pv 5) (pa_cons
            (pe_lc (own := [("letter", 7)]) (g := gName 7) (tt := tYes) rfl scWords.nd (pi_tup (pv 0)) (blkOk_by (own := [("letter", 7)]) (N := ["letters", "top", "found", "last", "turn", "longer", "log", "letter"]) (sc := defScope sWords) (by decide +kernel))
              (fun _ _ _ _ _ => pg_name (i := 7) scWords.nd rfl (Or.inl rfl)) (fun _ _ _ _ _ => pts_nil)
              (fun _ _ _ _ _ => pe_op op_catS (pv 6) (pe_tup (pa_cons (pv 7) pa_nil)))) pa_nil)))))
        (pss_one (ps_par (i := 2) (j := 3) (by rfl) scWords.nd rfl rfl (by decide) rfl rfl (pa_cons (pe_op op_cat (pv 2) (pv 5)) (pa_cons (pv 5) pa_nil)) (by rfl))))))
      (pss_one (ps_ret (pv 2)))), ?_⟩
    have h1000 : (1000 : Nat) ≤ sizeLine := by decide
    refine ⟨Nat.zero_le _, fun t1 n1 => ⟨(show 1 ≤ sizeLine by decide), fun fo0 nfo0 => ⟨Nat.zero_le _, fun t2 n2 => ⟨(show 1 ≤ sizeLine by decide), fun la0 nla0 => ⟨_, _, rfl, ?_⟩⟩⟩⟩⟩
    have s1 := same_upd (o := .tup []) n1
    have s2 := same_upd (o := .lst [V.ref t1]) nfo0
    have s3 := same_upd (o := .tup []) n2
    have s4 := same_upd (o := .lst [V.ref t2]) nla0
    refine ⟨.int (top : Nat), rfl, (top : Int), rfl, by omega, by omega, ?_⟩
    rw [show ((top : Int)).toNat = top from rfl]
    have sA := s1.trans (s2.trans (s3.trans s4))
    have e1 := s4 _ _ (s3 _ _ (s2 _ _ (upd_same (H := H) (a := t1) (o := .tup []))))
    have e2 := s4 _ _ (s3 _ _ (upd_same (a := fo0) (o := .lst [V.ref t1])))
    have e3 := s4 _ _ (upd_same (a := t2) (o := .tup []))
    have e4 := upd_same (H := upd (upd (upd H t1 (.tup [])) fo0 (.lst [V.ref t1])) t2 (.tup [])) (a := la0) (o := .lst [V.ref t2])
    generalize hHA : upd (upd (upd (upd H t1 (.tup [])) fo0 (.lst [V.ref t1])) t2 (.tup [])) la0 (.lst [V.ref t2]) = HA at *
    refine for_range (lo := 0) (n := top) (fun i σ H3 => ∃ (fo la : Addr) (rf rl : List Addr) (y4 y5 y6 y7 : Option V), σ = [some (.ref L), some (.int (top : Nat)), some (.ref fo), some (.ref la), y4, y5, y6, y7] ∧ Same H H3 ∧ H fo = none ∧
        H3 fo = some (.lst (rf.map V.ref)) ∧ WsAt ls H3 rf (upto ls.length (i + 1)) ∧ H3 la = some (.lst (rl.map V.ref)) ∧ WsAt ls H3 rl (lev ls.length i)) ?_ ?_ ?_
    · exact ⟨fo0, la0, [t1], [t2], _, _, _, _, rfl, sA, s1.free nfo0, e2, WsAt.one e1, e4, WsAt.one e3⟩
    · rintro i σ H3 hi ⟨fo, la, rf, rl, y4, y5, y6, y7, rfl, s3, nfH, hf, wf, hla, wl⟩
      have hL3 := hL.same s3
      refine ⟨Nat.zero_le _, fun lo nlo => ?_⟩
      have sl := same_upd (o := .lst []) nlo
      refine ⟨.ref la, rfl, la, rfl, ⟨_, sql (sl _ _ hla)⟩, ?_⟩
      refine for_list (K := K) (a := la) (xs := rl.map V.ref) (fun j σ H4 => ∃ (rn : List Addr) (y6 y7 : Option V), σ = [some (.ref L), some (.int (top : Nat)), some (.ref fo), some (.ref la), some (.int (0 + (i : Nat))), some (.ref lo), y6, y7] ∧ Same H3 H4 ∧
          H4 lo = some (.lst (rn.map V.ref)) ∧ WsAt ls H4 rn (((lev ls.length i).take j).flatMap (kids ls.length))) ?_ ?_ ?_ ?_
      · exact ⟨[], _, _, rfl, sl, upd_same, WsAt.nil⟩
      · rintro j σ H4 hj ⟨rn, z6, z7, rfl, s4, hlo, wn⟩
        exact sql (s4 _ _ hla)
      · rintro j x σ H4 hx ⟨rn, z6, z7, rfl, s4, hlo, wn⟩
        obtain ⟨aj, haj, rfl⟩ := get_map' hx
        have hj : j < (lev ls.length i).length := by
          rw [← wl.1]
          exact get_lt haj
        have hwj := List.getElem?_eq_getElem hj
        generalize hwd : (lev ls.length i)[j] = wd at hwj
        have hwm : wd ∈ lev ls.length i := List.mem_of_getElem? hwj
        obtain ⟨wl1, wl2⟩ := lev_mem hwm
        have htj := s4 _ _ (wl.2 j aj wd haj hwj)
        have hL4 := hL3.same s4
        refine ⟨.ref lo, rfl, .inl ⟨rfl, _, sql hlo⟩, ?_⟩
        refine ⟨.ref L, rfl, L, rfl, ⟨_, hL4.sq⟩, fun D nD => ?_⟩
        have nDlo : lo ≠ D := ne_of_none hlo nD
        refine lc_tup (xs := ls.map V.str) (fun t H5 => ∃ rk : List Addr, Same H4 H5 ∧ H5 D = some (.lst (rk.map V.ref)) ∧ WsAt ls H5 rk ((kids ls.length wd).take t)) ?_ ?_ ?_ ?_
        · exact ⟨[], same_upd nD, upd_same, WsAt.nil⟩
        · rintro t H5 ht ⟨rk, s5, hD5, wk⟩
          exact (hL4.same s5).sq
        · rintro t x H5 hx ⟨rk, s5, hD5, wk⟩
          obtain ⟨z, hz, rfl⟩ := get_map' hx
          have htl := get_lt hz
          refine ⟨rfl, .ref aj, rfl, .str z, rfl, (show 1 ≤ sizeLine by decide), fun t5 nt5 => ?_⟩
          have s6 := same_upd (o := .tup [V.str z]) nt5
          refine ⟨aj, t5, (lgOf ls wd).map V.str, [V.str z], rfl, rfl, s6 _ _ (s5 _ _ htj), upd_same, ?_, fun p7 H7 s7 hp7 => ?_⟩
          · have : (lgOf ls wd).length = i := by
              unfold lgOf
              rw [List.length_map, wl1]
            rw [List.length_map]
            show (lgOf ls wd).length + 1 ≤ sizeLine
            omega
          have s67 := s6.trans s7
          have hD7 := s67 _ _ hD5
          refine ⟨_, hD7, ?_, rk ++ [p7], same_put2 (s5.trans s67) nD, ?_, ?_⟩
          · have := wk.1
            rw [List.length_take, kids_len] at this
            rw [List.length_map]
            exact small1000 (by omega)
          · rw [upd_same, List.map_append]
            rfl
          · rw [kids_take _ _ htl]
            refine WsAt.put (xs := rk.map V.ref) ?_ hD7
            refine (wk.same s67).app (WsAt.one ?_)
            rw [lgOf_snoc]
            have ez : ls.getD t "" = z := by
              rw [List.getD_eq_getElem?_getD, hz]
              rfl
            rw [ez]
            show H7 p7 = some (.tup ((lgOf ls wd ++ [z]).map V.str))
            rw [List.map_append]
            exact hp7
        · rintro H5 ⟨rk, s5, hD5, wk⟩
          rw [List.length_map, List.take_of_length_le (by rw [kids_len]; exact Nat.le_refl _)] at wk
          have hlo5 := s5 _ _ hlo
          refine ⟨lo, D, _, _, rfl, rfl, hlo5, hD5, ?_, rn ++ rk, _, _, rfl, ?_, ?_, ?_⟩
          · have h1 := wn.1
            have h2 := flat_81 hl3 ((lev ls.length i).take j)
            have h3 := lev_81 hl3 (show i ≤ 4 by omega)
            have h4 := wk.1
            rw [kids_len] at h4
            rw [List.length_take] at h2
            rw [List.length_map, List.length_map]
            omega
          · exact same_put2 (s4.trans s5) nlo
          · rw [upd_same, List.map_append]
          · have et : (lev ls.length i).take (j + 1) = (lev ls.length i).take j ++ [wd] := by
              rw [List.take_add_one, hwj]
              rfl
            rw [et, List.flatMap_append]
            refine WsAt.put (xs := rn.map V.ref) ((wn.same s5).app ?_) hlo5
            rw [List.flatMap_cons, List.flatMap_nil, List.append_nil]
            exact wk
      · rintro σ H4 ⟨rn, z6, z7, rfl, s4, hlo, wn⟩
        rw [List.length_map, wl.1, List.take_length] at wn
        have wn' : WsAt ls H4 rn (lev ls.length (i + 1)) := wn
        refine ⟨.ref fo, rfl, .ref lo, rfl, fo, lo, _, _, rfl, rfl, s4 _ _ hf, hlo, ?_, fun p np => ?_⟩
        · have h1 := wf.1
          have h2 := wn'.1
          have h3 := lev_81 hl3 (show i + 1 ≤ 4 by omega)
          have h4 := upto_81 hl3 (i + 1) (by omega)
          rw [List.length_map, List.length_map]
          omega
        · have sp := same_upd (o := .lst (rf.map V.ref ++ rn.map V.ref)) np
          refine ⟨.ref lo, rfl, _, _, rfl, p, lo, rf ++ rn, rn, _, _, _, _, rfl, (s3.trans s4).trans sp, (s3.trans s4).free np, ?_, ?_, sp _ _ hlo, wn'.same sp⟩
          · rw [upd_same, List.map_append]
          · exact ((wf.same s4).app wn').same sp
    · rintro σ H3 ⟨fo, la, rf, rl, y4, y5, y6, y7, rfl, s3, nfH, hf, wf, hla, wl⟩
      exact ⟨_, rfl, q _ fo rf s3 nfH hf wf⟩
end
end Sfl
namespace Sfl
open PySem PySem.Spec PyProof.Rows L2
/-! ### letters and places -/
theorem ixOf_get : ∀ {ls : List Str} {a : Nat}, ls.Nodup → (h : a < ls.length) → ixOf ls (ls[a]) = a
  | x :: r, 0, _, _ => by
    unfold ixOf
    exact if_pos rfl
  | x :: r, a + 1, hn, h => by
    obtain ⟨h1, h2⟩ := List.nodup_cons.mp hn
    have ha : a < r.length := by
      rw [List.length_cons] at h
      omega
    unfold ixOf
    have e : x ≠ (x :: r)[a + 1] := by
      intro e
      apply h1
      rw [e]
      exact List.getElem_mem ha
    rw [if_neg e]
    show ixOf r r[a] + 1 = a + 1
    rw [ixOf_get h2 ha]
theorem ixs_lgOf {ls : List Str} (hn : ls.Nodup) : ∀ {w : List Nat}, (∀ a ∈ w, a < ls.length) → ixs ls (lgOf ls w) = w
  | [], _ => rfl
  | a :: w, h => by
    have ha := h a List.mem_cons_self
    have ih := ixs_lgOf hn (w := w) fun b hb => h b (List.mem_cons_of_mem _ hb)
    show ixOf ls (ls.getD a "") :: ixs ls (lgOf ls w) = a :: w
    rw [ih, getD_of ha, ixOf_get hn ha]
theorem lgOf_mem {ls : List Str} {w : List Nat} (h : ∀ a ∈ w, a < ls.length) : ∀ z ∈ lgOf ls w, z ∈ ls := by
  intro z hz
  obtain ⟨a, ha, rfl⟩ := List.mem_map.mp hz
  rw [getD_of (h a ha)]
  exact List.getElem_mem _
theorem ixs_app (ls : List Str) (a b : List Str) : ixs ls (a ++ b) = ixs ls a ++ ixs ls b := by
  unfold ixs
  rw [List.map_append]
theorem lg_of {ls l : List Str} (hls : LsM ls) (hsub : ∀ z ∈ l, z ∈ ls) (hl : l.length ≤ 200) : Lg l := ⟨hl, fun z hz => hls.nm z (hsub z hz)⟩
/-! ### all but lists are kept -/
def Tk (H H' : Hp) : Prop := ∀ b o, (∀ xs, o ≠ HO.lst xs) → H b = some o → H' b = some o
theorem Tk.refl (H : Hp) : Tk H H := fun _ _ _ e => e
theorem Tk.trans {H H1 H2 : Hp} (x : Tk H H1) (y : Tk H1 H2) : Tk H H2 := fun b o n e => y b o n (x b o n e)
theorem Tk.of {H H' : Hp} (s : Same H H') : Tk H H' := fun b o _ e => s b o e
theorem tk_upd {H : Hp} {p : Addr} {xs ys : List V} (h : H p = some (.lst xs)) : Tk H (upd H p (.lst ys)) := fun b o n e => by
  have : b ≠ p := ne_of e h (n xs)
  rw [upd_ne this]
  exact e
theorem Tk.tp {H H' : Hp} {p : Addr} {xs : List V} (t : Tk H H') (h : H p = some (.tup xs)) : H' p = some (.tup xs) := t p _ (fun _ z => nomatch z) h
theorem Tk.kt {H H' : Hp} {p : Addr} {xs : List V} (t : Tk H H') (h : Kt H p xs) : Kt H' p xs := by
  obtain ⟨ob, e, r⟩ := h
  exact ⟨ob, t p _ (fun _ z => nomatch z) e, r⟩
theorem Tk.mc {H H' : Hp} {m L R G : Addr} {ls : List Str} {rows : List (List Nat)} {good : List Bool} (t : Tk H H') (h : Mc H m L R G ls rows good) : Mc H' m L R G ls rows good := by
  refine ⟨t.tp h.m, t.kt h.l, ?_, t.tp h.g⟩
  obtain ⟨rs, e, l, f⟩ := h.r
  exact ⟨rs, t.tp e, l, fun i b r x y => t.tp (f i b r x y)⟩
theorem Tk.ws {ls : List Str} {H H' : Hp} {rs : List Addr} {ws : List (List Nat)} (t : Tk H H') (h : WsAt ls H rs ws) : WsAt ls H' rs ws := ⟨h.1, fun i b r x y => t.tp (h.2 i b r x y)⟩
theorem Tk.lvs {H H' : Hp} {vs : List V} {D : List (Option (List Str))} (t : Tk H H') (h : LVs H vs D) : LVs H' vs D := by
  refine ⟨h.1, fun i v o a b => ?_⟩
  have := h.2 i v o a b
  cases o with
  | none => exact this
  | some l =>
    obtain ⟨a', h1, h2⟩ := this
    exact ⟨a', h1, t.tp h2⟩
theorem LVs.put {H : Hp} {vs : List V} {D : List (Option (List Str))} {i : Nat} {a : Addr} {l : List Str} (h : LVs H vs D) (hi : i < D.length) (ha : Tp H a l) : LVs H (vs.set i (.ref a)) (D.set i (some l)) := by
  refine ⟨by rw [List.length_set, List.length_set, h.1], fun j v o x y => ?_⟩
  rw [List.getElem?_set] at x y
  by_cases e : i = j
  · rw [if_pos e, if_pos (by have := h.1; omega)] at x y
    cases x
    cases y
    exact ⟨a, rfl, ha⟩
  · rw [if_neg e] at x y
    exact h.2 j v o x y
/-! ### data of logs, perhaps none -/
def dO : Option (List Str) → PyData
  | none => .none
  | some l => .tuple (l.map PyData.str)
theorem dp_lvs {K : PySem.W.Frag} {H : Hp} : ∀ {vs : List V} {D : List (Option (List Str))}, LVs H vs D → DpAll K H vs (D.map dO)
  | [], [], _ => .nil
  | [], _ :: _, h => by cases h.1
  | _ :: _, [], h => by cases h.1
  | v :: vs, o :: D, h => by
    have h0 := h.2 0 v o rfl rfl
    have hr : LVs H vs D := ⟨by have := h.1; simpa using this, fun i v' o' a b => h.2 (i + 1) v' o' a b⟩
    refine .cons ?_ (dp_lvs hr)
    cases o with
    | none =>
      have : v = .non := h0
      subst this
      exact .non
    | some l =>
      obtain ⟨a, rfl, ha⟩ := h0
      exact .tup (sqt ha) (all_strs l)
theorem dO_ok : ∀ {D : List (Option (List Str))}, (∀ o ∈ D, ∀ l, o = some l → ∀ z ∈ l, PyData.strOk z = true) → PyData.canLayAll0 (D.map dO) = true ∧ PyData.depthAll (D.map dO) ≤ 1
  | [], _ => ⟨rfl, Nat.zero_le _⟩
  | o :: D, h => by
    obtain ⟨ih1, ih2⟩ := dO_ok (D := D) fun o' ho => h o' (List.mem_cons_of_mem _ ho)
    cases o with
    | none =>
      refine ⟨?_, ?_⟩
      · show (PyData.canLay0 .none && PyData.canLayAll0 (D.map dO)) = true
        rw [ih1]
        rfl
      · show max (PyData.depth .none) (PyData.depthAll (D.map dO)) ≤ 1
        exact Nat.max_le.mpr ⟨by decide, ih2⟩
    | some l =>
      obtain ⟨f1, f2⟩ := flat_strs l (h _ List.mem_cons_self l rfl)
      refine ⟨?_, ?_⟩
      · show (PyData.canLayAll0 (l.map PyData.str) && PyData.canLayAll0 (D.map dO)) = true
        rw [f1, ih1]
        rfl
      · show max (PyData.depthAll (l.map PyData.str) + 1) (PyData.depthAll (D.map dO)) ≤ 1
        rw [f2]
        exact Nat.max_le.mpr ⟨Nat.le_refl _, ih2⟩
theorem dO_shaped {D : List (Option (List Str))} (h : ∀ o ∈ D, ∀ l, o = some l → ∀ z ∈ l, PyData.strOk z = true) : SeqAt.shaped (.tuple (D.map dO)) = true := by
  obtain ⟨a, b⟩ := dO_ok h
  refine shaped_of (n := PyData.depthAll (D.map dO) + 1) a rfl (by omega)
theorem eqv_strs1 : ∀ a : List Str, PyData.eqvAll (a.map PyData.str) (a.map PyData.str) = true
  | [] => rfl
  | x :: xs => by
    show (x == x && PyData.eqvAll (xs.map PyData.str) (xs.map PyData.str)) = true
    rw [eqv_strs1 xs, beq_self_eq_true]
    rfl
theorem dO_refl : ∀ D : List (Option (List Str)), PyData.eqvAll (D.map dO) (D.map dO) = true
  | [] => rfl
  | none :: D => by
    show (PyData.eqv .none .none && PyData.eqvAll (D.map dO) (D.map dO)) = true
    rw [dO_refl D]
    rfl
  | some l :: D => by
    show (PyData.eqvAll (l.map PyData.str) (l.map PyData.str) && PyData.eqvAll (D.map dO) (D.map dO)) = true
    rw [dO_refl D, eqv_strs1]
    rfl
theorem flg_ok {ls : List Str} {rows : List (List Nat)} (hls : LsM ls) (R : Rw rows ls.length) : ∀ o ∈ flg rows ls, ∀ l, o = some l → ∀ z ∈ l, PyData.strOk z = true := by
  intro o ho l e z hz
  subst e
  obtain ⟨o', ho', e⟩ := List.mem_map.mp ho
  cases o' with
  | none => cases e
  | some wd =>
    have e2 : lgOf ls wd = l := Option.some.inj e
    subst e2
    obtain ⟨i, hi, hg⟩ := List.mem_iff_getElem.mp ho'
    have hs := (lv_iv R rows.length).src i wd (by rw [getD_of hi, hg])
    exact nm_ok (hls.nm z (lgOf_mem (upto_mem hs.1).2 z hz))
end Sfl
namespace Sfl
open PySem PySem.Spec PyProof.Rows L2
theorem eqStr {A B : Prop} {x y : V} (h : x = y) (b : B) : if (!decide (x = y)) = true then A else B := ifNe h b
section
variable {P : Program} {w : World} {K : PySem.W.Frag} {mg : Str → Option Value} {base : Heap}
theorem scRight : FnScope ["dice", "letters", "machine", "many", "turn", "log", "state", "spot", "middle", "there", "due"] ["dice"] (defScope sRight) := ⟨rfl, rfl, rfl, by decide +kernel, rfl, by decide +kernel, by decide +kernel⟩
def spRight : Sp := fun vs H Q _ => ∃ (a : Addr) (m : Nat), vs = [.ref a] ∧ Dc H a m ∧ m + 200 ≤ mmax ∧ ∀ H', Kp a H H' → Dc H' a (m + 200) → Q (.bl true) H'
theorem ok_right {f : Addr} {fd : FuncData} {k : Nat} (F : Fun K "_law_right" "_law_right" sRight f fd) (B : Bn mg) (C1 : Cal P w K mg base k "_law_letters" ["dice", "top"] spLetters) (C2 : Cal P w K mg base k "_law_machine" ["dice", "letters", "most"] spMachine)
    (C3 : Cal P w K mg base k "_law_log" ["dice", "letters", "top"] spLog) (C4 : Cal P w K mg base k "_law_roll" ["dice", "size"] spRoll) (C5 : CalSB P w K mg base k) (C6 : Cal P w K mg base k "_law_behind" ["machine", "state", "log"] spBehind)
    (C7 : Cal P w K mg base k "contains" ["machine", "log"] spContains) (C8 : Cal P w K mg base k "_law_words" ["letters", "top"] spWords) (C9 : Cal P w K mg base k "first_logs" ["machine"] spFirstLogs) :
    FnOk P w K mg base CX0 (k + 1) f fd ["dice"] spRight := by
  obtain ⟨f1, fd1, G1, g1, kp1, b1⟩ := C1
  obtain ⟨f2, fd2, G2, g2, kp2, b2⟩ := C2
  obtain ⟨f3, fd3, G3, g3, kp3, b3⟩ := C3
  obtain ⟨f4, fd4, G4, g4, kp4, b4⟩ := C4
  obtain ⟨f5, fd5, ds5, G5, g5, kp5, vd5, b5, kb5⟩ := C5
  obtain ⟨f6, fd6, G6, g6, kp6, b6⟩ := C6
  obtain ⟨f7, fd7, G7, g7, kp7, b7⟩ := C7
  obtain ⟨f8, fd8, G8, g8, kp8, b8⟩ := C8
  obtain ⟨f9, fd9, G9, g9, kp9, b9⟩ := C9
  refine F.ok scRight (fun vs H Q E h => ?_) (fun cdv A outer s H vs Q E hr h => ?_)
  · obtain ⟨a, m, rfl, _⟩ := h
    rfl
  · obtain ⟨a, m, rfl, hd, hm, q⟩ := h
    have hmm : mmax = 1000000 := rfl
    refine ⟨_, pss_cons (ps_set (i := 1) scRight.nd rfl (.inl rfl) (pe_call G1 hr (by rfl) g1 kp1 b1 .nil pass0 (pa_cons (pv 0) (pa_cons pe_int pa_nil))))
      (pss_cons (ps_set (i := 2) scRight.nd rfl (.inl rfl) (pe_call G2 hr (by rfl) g2 kp2 b2 .nil pass0 (pa_cons (pv 0) (pa_cons (pv 1) (pa_cons pe_int pa_nil)))))
      (pss_cons (ps_set (i := 3) scRight.nd rfl (.inl rfl) (pe_callB call_len_seq (by rfl) B.len PySem.boot_len (pa_cons (pe_ix ix_tup (pv 2) pe_int (fun _ _ => rfl)) pa_nil)))
      (pss_cons (ps_for PassesOwn.never rfl (pi_range1 rfl B.range (pa_cons pe_int pa_nil)) (pg_name (i := 4) scRight.nd rfl (Or.inl rfl))
        (pss_cons (ps_par (i := 5) (j := 6) (by rfl) scRight.nd rfl rfl (by decide) rfl rfl (pa_cons (pe_call G3 hr (by rfl) g3 kp3 b3 .nil pass0 (pa_cons (pv 0) (pa_cons (pv 1) (pa_cons pe_int pa_nil)))) (pa_cons (pe_call G4 hr (by rfl) g4 kp4 b4 .nil pass0 (pa_cons (pv 0) (pa_cons (pv 3) pa_nil))) pa_nil)) (by rfl))
        (pss_cons (ps_set (i := 7) scRight.nd rfl (.inl rfl) (pe_call G4 hr (by rfl) g4 kp4 b4 .nil pass0 (pa_cons (pv 0) (pa_cons (pe_op op_add (pe_callB call_len_seq (by rfl) B.len PySem.boot_len (pa_cons (pv 5) pa_nil)) pe_int) pa_nil))))
        (pss_cons (ps_set (i := 8) scRight.nd rfl (.inl rfl) (pe_callN G5 hr (by rfl) g5 kp5 kb5 pass0 (pa_cons (pv 2) (pa_cons (pe_slice sl_tupS (pv 5) po_none (po_some (pv 7))) pa_nil)) (pk_cons (pv 6) pk_nil)))
        (pss_cons (ps_if (pt_cmpR op_ne (pe_callN G5 hr (by rfl) g5 kp5 kb5 pass0 (pa_cons (pv 2) (pa_cons (pv 5) pa_nil)) (pk_cons (pv 6) pk_nil)) (pe_call G6 hr (by rfl) g6 kp6 b6 .nil pass0 (pa_cons (pv 2) (pa_cons (pv 6) (pa_cons (pv 5) pa_nil)))) (nomark _)) (pss_one (ps_ret pe_bl)) pss_nil)
        (pss_cons (ps_if (pt_cmpR op_ne (pe_callN G5 hr (by rfl) g5 kp5 kb5 pass0 (pa_cons (pv 2) (pa_cons (pe_slice sl_tupS (pv 5) (po_some (pv 7)) po_none) pa_nil)) (pk_cons (pv 8) pk_nil)) (pe_call G6 hr (by rfl) g6 kp6 b6 .nil pass0 (pa_cons (pv 2) (pa_cons (pv 6) (pa_cons (pv 5) pa_nil)))) (nomark _)) (pss_one (ps_ret pe_bl)) pss_nil)
        (pss_cons (ps_set (i := 9) scRight.nd rfl (.inl rfl) (pe_call G5 hr (by rfl) g5 kp5 b5 vd5 pass0 (pa_cons (pv 2) (pa_cons (pv 5) pa_nil))))
        (pss_one (ps_if (PW.pt (pw_or (pt_cmpR op_ne (pv 9) (pe_call G6 hr (by rfl) g6 kp6 b6 .nil pass0 (pa_cons (pv 2) (pa_cons pe_int (pa_cons (pv 5) pa_nil)))) (nomark _))
          (pw_or1 (pt_cmpR op_ne (pe_callB call_repr_bl (by rfl) B.repr (by decide +kernel) (pa_cons (pe_call G7 hr (by rfl) g7 kp7 b7 .nil pass0 (pa_cons (pv 2) (pa_cons (pv 5) pa_nil))) pa_nil))
            (pe_callB call_repr_bl (by rfl) B.repr (by decide +kernel) (pa_cons (pe_ix ix_tup (pe_ix ix_tup (pv 2) pe_int (fun _ _ => rfl)) (pv 9) (fun _ _ => rfl)) pa_nil)) (nomark _))))) (pss_one (ps_ret pe_bl)) pss_nil)))))))))
      (pss_cons (ps_set (i := 10) scRight.nd rfl (.inl rfl) (pe_op op_rep (pe_lst (pa_cons pe_non pa_nil)) (pv 3)))
      (pss_cons (ps_for PassesOwn.never rfl (pi_list (pe_call G8 hr (by rfl) g8 kp8 b8 .nil pass0 (pa_cons (pv 1) (pa_cons (pe_op op_sub (pv 3) pe_int) pa_nil)))) (pg_name (i := 5) scRight.nd rfl (Or.inl rfl))
        (pss_cons (ps_set (i := 9) scRight.nd rfl (.inl rfl) (pe_call G6 hr (by rfl) g6 kp6 b6 .nil pass0 (pa_cons (pv 2) (pa_cons pe_int (pa_cons (pv 5) pa_nil)))))
        (pss_one (ps_if (pt_cmpR op_isN (pe_ix ix_list (pv 10) (pv 9) (fun _ _ => rfl)) pe_non (nomark _)) (pss_one (ps_asg (pv 5) (pg_sub (pv 10) (pv 9) set_list))) pss_nil))))
      (pss_one (ps_ret (pe_cmpR (op_eqD hr.units) (pe_call G9 hr (by rfl) g9 kp9 b9 .nil pass0 (pa_cons (pv 2) pa_nil)) (pe_callTy call_tuple_of (by rfl) B.tuple (by decide +kernel) (pa_cons (pv 10) pa_nil)) (nomark _))))))))), ?_⟩
    -- letters, machine, many
    refine ⟨.ref a, rfl, a, 3, m, rfl, hd, by omega, by decide, by decide, fun H1 L ls hLt k1 d1 nL hL => ?_⟩
    have hls := hLt.lsm
    refine ⟨.ref a, rfl, .ref L, rfl, a, L, ls, m + 6, rfl, d1, by omega, hL, hls, fun H2 M R G rows good ok hr5 hM k2 d2 => ?_⟩
    obtain ⟨vR, eR, lR⟩ : ∃ vs, SqT K H2 R vs ∧ vs.length = rows.length := by
      obtain ⟨rs, x, y, _⟩ := hM.r
      exact ⟨_, sqt x, by rw [List.length_map, y]⟩
    refine ⟨.ref M, rfl, M, _, _, .ref R, rfl, rfl, sqt hM.m, atI_1, R, vR, rfl, .inr eR, ?_⟩
    rw [lR]
    have hpos := ok.rw.pos
    -- six logs
    refine ⟨6, rfl, by decide, by decide, ?_⟩
    refine for_range (lo := 0) (n := 6) (fun i σ H3 => ∃ (y4 y5 y6 y7 y8 y9 : Option V), σ = [some (.ref a), some (.ref L), some (.ref M), some (nV rows.length), y4, y5, y6, y7, y8, y9, none] ∧ Kp a H2 H3 ∧ Dc H3 a (m + 56 + 12 * i)) ?_ ?_ ?_
    · exact ⟨_, _, _, _, _, _, rfl, Kp.refl _ _, d2.mono (by omega)⟩
    · rintro i σ H3 hi ⟨y4, y5, y6, y7, y8, y9, rfl, k3, d3⟩
      have hM3 := hM.kp d2 k3
      refine ⟨.ref a, rfl, .ref L, rfl, a, L, ls, 9, m + 56 + 12 * i, rfl, d3, by omega, hM3.l, hls.one, by have := hls.four; omega, by decide, fun H4 lg l hl9 hsub k4 d4 nlg hlg => ?_⟩
      have hM4 := hM3.kp d3 k4
      refine ⟨.ref a, rfl, nV rows.length, rfl, a, (rows.length : Int), m + 56 + 12 * i + 9 + 1, rfl, d4, by omega, by omega, by omega, fun H5 r k5 d5 r0 r1 => ?_⟩
      obtain ⟨st, rfl⟩ := Int.eq_ofNat_of_zero_le r0
      have hst : st < rows.length := by omega
      have hM5 := hM4.kp d4 k5
      have hlg5 := k5.tup d4 hlg
      refine ⟨_, _, rfl, ?_⟩
      refine ⟨.ref a, rfl, .ref lg, rfl, lg, _, rfl, .inr (sqt hlg5), _, 1, rfl, rfl, a, _, m + 56 + 12 * i + 9 + 1 + 1, rfl, d5, by omega, ?_, ?_, fun H6 z k6 d6 z0 z1 => ?_⟩
      · rw [List.length_map]
        show (0 : Int) < (l.length : Int) + 1
        omega
      · rw [List.length_map]
        show (l.length : Int) + 1 < 1073741824
        omega
      rw [List.length_map] at z1
      have z1' : z < (l.length : Int) + 1 := z1
      obtain ⟨sp, rfl⟩ := Int.eq_ofNat_of_zero_le z0
      have hsp : sp ≤ l.length := by omega
      have hM6 := hM5.kp d5 k6
      have hlg6 := k6.tup d5 hlg5
      -- middle
      refine ⟨.ref M, rfl, .ref lg, rfl, _, rfl, (sp : Int), rfl, lg, _, rfl, hlg6, fun p1 H7 s7 e7 => ?_⟩
      rw [cut_take _ _ (by rw [List.length_map]; exact hsp), ← List.map_take] at e7
      have hM7 := hM6.same s7
      have hlg7 := s7 _ _ hlg6
      have hLg := lg_of hls hsub (by omega)
      have hsubT : ∀ z ∈ l.take sp, z ∈ ls := fun z hz => hsub z (List.mem_of_mem_take hz)
      have hsubD : ∀ z ∈ l.drop sp, z ∈ ls := fun z hz => hsub z (List.mem_of_mem_drop hz)
      refine ⟨nV st, rfl, rfl, rfl, M, L, R, G, p1, ls, rows, good, l.take sp, st, rfl, hM7, ok, e7, lg_of hls hsubT (by rw [List.length_take]; omega), hsubT, hst, fun H8 s8 => ?_⟩
      generalize hmid : run rows st (ixs ls (l.take sp)) = mid
      have hmidl : mid < rows.length := by
        rw [← hmid]
        exact run_lt ok.rw _ st hst
      have hM8 := hM7.same s8
      have hlg8 := s8 _ _ hlg7
      refine ⟨.ref M, rfl, .ref lg, rfl, nV st, rfl, rfl, rfl, M, L, R, G, lg, ls, rows, good, l, st, rfl, hM8, ok, hlg8, hLg, hsub, hst, fun H9 s9 => ?_⟩
      have hM9 := hM8.same s9
      have hlg9 := s9 _ _ hlg8
      refine ⟨.ref M, rfl, nV st, rfl, .ref lg, rfl, M, L, R, G, lg, ls, rows, good, l, st, rfl, hM9, ok, hlg9, hsub, hst, rfl, _, rfl, ifNe rfl ?_⟩
      -- the rest of the log
      refine ⟨.ref M, rfl, .ref lg, rfl, _, rfl, (sp : Int), rfl, lg, _, rfl, hlg9, fun p2 H10 s10 e10 => ?_⟩
      rw [cut_drop _ _ (by rw [List.length_map]; exact hsp), ← List.map_drop] at e10
      have hM10 := hM9.same s10
      have hlg10 := s10 _ _ hlg9
      refine ⟨nV mid, rfl, rfl, rfl, M, L, R, G, p2, ls, rows, good, l.drop sp, mid, rfl, hM10, ok, e10, lg_of hls hsubD (by rw [List.length_drop]; omega), hsubD, hmidl, fun H11 s11 => ?_⟩
      have hM11 := hM10.same s11
      have hlg11 := s11 _ _ hlg10
      have hrun : run rows mid (ixs ls (l.drop sp)) = run rows st (ixs ls l) := by
        rw [← hmid, ← run_app, ← ixs_app, List.take_append_drop]
      refine ⟨.ref M, rfl, nV st, rfl, .ref lg, rfl, M, L, R, G, lg, ls, rows, good, l, st, rfl, hM11, ok, hlg11, hsub, hst, rfl, _, rfl, ifNe (by rw [hrun]) ?_⟩
      -- there
      refine ⟨.ref M, rfl, .ref lg, rfl, M, L, R, G, lg, ls, rows, good, l, 0, rfl, hM11, ok, hlg11, hLg, hsub, hpos, fun H12 s12 => ?_⟩
      have hM12 := hM11.same s12
      have hlg12 := s12 _ _ hlg11
      refine ⟨nV (run rows 0 (ixs ls l)), rfl, .ref M, rfl, .ref lg, rfl, M, L, R, G, lg, ls, rows, good, l, 0, rfl, hM12, ok, hlg12, hsub, hpos, rfl, _, rfl, ifNe rfl ?_⟩
      refine ⟨.ref M, rfl, .ref lg, rfl, M, L, R, G, lg, ls, rows, good, l, rfl, hM12, ok, hlg12, hLg, hsub, fun H13 s13 => ?_⟩
      have hM13 := hM12.same s13
      have hgl : run rows 0 (ixs ls l) < good.length := by
        rw [ok.gl]
        exact run_lt ok.rw _ 0 hpos
      have hg : (good.map V.bl)[run rows 0 (ixs ls l)]? = some (.bl (gd rows good ls l)) := by
        rw [get_map hgl]
        unfold gd
        rw [getD_of hgl]
      refine ⟨_, rfl, .ref M, rfl, M, _, _, .ref G, rfl, rfl, sqt hM13.m, atI_2, nV (run rows 0 (ixs ls l)), rfl, G, _, _, _, rfl, rfl, sqt hM13.g, atI_nat hg, _, rfl, rfl, _, rfl, ifNe rfl ?_⟩
      have sAll := (((((s7.trans s8).trans s9).trans s10).trans s11).trans s12).trans s13
      exact ⟨_, _, _, _, _, _, rfl, (k3.trans (k4.trans (k5.trans k6))).trans (Kp.of sAll), (d6.same sAll).mono (by omega)⟩
    · rintro σ H3 ⟨y4, y5, y6, y7, y8, y9, rfl, k3, d3⟩
      have hM3 := hM.kp d2 k3
      -- due
      refine ⟨(show 1 ≤ sizeLine by decide), fun d0 nd0 => ?_⟩
      have sd0 := same_upd (o := .lst [V.non]) nd0
      refine ⟨nV rows.length, rfl, d0, (rows.length : Int), [V.non], rfl, rfl, upd_same, by omega, by omega, ?_, fun du ndu => ?_⟩
      · have h1 : (1000 : Nat) ≤ sizeLine := by decide
        show 1 * ((rows.length : Int)).toNat ≤ sizeLine
        omega
      have erep : (List.replicate ((rows.length : Int)).toNat [V.non]).flatten = List.replicate rows.length V.non := by
        rw [show ((rows.length : Int)).toNat = rows.length from rfl]
        generalize rows.length = n
        induction n with
        | zero => rfl
        | succ n ih =>
          rw [List.replicate_succ, List.flatten_cons, ih]
          rfl
      rw [erep]
      have sdu := same_upd (o := .lst (List.replicate rows.length V.non)) ndu
      have s4 := sd0.trans sdu
      have hM4 := hM3.same s4
      have hdu4 : (upd (upd H3 d0 (.lst [V.non])) du (.lst (List.replicate rows.length V.non))) du = some (.lst (List.replicate rows.length V.non)) := upd_same
      have d4 := d3.same s4
      generalize hH4 : upd (upd H3 d0 (.lst [V.non])) du (.lst (List.replicate rows.length V.non)) = H4 at *
      refine ⟨.ref L, rfl, nV rows.length, rfl, (rows.length : Int), 1, rfl, rfl, L, ls, rows.length - 1, ?_, hM4.l, hLt.len, by omega, fun H5 p rs s5 np hp hws => ?_⟩
      · show [V.ref L, V.int ((rows.length : Int) - 1)] = [V.ref L, V.int ((rows.length - 1 : Nat) : Int)]
        have : ((rows.length : Int) - 1) = ((rows.length - 1 : Nat) : Int) := by omega
        rw [this]
      rw [show rows.length - 1 + 1 = rows.length by omega] at hws
      have hM5 := hM4.same s5
      have npdu : p ≠ du := (ne_of_none hdu4 np).symm
      refine ⟨p, rfl, ⟨_, sql hp⟩, ?_⟩
      refine for_list (K := K) (a := p) (xs := rs.map V.ref) (fun j σ H6 => ∃ (y5 y9 : Option V) (vs : List V), σ = [some (.ref a), some (.ref L), some (.ref M), some (nV rows.length), y4, y5, y6, y7, y8, y9, some (.ref du)] ∧ Tk H5 H6 ∧ H6 p = some (.lst (rs.map V.ref)) ∧ Dc H6 a (m + 128) ∧ Kp a H3 H6 ∧
          H6 du = some (.lst vs) ∧ LVs H6 vs ((((upto ls.length rows.length).take j).foldl (add rows) (empty rows)).1.map (Option.map (lgOf ls)))) ?_ ?_ ?_ ?_
      · refine ⟨_, _, _, rfl, Tk.refl _, hp, (d4.same s5).mono (by omega), (Kp.of (s4.trans s5)), s5 _ _ hdu4, ?_⟩
        refine ⟨by unfold empty; simp, fun i v o x y => ?_⟩
        have e1 : v = .non := List.eq_of_mem_replicate (List.mem_of_getElem? x)
        obtain ⟨o', ho', rfl⟩ := get_map' y
        have e2 : o' = none := List.eq_of_mem_replicate (List.mem_of_getElem? ho')
        subst e1 e2
        rfl
      · rintro j σ H6 hj ⟨z5, z9, vs, rfl, t6, hp6, d6, k6, hdu, hv⟩
        exact sql hp6
      · rintro j x σ H6 hx ⟨z5, z9, vs, rfl, t6, hp6, d6, k6, hdu, hv⟩
        obtain ⟨aj, haj, rfl⟩ := get_map' hx
        have hj : j < (upto ls.length rows.length).length := by
          rw [← hws.1]
          exact get_lt haj
        have hwj := List.getElem?_eq_getElem hj
        generalize hwd : (upto ls.length rows.length)[j] = wd at hwj
        obtain ⟨w1, w2⟩ := upto_mem (List.mem_of_getElem? hwj)
        have hlj := t6.tp (hws.2 j aj wd haj hwj)
        have hM6 := t6.mc hM5
        have hsubw := lgOf_mem w2
        have hix := ixs_lgOf hls.nd w2
        refine ⟨.ref M, rfl, .ref aj, rfl, M, L, R, G, aj, ls, rows, good, lgOf ls wd, 0, rfl, hM6, ok, hlj, hsubw, hpos, ?_⟩
        rw [hix]
        have htl := run_lt ok.rw wd 0 hpos
        have hX8 : (((upto ls.length rows.length).take (j + 1)).foldl (add rows) (empty rows)) = add rows (((upto ls.length rows.length).take j).foldl (add rows) (empty rows)) wd := by
          rw [List.take_add_one, hwj, List.foldl_append]
          rfl
        have I := Iv.adds ok.rw ((upto ls.length rows.length).take j) [] (empty rows) (Iv.start rows)
        rw [hX8]
        generalize ((upto ls.length rows.length).take j).foldl (add rows) (empty rows) = X at *
        have hXl : X.1.length = rows.length := I.len
        have hvl : vs.length = rows.length := by
          rw [hv.1, List.length_map, hXl]
        generalize ht : run rows 0 wd = t at *
        have htv : t < vs.length := by omega
        have hvt := List.getElem?_eq_getElem htv
        have hlv := hv.2 t vs[t] _ hvt (by rw [List.getElem?_map, List.getElem?_eq_getElem (show t < X.1.length by omega)]; rfl)
        refine ⟨.ref du, rfl, nV t, rfl, du, vs, _, vs[t], rfl, rfl, sql hdu, atI_nat hvt, rfl, _, rfl, ?_⟩
        generalize hvv : vs[t] = v at *
        cases hcase : X.1.getD t none with
        | some u =>
          have e : X.1[t] = some u := by
            rw [← getD_of (d := none), hcase]
          rw [e] at hlv
          obtain ⟨b, rfl, _⟩ := hlv
          refine iteF ⟨_, _, vs, rfl, t6, hp6, d6, k6, hdu, ?_⟩
          have ea : add rows X wd = X := by
            unfold add
            rw [ht, if_neg (by rw [hcase]; exact Option.some_ne_none u)]
          rw [ea]
          exact hv
        | none =>
          have e : X.1[t] = none := by
            rw [← getD_of (d := none), hcase]
          rw [e] at hlv
          have ev : v = .non := hlv
          subst ev
          have ea : add rows X wd = (X.1.set t (some wd), X.2 ++ [t]) := by
            unfold add
            rw [ht, if_pos hcase]
          refine iteT ⟨.ref aj, rfl, .ref du, rfl, nV t, rfl, du, vs, (t : Int), t, rfl, rfl, hdu, ixN_nat htv, ?_⟩
          have tk := tk_upd (ys := vs.set t (.ref aj)) hdu
          have nda : du ≠ a := by
            obtain ⟨u1, u2, u3, e, _⟩ := d4
            intro z
            have h1 := hdu4
            rw [z] at h1
            have n1 : H3 du = none := sd0.free ndu
            obtain ⟨v1, v2, v3, e', _⟩ := d3
            rw [z] at n1
            rw [e'] at n1
            cases n1
          refine ⟨_, _, vs.set t (.ref aj), rfl, t6.trans tk, ?_, d6.put nda, ?_, upd_same, ?_⟩
          · rw [upd_ne npdu]
            exact hp6
          · exact kp_put k6 (sd0.free ndu)
          · rw [ea]
            show LVs _ _ ((X.1.set t (some wd)).map (Option.map (lgOf ls)))
            rw [List.map_set]
            exact (tk.lvs hv).put (by rw [List.length_map]; omega) (tk.tp hlj)
      · rintro σ H6 ⟨z5, z9, vs, rfl, t6, hp6, d6, k6, hdu, hv⟩
        rw [List.length_map, hws.1, List.take_length] at hv
        have hv' : LVs H6 vs (flg rows ls) := hv
        have hM6 := t6.mc hM5
        refine ⟨.ref M, rfl, M, L, R, G, ls, rows, good, rfl, hM6, ok, fun H7 p1 s7 h7 => ?_⟩
        refine ⟨.ref du, rfl, du, _, rfl, .inl ⟨sql (s7 _ _ hdu), fun p2 np2 => ?_⟩⟩
        have s8 := same_upd (o := .tup vs) np2
        obtain ⟨us, e1, e2⟩ := h7.same s8
        have hv8 := hv'.same (s7.trans s8)
        have hsh := dO_shaped (flg_ok hls ok.rw)
        refine ⟨.tuple ((flg rows ls).map dO), .tuple ((flg rows ls).map dO), .tup (sqt e1) (dp_lvs e2), .tup (sqt upd_same) (dp_lvs hv8), hsh, hsh, ?_⟩
        have er : PyData.eqv (.tuple ((flg rows ls).map dO)) (.tuple ((flg rows ls).map dO)) = true := dO_refl (flg rows ls)
        rw [er]
        have kF := ((k1.trans k2).trans k3).trans (k6.trans (Kp.of (s7.trans s8)))
        exact q _ kF ((d6.same (s7.trans s8)).mono (by omega))
end
end Sfl
namespace Sfl
open PySem PySem.Spec PyProof.Rows L2
/-! ### the great machine -/
def zOn : Str := "on"
def zBack : Str := "back"
def lsG : List Str := [zBack, zOn]
def rwG : List (List Nat) := (List.range 200).map fun i => [i - 1, min (i + 1) 199]
def rwG0 : List (List Nat) := (List.range 200).map fun i => [min (i + 1) 199, i - 1]
def gdG : List Bool := (List.range 200).map fun i => decide (i = 199)
theorem lsG_ok : LsM lsG := ⟨by decide, by decide, by decide +kernel, by decide +kernel, by decide +kernel⟩
theorem rwG_len : rwG.length = 200 := by
  unfold rwG
  rw [List.length_map, List.length_range]
theorem okG : MOk lsG rwG gdG := by
  refine ⟨lsG_ok, ⟨by rw [rwG_len]; decide, fun r hr => ?_, fun r hr s hs => ?_⟩, by rw [rwG_len]; exact Nat.le_refl _, ?_⟩
  · obtain ⟨i, _, rfl⟩ := List.mem_map.mp hr
    rfl
  · obtain ⟨i, hi, rfl⟩ := List.mem_map.mp hr
    have hi' := List.mem_range.mp hi
    rw [rwG_len]
    rcases List.mem_cons.mp hs with h | h
    · omega
    · have := List.mem_singleton.mp h
      omega
  · unfold gdG
    rw [List.length_map, List.length_range, rwG_len]
theorem nxG0 {s : Nat} (h : s < 200) : nx rwG s 0 = s - 1 := by
  unfold nx
  rw [getD_of (show s < rwG.length by rw [rwG_len]; exact h)]
  unfold rwG
  rw [List.getElem_map, List.getElem_range]
  rfl
theorem nxG1 {s : Nat} (h : s < 200) : nx rwG s 1 = min (s + 1) 199 := by
  unfold nx
  rw [getD_of (show s < rwG.length by rw [rwG_len]; exact h)]
  unfold rwG
  rw [List.getElem_map, List.getElem_range]
  rfl
theorem runG : ∀ j, j ≤ 199 → run rwG 0 (List.replicate j 1) = j
  | 0, _ => rfl
  | j + 1, h => by
    rw [List.replicate_succ', run_snoc, runG j (by omega), nxG1 (by omega)]
    omega
/-- the paths behind j turns -/
def dG (j : Nat) : List (Option (List Nat)) := (List.range 200).map fun s => if s ≤ j then some (List.replicate s 1) else none
theorem dG_get {j s : Nat} (h : s < 200) : (dG j).getD s none = if s ≤ j then some (List.replicate s 1) else none := by
  unfold dG
  rw [getD_of (by rw [List.length_map, List.length_range]; exact h), List.getElem_map, List.getElem_range]
theorem dG_set {j : Nat} (h : j < 199) : (dG j).set (j + 1) (some (List.replicate (j + 1) 1)) = dG (j + 1) := by
  apply List.ext_getElem?
  intro i
  rw [List.getElem?_set]
  unfold dG
  rw [List.length_map, List.length_range]
  by_cases e : j + 1 = i
  · subst e
    rw [if_pos rfl, if_pos (by omega), List.getElem?_map, List.getElem?_range (by omega)]
    show _ = some (if j + 1 ≤ j + 1 then _ else _)
    rw [if_pos (Nat.le_refl _)]
  · rw [if_neg e, List.getElem?_map, List.getElem?_map]
    by_cases hi : i < 200
    · rw [List.getElem?_range hi]
      show some (if i ≤ j then _ else _) = some (if i ≤ j + 1 then _ else _)
      by_cases c : i ≤ j
      · rw [if_pos c, if_pos (by omega)]
      · rw [if_neg c, if_neg (by omega)]
    · rw [List.getElem?_eq_none (by rw [List.length_range]; omega)]
      rfl
theorem add_in {rows : List (List Nat)} {x : PQ} {w : List Nat} (h : x.1.getD (run rows 0 w) none ≠ none) : add rows x w = x := by
  unfold add
  rw [if_neg h]
theorem procG : ∀ j, j ≤ 199 → proc rwG 2 j = (dG j, List.range (j + 1))
  | 0, _ => by
    show add rwG (empty rwG) [] = _
    unfold add
    have e : (empty rwG).1.getD (run rwG 0 []) none = none := by
      show (List.replicate rwG.length none).getD 0 none = none
      rw [List.getD_eq_getElem?_getD, List.getElem?_replicate]
      split <;> rfl
    rw [if_pos e]
    show ((List.replicate rwG.length none).set 0 (some []), [0]) = (dG 0, List.range 1)
    rw [rwG_len]
    decide +kernel
  | j + 1, h => by
    show visit rwG 2 (proc rwG 2 j) j = _
    rw [procG j (by omega)]
    unfold visit
    have e1 : (dG j, List.range (j + 1)).2[j]? = some j := List.getElem?_range (by omega)
    rw [e1]
    show (match (dG j).getD j none with
      | none => (dG j, List.range (j + 1))
      | some w => (kids 2 w).foldl (add rwG) (dG j, List.range (j + 1))) = _
    rw [dG_get (by omega), if_pos (Nat.le_refl _)]
    show add rwG (add rwG (dG j, List.range (j + 1)) (List.replicate j 1 ++ [0])) (List.replicate j 1 ++ [1]) = _
    have r0 : run rwG 0 (List.replicate j 1 ++ [0]) = j - 1 := by
      rw [run_snoc, runG j (by omega), nxG0 (by omega)]
    have r1 : run rwG 0 (List.replicate j 1 ++ [1]) = j + 1 := by
      rw [run_snoc, runG j (by omega), nxG1 (by omega)]
      omega
    rw [add_in (x := (dG j, List.range (j + 1))) (w := List.replicate j 1 ++ [0]) (by rw [r0]; show (dG j).getD (j - 1) none ≠ none; rw [dG_get (by omega), if_pos (by omega)]; exact Option.some_ne_none _)]
    unfold add
    rw [r1]
    have e2 : (dG j, List.range (j + 1)).1.getD (j + 1) none = none := by
      show (dG j).getD (j + 1) none = none
      rw [dG_get (by omega), if_neg (by omega)]
    rw [if_pos e2]
    show ((dG j).set (j + 1) (some (List.replicate j 1 ++ [1])), List.range (j + 1) ++ [j + 1]) = _
    rw [← List.replicate_succ', dG_set (by omega), ← List.range_succ]
theorem flG : flg rwG lsG = (List.range 200).map fun s => some (List.replicate s zOn) := by
  unfold flg
  have h := proc_all okG.rw
  rw [rwG_len] at h
  show ((lv rwG 2 rwG.length).1).map _ = _
  have h' : proc rwG 2 200 = lv rwG 2 200 := h
  rw [rwG_len, ← h']
  have e : proc rwG 2 200 = proc rwG 2 199 := by
    have f := visit_full (k := 2) okG.rw (x := proc rwG 2 199) (fun s hs => by
      rw [rwG_len] at hs
      rw [procG 199 (Nat.le_refl _)]
      show (dG 199).getD s none ≠ none
      rw [dG_get hs, if_pos (by omega)]
      exact Option.some_ne_none _) 199
    exact f
  rw [e, procG 199 (Nat.le_refl _)]
  show (dG 199).map _ = _
  unfold dG
  rw [List.map_map]
  apply List.map_congr_left
  intro s hs
  have := List.mem_range.mp hs
  show Option.map (lgOf lsG) (if s ≤ 199 then _ else _) = _
  rw [if_pos (by omega)]
  show some (lgOf lsG (List.replicate s 1)) = _
  unfold lgOf
  rw [List.map_replicate]
  rfl
theorem ixG1 (n : Nat) : ixs lsG (List.replicate n zOn) = List.replicate n 1 := by
  unfold ixs
  rw [List.map_replicate]
  congr 1
theorem factG1 : run rwG 0 (ixs lsG (List.replicate 199 zOn)) = 199 := by
  rw [ixG1, runG 199 (Nat.le_refl _)]
theorem factG2 : run rwG 0 (ixs lsG (List.replicate 199 zOn ++ [zBack])) = 198 := by
  rw [ixs_app, ixG1, run_app, runG 199 (Nat.le_refl _)]
  show nx rwG 199 0 = 198
  rw [nxG0 (by decide)]
theorem factG3 : gd rwG gdG lsG (List.replicate 199 zOn) = true := by
  unfold gd
  rw [factG1]
  decide +kernel
theorem runG0 : ∀ n s, s < 200 → run rwG s (List.replicate n 0) = s - n
  | 0, s, _ => rfl
  | n + 1, s, h => by
    show run rwG (nx rwG s 0) (List.replicate n 0) = s - (n + 1)
    rw [nxG0 h, runG0 n (s - 1) (by omega)]
    omega
theorem factG4 : run rwG 150 (ixs lsG (List.replicate 200 zBack)) = 0 := by
  have e : ixs lsG (List.replicate 200 zBack) = List.replicate 200 0 := by
    unfold ixs
    rw [List.map_replicate]
    congr 1
  rw [e, runG0 200 150 (by decide)]
theorem factG5 : gd rwG gdG lsG (List.replicate 100 [zOn, zBack]).flatten = false := by
  unfold gd
  have e : ixs lsG (List.replicate 100 [zOn, zBack]).flatten = (List.replicate 100 [1, 0]).flatten := by
    unfold ixs
    rw [List.map_flatten, List.map_replicate]
    congr 1
  have r : ∀ n, run rwG 0 (List.replicate n [1, 0]).flatten = 0 := by
    intro n
    induction n with
    | zero => rfl
    | succ n ih =>
      rw [List.replicate_succ, List.flatten_cons, run_app]
      have : run rwG 0 [1, 0] = 0 := by
        show nx rwG (nx rwG 0 1) 0 = 0
        rw [nxG1 (by decide), nxG0 (by decide)]
        rfl
      rw [this]
      exact ih
  rw [e, r 100]
  decide +kernel
end Sfl
namespace Sfl
open PySem PySem.Spec PyProof.Rows L2
theorem pe_revTK {X : Cx} {e : Expr} {te : TE} {k : Nat} {p1 p2 p3 pos : Pos} (K : PySem.W.Frag) (he : PE X e te) (h : X.K = K := by rfl) :
    PE X (.Subscript e (.Slice none none (some (.UnaryOp .USub (.Constant (.int 1) k p1) p2)) p3) pos) (tRevT K te) := by
  subst h
  exact pe_revT he
theorem flat_rep (n : Nat) (z : V) : (List.replicate n [z]).flatten = List.replicate n z := by
  induction n with
  | zero => rfl
  | succ n ih =>
    rw [List.replicate_succ, List.flatten_cons, ih]
    rfl
theorem map_rep (n : Nat) (z : Str) : List.replicate n (V.str z) = (List.replicate n z).map V.str := by
  rw [List.map_replicate]
section
variable {P : Program} {w : World} {K : PySem.W.Frag} {mg : Str → Option Value} {base : Heap}
theorem scGreat : FnScope ["rows", "machine", "long", "there", "told", "state", "row"] [] (defScope sGreat) := ⟨rfl, rfl, rfl, by decide +kernel, rfl, by decide +kernel, by decide +kernel⟩
def spGreat : Sp := fun vs H Q _ => vs = [] ∧ ∀ H', Same H H' → Q (.bl true) H'
theorem ok_great {f : Addr} {fd : FuncData} {k : Nat} (F : Fun K "_law_great_right" "_law_great_right" sGreat f fd) (B : Bn mg) (C5 : CalSB P w K mg base k) (C7 : Cal P w K mg base k "contains" ["machine", "log"] spContains)
    (C9 : Cal P w K mg base k "first_logs" ["machine"] spFirstLogs) : FnOk P w K mg base CX0 (k + 1) f fd [] spGreat := by
  obtain ⟨f5, fd5, ds5, G5, g5, kp5, vd5, b5, kb5⟩ := C5
  obtain ⟨f7, fd7, G7, g7, kp7, b7⟩ := C7
  obtain ⟨f9, fd9, G9, g9, kp9, b9⟩ := C9
  refine F.ok scGreat (fun vs H Q E h => ?_) (fun cdv A outer s H vs Q E hr h => ?_)
  · obtain ⟨rfl, _⟩ := h
    rfl
  · obtain ⟨rfl, q⟩ := h
    refine ⟨_, pss_cons (ps_set (i := 0) scGreat.nd rfl (.inl rfl) (pe_callTy call_tuple_of (by rfl) B.tuple (by decide +kernel) (pa_cons
          (pe_lc (own := [("state", 5)]) (g := gName 5) (tt := tYes) rfl scGreat.nd (pi_range1 rfl B.range (pa_cons pe_int pa_nil)) (blkOk_by (own := [("state", 5)]) (N := ["rows", "machine", "long", "there", "told", "state", "row"]) (sc := defScope sGreat) (by decide +kernel))
            (fun _ _ _ _ _ => pg_name (i := 5) scGreat.nd rfl (Or.inl rfl)) (fun _ _ _ _ _ => pts_nil)
            (fun _ _ _ _ _ => pe_tup (pa_cons (pe_callB (call_min2 rfl) (by rfl) B.min (by decide +kernel) (pa_cons (pe_op op_add (pv 5) pe_int) (pa_cons pe_int pa_nil)))
              (pa_cons (pe_callB (call_max2 rfl) (by rfl) B.max (by decide +kernel) (pa_cons (pe_op op_sub (pv 5) pe_int) (pa_cons pe_int pa_nil))) pa_nil)))) pa_nil)))
      (pss_cons (ps_set (i := 1) scGreat.nd rfl (.inl rfl) (pe_tup (pa_cons (pe_tupF (pa_cons pe_str (pa_cons pe_str pa_nil)))
        (pa_cons (pe_callTy call_tuple_of (by rfl) B.tuple (by decide +kernel) (pa_cons
          (pe_lc (own := [("row", 6)]) (g := gName 6) (tt := tYes) rfl scGreat.nd (pi_tup (pv 0)) (blkOk_by (own := [("row", 6)]) (N := ["rows", "machine", "long", "there", "told", "state", "row"]) (sc := defScope sGreat) (by decide +kernel))
            (fun _ _ _ _ _ => pg_name (i := 6) scGreat.nd rfl (Or.inl rfl)) (fun _ _ _ _ _ => pts_nil) (fun _ _ _ _ _ => pe_revTK K (pv 6))) pa_nil))
        (pa_cons (pe_callTy call_tuple_of (by rfl) B.tuple (by decide +kernel) (pa_cons
          (pe_lc (own := [("state", 5)]) (g := gName 5) (tt := tYes) rfl scGreat.nd (pi_range1 rfl B.range (pa_cons pe_int pa_nil)) (blkOk_by (own := [("state", 5)]) (N := ["rows", "machine", "long", "there", "told", "state", "row"]) (sc := defScope sGreat) (by decide +kernel))
            (fun _ _ _ _ _ => pg_name (i := 5) scGreat.nd rfl (Or.inl rfl)) (fun _ _ _ _ _ => pts_nil) (fun _ _ _ _ _ => pe_cmpR op_eq (pv 5) pe_int (nomark _))) pa_nil)) pa_nil)))))
      (pss_cons (ps_set (i := 2) scGreat.nd rfl (.inl rfl) (pe_op op_repS (pe_tup (pa_cons pe_str pa_nil)) pe_int))
      (pss_cons (ps_set (i := 3) scGreat.nd rfl (.inl rfl) (pe_lst (pa_cons (pe_call G5 hr (by rfl) g5 kp5 b5 vd5 pass0 (pa_cons (pv 1) (pa_cons (pv 2) pa_nil)))
        (pa_cons (pe_call G5 hr (by rfl) g5 kp5 b5 vd5 pass0 (pa_cons (pv 1) (pa_cons (pe_op op_catS (pv 2) (pe_tup (pa_cons pe_str pa_nil))) pa_nil))) pa_nil))))
      (pss_cons (ps_if (PW.pt (pw_or (pt_cmpR (op_neD hr.units) (pv 3) (pe_lst (pa_cons pe_int (pa_cons pe_int pa_nil))) (nomark _))
        (pw_or1 (pt_not (pt_val (pe_call G7 hr (by rfl) g7 kp7 b7 .nil pass0 (pa_cons (pv 1) (pa_cons (pv 2) pa_nil)))))))) (pss_one (ps_ret pe_bl)) pss_nil)
      (pss_cons (ps_set (i := 4) scGreat.nd rfl (.inl rfl) (pe_call G9 hr (by rfl) g9 kp9 b9 .nil pass0 (pa_cons (pv 1) pa_nil)))
      (pss_cons (ps_if (pt_cmpR (op_neD hr.units) (pv 4) (pe_callTy call_tuple_of (by rfl) B.tuple (by decide +kernel) (pa_cons
          (pe_lc (own := [("state", 5)]) (g := gName 5) (tt := tYes) rfl scGreat.nd (pi_range1 rfl B.range (pa_cons pe_int pa_nil)) (blkOk_by (own := [("state", 5)]) (N := ["rows", "machine", "long", "there", "told", "state", "row"]) (sc := defScope sGreat) (by decide +kernel))
            (fun _ _ _ _ _ => pg_name (i := 5) scGreat.nd rfl (Or.inl rfl)) (fun _ _ _ _ _ => pts_nil) (fun _ _ _ _ _ => pe_op op_repS (pe_tup (pa_cons pe_str pa_nil)) (pv 5))) pa_nil)) (nomark _)) (pss_one (ps_ret pe_bl)) pss_nil)
      (pss_one (ps_ret (pe_and (pe_cmpR op_eq (pe_callN G5 hr (by rfl) g5 kp5 kb5 pass0 (pa_cons (pv 1) (pa_cons (pe_op op_repS (pe_tup (pa_cons pe_str pa_nil)) pe_int) pa_nil)) (pk_cons pe_int pk_nil)) pe_int (nomark _))
        (pe_one (pe_not (pe_call G7 hr (by rfl) g7 kp7 b7 .nil pass0 (pa_cons (pv 1) (pa_cons (pe_op op_repS (pe_tup (pa_cons pe_str (pa_cons pe_str pa_nil))) pe_int) pa_nil)))))))))))))), ?_⟩
    have h1000 : (1000 : Nat) ≤ sizeLine := by decide
    -- rows
    refine ⟨200, rfl, by decide, by decide, fun D nD => ?_⟩
    refine lc_range (lo := 0) (n := 200) (fun i H4 => ∃ rs : List Addr, Same H H4 ∧ H4 D = some (.lst (rs.map V.ref)) ∧ RsAt H4 rs (rwG0.take i)) ?_ ?_ ?_
    · exact ⟨[], same_upd nD, upd_same, rfl, fun i a r x y => (nomatch x)⟩
    · rintro i H4 hi ⟨rs, s4, hD, hrs⟩
      have hrl := hrs.1
      rw [List.length_take] at hrl
      have hgi : rwG0[i]? = some [min (i + 1) 199, i - 1] := by
        unfold rwG0
        rw [List.getElem?_map, List.getElem?_range hi]
        rfl
      refine ⟨rfl, .int (0 + (i : Nat)), rfl, _, 1, rfl, rfl, _, 199, rfl, .int (0 + (i : Nat)), rfl, _, 1, rfl, rfl, _, 0, rfl, (show 2 ≤ sizeLine by decide), fun t nt => ?_⟩
      have st := same_upd (o := .tup [V.int (if (199 : Int) < 0 + ((i : Nat) : Int) + 1 then 199 else 0 + ((i : Nat) : Int) + 1), V.int (if (0 : Int) > 0 + ((i : Nat) : Int) - 1 then 0 else 0 + ((i : Nat) : Int) - 1)]) nt
      have et : [V.int (if (199 : Int) < 0 + ((i : Nat) : Int) + 1 then 199 else 0 + ((i : Nat) : Int) + 1), V.int (if (0 : Int) > 0 + ((i : Nat) : Int) - 1 then 0 else 0 + ((i : Nat) : Int) - 1)] = [min (i + 1) 199, i - 1].map nV := by
        have e1 : (if (199 : Int) < 0 + ((i : Nat) : Int) + 1 then (199 : Int) else 0 + ((i : Nat) : Int) + 1) = ((min (i + 1) 199 : Nat) : Int) := by
          split <;> omega
        have e2 : (if (0 : Int) > 0 + ((i : Nat) : Int) - 1 then (0 : Int) else 0 + ((i : Nat) : Int) - 1) = ((i - 1 : Nat) : Int) := by
          split <;> omega
        rw [e1, e2]
        rfl
      refine ⟨_, st _ _ hD, ?_, rs ++ [t], ?_, ?_, ?_⟩
      · rw [List.length_map]
        exact small1000 (by omega)
      · exact same_put2 (s4.trans st) nD
      · rw [upd_same, List.map_append]
        rfl
      · rw [List.take_add_one, hgi]
        refine RsAt.put (RsAt.snoc (hrs.same st) ?_) (st _ _ hD)
        show _ = some (HO.tup ([min (i + 1) 199, i - 1].map nV))
        rw [← et]
        exact upd_same
    rintro H4 ⟨rs, s4, hD, hrs⟩
    have e200 : rwG0.take 200 = rwG0 := List.take_of_length_le (by unfold rwG0; rw [List.length_map, List.length_range]; exact Nat.le_refl _)
    rw [e200] at hrs
    have hrl : rs.length = 200 := by
      rw [hrs.1]
      unfold rwG0
      rw [List.length_map, List.length_range]
    refine ⟨D, _, rfl, .inl ⟨sql hD, fun R0 nR0 => ?_⟩⟩
    have sR0 := same_upd (o := .tup (rs.map V.ref)) nR0
    have hR0 : (upd H4 R0 (.tup (rs.map V.ref))) R0 = some (.tup (rs.map V.ref)) := upd_same
    have hrs5 := hrs.same sR0
    have s5 := s4.trans sR0
    generalize hH5 : upd H4 R0 _ = H5 at *
    -- machine: letters
    refine ⟨(show 2 ≤ sizeLine by decide), fun L ob nL hob1 hob2 => ?_⟩
    have sL := same_upd (o := .frz ob (.tup [V.str "back", V.str "on"])) nL
    have hL6 : Lk (upd H5 L (.frz ob (.tup [V.str "back", V.str "on"]))) L lsG := ⟨ob, upd_same, hob1, hob2⟩
    have hR06 := sL _ _ hR0
    have hrs6 := hrs5.same sL
    have s6 := s5.trans sL
    generalize hH6 : upd H5 L _ = H6 at *
    -- its rows
    refine ⟨.ref R0, rfl, R0, rfl, ⟨_, sqt hR06⟩, fun D2 nD2 => ?_⟩
    refine lc_tup (xs := rs.map V.ref) (fun i H7 => ∃ us : List Addr, Same H6 H7 ∧ H7 D2 = some (.lst (us.map V.ref)) ∧ RsAt H7 us (rwG.take i)) ?_ ?_ ?_ ?_
    · exact ⟨[], same_upd nD2, upd_same, rfl, fun i a r x y => (nomatch x)⟩
    · rintro i H7 hi ⟨us, s7, hD7, hus⟩
      exact sqt (s7 _ _ hR06)
    · rintro i x H7 hx ⟨us, s7, hD7, hus⟩
      obtain ⟨ai, hai, rfl⟩ := get_map' hx
      have hi : i < 200 := by
        rw [← hrl]
        exact get_lt hai
      have hul := hus.1
      rw [List.length_take] at hul
      have hgi : rwG0[i]? = some [min (i + 1) 199, i - 1] := by
        unfold rwG0
        rw [List.getElem?_map, List.getElem?_range hi]
        rfl
      have hgi2 : rwG[i]? = some [i - 1, min (i + 1) 199] := by
        unfold rwG
        rw [List.getElem?_map, List.getElem?_range hi]
        rfl
      have hrow := s7 _ _ (hrs6.2 i ai _ hai hgi)
      refine ⟨rfl, .ref ai, rfl, ai, _, rfl, sqt hrow, fun t nt => ?_⟩
      have st := same_upd (o := .tup ([min (i + 1) 199, i - 1].map nV).reverse) nt
      refine ⟨_, st _ _ hD7, ?_, us ++ [t], ?_, ?_, ?_⟩
      · rw [List.length_map]
        exact small1000 (by omega)
      · exact same_put2 (s7.trans st) nD2
      · rw [upd_same, List.map_append]
        rfl
      · rw [List.take_add_one, hgi2]
        refine RsAt.put (RsAt.snoc (hus.same st) ?_) (st _ _ hD7)
        exact upd_same
    rintro H7 ⟨us, s7, hD7, hus⟩
    rw [List.length_map, hrl, List.take_of_length_le (by rw [rwG_len]; exact Nat.le_refl _)] at hus
    refine ⟨D2, _, rfl, .inl ⟨sql hD7, fun R nR => ?_⟩⟩
    have sR := same_upd (o := .tup (us.map V.ref)) nR
    have hR8 : RwAt (upd H7 R (.tup (us.map V.ref))) R rwG := ⟨us, upd_same, hus.1, (hus.same sR).2⟩
    have hL8 := (hL6.same s7).same sR
    have s8 := (s6.trans s7).trans sR
    generalize hH8 : upd H7 R _ = H8 at *
    -- its good states
    refine ⟨200, rfl, by decide, by decide, fun D3 nD3 => ?_⟩
    refine lc_range (lo := 0) (n := 200) (fun i H9 => Same H8 H9 ∧ H9 D3 = some (.lst ((gdG.take i).map V.bl))) ?_ ?_ ?_
    · exact ⟨same_upd nD3, upd_same⟩
    · rintro i H9 hi ⟨s9, hD9⟩
      have hgi : gdG[i]? = some (decide (i = 199)) := by
        unfold gdG
        rw [List.getElem?_map, List.getElem?_range hi]
        rfl
      refine ⟨rfl, .int (0 + (i : Nat)), rfl, rfl, _, hD9, ?_, same_put2 s9 nD3, ?_⟩
      · rw [List.length_map, List.length_take]
        exact small1000 (by omega)
      · rw [upd_same, List.take_add_one, hgi, List.map_append]
        have : decide (V.int (0 + ((i : Nat) : Int)) = V.int 199) = decide (i = 199) := by
          by_cases c : i = 199
          · subst c
            rw [decide_eq_true rfl, decide_eq_true (by rfl)]
          · rw [decide_eq_false c, decide_eq_false]
            intro z
            have := V.int.inj z
            omega
        rw [this]
        rfl
    rintro H9 ⟨s9, hD9⟩
    rw [List.take_of_length_le (by unfold gdG; rw [List.length_map, List.length_range]; exact Nat.le_refl _)] at hD9
    refine ⟨D3, _, rfl, .inl ⟨sql hD9, fun G nG => ⟨(show 3 ≤ sizeLine by decide), fun M nM => ?_⟩⟩⟩
    have sG := same_upd (o := .tup (gdG.map V.bl)) nG
    have sM := same_upd (o := .tup [V.ref L, V.ref R, V.ref G]) nM
    have hM : Mc (upd (upd H9 G (.tup (gdG.map V.bl))) M (.tup [V.ref L, V.ref R, V.ref G])) M L R G lsG rwG gdG :=
      ⟨upd_same, ((hL8.same s9).same sG).same sM, ((hR8.same s9).same sG).same sM, sM _ _ upd_same⟩
    have s10 := (s8.trans s9).trans (sG.trans sM)
    generalize hH10 : upd (upd H9 G _) M _ = H10 at *
    clear hD hrs hR0 hrs5 hL6 hR06 hrs6 hus hR8 hL8 hD9 hD7
    -- long
    refine ⟨(show 1 ≤ sizeLine by decide), fun t1 nt1 => ?_⟩
    have st1 := same_upd (o := .tup [V.str "on"]) nt1
    refine ⟨t1, 199, [V.str "on"], rfl, rfl, upd_same, by simp, by decide, by decide, by show 1 ≤ 1000; decide, fun lo H11 s11 e11 => ?_⟩
    rw [show ((199 : Int)).toNat = 199 from rfl, flat_rep, map_rep] at e11
    have hlo : Tp H11 lo (List.replicate 199 zOn) := e11
    have sX := st1.trans s11
    have hM11 := hM.same sX
    have s12 := s10.trans sX
    have subOn : ∀ n, ∀ z ∈ List.replicate n zOn, z ∈ lsG := fun n z hz => by
      rw [List.eq_of_mem_replicate hz]
      decide
    have lgOn : ∀ n, n ≤ 200 → Lg (List.replicate n zOn) := fun n hn => lg_of lsG_ok (subOn n) (by rw [List.length_replicate]; exact hn)
    -- there
    refine ⟨.ref M, rfl, .ref lo, rfl, M, L, R, G, lo, lsG, rwG, gdG, _, 0, rfl, hM11, okG, hlo, lgOn 199 (by decide), subOn 199, okG.rw.pos, fun H13 s13 => ?_⟩
    rw [factG1]
    refine ⟨.ref M, rfl, .ref lo, rfl, (show 1 ≤ sizeLine by decide), fun t2 nt2 => ?_⟩
    have st2 := same_upd (o := .tup [V.str "back"]) nt2
    refine ⟨lo, t2, _, _, rfl, rfl, st2 _ _ (s13 _ _ hlo), upd_same, ?_, fun lb H14 s14 e14 => ?_⟩
    · rw [List.length_map, List.length_replicate]
      show 199 + 1 ≤ sizeLine
      omega
    have s134 := s13.trans (st2.trans s14)
    have hM14 := hM11.same s134
    have hlo14 := s134 _ _ hlo
    have hlb : Tp H14 lb (List.replicate 199 zOn ++ [zBack]) := by
      show H14 lb = some (.tup ((List.replicate 199 zOn ++ [zBack]).map V.str))
      rw [List.map_append]
      exact e14
    have subLb : ∀ z ∈ List.replicate 199 zOn ++ [zBack], z ∈ lsG := fun z hz => by
      rcases List.mem_append.mp hz with h | h
      · exact subOn 199 z h
      · rw [List.mem_singleton.mp h]
        decide
    refine ⟨M, L, R, G, lb, lsG, rwG, gdG, _, 0, rfl, hM14, okG, hlb, lg_of lsG_ok subLb (by rw [List.length_append, List.length_replicate]; decide), subLb, okG.rw.pos, fun H15 s15 => ?_⟩
    rw [factG2]
    refine ⟨(show 2 ≤ sizeLine by decide), fun th nth => ?_⟩
    have sth := same_upd (o := .lst [nV 199, nV 198]) nth
    refine ⟨.ref th, rfl, (show 2 ≤ sizeLine by decide), fun t3 nt3 => ?_⟩
    have st3 := same_upd (o := .lst [V.int 199, V.int 198]) nt3
    have hth := st3 _ _ (upd_same (H := H15) (a := th) (o := .lst [nV 199, nV 198]))
    refine ⟨.list ([199, 198].map fun n => PyData.int (n : Nat)), .list ([199, 198].map fun n => PyData.int (n : Nat)), .lst (sql hth) (all_ints [199, 198]), .lst (sql upd_same) (all_ints [199, 198]), shL (flat_ints _), shL (flat_ints _), _, rfl, ?_⟩
    have eqi : (!PyData.eqv (.list ([199, 198].map fun n => PyData.int (n : Nat))) (.list ([199, 198].map fun n => PyData.int (n : Nat)))) = false := by decide +kernel
    rw [eqi]
    refine iteF ?_
    have s16 := (s15.trans sth).trans st3
    have hM16 := hM14.same s16
    have hlo16 := s16 _ _ hlo14
    have sT := s12.trans (s134.trans s16)
    generalize hH16 : upd (upd H15 th _) t3 _ = H16 at *
    refine ⟨.ref M, rfl, .ref lo, rfl, M, L, R, G, lo, lsG, rwG, gdG, _, rfl, hM16, okG, hlo16, lgOn 199 (by decide), subOn 199, fun H17 s17 => ?_⟩
    rw [factG3]
    refine ⟨_, rfl, iteF ?_⟩
    have hM17 := hM16.same s17
    -- told
    refine ⟨.ref M, rfl, M, L, R, G, lsG, rwG, gdG, rfl, hM17, okG, fun H18 tl s18 htl => ?_⟩
    rw [flG] at htl
    have hM18 := hM17.same s18
    have sT18 := (sT.trans s17).trans s18
    refine ⟨.ref tl, rfl, 200, rfl, by decide, by decide, fun D4 nD4 => ?_⟩
    refine lc_range (lo := 0) (n := 200) (fun i H19 => ∃ vs : List V, Same H18 H19 ∧ H19 D4 = some (.lst vs) ∧ LVs H19 vs (((List.range 200).map fun s => some (List.replicate s zOn)).take i)) ?_ ?_ ?_
    · exact ⟨[], same_upd nD4, upd_same, rfl, fun i v o x y => (nomatch x)⟩
    · rintro i H19 hi ⟨vs, s19, hD19, hvs⟩
      have hvl := hvs.1
      rw [List.length_take] at hvl
      have hgi : ((List.range 200).map fun s => some (List.replicate s zOn))[i]? = some (some (List.replicate i zOn)) := by
        rw [List.getElem?_map, List.getElem?_range hi]
        rfl
      refine ⟨rfl, (show 1 ≤ sizeLine by decide), fun t4 nt4 => ?_⟩
      have st4 := same_upd (o := .tup [V.str "on"]) nt4
      refine ⟨.int (0 + (i : Nat)), rfl, t4, 0 + (i : Nat), [V.str "on"], rfl, rfl, upd_same, by simp, by omega, by omega, by show 1 ≤ 1000; decide, fun tn H20 s20 e20 => ?_⟩
      rw [show (0 + ((i : Nat) : Int)).toNat = i by omega, flat_rep, map_rep] at e20
      have htn : Tp H20 tn (List.replicate i zOn) := e20
      have s420 := st4.trans s20
      have hD20 := s420 _ _ hD19
      refine ⟨_, hD20, small1000 (by omega), vs ++ [.ref tn], same_put2 (s19.trans s420) nD4, upd_same, ?_⟩
      rw [List.take_add_one, hgi]
      have tk := tk_upd (ys := vs ++ [.ref tn]) hD20
      exact LVs.snoc (o := some (List.replicate i zOn)) (tk.lvs (hvs.same s420)) ⟨tn, rfl, tk.tp htn⟩
    rintro H19 ⟨vs, s19, hD19, hvs⟩
    rw [List.take_of_length_le (by rw [List.length_map, List.length_range]; exact Nat.le_refl _)] at hvs
    refine ⟨D4, _, rfl, .inl ⟨sql hD19, fun tt ntt => ?_⟩⟩
    have stt := same_upd (o := .tup vs) ntt
    obtain ⟨us2, e21, e22⟩ := (htl.same s19).same stt
    have hvs2 := hvs.same stt
    have hsh : SeqAt.shaped (.tuple (((List.range 200).map fun s => some (List.replicate s zOn)).map dO)) = true := by
      have := dO_shaped (flg_ok lsG_ok okG.rw)
      rw [flG] at this
      exact this
    refine ⟨.tuple (((List.range 200).map fun s => some (List.replicate s zOn)).map dO), .tuple (((List.range 200).map fun s => some (List.replicate s zOn)).map dO), .tup (sqt e21) (dp_lvs e22), .tup (sqt upd_same) (dp_lvs hvs2), hsh, hsh, _, rfl, ?_⟩
    have er : PyData.eqv (.tuple (((List.range 200).map fun s => some (List.replicate s zOn)).map dO)) (.tuple (((List.range 200).map fun s => some (List.replicate s zOn)).map dO)) = true := dO_refl _
    rw [er]
    refine iteF ?_
    have hM20 := (hM18.same s19).same stt
    have sT20 := (sT18.trans s19).trans stt
    generalize hH20 : upd H19 tt _ = H20 at *
    -- the last two
    refine ⟨.ref M, rfl, (show 1 ≤ sizeLine by decide), fun t5 nt5 => ?_⟩
    have st5 := same_upd (o := .tup [V.str "back"]) nt5
    refine ⟨t5, 200, [V.str "back"], rfl, rfl, upd_same, by simp, by decide, by decide, by show 1 ≤ 1000; decide, fun bk H21 s21 e21 => ?_⟩
    rw [show ((200 : Int)).toNat = 200 from rfl, flat_rep, map_rep] at e21
    have hbk : Tp H21 bk (List.replicate 200 zBack) := e21
    have s521 := st5.trans s21
    have hM21 := hM20.same s521
    have subBk : ∀ z ∈ List.replicate 200 zBack, z ∈ lsG := fun z hz => by
      rw [List.eq_of_mem_replicate hz]
      decide
    refine ⟨rfl, rfl, M, L, R, G, bk, lsG, rwG, gdG, _, 150, rfl, hM21, okG, hbk, lg_of lsG_ok subBk (by rw [List.length_replicate]; decide), subBk, by rw [rwG_len]; decide, fun H22 s22 => ?_⟩
    rw [factG4]
    refine ⟨rfl, _, rfl, iteT ?_⟩
    have hM22 := hM21.same s22
    refine ⟨.ref M, rfl, (show 2 ≤ sizeLine by decide), fun t6 nt6 => ?_⟩
    have st6 := same_upd (o := .tup [V.str "on", V.str "back"]) nt6
    refine ⟨t6, 100, [V.str "on", V.str "back"], rfl, rfl, upd_same, by simp, by decide, by decide, by show 2 ≤ 1000; decide, fun ob' H23 s23 e23 => ?_⟩
    have e100 : (List.replicate ((100 : Int)).toNat [V.str "on", V.str "back"]).flatten = ((List.replicate 100 [zOn, zBack]).flatten).map V.str := by
      rw [List.map_flatten, List.map_replicate]
      rfl
    rw [e100] at e23
    have s623 := st6.trans s23
    have hM23 := hM22.same s623
    have subOb : ∀ z ∈ (List.replicate 100 [zOn, zBack]).flatten, z ∈ lsG := fun z hz => by
      obtain ⟨l, hl, hz⟩ := List.mem_flatten.mp hz
      rw [List.eq_of_mem_replicate hl] at hz
      rcases List.mem_cons.mp hz with h | h
      · rw [h]
        decide
      · rw [List.mem_singleton.mp h]
        decide
    refine ⟨M, L, R, G, ob', lsG, rwG, gdG, _, rfl, hM23, okG, e23, lg_of lsG_ok subOb (by decide +kernel), subOb, fun H24 s24 => ?_⟩
    rw [factG5]
    exact ⟨_, rfl, q _ (sT20.trans (((s521.trans s22).trans s623).trans s24))⟩
end
end Sfl
namespace Sfl
open PySem PySem.Spec PyProof.Rows L2
theorem Kp.same_new {a : Addr} {H H1 H2 : Hp} (s : Same H H1) (k : Kp a H1 H2) (h : H a = none) : Same H H2 := fun b o e => k b o (ne_of_none e h) (s b o e)
section
variable {P : Program} {w : World} {K : PySem.W.Frag} {mg : Str → Option Value} {base : Heap}
theorem scLaw : FnScope ["script", "at", "dice", "turn"] ["script"] (defScope sLaw) := ⟨rfl, rfl, rfl, by decide +kernel, rfl, by decide +kernel, by decide +kernel⟩
def spLaw (K : PySem.W.Frag) : Sp := fun vs H Q _ => ∃ (a : Addr) (ns : List Int), vs = [.ref a] ∧ SqL K H a (ns.map V.int) ∧ ns.length ≤ 63 ∧ ∀ H', Q (.bl true) H'
theorem ok_law {f : Addr} {fd : FuncData} {k : Nat} (F : Fun K "law" "law" sLaw f fd) (B : Bn mg) (A1 : Cal P w K mg base k "_law_dice" ["script", "spot"] (spDice K)) (A2 : Cal P w K mg base k "_law_right" ["dice"] spRight)
    (A3 : Cal P w K mg base k "_law_great_right" [] spGreat) : FnOk P w K mg base CX0 (k + 1) f fd ["script"] (spLaw K) := by
  obtain ⟨f1, fd1, G1, g1, kp1, b1⟩ := A1
  obtain ⟨f2, fd2, G2, g2, kp2, b2⟩ := A2
  obtain ⟨f3, fd3, G3, g3, kp3, b3⟩ := A3
  refine F.ok scLaw (fun vs H Q E h => ?_) (fun cdv A outer s H vs Q E hr h => ?_)
  · obtain ⟨a, ns, rfl, _⟩ := h
    rfl
  · obtain ⟨sc, ns, rfl, hs, hns, q⟩ := h
    refine ⟨_, pss_cons (ps_for PassesOwn.never rfl (pi_range1 rfl B.range (pa_cons (pe_callB (call_max2 rfl) (by rfl) B.max (by decide +kernel) (pa_cons pe_int (pa_cons (pe_callB (call_min2 rfl) (by rfl) B.min (by decide +kernel) (pa_cons pe_int (pa_cons (pe_callB call_len_seq (by rfl) B.len PySem.boot_len (pa_cons (pv 0) pa_nil)) pa_nil))) pa_nil))) pa_nil)) (pg_name (i := 1) scLaw.nd rfl (Or.inl rfl))
        (pss_cons (ps_set (i := 2) scLaw.nd rfl (.inl rfl) (pe_call G1 hr (by rfl) g1 kp1 b1 .nil pass0 (pa_cons (pv 0) (pa_cons (pv 1) pa_nil))))
        (pss_one (ps_for PassesOwn.never rfl (pi_range1 rfl B.range (pa_cons pe_int pa_nil)) (pg_name (i := 3) scLaw.nd rfl (Or.inl rfl))
          (pss_one (ps_if (pt_not (pt_val (pe_call G2 hr (by rfl) g2 kp2 b2 .nil pass0 (pa_cons (pv 2) pa_nil)))) (pss_one (ps_ret pe_bl)) pss_nil))))))
      (pss_one (ps_ret (pe_call0 G3 hr (by rfl) g3 kp3 b3 .nil pass0))), ?_⟩
    refine ⟨_, rfl, sc, _, rfl, .inl hs, _, _, rfl, _, _, rfl, _, rfl, ?_, ?_, ?_⟩
    · rw [List.length_map]
      split <;> (try split) <;> omega
    · rw [List.length_map]
      split <;> (try split) <;> omega
    have hX : (if (if ((ns.map V.int).length : Int) < 6 then ((ns.map V.int).length : Int) else 6) > 1 then (if ((ns.map V.int).length : Int) < 6 then ((ns.map V.int).length : Int) else 6) else 1).toNat ≤ 100 := by
      rw [List.length_map]
      split <;> (try split) <;> omega
    generalize (if (if ((ns.map V.int).length : Int) < 6 then ((ns.map V.int).length : Int) else 6) > 1 then (if ((ns.map V.int).length : Int) < 6 then ((ns.map V.int).length : Int) else 6) else 1).toNat = n0 at hX ⊢
    refine for_range (lo := 0) (n := n0) (fun i σ H3 => ∃ y1 y2 y3, σ = [some (.ref sc), y1, y2, y3] ∧ Same H H3) ⟨_, _, _, rfl, Same.refl H⟩ ?_ ?_
    · rintro i σ H3 hi ⟨y1, y2, y3, rfl, s3⟩
      rw [show (0 : Int) + ((i : Nat) : Int) = ((i : Nat) : Int) by omega]
      refine ⟨_, rfl, _, rfl, sc, ns, i, rfl, s3.seq hs, by omega, fun H4 a s4 na d4 => ?_⟩
      refine ⟨3, rfl, by decide, by decide, ?_⟩
      have hmm : mmax = 1000000 := rfl
      refine for_range (lo := 0) (n := 3) (fun t σ H8 => ∃ y1 y3, σ = [some (.ref sc), y1, some (.ref a), y3] ∧ Same H3 H8 ∧ Dc H8 a (200 * t)) ?_ ?_ ?_
      · exact ⟨_, _, rfl, s4, d4⟩
      · rintro t σ H8 ht ⟨z1, z3, rfl, s8, d8⟩
        refine ⟨_, rfl, a, 200 * t, rfl, d8, by omega, fun H9 k9 d9 => ⟨_, rfl, iteF ⟨_, _, rfl, Kp.same_new s8 k9 na, d9.mono (by omega)⟩⟩⟩
      · rintro σ H8 ⟨z1, z3, rfl, s8, d8⟩
        exact ⟨_, _, _, rfl, s3.trans s8⟩
    · rintro σ H3 ⟨y1, y2, y3, rfl, s3⟩
      exact ⟨rfl, fun H' s' => q H'⟩
end
end Sfl
namespace Sfl
open PySem PySem.Spec PyProof.Rows L2
set_option maxHeartbeats 0 in
theorem all_mk {l : PySem.W.OpenLaw} {w : World} {K : PySem.W.Frag} {h : Heap} {mg : Str → Option Value} {fa fa0 fa1 fa2 fa3 fa4 fa5 fa6 fa7 fa8 fa9 fa10 fa11 fa12 fa13 fa14 fa15 fa16 fa17 fa18 fa19 fa20 fa21 fa22 fa23 fa24 fa25 fa26 fa27 fa28 fa29 fa30 fa31 fa32 : Addr} (X : K.In h) (G : h.Ns mainGlobals mg) (hfa : mg "law" = some (.ref fa))
    {oda0 ana0 oda1 ana1 oda2 ana2 oda3 ana3 oda4 ana4 oda5 ana5 oda6 ana6 oda7 ana7 oda8 ana8 oda9 ana9 oda10 ana10 oda11 ana11 oda12 ana12 oda13 ana13 oda14 ana14 oda15 ana15 oda16 ana16 oda17 ana17 oda18 ana18 oda19 ana19 oda20 ana20 oda21 ana21 oda22 ana22 oda23 ana23 oda24 ana24 oda25 ana25 oda26 ana26 oda27 ana27 oda28 ana28 oda29 ana29 oda30 ana30 oda31 ana31 oda32 ana32 : Option Addr} {sla0 sla1 sla2 sla3 sla4 sla5 sla6 sla7 sla8 sla9 sla10 sla11 sla12 sla13 sla14 sla15 sla16 sla17 sla18 sla19 sla20 sla21 sla22 sla23 sla24 sla25 sla26 sla27 sla28 sla29 sla30 sla31 sla32 : Array (Option Value)} {oca0 kVa0 dca0 pma0 cda0 cta0 oca1 kVa1 dca1 pma1 cda1 cta1 oca2 kVa2 dca2 pma2 cda2 cta2 oca3 kVa3 dca3 pma3 cda3 cta3 oca4 kVa4 dca4 pma4 cda4 cta4 oca5 kVa5 dca5 pma5 cda5 cta5 oca6 kVa6 dca6 pma6 cda6 cta6 oca7 kVa7 dca7 pma7 cda7 cta7 oca8 kVa8 dca8 pma8 cda8 cta8 oca9 kVa9 dca9 pma9 cda9 cta9 oca10 kVa10 dca10 pma10 cda10 cta10 oca11 kVa11 dca11 pma11 cda11 cta11 oca12 kVa12 dca12 pma12 cda12 cta12 oca13 kVa13 dca13 pma13 cda13 cta13 oca14 kVa14 dca14 pma14 cda14 cta14 oca15 kVa15 dca15 pma15 cda15 cta15 oca16 dca16 pma16 cda16 cta16 oca17 kVa17 dca17 pma17 cda17 cta17 oca18 kVa18 dca18 pma18 cda18 cta18 oca19 kVa19 dca19 pma19 cda19 cta19 oca20 kVa20 dca20 pma20 cda20 cta20 oca21 kVa21 dca21 pma21 cda21 cta21 oca22 kVa22 dca22 pma22 cda22 cta22 oca23 kVa23 dca23 pma23 cda23 cta23 oca24 kVa24 dca24 pma24 cda24 cta24 oca25 kVa25 dca25 pma25 cda25 cta25 oca26 kVa26 dca26 pma26 cda26 cta26 oca27 kVa27 dca27 pma27 cda27 cta27 oca28 kVa28 dca28 pma28 cda28 cta28 oca29 kVa29 dca29 pma29 cda29 cta29 oca30 kVa30 dca30 pma30 cda30 cta30 oca31 kVa31 dca31 pma31 cda31 cta31 oca32 kVa32 dca32 pma32 cda32 cta32 : Value}
    (na0 : PySem.W.nsIn K mainGlobals "is_whole" = some (some (.ref fa0))) (la0 : K.lookup fa0 = some ⟨oca0, oda0, .func (PySem.W.fnOf "is_whole" "is_whole" (defArgs sIsWhole) (defBody sIsWhole) (defScope sIsWhole) .none kVa0 dca0 pma0 ana0 cda0 cta0), sla0⟩) (ca0 : PySem.W.codeIn K cda0 "is_whole" = true) (ka0 : PySem.W.keepIn K (.ref fa0) = true)
    (na1 : PySem.W.nsIn K mainGlobals "is_name" = some (some (.ref fa1))) (la1 : K.lookup fa1 = some ⟨oca1, oda1, .func (PySem.W.fnOf "is_name" "is_name" (defArgs sIsName) (defBody sIsName) (defScope sIsName) .none kVa1 dca1 pma1 ana1 cda1 cta1), sla1⟩) (ca1 : PySem.W.codeIn K cda1 "is_name" = true) (ka1 : PySem.W.keepIn K (.ref fa1) = true)
    (na2 : PySem.W.nsIn K mainGlobals "is_ascending" = some (some (.ref fa2))) (la2 : K.lookup fa2 = some ⟨oca2, oda2, .func (PySem.W.fnOf "is_ascending" "is_ascending" (defArgs sIsAscending) (defBody sIsAscending) (defScope sIsAscending) .none kVa2 dca2 pma2 ana2 cda2 cta2), sla2⟩) (ca2 : PySem.W.codeIn K cda2 "is_ascending" = true) (ka2 : PySem.W.keepIn K (.ref fa2) = true)
    (na3 : PySem.W.nsIn K mainGlobals "check_number" = some (some (.ref fa3))) (la3 : K.lookup fa3 = some ⟨oca3, oda3, .func (PySem.W.fnOf "check_number" "check_number" (defArgs sCheckNumber) (defBody sCheckNumber) (defScope sCheckNumber) .none kVa3 dca3 pma3 ana3 cda3 cta3), sla3⟩) (ca3 : PySem.W.codeIn K cda3 "check_number" = true) (ka3 : PySem.W.keepIn K (.ref fa3) = true)
    (na4 : PySem.W.nsIn K mainGlobals "is_any_log" = some (some (.ref fa4))) (la4 : K.lookup fa4 = some ⟨oca4, oda4, .func (PySem.W.fnOf "is_any_log" "is_any_log" (defArgs sIsAnyLog) (defBody sIsAnyLog) (defScope sIsAnyLog) .none kVa4 dca4 pma4 ana4 cda4 cta4), sla4⟩) (ca4 : PySem.W.codeIn K cda4 "is_any_log" = true) (ka4 : PySem.W.keepIn K (.ref fa4) = true)
    (na5 : PySem.W.nsIn K mainGlobals "is_letters" = some (some (.ref fa5))) (la5 : K.lookup fa5 = some ⟨oca5, oda5, .func (PySem.W.fnOf "is_letters" "is_letters" (defArgs sIsLetters) (defBody sIsLetters) (defScope sIsLetters) .none kVa5 dca5 pma5 ana5 cda5 cta5), sla5⟩) (ca5 : PySem.W.codeIn K cda5 "is_letters" = true) (ka5 : PySem.W.keepIn K (.ref fa5) = true)
    (na6 : PySem.W.nsIn K mainGlobals "state_after" = some (some (.ref fa6))) (la6 : K.lookup fa6 = some ⟨oca6, oda6, .func (PySem.W.fnOf "state_after" "state_after" (defArgs sStateAfter) (defBody sStateAfter) (defScope sStateAfter) .none kVa6 dca6 pma6 ana6 cda6 cta6), sla6⟩) (ca6 : PySem.W.codeIn K cda6 "state_after" = true) (ka6 : PySem.W.keepIn K (.ref fa6) = true)
    (na7 : PySem.W.nsIn K mainGlobals "are_rows" = some (some (.ref fa7))) (la7 : K.lookup fa7 = some ⟨oca7, oda7, .func (PySem.W.fnOf "are_rows" "are_rows" (defArgs sAreRows) (defBody sAreRows) (defScope sAreRows) .none kVa7 dca7 pma7 ana7 cda7 cta7), sla7⟩) (ca7 : PySem.W.codeIn K cda7 "are_rows" = true) (ka7 : PySem.W.keepIn K (.ref fa7) = true)
    (na8 : PySem.W.nsIn K mainGlobals "is_machine" = some (some (.ref fa8))) (la8 : K.lookup fa8 = some ⟨oca8, oda8, .func (PySem.W.fnOf "is_machine" "is_machine" (defArgs sIsMachine) (defBody sIsMachine) (defScope sIsMachine) .none kVa8 dca8 pma8 ana8 cda8 cta8), sla8⟩) (ca8 : PySem.W.codeIn K cda8 "is_machine" = true) (ka8 : PySem.W.keepIn K (.ref fa8) = true)
    (na9 : PySem.W.nsIn K mainGlobals "check_machine" = some (some (.ref fa9))) (la9 : K.lookup fa9 = some ⟨oca9, oda9, .func (PySem.W.fnOf "check_machine" "check_machine" (defArgs sCheckMachine) (defBody sCheckMachine) (defScope sCheckMachine) .none kVa9 dca9 pma9 ana9 cda9 cta9), sla9⟩) (ca9 : PySem.W.codeIn K cda9 "check_machine" = true) (ka9 : PySem.W.keepIn K (.ref fa9) = true)
    (na10 : PySem.W.nsIn K mainGlobals "is_log_over" = some (some (.ref fa10))) (la10 : K.lookup fa10 = some ⟨oca10, oda10, .func (PySem.W.fnOf "is_log_over" "is_log_over" (defArgs sIsLogOver) (defBody sIsLogOver) (defScope sIsLogOver) .none kVa10 dca10 pma10 ana10 cda10 cta10), sla10⟩) (ca10 : PySem.W.codeIn K cda10 "is_log_over" = true) (ka10 : PySem.W.keepIn K (.ref fa10) = true)
    (na11 : PySem.W.nsIn K mainGlobals "check_log_over" = some (some (.ref fa11))) (la11 : K.lookup fa11 = some ⟨oca11, oda11, .func (PySem.W.fnOf "check_log_over" "check_log_over" (defArgs sCheckLogOver) (defBody sCheckLogOver) (defScope sCheckLogOver) .none kVa11 dca11 pma11 ana11 cda11 cta11), sla11⟩) (ca11 : PySem.W.codeIn K cda11 "check_log_over" = true) (ka11 : PySem.W.keepIn K (.ref fa11) = true)
    (na12 : PySem.W.nsIn K mainGlobals "path_of" = some (some (.ref fa12))) (la12 : K.lookup fa12 = some ⟨oca12, oda12, .func (PySem.W.fnOf "path_of" "path_of" (defArgs sPathOf) (defBody sPathOf) (defScope sPathOf) .none kVa12 dca12 pma12 ana12 cda12 cta12), sla12⟩) (ca12 : PySem.W.codeIn K cda12 "path_of" = true) (ka12 : PySem.W.keepIn K (.ref fa12) = true)
    (na13 : PySem.W.nsIn K mainGlobals "log_of" = some (some (.ref fa13))) (la13 : K.lookup fa13 = some ⟨oca13, oda13, .func (PySem.W.fnOf "log_of" "log_of" (defArgs sLogOf) (defBody sLogOf) (defScope sLogOf) .none kVa13 dca13 pma13 ana13 cda13 cta13), sla13⟩) (ca13 : PySem.W.codeIn K cda13 "log_of" = true) (ka13 : PySem.W.keepIn K (.ref fa13) = true)
    (na14 : PySem.W.nsIn K mainGlobals "state_of" = some (some (.ref fa14))) (la14 : K.lookup fa14 = some ⟨oca14, oda14, .func (PySem.W.fnOf "state_of" "state_of" (defArgs sStateOf) (defBody sStateOf) (defScope sStateOf) .none kVa14 dca14 pma14 ana14 cda14 cta14), sla14⟩) (ca14 : PySem.W.codeIn K cda14 "state_of" = true) (ka14 : PySem.W.keepIn K (.ref fa14) = true)
    (na15 : PySem.W.nsIn K mainGlobals "label_of" = some (some (.ref fa15))) (la15 : K.lookup fa15 = some ⟨oca15, oda15, .func (PySem.W.fnOf "label_of" "label_of" (defArgs sLabelOf) (defBody sLabelOf) (defScope sLabelOf) .none kVa15 dca15 pma15 ana15 cda15 cta15), sla15⟩) (ca15 : PySem.W.codeIn K cda15 "label_of" = true) (ka15 : PySem.W.keepIn K (.ref fa15) = true)
    {Dka16 : Addr} {tka16 : Tok} (na16 : PySem.W.nsIn K mainGlobals "state_behind" = some (some (.ref fa16))) (la16 : K.lookup fa16 = some ⟨oca16, oda16, .func (PySem.W.fnOf "state_behind" "state_behind" (defArgs sStateBehind) (defBody sStateBehind) (defScope sStateBehind) .none (.ref Dka16) dca16 pma16 ana16 cda16 cta16), sla16⟩) (ca16 : PySem.W.codeIn K cda16 "state_behind" = true) (ka16 : PySem.W.keepIn K (.ref fa16) = true)
    (wa16 : PySem.W.nsIn K Dka16 "begin" = some (some (.int 0 tka16)))
    (na17 : PySem.W.nsIn K mainGlobals "contains" = some (some (.ref fa17))) (la17 : K.lookup fa17 = some ⟨oca17, oda17, .func (PySem.W.fnOf "contains" "contains" (defArgs sContains) (defBody sContains) (defScope sContains) .none kVa17 dca17 pma17 ana17 cda17 cta17), sla17⟩) (ca17 : PySem.W.codeIn K cda17 "contains" = true) (ka17 : PySem.W.keepIn K (.ref fa17) = true)
    (na18 : PySem.W.nsIn K mainGlobals "first_paths" = some (some (.ref fa18))) (la18 : K.lookup fa18 = some ⟨oca18, oda18, .func (PySem.W.fnOf "first_paths" "first_paths" (defArgs sFirstPaths) (defBody sFirstPaths) (defScope sFirstPaths) .none kVa18 dca18 pma18 ana18 cda18 cta18), sla18⟩) (ca18 : PySem.W.codeIn K cda18 "first_paths" = true) (ka18 : PySem.W.keepIn K (.ref fa18) = true)
    (na19 : PySem.W.nsIn K mainGlobals "first_logs" = some (some (.ref fa19))) (la19 : K.lookup fa19 = some ⟨oca19, oda19, .func (PySem.W.fnOf "first_logs" "first_logs" (defArgs sFirstLogs) (defBody sFirstLogs) (defScope sFirstLogs) .none kVa19 dca19 pma19 ana19 cda19 cta19), sla19⟩) (ca19 : PySem.W.codeIn K cda19 "first_logs" = true) (ka19 : PySem.W.keepIn K (.ref fa19) = true)
    (na20 : PySem.W.nsIn K mainGlobals "_law_dice" = some (some (.ref fa20))) (la20 : K.lookup fa20 = some ⟨oca20, oda20, .func (PySem.W.fnOf "_law_dice" "_law_dice" (defArgs sDice) (defBody sDice) (defScope sDice) .none kVa20 dca20 pma20 ana20 cda20 cta20), sla20⟩) (ca20 : PySem.W.codeIn K cda20 "_law_dice" = true) (ka20 : PySem.W.keepIn K (.ref fa20) = true)
    (na21 : PySem.W.nsIn K mainGlobals "_law_roll" = some (some (.ref fa21))) (la21 : K.lookup fa21 = some ⟨oca21, oda21, .func (PySem.W.fnOf "_law_roll" "_law_roll" (defArgs sRoll) (defBody sRoll) (defScope sRoll) .none kVa21 dca21 pma21 ana21 cda21 cta21), sla21⟩) (ca21 : PySem.W.codeIn K cda21 "_law_roll" = true) (ka21 : PySem.W.keepIn K (.ref fa21) = true)
    (na22 : PySem.W.nsIn K mainGlobals "_law_pick" = some (some (.ref fa22))) (la22 : K.lookup fa22 = some ⟨oca22, oda22, .func (PySem.W.fnOf "_law_pick" "_law_pick" (defArgs sPick) (defBody sPick) (defScope sPick) .none kVa22 dca22 pma22 ana22 cda22 cta22), sla22⟩) (ca22 : PySem.W.codeIn K cda22 "_law_pick" = true) (ka22 : PySem.W.keepIn K (.ref fa22) = true)
    (na23 : PySem.W.nsIn K mainGlobals "_law_mixed" = some (some (.ref fa23))) (la23 : K.lookup fa23 = some ⟨oca23, oda23, .func (PySem.W.fnOf "_law_mixed" "_law_mixed" (defArgs sMixed) (defBody sMixed) (defScope sMixed) .none kVa23 dca23 pma23 ana23 cda23 cta23), sla23⟩) (ca23 : PySem.W.codeIn K cda23 "_law_mixed" = true) (ka23 : PySem.W.keepIn K (.ref fa23) = true)
    (na24 : PySem.W.nsIn K mainGlobals "_law_letters" = some (some (.ref fa24))) (la24 : K.lookup fa24 = some ⟨oca24, oda24, .func (PySem.W.fnOf "_law_letters" "_law_letters" (defArgs sLetters) (defBody sLetters) (defScope sLetters) .none kVa24 dca24 pma24 ana24 cda24 cta24), sla24⟩) (ca24 : PySem.W.codeIn K cda24 "_law_letters" = true) (ka24 : PySem.W.keepIn K (.ref fa24) = true)
    (na25 : PySem.W.nsIn K mainGlobals "_law_log" = some (some (.ref fa25))) (la25 : K.lookup fa25 = some ⟨oca25, oda25, .func (PySem.W.fnOf "_law_log" "_law_log" (defArgs sLog) (defBody sLog) (defScope sLog) .none kVa25 dca25 pma25 ana25 cda25 cta25), sla25⟩) (ca25 : PySem.W.codeIn K cda25 "_law_log" = true) (ka25 : PySem.W.keepIn K (.ref fa25) = true)
    (na26 : PySem.W.nsIn K mainGlobals "_law_rows" = some (some (.ref fa26))) (la26 : K.lookup fa26 = some ⟨oca26, oda26, .func (PySem.W.fnOf "_law_rows" "_law_rows" (defArgs sRows) (defBody sRows) (defScope sRows) .none kVa26 dca26 pma26 ana26 cda26 cta26), sla26⟩) (ca26 : PySem.W.codeIn K cda26 "_law_rows" = true) (ka26 : PySem.W.keepIn K (.ref fa26) = true)
    (na27 : PySem.W.nsIn K mainGlobals "_law_words" = some (some (.ref fa27))) (la27 : K.lookup fa27 = some ⟨oca27, oda27, .func (PySem.W.fnOf "_law_words" "_law_words" (defArgs sWords) (defBody sWords) (defScope sWords) .none kVa27 dca27 pma27 ana27 cda27 cta27), sla27⟩) (ca27 : PySem.W.codeIn K cda27 "_law_words" = true) (ka27 : PySem.W.keepIn K (.ref fa27) = true)
    (na28 : PySem.W.nsIn K mainGlobals "_law_machine" = some (some (.ref fa28))) (la28 : K.lookup fa28 = some ⟨oca28, oda28, .func (PySem.W.fnOf "_law_machine" "_law_machine" (defArgs sMachine) (defBody sMachine) (defScope sMachine) .none kVa28 dca28 pma28 ana28 cda28 cta28), sla28⟩) (ca28 : PySem.W.codeIn K cda28 "_law_machine" = true) (ka28 : PySem.W.keepIn K (.ref fa28) = true)
    (na29 : PySem.W.nsIn K mainGlobals "_law_behind" = some (some (.ref fa29))) (la29 : K.lookup fa29 = some ⟨oca29, oda29, .func (PySem.W.fnOf "_law_behind" "_law_behind" (defArgs sBehind) (defBody sBehind) (defScope sBehind) .none kVa29 dca29 pma29 ana29 cda29 cta29), sla29⟩) (ca29 : PySem.W.codeIn K cda29 "_law_behind" = true) (ka29 : PySem.W.keepIn K (.ref fa29) = true)
    (na30 : PySem.W.nsIn K mainGlobals "_law_right" = some (some (.ref fa30))) (la30 : K.lookup fa30 = some ⟨oca30, oda30, .func (PySem.W.fnOf "_law_right" "_law_right" (defArgs sRight) (defBody sRight) (defScope sRight) .none kVa30 dca30 pma30 ana30 cda30 cta30), sla30⟩) (ca30 : PySem.W.codeIn K cda30 "_law_right" = true) (ka30 : PySem.W.keepIn K (.ref fa30) = true)
    (na31 : PySem.W.nsIn K mainGlobals "_law_great_right" = some (some (.ref fa31))) (la31 : K.lookup fa31 = some ⟨oca31, oda31, .func (PySem.W.fnOf "_law_great_right" "_law_great_right" (defArgs sGreat) (defBody sGreat) (defScope sGreat) .none kVa31 dca31 pma31 ana31 cda31 cta31), sla31⟩) (ca31 : PySem.W.codeIn K cda31 "_law_great_right" = true) (ka31 : PySem.W.keepIn K (.ref fa31) = true)
    (na32 : PySem.W.nsIn K mainGlobals "law" = some (some (.ref fa32))) (la32 : K.lookup fa32 = some ⟨oca32, oda32, .func (PySem.W.fnOf "law" "law" (defArgs sLaw) (defBody sLaw) (defScope sLaw) .none kVa32 dca32 pma32 ana32 cda32 cta32), sla32⟩) (ca32 : PySem.W.codeIn K cda32 "law" = true) (ka32 : PySem.W.keepIn K (.ref fa32) = true)
    (z_len : PySem.W.nsIn K mainGlobals "len" = some none)
    (z_enumerate : PySem.W.nsIn K mainGlobals "enumerate" = some none)
    (z_tuple : PySem.W.nsIn K mainGlobals "tuple" = some none)
    (z_isinstance : PySem.W.nsIn K mainGlobals "isinstance" = some none)
    (z_str : PySem.W.nsIn K mainGlobals "str" = some none)
    (z_all : PySem.W.nsIn K mainGlobals "all" = some none)
    (z_range : PySem.W.nsIn K mainGlobals "range" = some none)
    (z_min : PySem.W.nsIn K mainGlobals "min" = some none)
    (z_max : PySem.W.nsIn K mainGlobals "max" = some none)
    (z_list : PySem.W.nsIn K mainGlobals "list" = some none)
    (z_sorted : PySem.W.nsIn K mainGlobals "sorted" = some none)
    (z_abs : PySem.W.nsIn K mainGlobals "abs" = some none)
    (z_int : PySem.W.nsIn K mainGlobals "int" = some none)
    (z_repr : PySem.W.nsIn K mainGlobals "repr" = some none)
    (z_zip : PySem.W.nsIn K mainGlobals "zip" = some none)
    (z_bool : PySem.W.nsIn K mainGlobals "bool" = some none)
    {tS tE tL tM : Tok} (zS : PySem.W.nsIn K mainGlobals "MAX_SIGNS" = some (some (.int 8 tS))) (zL : PySem.W.nsIn K mainGlobals "MAX_LETTERS" = some (some (.int 4 tL))) (zM : PySem.W.nsIn K mainGlobals "MAX_STATES" = some (some (.int 200 tM))) (zE : PySem.W.nsIn K mainGlobals "MAX_EVENTS" = some (some (.int 200 tE))) :
    ∃ fd : FuncData, (∀ (s : Shared) (v : Value), BindsTo s fd ⟨[v], []⟩ [("script", v)]) ∧ ∀ base : Heap, K.In base → base.Ns mainGlobals mg → FnOk l.prog w K mg base CX0 7 fa fd ["script"] (spLaw K) := by
  have e := hfa.symm.trans (PySem.W.mg_of X G na32)
  cases e
  have B : Bn mg := ⟨PySem.W.mg_none_of X G z_len, PySem.W.mg_none_of X G z_enumerate, PySem.W.mg_none_of X G z_tuple, PySem.W.mg_none_of X G z_isinstance, PySem.W.mg_none_of X G z_str, PySem.W.mg_none_of X G z_all, PySem.W.mg_none_of X G z_range, PySem.W.mg_none_of X G z_min, PySem.W.mg_none_of X G z_max, PySem.W.mg_none_of X G z_list, PySem.W.mg_none_of X G z_sorted, PySem.W.mg_none_of X G z_abs, PySem.W.mg_none_of X G z_int, PySem.W.mg_none_of X G z_repr, PySem.W.mg_none_of X G z_zip, PySem.W.mg_none_of X G z_bool, ⟨_, PySem.W.mg_of X G zS⟩, ⟨_, PySem.W.mg_of X G zL⟩, ⟨_, PySem.W.mg_of X G zM⟩, ⟨_, PySem.W.mg_of X G zE⟩⟩
  have Fa0 := fun_mk (st := sIsWhole) la0 ca0 ka0
  have Ba0 := Fa0.binds (ps := ["value"]) fun _ _ _ _ _ _ us hl => match us, hl with | [_], _ => rfl
  have Fa1 := fun_mk (st := sIsName) la1 ca1 ka1
  have Ba1 := Fa1.binds (ps := ["value"]) fun _ _ _ _ _ _ us hl => match us, hl with | [_], _ => rfl
  have Fa2 := fun_mk (st := sIsAscending) la2 ca2 ka2
  have Ba2 := Fa2.binds (ps := ["row"]) fun _ _ _ _ _ _ us hl => match us, hl with | [_], _ => rfl
  have Fa3 := fun_mk (st := sCheckNumber) la3 ca3 ka3
  have Ba3 := Fa3.binds (ps := ["value", "least", "most"]) fun _ _ _ _ _ _ us hl => match us, hl with | [_, _, _], _ => rfl
  have Fa4 := fun_mk (st := sIsAnyLog) la4 ca4 ka4
  have Ba4 := Fa4.binds (ps := ["value"]) fun _ _ _ _ _ _ us hl => match us, hl with | [_], _ => rfl
  have Fa5 := fun_mk (st := sIsLetters) la5 ca5 ka5
  have Ba5 := Fa5.binds (ps := ["value"]) fun _ _ _ _ _ _ us hl => match us, hl with | [_], _ => rfl
  have Fa6 := fun_mk (st := sStateAfter) la6 ca6 ka6
  have Ba6 := Fa6.binds (ps := ["rows", "begin", "path"]) fun _ _ _ _ _ _ us hl => match us, hl with | [_, _, _], _ => rfl
  have Fa7 := fun_mk (st := sAreRows) la7 ca7 ka7
  have Ba7 := Fa7.binds (ps := ["letters", "value", "most"]) fun _ _ _ _ _ _ us hl => match us, hl with | [_, _, _], _ => rfl
  have Fa8 := fun_mk (st := sIsMachine) la8 ca8 ka8
  have Ba8 := Fa8.binds (ps := ["value"]) fun _ _ _ _ _ _ us hl => match us, hl with | [_], _ => rfl
  have Fa9 := fun_mk (st := sCheckMachine) la9 ca9 ka9
  have Ba9 := Fa9.binds (ps := ["value"]) fun _ _ _ _ _ _ us hl => match us, hl with | [_], _ => rfl
  have Fa10 := fun_mk (st := sIsLogOver) la10 ca10 ka10
  have Ba10 := Fa10.binds (ps := ["letters", "value"]) fun _ _ _ _ _ _ us hl => match us, hl with | [_, _], _ => rfl
  have Fa11 := fun_mk (st := sCheckLogOver) la11 ca11 ka11
  have Ba11 := Fa11.binds (ps := ["letters", "value"]) fun _ _ _ _ _ _ us hl => match us, hl with | [_, _], _ => rfl
  have Fa12 := fun_mk (st := sPathOf) la12 ca12 ka12
  have Ba12 := Fa12.binds (ps := ["letters", "log"]) fun _ _ _ _ _ _ us hl => match us, hl with | [_, _], _ => rfl
  have Fa13 := fun_mk (st := sLogOf) la13 ca13 ka13
  have Ba13 := Fa13.binds (ps := ["letters", "path"]) fun _ _ _ _ _ _ us hl => match us, hl with | [_, _], _ => rfl
  have Fa14 := fun_mk (st := sStateOf) la14 ca14 ka14
  have Ba14 := Fa14.binds (ps := ["machine", "log"]) fun _ _ _ _ _ _ us hl => match us, hl with | [_, _], _ => rfl
  have Fa15 := fun_mk (st := sLabelOf) la15 ca15 ka15
  have Ba15 := Fa15.binds (ps := ["machine", "log"]) fun _ _ _ _ _ _ us hl => match us, hl with | [_, _], _ => rfl
  have Fa16 : FunD K "state_behind" "state_behind" (defArgs sStateBehind) (defBody sStateBehind) (defScope sStateBehind) [] [("begin", .int 0)] fa16 _ := ⟨⟨_, _, _, _, _, _, _, _, _, _, rfl, la16, ca16, .inl ⟨rfl, rfl⟩, .inr ⟨Dka16, rfl, fun q hq => by cases List.mem_singleton.mp hq; exact ⟨_, wa16, ⟨_, rfl⟩⟩⟩⟩, ka16⟩
  have Fa17 := fun_mk (st := sContains) la17 ca17 ka17
  have Ba17 := Fa17.binds (ps := ["machine", "log"]) fun _ _ _ _ _ _ us hl => match us, hl with | [_, _], _ => rfl
  have Fa18 := fun_mk (st := sFirstPaths) la18 ca18 ka18
  have Ba18 := Fa18.binds (ps := ["rows"]) fun _ _ _ _ _ _ us hl => match us, hl with | [_], _ => rfl
  have Fa19 := fun_mk (st := sFirstLogs) la19 ca19 ka19
  have Ba19 := Fa19.binds (ps := ["machine"]) fun _ _ _ _ _ _ us hl => match us, hl with | [_], _ => rfl
  have Fa20 := fun_mk (st := sDice) la20 ca20 ka20
  have Ba20 := Fa20.binds (ps := ["script", "spot"]) fun _ _ _ _ _ _ us hl => match us, hl with | [_, _], _ => rfl
  have Fa21 := fun_mk (st := sRoll) la21 ca21 ka21
  have Ba21 := Fa21.binds (ps := ["dice", "size"]) fun _ _ _ _ _ _ us hl => match us, hl with | [_, _], _ => rfl
  have Fa22 := fun_mk (st := sPick) la22 ca22 ka22
  have Ba22 := Fa22.binds (ps := ["dice", "items"]) fun _ _ _ _ _ _ us hl => match us, hl with | [_, _], _ => rfl
  have Fa23 := fun_mk (st := sMixed) la23 ca23 ka23
  have Ba23 := Fa23.binds (ps := ["dice", "items"]) fun _ _ _ _ _ _ us hl => match us, hl with | [_, _], _ => rfl
  have Fa24 := fun_mk (st := sLetters) la24 ca24 ka24
  have Ba24 := Fa24.binds (ps := ["dice", "top"]) fun _ _ _ _ _ _ us hl => match us, hl with | [_, _], _ => rfl
  have Fa25 := fun_mk (st := sLog) la25 ca25 ka25
  have Ba25 := Fa25.binds (ps := ["dice", "letters", "top"]) fun _ _ _ _ _ _ us hl => match us, hl with | [_, _, _], _ => rfl
  have Fa26 := fun_mk (st := sRows) la26 ca26 ka26
  have Ba26 := Fa26.binds (ps := ["dice", "letters", "size"]) fun _ _ _ _ _ _ us hl => match us, hl with | [_, _, _], _ => rfl
  have Fa27 := fun_mk (st := sWords) la27 ca27 ka27
  have Ba27 := Fa27.binds (ps := ["letters", "top"]) fun _ _ _ _ _ _ us hl => match us, hl with | [_, _], _ => rfl
  have Fa28 := fun_mk (st := sMachine) la28 ca28 ka28
  have Ba28 := Fa28.binds (ps := ["dice", "letters", "most"]) fun _ _ _ _ _ _ us hl => match us, hl with | [_, _, _], _ => rfl
  have Fa29 := fun_mk (st := sBehind) la29 ca29 ka29
  have Ba29 := Fa29.binds (ps := ["machine", "state", "log"]) fun _ _ _ _ _ _ us hl => match us, hl with | [_, _, _], _ => rfl
  have Fa30 := fun_mk (st := sRight) la30 ca30 ka30
  have Ba30 := Fa30.binds (ps := ["dice"]) fun _ _ _ _ _ _ us hl => match us, hl with | [_], _ => rfl
  have Fa31 := fun_mk (st := sGreat) la31 ca31 ka31
  have Ba31 := Fa31.binds (ps := []) fun _ _ _ _ _ _ us hl => match us, hl with | [], _ => rfl
  have Fa32 := fun_mk (st := sLaw) la32 ca32 ka32
  refine ⟨PySem.W.fnOf "law" "law" (defArgs sLaw) (defBody sLaw) (defScope sLaw) .none kVa32 dca32 pma32 ana32 cda32 cta32, fun s v => .of_eq rfl, fun base _ _ => ?_⟩
  have A_is_whole : Cal l.prog w K mg base 1 "is_whole" ["value"] spIsWhole := ⟨_, _, ok_isWhole (k := 0) Fa0 B, PySem.W.mg_of X G na0, ka0, Ba0⟩
  have A_is_name : Cal l.prog w K mg base 1 "is_name" ["value"] spIsName := ⟨_, _, ok_isName (k := 0) Fa1 B, PySem.W.mg_of X G na1, ka1, Ba1⟩
  have A_is_ascending : Cal l.prog w K mg base 1 "is_ascending" ["row"] spIsAsc := ⟨_, _, ok_isAsc (k := 0) Fa2 B, PySem.W.mg_of X G na2, ka2, Ba2⟩
  have A_state_after : Cal l.prog w K mg base 1 "state_after" ["rows", "begin", "path"] spStateAfter := ⟨_, _, ok_stateAfter (k := 0) Fa6 B, PySem.W.mg_of X G na6, ka6, Ba6⟩
  have A_path_of : Cal l.prog w K mg base 1 "path_of" ["letters", "log"] spPathOf := ⟨_, _, ok_pathOf (k := 0) Fa12 B, PySem.W.mg_of X G na12, ka12, Ba12⟩
  have A_log_of : Cal l.prog w K mg base 1 "log_of" ["letters", "path"] spLogOf := ⟨_, _, ok_logOf (k := 0) Fa13 B, PySem.W.mg_of X G na13, ka13, Ba13⟩
  have A_first_paths : Cal l.prog w K mg base 1 "first_paths" ["rows"] spFirstPaths := ⟨_, _, ok_firstPaths (k := 0) Fa18 B, PySem.W.mg_of X G na18, ka18, Ba18⟩
  have A__law_dice : Cal l.prog w K mg base 1 "_law_dice" ["script", "spot"] (spDice K) := ⟨_, _, ok_dice (k := 0) Fa20 B, PySem.W.mg_of X G na20, ka20, Ba20⟩
  have A__law_roll : Cal l.prog w K mg base 1 "_law_roll" ["dice", "size"] spRoll := ⟨_, _, ok_roll (k := 0) Fa21 B, PySem.W.mg_of X G na21, ka21, Ba21⟩
  have A__law_words : Cal l.prog w K mg base 1 "_law_words" ["letters", "top"] spWords := ⟨_, _, ok_words (k := 0) Fa27 B, PySem.W.mg_of X G na27, ka27, Ba27⟩
  have A__law_behind : Cal l.prog w K mg base 1 "_law_behind" ["machine", "state", "log"] spBehind := ⟨_, _, ok_behind (k := 0) Fa29 B, PySem.W.mg_of X G na29, ka29, Ba29⟩
  have A_check_number : Cal l.prog w K mg base 2 "check_number" ["value", "least", "most"] spCheckNumber := ⟨_, _, ok_checkNumber (k := 1) Fa3 A_is_whole, PySem.W.mg_of X G na3, ka3, Ba3⟩
  have A_is_any_log : Cal l.prog w K mg base 2 "is_any_log" ["value"] spIsAnyLog := ⟨_, _, ok_isAnyLog (k := 1) Fa4 B A_is_name, PySem.W.mg_of X G na4, ka4, Ba4⟩
  have A_are_rows : Cal l.prog w K mg base 2 "are_rows" ["letters", "value", "most"] spAreRows := ⟨_, _, ok_areRows (k := 1) Fa7 B A_is_whole, PySem.W.mg_of X G na7, ka7, Ba7⟩
  have A_is_letters : Cal l.prog w K mg base 2 "is_letters" ["value"] spIsLetters := ⟨_, _, ok_isLetters (k := 1) Fa5 B A_is_name A_is_ascending, PySem.W.mg_of X G na5, ka5, Ba5⟩
  have A__law_pick : Cal l.prog w K mg base 2 "_law_pick" ["dice", "items"] spPick := ⟨_, _, ok_pick (k := 1) Fa22 B A__law_roll, PySem.W.mg_of X G na22, ka22, Ba22⟩
  have A__law_mixed : Cal l.prog w K mg base 2 "_law_mixed" ["dice", "items"] spMixed := ⟨_, _, ok_mixed (k := 1) Fa23 B A__law_roll, PySem.W.mg_of X G na23, ka23, Ba23⟩
  have A__law_rows : Cal l.prog w K mg base 2 "_law_rows" ["dice", "letters", "size"] spRows := ⟨_, _, ok_rows (k := 1) Fa26 B A__law_roll, PySem.W.mg_of X G na26, ka26, Ba26⟩
  have A_state_of : Cal l.prog w K mg base 2 "state_of" ["machine", "log"] spStateOf := ⟨_, _, ok_stateOf (k := 1) Fa14 B A_state_after A_path_of, PySem.W.mg_of X G na14, ka14, Ba14⟩
  have A_is_log_over : Cal l.prog w K mg base 3 "is_log_over" ["letters", "value"] spIsLogOver := ⟨_, _, ok_isLogOver (k := 2) Fa10 B A_is_any_log, PySem.W.mg_of X G na10, ka10, Ba10⟩
  have A__law_letters : Cal l.prog w K mg base 3 "_law_letters" ["dice", "top"] spLetters := ⟨_, _, ok_letters (k := 2) Fa24 B A__law_pick A__law_mixed, PySem.W.mg_of X G na24, ka24, Ba24⟩
  have A__law_log : Cal l.prog w K mg base 3 "_law_log" ["dice", "letters", "top"] spLog := ⟨_, _, ok_log (k := 2) Fa25 B A__law_pick (A__law_roll.mono (by decide)), PySem.W.mg_of X G na25, ka25, Ba25⟩
  have A_is_machine : Cal l.prog w K mg base 3 "is_machine" ["value"] spIsMachine := ⟨_, _, ok_isMachine (k := 2) Fa8 B A_is_letters A_are_rows, PySem.W.mg_of X G na8, ka8, Ba8⟩
  have A__law_machine : Cal l.prog w K mg base 3 "_law_machine" ["dice", "letters", "most"] spMachine := ⟨_, _, ok_machine (k := 2) Fa28 B (A__law_roll.mono (by decide)) A__law_rows, PySem.W.mg_of X G na28, ka28, Ba28⟩
  have A_label_of : Cal l.prog w K mg base 3 "label_of" ["machine", "log"] spLabelOf := ⟨_, _, ok_labelOf (k := 2) Fa15 B A_state_of, PySem.W.mg_of X G na15, ka15, Ba15⟩
  have A_check_log_over : Cal l.prog w K mg base 4 "check_log_over" ["letters", "value"] spCheckLogOver := ⟨_, _, ok_checkLogOver (k := 3) Fa11 A_is_log_over, PySem.W.mg_of X G na11, ka11, Ba11⟩
  have A_check_machine : Cal l.prog w K mg base 4 "check_machine" ["value"] spCheckMachine := ⟨_, _, ok_checkMachine (k := 3) Fa9 A_is_machine, PySem.W.mg_of X G na9, ka9, Ba9⟩
  obtain ⟨⟨dsb, vdb, bdb⟩, kbb⟩ := sb_binds Fa16
  have SB : CalSB l.prog w K mg base 5 := ⟨_, _, dsb, ok_stateBehind (k := 4) Fa16 B A_check_machine A_check_log_over (A_check_number.mono (by decide)) (A_state_after.mono (by decide)) (A_path_of.mono (by decide)), PySem.W.mg_of X G na16, ka16, vdb, bdb, kbb⟩
  have A_contains : Cal l.prog w K mg base 5 "contains" ["machine", "log"] spContains := ⟨_, _, ok_contains (k := 4) Fa17 B A_check_machine A_check_log_over (A_label_of.mono (by decide)), PySem.W.mg_of X G na17, ka17, Ba17⟩
  have A_first_logs : Cal l.prog w K mg base 5 "first_logs" ["machine"] spFirstLogs := ⟨_, _, ok_firstLogs (k := 4) Fa19 B A_check_machine (A_first_paths.mono (by decide)) (A_log_of.mono (by decide)), PySem.W.mg_of X G na19, ka19, Ba19⟩
  have A__law_right : Cal l.prog w K mg base 6 "_law_right" ["dice"] spRight := ⟨_, _, ok_right (k := 5) Fa30 B (A__law_letters.mono (by decide)) (A__law_machine.mono (by decide)) (A__law_log.mono (by decide)) (A__law_roll.mono (by decide)) SB (A__law_behind.mono (by decide)) A_contains (A__law_words.mono (by decide)) A_first_logs, PySem.W.mg_of X G na30, ka30, Ba30⟩
  have A__law_great_right : Cal l.prog w K mg base 6 "_law_great_right" [] spGreat := ⟨_, _, ok_great (k := 5) Fa31 B SB A_contains A_first_logs, PySem.W.mg_of X G na31, ka31, Ba31⟩
  exact ok_law (k := 6) Fa32 B (A__law_dice.mono (by decide)) A__law_right A__law_great_right
end Sfl
open PySem PySem.W PyProof.Rows in
set_option maxHeartbeats 0 in
theorem PySem.Challenge.cw_seldomflip_k14_states_behind_logs_holds : PySem.Challenge.rw_seldomflip_k14_states_behind_logs.Holds := by
  w_on; o_law; k_head; (case hw => w_witness2)
  k_fill
  refine L2.walk_of (l := PySem.Challenge.rw_seldomflip_k14_states_behind_logs) (n := 63) (k := 7) (x := "script") (CX := fun _ => L2.CX0) (sp := fun w => Sfl.spLaw _) rfl (by decide) rfl ⟨rfl, by decide, by decide⟩ (fun w h Y => PySem.W.kIn_of Y) ?F (fun _ _ a ns hl _ hS => ⟨a, ns, rfl, hS, hl, fun _ => rfl⟩) (fun _ _ _ _ _ h => h)
  case F =>
    intro w mg fa h KX G hmg
    refine' Sfl.all_mk KX G hmg ?na0 ?la0 ?ca0 ?ka0 ?na1 ?la1 ?ca1 ?ka1 ?na2 ?la2 ?ca2 ?ka2 ?na3 ?la3 ?ca3 ?ka3 ?na4 ?la4 ?ca4 ?ka4 ?na5 ?la5 ?ca5 ?ka5 ?na6 ?la6 ?ca6 ?ka6 ?na7 ?la7 ?ca7 ?ka7 ?na8 ?la8 ?ca8 ?ka8 ?na9 ?la9 ?ca9 ?ka9 ?na10 ?la10 ?ca10 ?ka10 ?na11 ?la11 ?ca11 ?ka11 ?na12 ?la12 ?ca12 ?ka12 ?na13 ?la13 ?ca13 ?ka13 ?na14 ?la14 ?ca14 ?ka14 ?na15 ?la15 ?ca15 ?ka15 ?na16 ?la16 ?ca16 ?ka16 ?wa16 ?na17 ?la17 ?ca17 ?ka17 ?na18 ?la18 ?ca18 ?ka18 ?na19 ?la19 ?ca19 ?ka19 ?na20 ?la20 ?ca20 ?ka20 ?na21 ?la21 ?ca21 ?ka21 ?na22 ?la22 ?ca22 ?ka22 ?na23 ?la23 ?ca23 ?ka23 ?na24 ?la24 ?ca24 ?ka24 ?na25 ?la25 ?ca25 ?ka25 ?na26 ?la26 ?ca26 ?ka26 ?na27 ?la27 ?ca27 ?ka27 ?na28 ?la28 ?ca28 ?ka28 ?na29 ?la29 ?ca29 ?ka29 ?na30 ?la30 ?ca30 ?ka30 ?na31 ?la31 ?ca31 ?ka31 ?na32 ?la32 ?ca32 ?ka32 ?z_len ?z_enumerate ?z_tuple ?z_isinstance ?z_str ?z_all ?z_range ?z_min ?z_max ?z_list ?z_sorted ?z_abs ?z_int ?z_repr ?z_zip ?z_bool ?zS ?zL ?zM ?zE
    (case na0 => k_is)
    (case la0 => k_is)
    (case ca0 => k_is)
    (case ka0 => k_is)
    (case na1 => k_is)
    (case la1 => k_is)
    (case ca1 => k_is)
    (case ka1 => k_is)
    (case na2 => k_is)
    (case la2 => k_is)
    (case ca2 => k_is)
    (case ka2 => k_is)
    (case na3 => k_is)
    (case la3 => k_is)
    (case ca3 => k_is)
    (case ka3 => k_is)
    (case na4 => k_is)
    (case la4 => k_is)
    (case ca4 => k_is)
    (case ka4 => k_is)
    (case na5 => k_is)
    (case la5 => k_is)
    (case ca5 => k_is)
    (case ka5 => k_is)
    (case na6 => k_is)
    (case la6 => k_is)
    (case ca6 => k_is)
    (case ka6 => k_is)
    (case na7 => k_is)
    (case la7 => k_is)
    (case ca7 => k_is)
    (case ka7 => k_is)
    (case na8 => k_is)
    (case la8 => k_is)
    (case ca8 => k_is)
    (case ka8 => k_is)
    (case na9 => k_is)
    (case la9 => k_is)
    (case ca9 => k_is)
    (case ka9 => k_is)
    (case na10 => k_is)
    (case la10 => k_is)
    (case ca10 => k_is)
    (case ka10 => k_is)
    (case na11 => k_is)
    (case la11 => k_is)
    (case ca11 => k_is)
    (case ka11 => k_is)
    (case na12 => k_is)
    (case la12 => k_is)
    (case ca12 => k_is)
    (case ka12 => k_is)
    (case na13 => k_is)
    (case la13 => k_is)
    (case ca13 => k_is)
    (case ka13 => k_is)
    (case na14 => k_is)
    (case la14 => k_is)
    (case ca14 => k_is)
    (case ka14 => k_is)
    (case na15 => k_is)
    (case la15 => k_is)
    (case ca15 => k_is)
    (case ka15 => k_is)
    (case na16 => k_is)
    (case la16 => k_is)
    (case ca16 => k_is)
    (case ka16 => k_is)
    (case wa16 => k_is)
    (case na17 => k_is)
    (case la17 => k_is)
    (case ca17 => k_is)
    (case ka17 => k_is)
    (case na18 => k_is)
    (case la18 => k_is)
    (case ca18 => k_is)
    (case ka18 => k_is)
    (case na19 => k_is)
    (case la19 => k_is)
    (case ca19 => k_is)
    (case ka19 => k_is)
    (case na20 => k_is)
    (case la20 => k_is)
    (case ca20 => k_is)
    (case ka20 => k_is)
    (case na21 => k_is)
    (case la21 => k_is)
    (case ca21 => k_is)
    (case ka21 => k_is)
    (case na22 => k_is)
    (case la22 => k_is)
    (case ca22 => k_is)
    (case ka22 => k_is)
    (case na23 => k_is)
    (case la23 => k_is)
    (case ca23 => k_is)
    (case ka23 => k_is)
    (case na24 => k_is)
    (case la24 => k_is)
    (case ca24 => k_is)
    (case ka24 => k_is)
    (case na25 => k_is)
    (case la25 => k_is)
    (case ca25 => k_is)
    (case ka25 => k_is)
    (case na26 => k_is)
    (case la26 => k_is)
    (case ca26 => k_is)
    (case ka26 => k_is)
    (case na27 => k_is)
    (case la27 => k_is)
    (case ca27 => k_is)
    (case ka27 => k_is)
    (case na28 => k_is)
    (case la28 => k_is)
    (case ca28 => k_is)
    (case ka28 => k_is)
    (case na29 => k_is)
    (case la29 => k_is)
    (case ca29 => k_is)
    (case ka29 => k_is)
    (case na30 => k_is)
    (case la30 => k_is)
    (case ca30 => k_is)
    (case ka30 => k_is)
    (case na31 => k_is)
    (case la31 => k_is)
    (case ca31 => k_is)
    (case ka31 => k_is)
    (case na32 => k_is)
    (case la32 => k_is)
    (case ca32 => k_is)
    (case ka32 => k_is)
    (case z_len => k_is)
    (case z_enumerate => k_is)
    (case z_tuple => k_is)
    (case z_isinstance => k_is)
    (case z_str => k_is)
    (case z_all => k_is)
    (case z_range => k_is)
    (case z_min => k_is)
    (case z_max => k_is)
    (case z_list => k_is)
    (case z_sorted => k_is)
    (case z_abs => k_is)
    (case z_int => k_is)
    (case z_repr => k_is)
    (case z_zip => k_is)
    (case z_bool => k_is)
    (case zS => k_is)
    (case zL => k_is)
    (case zM => k_is)
    (case zE => k_is)
#print axioms PySem.Challenge.cw_seldomflip_k14_states_behind_logs_holds
