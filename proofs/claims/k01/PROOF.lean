import PyProof.Rows.All
import HandS.Iter
import HandS.List
import KE.GoesEnum
import KE.KRevSl
import HandS.ForMost
import HandS.TupAny
import HandS.TupMul
import HandS.Deep
import HandS.IsInst
import HandS.Wide
import HandS.Walk
import HandS.StrMore
import HandS.Style
import HandS.Conv
import HandS.Star
import HandS.Property
import HandS.ClsMeth
import HandS.SlotsOwn
import KE.KFmtOwn
import PyProof.InstNe
import HandS.Strs
import HandS.Ends
import HandS.SetFor
import PyProof.Rows.SortStr
import PyProof.P3In
import HandS.TupSets
import HandS.SetBool
import KE.SortData
import HandS.GenList
import PySem.Challenge.RW_seldomflip_k01_letters_and_logs
import HandS.WordsExc
import HandS.ExcOwn
import HandS.Zip
import HandS.ExcIs
import HandS.HeadNt
set_option Elab.async false
set_option linter.all false
set_option maxRecDepth 100000
namespace Sfl
open PySem PySem.Spec PyProof.Rows L2

/-! ### own rules: great powers, repr of a truth, a tuple turned round, enumerate over a tuple -/
def CPowW (i j : Int) : Prop := 0 ≤ j ∧ (Builtin.Int.intBits i : Int) * j ≤ 2 ^ 27
section
variable {X : Cx}
theorem op_powW : OpR X (binaryOp .Pow) (rI CPowW fun i j => .int (i ^ j.toNat)) :=
  opI fun _ _ _ _ _ _ _ hc q => pow_int hc.1 hc.2 q
theorem call_repr_bl : CallR X (.builtin "repr") (fun xs H Q => ∃ b : Bool, xs = [.bl b] ∧ Q (.str (if b then "True" else "False")) H) := by
  intro pins s σ H xs us Q I r h
  obtain ⟨b, rfl, q⟩ := h
  cases r with
  | cons r1 r2 =>
    cases r2
    cases r1
    exact PySem.P.repr_of_bool ⟨.str _, H, I.tok _, ⟨_, rfl⟩, q⟩
end

theorem revPick (xs : Array Value) :
    ((List.range xs.size).filterMap fun (k : Nat) => xs[(((xs.size : Int) - 1) + (k : Int) * -1).toNat]?) = xs.toList.reverse := by
  have e : ((List.range xs.size).filterMap fun (k : Nat) => xs[(((xs.size : Int) - 1) + (k : Int) * -1).toNat]?)
      = (((List.range xs.size).map (fun k => xs.size - 1 - k)).filterMap (xs[·]?)) := by
    rw [List.filterMap_map]
    have key : ∀ l : List Nat, (∀ k ∈ l, k < xs.size) →
        l.filterMap (fun (k : Nat) => xs[(((xs.size : Int) - 1) + (k : Int) * -1).toNat]?) = l.filterMap ((fun i => xs[i]?) ∘ fun k => xs.size - 1 - k) := by
      intro l
      induction l with
      | nil => intro _; rfl
      | cons a r ih =>
        intro hl
        have ha : a < xs.size := hl a List.mem_cons_self
        have e1 : (((xs.size : Int) - 1) + (a : Int) * -1).toNat = xs.size - 1 - a := by omega
        rw [List.filterMap_cons, List.filterMap_cons, ih fun k hk => hl k (List.mem_cons_of_mem _ hk), e1]
        rfl
    exact key _ fun k hk => List.mem_range.mp hk
  rw [e, PySem.W.krv_range, List.filterMap_reverse, PySem.W.krv_all]

theorem revSlice {prog : Program} {w : World} {A : Around} {E : Value → Shared → Prop} {s : Shared}
    {t sl : Addr} {items : Array Value} {vl vu vs : Value} {Q : Value → Shared → Prop}
    (ht : IsTup s.heap t items) (hs : s.heap.IsSliceOf sl vl vu vs)
    (pl : IsPart vl none) (pu : IsPart vu none) (ps : IsPart vs (some (-1)))
    (hsz : items.size ≤ sizeLine)
    (h : Q (.ref s.heap.objs.size)
      { s with heap := s.heap.push { cls := .type "tuple", data := .seq items.toList.reverse.toArray } }) :
    wpAny (model prog w) A (getItem (.ref t) (.ref sl)) Q E s := by
  obtain ⟨os, hos, hcs, hds⟩ := id hs
  have hTs : s.TypeIs (.ref sl) "slice" := ⟨os, hos, hcs⟩
  unfold getItem
  try with_reducible refine wpAny_holding ?_
  first
    | refine wpAny_bind (wpAny_pure ?_)
    | skip
  refine wpAny_bind
    (wpAny_sequenceKey ht.typeIs (by decide) ?_)
  refine wpAny_bind (wpAny_callSpecial?_slot
    (name := Str.ofString "__getitem__") ht.typeIs
    PyProof.Rows.slot_tuple_getitem
    (wpAny_call_entry
      PyProof.Rows.slot_tuple_getitem ht.typeIs
      entry_tuple_getitem ?_ (args_tuple_getitem _ _)))
  show wpAny _ _ (Builtin.Tuple.tupleItemsOf
    (.ref t) >>= _) _ _ s
  refine wpAny_bind (tupleItemsOf_ ht ?_)
  refine wpAny_bind (wpAny_typeOf hTs ?_)
  rw [if_pos (by decide)]
  have hap : wpAny (model prog w) A.in1 (Builtin.Slice.sliceApplied (.ref sl) (pure (items.size : Int)))
      (fun r s' => r = ((items.size : Int) - 1, -1, items.size) ∧ s' = s) E s := by
    unfold Builtin.Slice.sliceApplied Builtin.Slice.sliceFields
    refine wpAny_bind (wpAny_bind (wpAny_field hos hds (x := vl) rfl ?_))
    refine wpAny_bind (wpAny_field hos hds (x := vu) rfl ?_)
    refine wpAny_bind (wpAny_field hos hds (x := vs) rfl (wpAny_pure ?_))
    refine wpAny_bind (HT.slicePart_ ps ?_)
    show wpAny _ _ (if ((-1 : Int) == 0) = true then _ else _) _ _ s
    rw [if_neg (by decide)]
    refine wpAny_bind (HT.slicePart_ pl ?_)
    refine wpAny_bind (HT.slicePart_ pu ?_)
    refine wpAny_bind (wpAny_pure ?_)
    refine wpAny_pure ⟨?_, rfl⟩
    show (((items.size : Int) - 1, (-1 : Int), Builtin.Slice.slicePlaces ((items.size : Int) - 1) (-1) (-1)) : Int × Int × Nat) = _
    have : Builtin.Slice.slicePlaces ((items.size : Int) - 1) (-1) (-1) = items.size := by
      unfold Builtin.Slice.slicePlaces
      rw [if_neg (by decide)]
      rw [show (-(-1) : Int) = 1 by decide, Int.ediv_one]
      split <;> omega
    rw [this]
  refine wpAny_bind (thn hap fun r s1 hr => ?_)
  obtain ⟨rfl, rfl⟩ := hr
  show wpAny _ _ (if (((items.size : Int) - 1) == 0 && (-1 : Int) == 1 && items.size == items.size) = true then _ else _) _ _ _
  rw [if_neg (by simp)]
  rw [revPick]
  have hsz2 : sizeOk (.seq items.toList.reverse.toArray) := by
    show items.toList.reverse.toArray.size ≤ sizeLine
    simpa using hsz
  first
    | exact wpAny_bind (m := Builtin.Tuple.tupleExact _)
        (wpAny_newObj_type (wpAny_pure ⟨_, rfl, wpAny_pure h⟩) hsz2)
    | exact wpAny_bind (m := Builtin.Tuple.tupleExact _)
        (wpAny_newObj_type (wpAny_bind
          (wpAny_pure (wpAny_pure ⟨_, rfl, wpAny_pure h⟩))) hsz2)
    | exact wpAny_bind (wpAny_bind (m := Builtin.Tuple.tupleExact _)
        (wpAny_newObj_type (wpAny_pure
          (wpAny_pure ⟨_, rfl, wpAny_pure h⟩)) hsz2))
    | exact wpAny_bind (wpAny_bind (m := Builtin.Tuple.tupleExact _)
        (wpAny_newObj_type
          (wpAny_pure ⟨_, rfl, wpAny_pure h⟩) hsz2))

abbrev sliceLaid (s : Shared) (u v z : Value) : Shared := { s with heap := s.heap.push { cls := .type "slice", data := .fields #[u, v, z] } }
/-- t[::-1] of a tuple -/
def tRevT (K : PySem.W.Frag) (te : TE) : TE := fun σ H Q => te σ H fun x H1 => ∃ a xs, x = .ref a ∧ SqT K H1 a xs ∧
  ∀ p, H1 p = none → Q (.ref p) (upd H1 p (.tup xs.reverse))
theorem pe_revT {X : Cx} {e : Expr} {te : TE} {k : Nat} {p1 p2 p3 pos : Pos} (he : PE X e te) :
    PE X (.Subscript e (.Slice none none (some (.UnaryOp .USub (.Constant (.int 1) k p1) p2)) p3) pos) (tRevT X.K te) := by
  refine ⟨fun pins s σ H Q I h => ?_⟩
  refine Subscript_ (thn (he.run pins s σ H _ I h)
    fun v s1 ⟨x, H1, I1, r1, q1⟩ => ?_)
  obtain ⟨a, xs, ex, hx, q⟩ := q1
  subst ex
  cases r1
  have hst : PO X (some (.UnaryOp .USub (.Constant (.int 1) k p1) p2))
      (tPart (tUn (rU fun i => .int (-i)) (tC (.int 1)))) :=
    po_some (pe_un un_neg pe_int)
  refine wpAny_Slice (thn (po_none.run pins s1 σ H1
    (fun o H2 => o = none ∧ H2 = H1) I1 ⟨rfl, rfl⟩)
    fun vl s2 ⟨l, H2, I2, pl, el, e2⟩ => ?_)
  subst el e2
  refine thn (po_none.run pins s2 σ H2
    (fun o H3 => o = none ∧ H3 = H2) I2 ⟨rfl, rfl⟩)
    fun vu s3 ⟨u, H3, I3, pu, eu, e3⟩ => ?_
  subst eu e3
  refine thn (hst.run pins s3 σ H3
    (fun o H4 => o = some (-1) ∧ H4 = H3) I3
    ⟨1, rfl, -1, rfl, rfl, rfl⟩)
    fun vs s4 ⟨o, H4, I4, ps, eo, e4⟩ => ?_
  subst eo e4
  have I5 : L2.Inv X pins σ H4 (sliceLaid s4 vl vu vs) := I4.kept (t' := s4.toks) fun b ob q => Heap.get?_push_of_some _ q
  obtain ⟨its, r, ht, hz⟩ := I5.tuple hx
  have hlen := r.length
  show wpAny (model X.prog X.w) X.A (subscriptTail e (.Slice none none
    (some (.UnaryOp .USub (.Constant (.int 1) k p1) p2)) p3)
    (.ref a) (.ref s4.heap.objs.size)) (EP X pins σ Q) X.xe (sliceLaid s4 vl vu vs)
  refine tail_any (ops := [.ref a, .ref s4.heap.objs.size])
    ht.typeIs PyProof.Rows.slot_tuple_getitem.lookup ?_
    (by with_unfolding_all rfl)
  refine revSlice ht (Heap.IsSliceOf.new _ vl vu vs) pl pu ps
    (by rw [List.size_toArray]; omega) ?_
  refine ⟨.ref _, _, I5.laid (t' := s4.toks) (o := .tup xs.reverse)
    (fun b ob q => Heap.get?_push_of_some _ q) (Nat.le_refl _) ?_,
    rfl, q _ (I5.hok.fresh (Nat.le_refl _))⟩
  exact ⟨by rw [List.length_reverse]; exact hz, _, r.reverse, IsTup.new _ _⟩
end Sfl
namespace Sfl
open PySem PySem.Spec PyProof.Rows L2

abbrev enumLaid (s : Shared) (t : Addr) : Shared := { s with heap := (s.heap.push { cls := .type "tuple_iterator", data := .fields #[.ref t, .int 0 0] }).push { cls := .type "enumerate", data := .fields #[.none, .bool false, .ref s.heap.objs.size, rawInt 0, .none, .none] } }
set_option maxHeartbeats 1000000 in
theorem enumNewT (t : Addr) (items : Array Value) :
    Meets (Builtin.«enumerate.__new__» ⟨[.type "enumerate", .ref t], []⟩) (fun _ R s => s.heap.IsTuple t items ∧
      R (.ok (.ret (.ref (s.heap.push { cls := .type "tuple_iterator", data := .fields #[.ref t, .int 0 0] }).objs.size)))
        (enumLaid s t)) :=
  .of_wp fun prog w A R s h => by
    obtain ⟨hp, g, d, tk, os⟩ := s
    obtain ⟨h1, h⟩ := h
    have hsub := sub_enumerate
    have q1 : ∀ {A' : Around} {E : Value → Shared → Prop} {Q : Value → Shared → Prop},
        Q (.ref hp.objs.size) ⟨hp.push { cls := .type "tuple_iterator", data := .fields #[.ref t, .int 0 0] }, g, d, tk, os⟩ →
        wpAny (model prog w) A' (pyIter (.ref t)) Q E ⟨hp, g, d, tk, os⟩ := fun q => wpAny_pyIter_tuple h1 q
    wp_walk using q1
    refine wpAny_stack_any fun st => wpAny_pure ?_
    split
    · rename_i c _ _ _ _ _
      cases (c == Value.type "enumerate") <;>
        (wp_walk using q1; exact ⟨_, rfl, h⟩)
    · wp_walk using q1
      exact ⟨_, rfl, h⟩

theorem call_enumT {prog : Program} {w : World} {A : Around} {E : Value → Shared → Prop} {s : Shared} {t : Addr} {items : Array Value} {Q : Value → Shared → Prop} (hL : s.heap.IsTuple t items)
    (h : ∀ h', IsEnum h' (s.heap.objs.size + 1) s.heap.objs.size 0 .none → h'.IsTupleIter s.heap.objs.size t 0 →
      (∀ b o, s.heap.get? b = some o → h'.get? b = some o) → Q (.ref (s.heap.objs.size + 1)) { s with heap := h' }) :
    wpAny (model prog w) A (call (.type "enumerate") [.ref t]) Q E s := by
  refine callType_new F.called_enumerate (by decide)
    (F.typeCall_enumerate_1 _) (F.newCall_enumerate_1 _)
    (fun obj => F.args_object_init_2 obj _)
    F.entry_enumerate_new (enumNewT t items) ⟨hL, ?_⟩
  generalize ho : ({ cls := .type "tuple_iterator", data := .fields #[.ref t, .int 0 0] } : Obj) = oi
  have hf : oi.isFreed = false := by rw [← ho]; rfl
  have hz : (s.heap.push oi).objs.size = s.heap.objs.size + 1 := Heap.size_push ..
  unfold enumLaid
  rw [ho, hz]
  generalize hq : ({ cls := .type "enumerate", data := .fields #[.none, .bool false, .ref s.heap.objs.size, rawInt 0, .none, .none] } : Obj) = oe
  have he : IsEnum ((s.heap.push oi).push oe) (s.heap.objs.size + 1) s.heap.objs.size 0 .none := by
    have := Heap.get?_push_size (s.heap.push oi) (o := oe) (by rw [← hq]; rfl)
    rw [hz] at this
    show Heap.get? _ _ = some _
    rw [this, ← hq]
  refine ⟨⟨_, he, rfl⟩, h _ he ⟨oi, Heap.get?_push_of_some _ (Heap.get?_push_size _ hf), by rw [← ho], by rw [← ho]; rfl⟩ ?_⟩
  · exact fun b o x => Heap.get?_push_of_some _ (Heap.get?_push_of_some _ x)

/-- enumerate over the tuple at a: each item in a new pair -/
def ItEt (K : PySem.W.Frag) (a : Addr) : It :=
  ⟨fun i H => ∃ (xs : List V) (x : V), SqT K H a xs ∧ xs[i]? = some x,
    fun i H v H' => ∃ T x, v = .ref T ∧ H T = none ∧ H' = upd H T (.tup [.int (i : Nat), x]) ∧ ∀ xs, SqT K H a xs → xs[i]? = some x,
    fun i H => ∃ xs : List V, SqT K H a xs ∧ xs.length = i⟩
theorem turn_enumT {P : Program} {w : World} {K : PySem.W.Frag} {elts : List Expr} {kk : Nat} {tpos : Pos} (a e it : Addr) :
    Turn P w K (.Tuple elts kk tpos) (ItEt K a) [e, it] e
      (fun i h => (∃ old, IsEnum h e it ((i : Nat) : Int) old) ∧ h.IsTupleIter it a i ∧ e ≠ it ∧ a ≠ it ∧ e ≠ a) where
  mem := by simp
  obj := fun i h st b hb => by
    obtain ⟨⟨old, he⟩, ⟨o, ho, hc, hd⟩, _⟩ := st
    have e' : b = e ∨ b = it := by simpa using hb
    rcases e' with z | z <;> subst z
    · exact ⟨_, he, fun v q => nomatch q⟩
    · refine ⟨o, ho, fun v q => ?_⟩
      rw [hd] at q
      cases q
  keep := fun i h h' st k => by
    obtain ⟨⟨old, he⟩, hi, hne⟩ := st
    exact ⟨⟨old, k e (by simp) _ he⟩, hi.at fun o q => k it (by simp) o q, hne⟩
  item := by
    intro X hP hw hK hc i pins s σ H E I hf st hg
    subst hP hw hK
    obtain ⟨⟨old, he⟩, hit, hne, hat, hea⟩ := st
    obtain ⟨xs, x, hq, hx⟩ := hg
    obtain ⟨its, rv, p, hz⟩ := I.tuple hq
    obtain ⟨u, hu, ru⟩ := rv.get hx
    have hel : e < s.heap.objs.size := Heap.lt_size he
    have hil : it < s.heap.objs.size := by
      obtain ⟨_, q, _⟩ := hit
      exact Heap.lt_size q
    have D := Draws.tuple (prog := X.prog) (w := X.w) (A := X.A.in1) (I.ok.hd hc) it a hat its.toArray
    have hlt : i < its.toArray.size := by
      have := (List.getElem?_eq_some_iff.mp hu).1
      simpa using this
    refine wpAny_pyNext_enum_itemD D he ⟨hit, p⟩ hlt hne (by simp [hne, hea]) fun u' h' tk hP ho hst' hT hsz hk => ?_
    have eu : u' = u := by
      have : its.toArray[i]? = some u := by simpa using hu
      rw [this] at hP
      exact (Option.some.inj hP).symm
    subst eu
    refine ⟨_, rfl, wpAny_letOwnedTupleGo_enum (s := { s with heap := h', toks := tk + 1 }) ho fun h'' he' sb => ?_⟩
    have hT2 : h''.get? s.heap.objs.size = some { cls := .type "tuple", data := .seq #[.int i tk, u'] } := (sb.2 _ (Nat.ne_of_gt hel)).trans hT
    generalize hH2 : upd H s.heap.objs.size (.tup [.int (i : Nat), x]) = H2
    have new : ObjOk X.prog X.w H2 h'' s.heap.objs.size (.tup [.int (i : Nat), x]) :=
      ⟨by show 2 ≤ sizeLine; decide, [.int i tk, u'], .cons ⟨_, rfl⟩ (.cons ru .nil), ⟨_, hT2, rfl, _, rfl⟩⟩
    have I1 : L2.Inv X pins σ H2 { s with heap := h'', toks := tk + 1 } := by
      subst hH2
      exact I.turnedNew (ch := [e, it]) (fun b ob hb q => (sb.2 b (fun z => hb (by simp [z]))).trans
        (hk b ob (fun z => hb (by simp [z])) (fun z => hb (by simp [z])) q)) hf (Nat.le_refl _) new
    refine ⟨.ref s.heap.objs.size, _, I1, rfl, ⟨_, x, rfl, I.hok.fresh (Nat.le_refl _), hH2.symm, fun ys hy => ?_⟩, ⟨⟨u', ?_⟩, ?_, hne, hat, hea⟩, fun b hb => ?_⟩
    · rw [I.tuple_inj hy hq]
      exact hx
    · have e1 : ((i + 1 : Nat) : Int) = (i : Int) + 1 := by omega
      rw [e1]
      exact he'
    · exact hst'.1.at fun o q => (sb.2 it (Ne.symm hne)).trans q
    · have hb' : b < s.heap.objs.size := by
        have e' : b = e ∨ b = it := by simpa using hb
        rcases e' with z | z <;> subst z
        · exact hel
        · exact hil
      rw [← hH2, upd_ne (Nat.ne_of_lt hb')]
      exact (hf b hb).1
  done := by
    intro X hP hw hK hc i pins s σ H E I hf st hg
    subst hP hw hK
    obtain ⟨⟨old, he⟩, hit, hne, hat, hea⟩ := st
    obtain ⟨xs, hq, hx⟩ := hg
    obtain ⟨its, rv, p, hz⟩ := I.tuple hq
    obtain ⟨f0, f1, f2, f3, f4, f5⟩ := hf it (by simp)
    have hl := rv.length
    have D := Draws.tuple (prog := X.prog) (w := X.w) (A := X.A.in1) (I.ok.hd hc) it a hat its.toArray
    have en : its.toArray.size = i := by simpa using hl.symm.trans hx
    refine wpAny_pyNext_enum_endD D he ⟨by rw [en]; exact hit, p⟩ fun h' eb => ?_
    exact ⟨rfl, I.turned (t' := s.toks) (fun b o hb q => eb b o hb q) f0 f1 f3 f4 f5⟩
  self := fun A i s Q E st h => by
    obtain ⟨⟨_, he⟩, _⟩ := st
    exact wpAny_pyIter_enum he h
def iEnumT (K : PySem.W.Frag) (ta : TA) : TI := fun σ H R => ta σ H fun vs H1 => ∃ a xs, vs = [.ref a] ∧ SqT K H1 a xs ∧ R (ItEt K a) H1
theorem pi_enumT {X : Cx} {e : Expr} {ta : TA} {p pos tpos : Pos} {elts : List Expr} {kk : Nat} (hg : Gl X "enumerate") (hm : X.mg "enumerate" = none) (ha : PA X [e] ta)
    (hs : starEach [e] X.env = [(false, eval e X.env)] := by rfl) :
    PI X (.Tuple elts kk tpos) (.Call (.Name "enumerate" p) [e] [] pos) (iEnumT X.K ta) := by
  refine ⟨fun pins s σ H R I h => ?_⟩
  refine Call_ (ld_blt I hg hm boot_enumerate (PyProof.Rows.callWith_type1
    (thn (ha.run pos pins s σ H _ I h) fun us s1 ⟨vs, H1, I1, r1, q1⟩ => ?_) hs rfl))
  obtain ⟨a, xs, ex, hq, q⟩ := q1
  subst ex
  cases r1 with
  | cons r rr =>
    cases rr
    cases r
    obtain ⟨its, rv, p', hz⟩ := I1.tuple hq
    have hal : a < s1.heap.objs.size := by
      obtain ⟨o, e, _⟩ := id p'
      exact Heap.lt_size e
    refine call_enumT p' fun h' he hit hk => wpAny_pyIter_enum he ?_
    have I2 : L2.Inv X pins σ H1 { s1 with heap := h' } := I1.kept (t' := s1.toks) hk
    refine ⟨s1.heap.objs.size + 1, [s1.heap.objs.size + 1, s1.heap.objs.size], _, _, H1, rfl, I2,
      turn_enumT a (s1.heap.objs.size + 1) s1.heap.objs.size,
      ⟨⟨.none, he⟩, hit, Nat.succ_ne_self _, Nat.ne_of_lt hal, (Nat.ne_of_lt (Nat.lt_succ_of_lt hal)).symm⟩, fun b hb => ?_, q⟩
    have hle : s1.heap.objs.size ≤ b := by
      have e' : b = s1.heap.objs.size + 1 ∨ b = s1.heap.objs.size := by simpa using hb
      rcases e' with z | z <;> subst z
      · exact Nat.le_add_right _ _
      · exact Nat.le_refl _
    exact I1.fpOk hle (I1.hok.fresh hle)
end Sfl
namespace Sfl
open PySem PySem.Spec PyProof.Rows L2
theorem for_enumT {K : PySem.W.Frag} {a : Addr} {xs : List V} {g : TG} {tb : TS} {D : Ends} {σ : L2.St} {H : Hp} (Pv : Nat → L2.St → Hp → Prop) (h0 : Pv 0 σ H) (hl : ∀ i σ H, i ≤ xs.length → Pv i σ H → SqT K H a xs)
    (hs : ∀ (i : Nat) (x : V) (T : Addr) (σ : L2.St) (H : Hp), xs[i]? = some x → Pv i σ H → H T = none →
      g (.ref T) σ (upd H T (.tup [.int (i : Nat), x])) fun σ2 H2 => tb { D with nx := Pv (i + 1), ct := Pv (i + 1), bk := D.nx } σ2 H2)
    (hd : ∀ σ H, Pv xs.length σ H → D.nx σ H) :
    ∃ W : Nat → Nat → L2.St → Hp → Prop, (∃ m, W 0 m σ H) ∧ ∀ i m σ H, W i m σ H →
      ((ItEt K a).stop i H ∧ D.nx σ H) ∨ ((ItEt K a).go i H ∧ ∃ N : L2.St → Hp → Prop, (∀ σ' H', N σ' H' → ∃ m', m' < m ∧ W (i + 1) m' σ' H') ∧
        ∀ v H', (ItEt K a).yld i H v H' → g v σ H' fun σ2 H2 => tb { D with nx := N, ct := N, bk := D.nx } σ2 H2) := by
  refine ⟨fun i m σ H => m = xs.length - i ∧ i ≤ xs.length ∧ Pv i σ H, ⟨xs.length, by simp, Nat.zero_le _, h0⟩, ?_⟩
  rintro i m σ H ⟨rfl, hi, p⟩
  have q := hl i σ H hi p
  by_cases hlt : i < xs.length
  · refine .inr ⟨⟨xs, xs[i], q, by simp [hlt]⟩, Pv (i + 1), fun σ' H' p' => ⟨xs.length - (i + 1), by omega, rfl, hlt, p'⟩, fun v H' y => ?_⟩
    obtain ⟨T, x, rfl, hT, rfl, f⟩ := y
    exact hs i x T σ H (f xs q) p hT
  · have e : i = xs.length := by omega
    subst e
    exact .inl ⟨⟨xs, q, rfl⟩, hd σ H p⟩
/-- .. with a break: what holds behind the loop is shown once -/
theorem for_enumTB {K : PySem.W.Frag} {a : Addr} {xs : List V} {g : TG} {tb : TS} {D : Ends} {σ : L2.St} {H : Hp} (Pv : Nat → L2.St → Hp → Prop) (Bk : L2.St → Hp → Prop) (h0 : Pv 0 σ H) (hl : ∀ i σ H, i ≤ xs.length → Pv i σ H → SqT K H a xs)
    (hs : (∀ σ H, Bk σ H → D.nx σ H) → ∀ (i : Nat) (x : V) (T : Addr) (σ : L2.St) (H : Hp), xs[i]? = some x → Pv i σ H → H T = none →
      g (.ref T) σ (upd H T (.tup [.int (i : Nat), x])) fun σ2 H2 => tb { D with nx := Pv (i + 1), ct := Pv (i + 1), bk := D.nx } σ2 H2)
    (hd : ∀ σ H, Pv xs.length σ H → Bk σ H) (hb : ∀ σ H, Bk σ H → D.nx σ H) :
    ∃ W : Nat → Nat → L2.St → Hp → Prop, (∃ m, W 0 m σ H) ∧ ∀ i m σ H, W i m σ H →
      ((ItEt K a).stop i H ∧ D.nx σ H) ∨ ((ItEt K a).go i H ∧ ∃ N : L2.St → Hp → Prop, (∀ σ' H', N σ' H' → ∃ m', m' < m ∧ W (i + 1) m' σ' H') ∧
        ∀ v H', (ItEt K a).yld i H v H' → g v σ H' fun σ2 H2 => tb { D with nx := N, ct := N, bk := D.nx } σ2 H2) :=
  for_enumT Pv h0 hl (hs hb) fun σ H p => hb σ H (hd σ H p)
end Sfl
namespace Sfl
open PySem PySem.Spec PyProof.Rows L2

/-! ### plain words -/
def Nm (z : Str) : Bool := if z.length > 8 then false else (if Txt.isascii z then (if Txt.isalpha z then Txt.islower z else false) else false)
def nV (n : Nat) : V := .int (n : Nat)
/-- a tuple of texts stands at p -/
abbrev Tp (H : Hp) (p : Addr) (l : List Str) : Prop := H p = some (.tup (l.map V.str))
abbrev Ip (H : Hp) (p : Addr) (l : List Nat) : Prop := H p = some (.tup (l.map nV))
/-- all but a is as it was -/
def Kp (a : Addr) (H H' : Hp) : Prop := ∀ b o, b ≠ a → H b = some o → H' b = some o
theorem Kp.refl (a : Addr) (H : Hp) : Kp a H H := fun _ _ _ h => h
theorem Kp.trans {a : Addr} {H H1 H2 : Hp} (x : Kp a H H1) (y : Kp a H1 H2) : Kp a H H2 := fun b o n h => y b o n (x b o n h)
theorem Kp.of {a : Addr} {H H' : Hp} (s : Same H H') : Kp a H H' := fun b o _ h => s b o h
theorem same_upd {H : Hp} {p : Addr} {o : HO} (h : H p = none) : Same H (upd H p o) := fun b x e => by
  rw [upd_ne (ne_of_none e h)]
  exact e
theorem kp_upd {H : Hp} {a : Addr} {o : HO} : Kp a H (upd H a o) := fun b x n e => by
  rw [upd_ne n]
  exact e
/-- greedy places -/
def gr : List Str → List Str → Nat → List Nat
  | [], _, _ => []
  | _ :: _, [], _ => []
  | x :: xs, y :: ys, i => if y = x then i :: gr xs ys (i + 1) else gr (x :: xs) ys (i + 1)
theorem gr_nil (o : List Str) (i : Nat) : gr [] o i = [] := by
  cases o <;> rfl
theorem gr_end (l : List Str) (i : Nat) : gr l [] i = [] := by
  cases l <;> rfl
theorem gr_le : ∀ (l o : List Str) (i : Nat), (gr l o i).length ≤ l.length
  | [], o, i => by rw [gr_nil]; exact Nat.le_refl _
  | x :: xs, [], i => Nat.zero_le _
  | x :: xs, y :: ys, i => by
    unfold gr
    by_cases h : y = x
    · rw [if_pos h]
      exact Nat.succ_le_succ (gr_le xs ys (i + 1))
    · rw [if_neg h]
      exact gr_le (x :: xs) ys (i + 1)
/-- one turn -/
theorem gr_step {l o : List Str} {k i : Nat} {y : Str} (hk : k < l.length) (hi : o[i]? = some y) :
    gr (l.drop k) (o.drop i) i = if y = l[k] then i :: gr (l.drop (k + 1)) (o.drop (i + 1)) (i + 1) else gr (l.drop k) (o.drop (i + 1)) (i + 1) := by
  obtain ⟨h1, h2⟩ := List.getElem?_eq_some_iff.mp hi
  have e1 : l.drop k = l[k] :: l.drop (k + 1) := List.drop_eq_getElem_cons hk
  have e2 : o.drop i = y :: o.drop (i + 1) := by
    rw [List.drop_eq_getElem_cons h1, h2]
  rw [e1, e2]
  rfl
/-! ### rules that name the written part -/
def rLenK (K : PySem.W.Frag) : List V → Hp → VK → Prop := fun xs H Q => ∃ p ys, xs = [.ref p] ∧ (SqL K H p ys ∨ SqT K H p ys) ∧ Q (.int ys.length) H
theorem lenK {X : Cx} (K : PySem.W.Frag) (h : X.K = K := by rfl) : CallR X (.builtin "len") (rLenK K) := by
  subst h
  exact call_len_seq
theorem ixTK {X : Cx} (K : PySem.W.Frag) (h : X.K = K := by rfl) : IxR X (rIxT K) := by
  subst h
  exact ix_tup
theorem ixLK {X : Cx} (K : PySem.W.Frag) (h : X.K = K := by rfl) : IxR X (rIxL K) := by
  subst h
  exact ix_list
theorem catK {X : Cx} (K : PySem.W.Frag) (h : X.K = K := by rfl) : OpR X (binaryOp .Add) (rCatA K) := by
  subst h
  exact op_catA
theorem minK {X : Cx} (K : PySem.W.Frag) (hc : X.calm = true := by rfl) (h : X.K = K := by rfl) : CallR X (.builtin "min") (rMin K) := by
  subst h
  exact cr_min hc
theorem maxK {X : Cx} (K : PySem.W.Frag) (hc : X.calm = true := by rfl) (h : X.K = K := by rfl) : CallR X (.builtin "max") (rMax K) := by
  subst h
  exact cr_max hc
end Sfl
namespace Sfl
open PySem PySem.Spec PyProof.Rows L2
theorem sqt {K : PySem.W.Frag} {H : Hp} {p : Addr} {xs : List V} (h : H p = some (.tup xs)) : SqT K H p xs := .inl (.inl h)
theorem sql {K : PySem.W.Frag} {H : Hp} {p : Addr} {xs : List V} (h : H p = some (.lst xs)) : SqL K H p xs := .inl (.inl h)
/-! ### slices and sums of tuples, whatever object they are -/
def rSlS : V → Option Int → Option Int → Hp → VK → Prop := fun x lo hi H Q => ∃ a xs, x = .ref a ∧ H a = some (.tup xs) ∧
  ∀ p H', Same H H' → H' p = some (.tup (cutV xs lo hi)) → Q (.ref p) H'
theorem cutV_whole {xs : List V} {lo hi : Option Int} (h : HT.sIx xs.length 0 lo = 0 ∧ HT.sIx xs.length xs.length hi = xs.length) : cutV xs lo hi = xs := by
  unfold cutV
  rw [h.1, h.2, List.drop_zero, Nat.sub_zero, List.take_length]
theorem sl_tupS {X : Cx} : SlR X rSlS := by
  intro pins s σ H x v vl vu lo hi sl Q I rx hs pl pu h
  obtain ⟨a, xs, rfl, hx, q⟩ := h
  refine sl_tupA pins s σ H _ v vl vu lo hi sl Q I rx hs pl pu ⟨a, xs, rfl, sqt hx, fun hw => ?_, fun hw p hp => ?_⟩
  · exact q a H (Same.refl H) (by rw [cutV_whole hw]; exact hx)
  · exact q p _ (same_upd hp) upd_same
def rCatS : R2 := fun x y H Q => ∃ a b xs ys, x = .ref a ∧ y = .ref b ∧ H a = some (.tup xs) ∧ H b = some (.tup ys) ∧ xs.length + ys.length ≤ sizeLine ∧
  ∀ p H', Same H H' → H' p = some (.tup (xs ++ ys)) → Q (.ref p) H'
theorem op_catS {X : Cx} : OpR X (binaryOp .Add) rCatS := by
  intro pins s σ H x y v u Q I rx ry h
  obtain ⟨a, b, xs, ys, rfl, rfl, ha, hb, hz, q⟩ := h
  refine op_catA pins s σ H _ _ v u Q I rx ry ⟨a, b, xs, ys, rfl, rfl, sqt ha, sqt hb, hz, fun e => ?_, fun _ e => ?_, fun _ _ p hp => ?_⟩
  · subst e
    exact q b H (Same.refl H) hb
  · subst e
    exact q a H (Same.refl H) (by rw [List.append_nil]; exact ha)
  · exact q p _ (same_upd hp) upd_same
theorem cut_take (xs : List V) (k : Nat) (h : k ≤ xs.length) : cutV xs none (some (k : Int)) = xs.take k := by
  unfold cutV
  rw [HT.sIx_none, HT.sIx_nat, Nat.min_eq_left h, Nat.sub_zero, List.drop_zero]
theorem cut_drop (xs : List V) (k : Nat) (h : k ≤ xs.length) : cutV xs (some (k : Int)) none = xs.drop k := by
  unfold cutV
  rw [HT.sIx_none, HT.sIx_nat, Nat.min_eq_left h]
  apply List.take_of_length_le
  rw [List.length_drop]
  exact Nat.le_refl _
/-! ### data -/
theorem all_strs {K : PySem.W.Frag} {H : Hp} : ∀ l : List Str, DpAll K H (l.map V.str) (l.map PyData.str)
  | [] => .nil
  | x :: r => .cons (.str x) (all_strs r)
theorem all_ints {K : PySem.W.Frag} {H : Hp} : ∀ l : List Nat, DpAll K H (l.map nV) (l.map fun n => PyData.int (n : Nat))
  | [] => .nil
  | x :: r => .cons (.int _) (all_ints r)
theorem dp_tp {K : PySem.W.Frag} {H : Hp} {p : Addr} {l : List Str} (h : Tp H p l) : Dp K H (.ref p) (.tuple (l.map PyData.str)) := .tup (sqt h) (all_strs l)
theorem dp_ip {K : PySem.W.Frag} {H : Hp} {p : Addr} {l : List Nat} (h : Ip H p l) : Dp K H (.ref p) (.tuple (l.map fun n => PyData.int (n : Nat))) := .tup (sqt h) (all_ints l)
theorem nm_ok {z : Str} (h : Nm z = true) : PyData.strOk z = true := by
  unfold Nm at h
  by_cases c : z.length > 8
  · rw [if_pos c] at h
    cases h
  · rw [if_neg c] at h
    cases e : Txt.isascii z with
    | false =>
      rw [e] at h
      cases h
    | true =>
      unfold Txt.isascii at e
      unfold PyData.strOk
      rw [Array.all_eq_true] at e ⊢
      intro i hi
      have := e i hi
      simp only [decide_eq_true_eq] at this ⊢
      omega
theorem flat_strs : ∀ l : List Str, (∀ z ∈ l, PyData.strOk z = true) → PyData.canLayAll0 (l.map PyData.str) = true ∧ PyData.depthAll (l.map PyData.str) = 0
  | [], _ => ⟨rfl, rfl⟩
  | x :: r, h => by
    have ih := flat_strs r fun z hz => h z (List.mem_cons_of_mem _ hz)
    have hx := h x List.mem_cons_self
    constructor
    · show (PyData.canLay0 (.str x) && PyData.canLayAll0 (r.map PyData.str)) = true
      rw [ih.1]
      show (PyData.strOk x && true) = true
      rw [hx]
      rfl
    · show max (PyData.depth (.str x)) (PyData.depthAll (r.map PyData.str)) = 0
      rw [ih.2]
      rfl
theorem flat_ints : ∀ l : List Nat, PyData.canLayAll0 (l.map fun n => PyData.int (n : Nat)) = true ∧ PyData.depthAll (l.map fun n => PyData.int (n : Nat)) = 0
  | [] => ⟨rfl, rfl⟩
  | x :: r => by
    have ih := flat_ints r
    constructor
    · show (PyData.canLay0 (.int x) && PyData.canLayAll0 (r.map fun n => PyData.int (n : Nat))) = true
      rw [ih.1]
      rfl
    · show max (PyData.depth (.int x)) (PyData.depthAll (r.map fun n => PyData.int (n : Nat))) = 0
      rw [ih.2]
      rfl
theorem shaped_of {d : PyData} {n : Nat} (h : d.canLay0 = true) (h2 : d.depth = n) (h3 : n ≤ 64) : SeqAt.shaped d = true := by
  unfold SeqAt.shaped
  rw [h, h2, decide_eq_true h3]
  rfl
theorem shL {ds : List PyData} (h : PyData.canLayAll0 ds = true ∧ PyData.depthAll ds = 0) : SeqAt.shaped (.list ds) = true :=
  shaped_of (n := 1) h.1 (by show PyData.depthAll ds + 1 = 1; rw [h.2]) (by decide)
theorem shT {ds : List PyData} (h : PyData.canLayAll0 ds = true ∧ PyData.depthAll ds = 0) : SeqAt.shaped (.tuple ds) = true :=
  shaped_of (n := 1) h.1 (by show PyData.depthAll ds + 1 = 1; rw [h.2]) (by decide)
/-- a list, or a tuple, of these things -/
def It' (H : Hp) (p : Addr) (xs : List V) : Prop := H p = some (.lst xs) ∨ H p = some (.tup xs)
theorem It'.kp {a p : Addr} {H H' : Hp} {xs : List V} (h : It' H p xs) (x : Kp a H H') (hn : p ≠ a) : It' H' p xs := by
  rcases h with h | h
  · exact .inl (x p _ hn h)
  · exact .inr (x p _ hn h)
theorem It'.same {p : Addr} {H H' : Hp} {xs : List V} (h : It' H p xs) (x : Same H H') : It' H' p xs := by
  rcases h with h | h
  · exact .inl (x p _ h)
  · exact .inr (x p _ h)
theorem It'.sq {K : PySem.W.Frag} {H : Hp} {p : Addr} {xs : List V} (h : It' H p xs) : SqL K H p xs ∨ SqT K H p xs := by
  rcases h with h | h
  · exact .inl (sql h)
  · exact .inr (sqt h)
theorem It'.ix {K : PySem.W.Frag} {H : Hp} {p : Addr} {xs : List V} {i : Nat} {v : V} {Q : VK} (h : It' H p xs) (hv : xs[i]? = some v) (q : Q v H) : rIx K (.ref p) (.int (i : Int)) H Q := by
  rcases h with h | h
  · exact .inl ⟨p, xs, _, v, rfl, rfl, sql h, atI_nat hv, q⟩
  · exact .inr (.inl ⟨p, xs, _, v, rfl, rfl, sqt h, atI_nat hv, q⟩)
end Sfl
namespace Sfl
open PySem PySem.Spec PyProof.Rows L2
theorem piLK {X : Cx} {tg l : Expr} {tl : TE} (K : PySem.W.Frag) (hl : PE X l tl) (h : X.K = K := by rfl) : PI X tg l (iList K tl) := by
  subst h
  exact pi_list hl
theorem piTK {X : Cx} {tg l : Expr} {tl : TE} (K : PySem.W.Frag) (hl : PE X l tl) (h : X.K = K := by rfl) : PI X tg l (iTup K tl) := by
  subst h
  exact pi_tup hl
/-! ### parts of the text -/
def asgVal (s : Stmt) : Expr := match s with
  | .Assign _ v _ => v
  | _ => .Constant .none 0 ⟨0, 0, 0, 0⟩
def callArg (e : Expr) (i : Nat) : Expr := match e with
  | .Call _ as _ _ => as.getD i (.Constant .none 0 ⟨0, 0, 0, 0⟩)
  | _ => .Constant .none 0 ⟨0, 0, 0, 0⟩
def lcScope (e : Expr) : Scope := match e with
  | .ListComp _ _ sc _ => sc
  | _ => { kind := .function, names := [], isGenerator := false, isCoroutine := false }
def inBlock (e : Expr) (sc : Scope) : Scope := relS (lcScope e) sc
end Sfl
namespace Sfl
open PySem PySem.Spec PyProof.Rows L2
/-- list(range(a, b, c)) -/
def stepV (i c : Int) (n : Nat) : List V := (List.range n).map fun k => V.int (i + (k : Nat) * c)
def tLst3 (ta : TA) : TE := fun σ H Q => ta σ H fun vs H1 => ∃ (i j c : Int) (n : Nat), vs = [.int i, .int j, .int c] ∧ RgC i j c n ∧ n ≤ 2 ^ 24 ∧
  ∀ q, H1 q = none → Q (.ref q) (upd H1 q (.lst (stepV i c n)))
theorem pe_list3 {X : Cx} {a b c : Expr} {ta : TA} {p pos p2 pos2 : Pos} (hc : X.calm = true) (hg : Gl X "range") (hm : X.mg "range" = none) (hg2 : Gl X "list") (hm2 : X.mg "list" = none) (ha : PA X [a, b, c] ta)
    (hs : starEach [a, b, c] X.env = (false, eval a X.env) :: starEach [b, c] X.env := by rfl) (hpl : (backTo pos (starEach [b, c] X.env)).any (·.1) = false := by rfl)
    (na : starEach [.Call (.Name "range" p) [a, b, c] [] pos] X.env = (false, eval (.Call (.Name "range" p) [a, b, c] [] pos) X.env) :: starEach [] X.env := by rfl) :
    PE X (.Call (.Name "list" p2) [.Call (.Name "range" p) [a, b, c] [] pos] [] pos2) (tLst3 ta) := by
  refine ⟨fun pins s σ H Q I h => ?_⟩
  refine Call_ (ld_blt I hg2 hm2 boot_list (PyProof.Rows.callWith_type1 (args_cons (thn (Q := fun x s' => ∃ r i j k t u v n H', x = Value.ref r ∧ IsRange s'.heap r i j k t u v ∧ L2.Inv X pins σ H' s' ∧ RgC i j k n ∧ n ≤ 2 ^ 24 ∧
      ∀ q, H' q = none → Q (.ref q) (upd H' q (.lst (stepV i k n)))) ?_ fun x s1 h1 => args_nil ?_) na) na))
  · refine Call_ (ld_blt I hg hm boot_range (PyProof.Rows.callWith_type1 (thn (ha.run pos pins s σ H _ I h)
      fun us s1 ⟨vs, H1, I1, r1, q1⟩ => ?_) hs hpl))
    obtain ⟨i, j, k, n, e, hR, hn, q⟩ := q1
    subst e
    obtain ⟨c0, c1, c2, c3⟩ := id hR
    cases r1 with
    | cons r rr =>
      cases rr with
      | cons r' rr =>
        cases rr with
        | cons r'' rr =>
          cases rr
          obtain ⟨t, rfl⟩ := r
          obtain ⟨t', rfl⟩ := r'
          obtain ⟨t'', rfl⟩ := r''
          refine call_range_3 c0 ?_ (.inl (PyProof.noPylong_small c1))
          exact ⟨_, i, j, k, _, _, _, n, H1, rfl, IsRange.new .., I1.kept (t' := s1.toks) fun b o e => Heap.get?_push_of_some _ e, hR, hn, q⟩
  · obtain ⟨r, i, j, k, t, u, v, n, H1, ex, hr, I1, ⟨c0, c1, c2, c3⟩, hn, q⟩ := h1
    subst ex
    refine call_list_range (n := n) (I1.ok.hd hc) hr c2 c3 hn fun h' tk acc c' hk e' hi => ?_
    have hv : Vals (stepV i k n) acc.toList := by
      have e : acc.toList.length = n := by
        rw [Array.length_toList]
        exact hi.1
      unfold stepV
      rw [← e]
      refine vals_of_get acc.toList _ fun j' u' hj => ?_
      obtain ⟨t2, rfl⟩ := hi.2 j' u' (by rw [← hj, Array.getElem?_toList])
      exact ⟨t2, rfl⟩
    have hlen : (stepV i k n).length = n := by
      unfold stepV
      rw [List.length_map, List.length_range]
    have new : ObjOk X.prog X.w (upd H1 s1.heap.objs.size (.lst (stepV i k n))) h' s1.heap.objs.size (.lst (stepV i k n)) := by
      refine ⟨?_, acc.toList, c', hv, ?_⟩
      · rw [hlen, sizeLine_eq]
        omega
      · rw [Array.toArray_toList]
        exact e'
    exact ⟨.ref s1.heap.objs.size, _, I1.laid hk (Nat.le_refl _) new, rfl, q _ (I1.hok.fresh (Nat.le_refl _))⟩
end Sfl
namespace Sfl
open PySem PySem.Spec PyProof.Rows L2
section
variable {prog : Program} {w : World} {A : Around} {E : Value → Shared → Prop} {s : Shared} {K : PySem.W.Frag} {x C f : Addr} {ox : Obj} {od : Option Obj}
open PySem.W in
theorem truthy_len {Q : Bool → Shared → Prop} (X : K.In s.heap) (I : InstAt s.heap x ox C od) (hb : findIn K (.ref C) "__bool__" = some none) (hs : findIn K (.ref C) "__len__" = some (some (.ref f))) (hf : isFn K (.ref f) = true)
    (h : wpAny (model prog w) A.in1 (call (.ref f) [.ref x]) (fun v s' => ∃ n t, v = .int n t ∧ (0 ≤ n ∧ n < 2 ^ 63) ∧ ∀ tk, Q (n != 0) { s' with toks := tk }) E s) : wpAny (model prog w) A (truthy (.ref x)) Q E s := by
  unfold truthy
  refine wpAny_bind (m := callSpecial? (.ref x) (Str.ofString "__bool__")) (wpAny_bind (wpAny_bind (I.type.here ((looks_findIn X hb).here (wpAny_pure ?_)))))
  refine wpAny_bind (wpAny_bind (I.type.here ((looks_findIn X hs).here ?_)))
  refine wpAny_bind (wpAny_runValue ?_)
  refine codeAny_builtin entry_len ?_
  rw [Around.under_plainId plain_len _]
  unfold Builtin.«len»
  refine wpAny_bind (m := oneArg "len" _) (wpAny_pure ?_)
  refine wpAny_bind (m := callSpecial? (.ref x) (Str.ofString "__len__")) (special_fn X I hs (beq_iff_eq.mp hf) (wpAny_mono h (fun r s' hr => ?_) fun _ _ y => y))
  obtain ⟨n, u, rfl, ⟨h0, h1⟩, hq⟩ := hr
  refine wpAny_bind (wpAny_holding (wpAny_pure ?_))
  refine wpAny_bind (wpAny_letGo ?_)
  show wpAny _ _ (if n < 0 then _ else _) _ _ _
  rw [if_neg (by omega)]
  show wpAny _ _ (if n ≥ 2 ^ 63 then _ else _) _ _ _
  rw [if_neg (by omega)]
  exact wpAny_bind (wpAny_mkInt (wpAny_pure (wpAny_pure (hq _))))
open PySem.W in
theorem bool_own {Q : Value → Shared → Prop} (X : K.In s.heap) (I : InstAt s.heap x ox C od) (hb : findIn K (.ref C) "__bool__" = some none) (hs : findIn K (.ref C) "__len__" = some (some (.ref f))) (hf : isFn K (.ref f) = true)
    (h : wpAny (model prog w) A.in1.in1.in1 (call (.ref f) [.ref x]) (fun v s' => ∃ n t, v = .int n t ∧ (0 ≤ n ∧ n < 2 ^ 63) ∧ ∀ tk, Q (.bool (n != 0)) { s' with toks := tk }) E s) : wpAny (model prog w) A (call (.type "bool") [.ref x]) Q E s := by
  refine callType_codes (T := "bool") (Bi := Builtin.«object.__init__») (Q₁ := fun r s₁ => ∃ b, r = .bool b ∧ Q r s₁) PySem.F.called_bool (PySem.F.typeCall_bool_1 _) PySem.F.entry_object_init ?_ ?_
  · refine codeAny_of_tree ?_
    show wpAny _ A.in1.in1 (do checkBuiltinCall "bool.__new__" ⟨[.type "bool", .ref x], []⟩; again (.builtin "bool.__new__" ⟨[.type "bool", .ref x], []⟩)) _ _ s
    refine wpAny_bind (wpAny_of_eq (PySem.F.newCall_bool_1 _) (wpAny_pure ⟨plainId_quiet (by decide +kernel) _, codeAny_builtin PySem.F.entry_bool_new ?_⟩))
    rw [Around.under_plainId (by decide +kernel) _]
    unfold Builtin.«bool.__new__»
    refine wpAny_bind (wpAny_of_eq (a := true) (by rfl) ?_)
    refine PySem.W.KFB.if_not rfl ?_
    refine wpAny_bind (wpAny_of_eq (a := true) PySem.F.conv_sub_bool ?_)
    refine PySem.W.KFB.if_not rfl ?_
    refine wpAny_bind (wpAny_of_eq (a := [.ref x]) (by rfl) ?_)
    refine wpAny_bind (wpAny_mono (truthy_len (Q := fun b s₁ => Q (.bool b) s₁) X I hb hs hf h) (fun b s1 q => ?_) fun _ _ y => y)
    exact wpAny_pure ⟨b, rfl, q⟩
  · rintro obj s₁ ⟨b, rfl, hq⟩
    exact ⟨rfl, PySem.F.args_object_init_2 _ _, object_init_meets PySem.F.called_bool.init.lookup PySem.F.called_bool.made (by decide) prog w A.in1 _ s₁ ⟨rfl, rfl, hq⟩⟩
open PySem.W in
theorem str_own {Q : Value → Shared → Prop} (hu : A.in1.in1.units < cLine) (X : K.In s.heap) (I : InstAt s.heap x ox C od) (hs : findIn K (.ref C) "__str__" = some (some (.ref f))) (hf : isFn K (.ref f) = true)
    (h : wpAny (model prog w) A.in1.in1 (call (.ref f) [.ref x]) (fun v s' => ∃ y t, v = .str y t ∧ Q v s') E s) : wpAny (model prog w) A (call (.type "str") [.ref x]) Q E s := by
  refine callType_codes (T := "str") (Bi := Builtin.«object.__init__») (Q₁ := fun z s₁ => ∃ y t, z = .str y t ∧ Q z s₁) PySem.F.called_str (PySem.F.typeCall_str_1 _) PySem.F.entry_object_init ?_ ?_
  · refine codeAny_of_tree ?_
    show wpAny _ A.in1.in1 (do checkBuiltinCall "str.__new__" ⟨[.type "str", .ref x], []⟩; again (.builtin "str.__new__" ⟨[.type "str", .ref x], []⟩)) _ _ s
    refine wpAny_bind (wpAny_of_eq (PySem.F.newCall_str_1 _) (wpAny_pure ⟨plainId_quiet (by decide +kernel) _, codeAny_builtin PySem.F.entry_str_new ?_⟩))
    rw [Around.under_plainId (by decide +kernel) _, str_new_tree]
    refine wpAny_bind (wpAny_pure (wpAny_bind (wpAny_of_eq isSubtype_str_str ?_)))
    have key : wpAny (model prog w) A.in1.in1 (PySem.Builtin.Str.strOf (.ref x)) (fun z s₁ => ∃ y t, z = .str y t ∧ Q z s₁) E s := by
      unfold PySem.Builtin.Str.strOf
      rw [show Builtin.Str.isExactStr (.ref x) = false from rfl]
      refine wpAny_bind (m := cRoomFor _ _) (wpAny_cRoomFor hu ?_)
      refine wpAny_bind (m := callSpecial? (.ref x) (Str.ofString "__str__")) (special_fn X I hs (beq_iff_eq.mp hf) (wpAny_mono h (fun z s1 hz => ?_) fun _ _ q => q))
      obtain ⟨y, t, rfl, hq⟩ := hz
      exact wpAny_pure ⟨y, t, rfl, hq⟩
    exact wpAny_bind (wpAny_mono key (fun z s₁ hz => wpAny_pure hz) fun _ _ q => q)
  · rintro obj s₁ ⟨y, t, rfl, hq⟩
    exact ⟨typeIs_str _ _ _, PySem.F.args_object_init_2 _ _, object_init_meets PySem.F.called_str.init.lookup PySem.F.called_str.made (by decide) prog w A.in1 _ s₁ ⟨typeIs_str _ _ _, rfl, hq⟩⟩
end
section
variable {prog : Program} {w : World} {A : Around} {E : Value → Shared → Prop} {s : Shared} {K : PySem.W.Frag} {x C f : Addr} {ox : Obj} {od : Option Obj}
open PySem.W in
theorem ifBound_B {M : Model} {name : Str} {id : String} {args : List Value} {Q : Option Value → Shared → Prop} (X : K.In s.heap) (I : InstAt s.heap x ox C od) (hs : findIn K (.ref C) name = some (some (.builtin id)))
    (hb : ∀ self, bindSpecial (.builtin id) self = pure (.builtin id, [self])) (h : wpAny M A (call (.builtin id) (.ref x :: args)) (fun v => Q (some v)) E s) : wpAny M A (callSpecialIfBound? (.ref x) name args) Q E s := by
  simp only [callSpecialIfBound?, bindSpecialIfBound?]
  refine wpAny_holding (wpAny_bind (wpAny_bind (wpAny_bind (I.type.here ((looks_findIn X hs).here ?_)))))
  refine wpAny_bind (wpAny_askSetting (wpAny_ite ?_))
  have fin : wpAny M A (call (.builtin id) ([.ref x] ++ args) >>= fun v => pure (some v)) Q E s := wpAny_bind (wpAny_mono h (fun v s' z => wpAny_pure z) fun _ _ z => z)
  split
  · exact wpAny_bind ((Looks.of_pure (hb _)).here (wpAny_pure (by exact fin)))
  · exact wpAny_tryCatch (wpAny_bind ((Looks.of_pure (hb _)).here (wpAny_pure (by exact fin))))
open PySem.W in
theorem ne_own {b tb : Value} {Q : Value → Shared → Prop} (hu : A.units + 1 < cLine) (X : K.In s.heap) (I : InstAt s.heap x ox C od) (hb : Looks (model prog w) s.heap (typeOf b) tb) (hn : notFirst K C tb = true) (hm : mroIn K C (.type "object") = some true)
    (hs : findIn K (.ref C) (cmpInfo .NotEq).2.1 = some (some (.builtin "object.__ne__"))) (he : findIn K (.ref C) "__eq__" = some (some (.ref f))) (hf : isFn K (.ref f) = true)
    (h : wpAny (model prog w) A.in1 (call (.ref f) [.ref x, b]) (fun v s' => ∃ k, v = .bool k ∧ Q (.bool (!k)) s') E s) : wpAny (model prog w) A (richCompare .NotEq (.ref x) b) Q E s := by
  have one : wpAny (model prog w) A (tryCompare (.ref x) (cmpInfo .NotEq).2.1 b) (fun r s' => ∃ v, r = some v ∧ Q v s') E s := by
    unfold tryCompare
    refine wpAny_bind (ifBound_B X I hs PySem.F.cmp_object.ne.bind (wpAny_call (codeAny_call_builtin PySem.F.cmp_object.ne.plain PySem.F.cmpEntry_ne
      (check_slot (i := "object.__ne__") (owner := "object") (n := "__ne__") PySem.F.cmpKind_ne PySem.F.cmpSplit_ne (I.type.andThen (looks_mroIn X hm)) (PySem.F.cmpArgs_ne _ _) ?_))))
    unfold Builtin.«object.__ne__»
    refine wpAny_bind (m := slotArgs "__ne__" 1 _) (wpAny_pure ?_)
    refine wpAny_bind (m := cRoomFor _ _) (wpAny_cRoomFor hu ?_)
    refine wpAny_bind (m := callSpecialIfBound? (.ref x) (Str.ofString "__eq__") _) (ifBound_K X I he hf (wpAny_mono h (fun r s' hq => ?_) fun _ _ y => y))
    obtain ⟨k, rfl, q⟩ := hq
    exact wpAny_bind (wpAny_truthy_bool (wpAny_pure (wpAny_pure ⟨_, rfl, q⟩)))
  unfold richCompare
  simp only [oneThing_ref]
  refine wpAny_holding (wpAny_bind (wpAny_cRoomFor (Nat.lt_of_succ_lt hu) ?_))
  refine wpAny_bind (I.type.here (wpAny_bind (hb.here ?_)))
  split
  · rename_i q
    have e : subIn K tb (.ref C) = some false := by
      rcases Bool.or_eq_true_iff.mp hn with e | e
      · rw [beq_iff_eq.mp e] at q
        simp at q
      · exact beq_iff_eq.mp e
    refine wpAny_bind ((looks_subIn X e).here ?_)
    simp only [Bool.false_eq_true, if_false]
    refine wpAny_bind (wpAny_mono one (fun r s' z => ?_) fun _ _ e => e)
    obtain ⟨v, rfl, hq⟩ := z
    exact wpAny_pure hq
  · refine wpAny_bind (wpAny_pure ?_)
    simp only [Bool.false_eq_true, if_false]
    refine wpAny_bind (wpAny_mono one (fun r s' z => ?_) fun _ _ e => e)
    obtain ⟨v, rfl, hq⟩ := z
    exact wpAny_pure hq
end

/-! ### rules -/
/-- what the text's class has, for ==, !=, bool, len, str, + -/
structure OwnC (K : PySem.W.Frag) (C : Addr) : Prop where
  mro : PySem.W.mroIn K C (.type "object") = some true
  first : PySem.W.selfFirst K C = true
section
variable {X : Cx} {CX : CXT} {pins : List (Addr × Obj)} {σ : L2.St} {H : Hp} {s : Shared} {a C dx g : Addr} {fs : List (Str × V)} {n : Nat} {sp : Sp} {E : XK}
theorem ins_at (I : Inv X pins σ H s) (h : H a = some (.ins C dx fs)) : ∃ ox od, PySem.W.InstAt s.heap a ox C (some od) := by
  obtain ⟨mA, O, _⟩ := ins_get I.hok h
  obtain ⟨od, J, _⟩ := O.look
  exact ⟨_, od, J⟩
/-- len(x), bool(x), str(x) of an instance with its own defs -/
def rLenO (C : Addr) (sp : Sp) (E : XK) : List V → Hp → VK → Prop := fun xs H Q => ∃ a dx fs, xs = [V.ref a] ∧ H a = some (.ins C dx fs) ∧ sp [.ref a] H (fun z H' => ∃ i : Int, z = .int i ∧ (0 ≤ i ∧ i < 2 ^ 63) ∧ Q (.int i) H') E
def rBoolO (C : Addr) (sp : Sp) (E : XK) : List V → Hp → VK → Prop := fun xs H Q => ∃ a dx fs, xs = [V.ref a] ∧ H a = some (.ins C dx fs) ∧ sp [.ref a] H (fun z H' => ∃ i : Int, z = .int i ∧ (0 ≤ i ∧ i < 2 ^ 63) ∧ Q (.bl (i != 0)) H') E
def rStrO (C : Addr) (sp : Sp) (E : XK) : List V → Hp → VK → Prop := fun xs H Q => ∃ a dx fs, xs = [V.ref a] ∧ H a = some (.ins C dx fs) ∧ sp [.ref a] H (fun z H' => ∃ y : Str, z = .str y ∧ Q (.str y) H') E
theorem call_lenO (hs : PySem.W.findIn X.K (.ref C) "__len__" = some (some (.ref g))) (hf : PySem.W.isFn X.K (.ref g) = true) (F : FnR X.prog X.w X.K X.mg X.base CX n g sp) (hr : Room (n + 1) X.A) (hx : Passes CX X E) : CallR X (.builtin "len") (rLenO C sp E) := by
  intro pins s σ H xs us Q I r h
  obtain ⟨a, dx, fs, rfl, ha, q⟩ := h
  obtain ⟨u, rfl, ru⟩ := vals1 r
  cases (show u = Value.ref a from ru)
  obtain ⟨ox, od, J⟩ := ins_at I ha
  obtain ⟨m, hF⟩ := I.fr
  refine PySem.W.len_K hF I.ok.mod.kin J hs hf (wpAny_mono (wpAny_call (SlX.run_at (us := [.ref a]) (ws := [.ref a]) F hr.in1 I.env0.in1 hx I (.cons rfl .nil) q)) (fun v s' z => ?_) fun _ _ y => y)
  obtain ⟨z', H', I', rz, i, ei, hi, qz⟩ := z
  subst ei
  obtain ⟨t, e⟩ := (show ∃ t, v = Value.int i t from rz)
  subst e
  exact ⟨hi, .int i, H', I'.tok _, ⟨_, rfl⟩, qz⟩
theorem call_boolO (hb : PySem.W.findIn X.K (.ref C) "__bool__" = some none) (hs : PySem.W.findIn X.K (.ref C) "__len__" = some (some (.ref g))) (hf : PySem.W.isFn X.K (.ref g) = true) (F : FnR X.prog X.w X.K X.mg X.base CX n g sp)
    (hr : Room (n + 3) X.A) (hx : Passes CX X E) : CallR X (.type "bool") (rBoolO C sp E) := by
  intro pins s σ H xs us Q I r h
  obtain ⟨a, dx, fs, rfl, ha, q⟩ := h
  obtain ⟨u, rfl, ru⟩ := vals1 r
  cases (show u = Value.ref a from ru)
  obtain ⟨ox, od, J⟩ := ins_at I ha
  have hr3 : Room n X.A.in1.in1.in1 := (show Room (n + 1) X.A.in1.in1 from (show Room (n + 2) X.A.in1 from hr.in1).in1).in1
  refine bool_own I.kIn J hb hs hf (wpAny_mono (wpAny_call (SlX.run_at (us := [.ref a]) (ws := [.ref a]) F hr3 I.env0.in1.in1.in1 hx I (.cons rfl .nil) q)) (fun v s' z => ?_) fun _ _ y => y)
  obtain ⟨z', H', I', rz, i, ei, hi, qz⟩ := z
  subst ei
  obtain ⟨t, e⟩ := (show ∃ t, v = Value.int i t from rz)
  subst e
  exact ⟨i, t, rfl, hi, fun tk => ⟨.bl (i != 0), H', I'.tok _, rfl, qz⟩⟩
theorem call_strO (hs : PySem.W.findIn X.K (.ref C) "__str__" = some (some (.ref g))) (hf : PySem.W.isFn X.K (.ref g) = true) (F : FnR X.prog X.w X.K X.mg X.base CX n g sp) (hr : Room (n + 2) X.A) (hx : Passes CX X E) : CallR X (.type "str") (rStrO C sp E) := by
  intro pins s σ H xs us Q I r h
  obtain ⟨a, dx, fs, rfl, ha, q⟩ := h
  obtain ⟨u, rfl, ru⟩ := vals1 r
  cases (show u = Value.ref a from ru)
  obtain ⟨ox, od, J⟩ := ins_at I ha
  have hr2 : Room n X.A.in1.in1 := (show Room (n + 1) X.A.in1 from hr.in1).in1
  refine str_own hr2.units0 I.kIn J hs hf (wpAny_mono (wpAny_call (SlX.run_at (us := [.ref a]) (ws := [.ref a]) F hr2 I.env0.in1.in1 hx I (.cons rfl .nil) q)) (fun v s' z => ?_) fun _ _ y => y)
  obtain ⟨z', H', I', rz, i, ei, qz⟩ := z
  subst ei
  obtain ⟨t, e⟩ := (show ∃ t, v = Value.str i t from rz)
  subst e
  exact ⟨i, t, rfl, .str i, H', I', ⟨_, rfl⟩, qz⟩
/-- x op y of two instances of C -/
def rOwnO (C : Addr) (sp : Sp) (E : XK) : R2 := fun x y H Q => ∃ a dx fs b dy gs, x = .ref a ∧ y = .ref b ∧ H a = some (.ins C dx fs) ∧ H b = some (.ins C dy gs) ∧ sp [x, y] H Q E
theorem op_addO (hs : PySem.W.findIn X.K (.ref C) (PySem.dunder Operator.Add.info.2) = some (some (.ref g))) (hc : PySem.W.selfFirst X.K C = true) (hf : PySem.W.isFn X.K (.ref g) = true) (F : FnR X.prog X.w X.K X.mg X.base CX n g sp) (hr : Room n X.A) (hx : Passes CX X E) :
    OpR X (binaryOp .Add) (rOwnO C sp E) := by
  intro pins s σ H x y v u Q I rx ry h
  obtain ⟨a, dx, fs, b, dy, gs, rfl, rfl, ha, hb, q⟩ := h
  cases (show v = Value.ref a from rx)
  cases (show u = Value.ref b from ry)
  obtain ⟨ox, od, J⟩ := ins_at I ha
  obtain ⟨ox', od', J'⟩ := ins_at I hb
  obtain ⟨m, hF⟩ := I.fr
  refine PySem.W.binop_K hF I.ok.mod.kin J J'.type hc hs hf (wpAny_mono (wpAny_call (run_fnR (us := [.ref a, .ref b]) (vs := [.ref a, .ref b]) F hr hx I (.cons rfl (.cons rfl .nil)) q)) (fun z s' hz => ?_) fun _ _ y => y)
  obtain ⟨z', H', I', rz, qz⟩ := hz
  exact SlX.cmpback rz ⟨z', H', I', rz, qz⟩
theorem op_eqO (hs : PySem.W.findIn X.K (.ref C) (cmpInfo .Eq).2.1 = some (some (.ref g))) (hf : PySem.W.isFn X.K (.ref g) = true) (F : FnR X.prog X.w X.K X.mg X.base CX n g sp) (hr : Room n X.A) (hx : Passes CX X E) :
    OpR X (compareOp .Eq) (rOwnO C sp E) := by
  intro pins s σ H x y v u Q I rx ry h
  obtain ⟨a, dx, fs, b, dy, gs, rfl, rfl, ha, hb, q⟩ := h
  cases (show v = Value.ref a from rx)
  cases (show u = Value.ref b from ry)
  obtain ⟨ox, od, J⟩ := ins_at I ha
  obtain ⟨ox', od', J'⟩ := ins_at I hb
  obtain ⟨m, hF⟩ := I.fr
  show wpAny _ _ (richCompare .Eq (.ref a) (.ref b)) _ _ _
  refine PySem.W.cmp_K (op := .Eq) (tb := .ref C) hr.units0 hF I.ok.mod.kin J J'.type (by unfold PySem.W.notFirst; simp) hs hf ?_
  refine wpAny_mono (wpAny_call (run_fnR (us := [.ref a, .ref b]) (vs := [.ref a, .ref b]) F hr hx I (.cons rfl (.cons rfl .nil)) q)) (fun z s' hz => ?_) fun _ _ y => y
  obtain ⟨z', H', I', rz, qz⟩ := hz
  exact SlX.cmpback rz ⟨z', H', I', rz, qz⟩
/-- x == y, y a tuple -/
def rOwnT (C : Addr) (sp : Sp) (E : XK) : R2 := fun x y H Q => ∃ a dx fs b ys, x = .ref a ∧ y = .ref b ∧ H a = some (.ins C dx fs) ∧ H b = some (.tup ys) ∧ sp [x, y] H Q E
theorem op_eqT (hs : PySem.W.findIn X.K (.ref C) (cmpInfo .Eq).2.1 = some (some (.ref g))) (hf : PySem.W.isFn X.K (.ref g) = true) (hn : PySem.W.notFirst X.K C (.type "tuple") = true) (F : FnR X.prog X.w X.K X.mg X.base CX n g sp) (hr : Room n X.A) (hx : Passes CX X E) :
    OpR X (compareOp .Eq) (rOwnT C sp E) := by
  intro pins s σ H x y v u Q I rx ry h
  obtain ⟨a, dx, fs, b, ys, rfl, rfl, ha, hb, q⟩ := h
  cases (show v = Value.ref a from rx)
  cases (show u = Value.ref b from ry)
  obtain ⟨ox, od, J⟩ := ins_at I ha
  obtain ⟨m, hF⟩ := I.fr
  obtain ⟨_, its, rv, o, h1, h2, n2, h3⟩ := (show ObjOk X.prog X.w H s.heap b (.tup ys) from I.hok b _ hb)
  show wpAny _ _ (richCompare .Eq (.ref a) (.ref b)) _ _ _
  refine PySem.W.cmp_K (op := .Eq) (tb := .type "tuple") hr.units0 hF I.ok.mod.kin J ?_ hn hs hf ?_
  · exact h2 ▸ (PySem.W.Looks.ld h1).andThen .now
  refine wpAny_mono (wpAny_call (run_fnR (us := [.ref a, .ref b]) (vs := [.ref a, .ref b]) F hr hx I (.cons rfl (.cons rfl .nil)) q)) (fun z s' hz => ?_) fun _ _ y => y
  obtain ⟨z', H', I', rz, qz⟩ := hz
  exact SlX.cmpback rz ⟨z', H', I', rz, qz⟩
def rNeO (C : Addr) (sp : Sp) (E : XK) : R2 := fun x y H Q => ∃ a dx fs b dy gs, x = .ref a ∧ y = .ref b ∧ H a = some (.ins C dx fs) ∧ H b = some (.ins C dy gs) ∧ sp [x, y] H (fun z H' => ∃ k : Bool, z = .bl k ∧ Q (.bl (!k)) H') E
theorem op_neO (hs : PySem.W.findIn X.K (.ref C) (cmpInfo .NotEq).2.1 = some (some (.builtin "object.__ne__"))) (he : PySem.W.findIn X.K (.ref C) "__eq__" = some (some (.ref g))) (hf : PySem.W.isFn X.K (.ref g) = true) (hm : PySem.W.mroIn X.K C (.type "object") = some true)
    (F : FnR X.prog X.w X.K X.mg X.base CX n g sp) (hr : Room (n + 1) X.A) (hx : Passes CX X E) : OpR X (compareOp .NotEq) (rNeO C sp E) := by
  intro pins s σ H x y v u Q I rx ry h
  obtain ⟨a, dx, fs, b, dy, gs, rfl, rfl, ha, hb, q⟩ := h
  cases (show v = Value.ref a from rx)
  cases (show u = Value.ref b from ry)
  obtain ⟨ox, od, J⟩ := ins_at I ha
  obtain ⟨ox', od', J'⟩ := ins_at I hb
  show wpAny _ _ (richCompare .NotEq (.ref a) (.ref b)) _ _ _
  refine ne_own (tb := .ref C) (show X.A.in1.units < cLine from hr.in1.units0) I.kIn J J'.type (by unfold PySem.W.notFirst; simp) hm hs he hf ?_
  refine wpAny_mono (wpAny_call (SlX.run_at (us := [.ref a, .ref b]) (ws := [.ref a, .ref b]) F hr.in1 I.env0.in1 hx I (.cons rfl (.cons rfl .nil)) q)) (fun z s' hz => ?_) fun _ _ y => y
  obtain ⟨z', H', I', rz, k, ek, qz⟩ := hz
  subst ek
  exact ⟨k, rz, .bl (!k), H', I', rfl, qz⟩
end
section
variable {X : Cx} {CX : CXT} {k : Nat} {f C : Addr} {sp : Sp} {E : XK} {x : Str} {fe e : Expr} {es : List Expr} {tf : TE} {t : TA} {p pos : Pos}
/-- C(e, .., *y) -/
theorem pe_makeS (M : Mk X.K C f) (F : FnR X.prog X.w X.K X.mg X.base CX k f sp) (hr : Room (k + 1) X.A) (hg : Gl X x) (hm : X.mg x = some (.ref C)) (hx : Passes CX X E) (ha : PA X (e :: es) t) (hdb : (x == ("__debug__" : Str)) = false := by decide)
    (he : starEach (e :: es) X.env = (false, eval e X.env) :: starEach es X.env := by rfl) (hst : (backTo pos (starEach es X.env)).any (·.1) = true := by rfl) : PE X (.Call (.Name x p) (e :: es) [] pos) (StX.tMakeR C sp E t) := by
  refine ⟨fun pins s σ H Q I h => ?_⟩
  refine wpAny_Call_Name_kw (ld_glob I hg hm ?_ hdb)
  refine PySem.W.callWith_S2 (h₀ := X.base) I.ok.mod.kin M.kp (thn (ha.run pos pins s σ H _ I h) fun us s1 ⟨vs, H1, I1, r, q⟩ => ⟨I1.kIn, ?_⟩) he hst
  exact StX.run_makeR M F hr hx I1 r q
/-- c(e, .., *y), c an expression whose value is the class at C -/
def tMakeV (C : Addr) (sp : Sp) (E : XK) (tf : TE) (t : TA) : TE := fun σ H Q => tf σ H fun y H1 => y = V.ref C ∧ StX.tMakeR C sp E t σ H1 Q
theorem pe_makeV (hf : PE X fe tf) (M : Mk X.K C f) (F : FnR X.prog X.w X.K X.mg X.base CX k f sp) (hr : Room (k + 1) X.A) (hx : Passes CX X E) (ha : PA X (e :: es) t)
    (ht : eval (.Call fe (e :: es) [] pos) X.env = (do callWith pos (← eval fe X.env) [] (backTo pos (starEach (e :: es) X.env)) (backToKw pos (keywordEach [] X.env))) := by rfl)
    (he : starEach (e :: es) X.env = (false, eval e X.env) :: starEach es X.env := by rfl) (hst : (backTo pos (starEach es X.env)).any (·.1) = true := by rfl) : PE X (.Call fe (e :: es) [] pos) (tMakeV C sp E tf t) := by
  refine ⟨fun pins s σ H Q I h => ?_⟩
  refine Call_ (thn (hf.run pins s σ H _ I h) fun u s1 ⟨y, H1, I1, ry, ey, q⟩ => ?_) ht
  subst ey
  obtain rfl : u = Value.ref C := ry
  refine PySem.W.callWith_S2 (h₀ := X.base) I1.ok.mod.kin M.kp (thn (ha.run pos pins s1 σ H1 _ I1 q) fun us s2 ⟨vs, H2, I2, r, q2⟩ => ⟨I2.kIn, ?_⟩) he hst
  exact StX.run_makeR M F hr hx I2 r q2
end
end Sfl
namespace Sfl
open PySem PySem.Spec PyProof.Rows L2
/-! ### o.f as one of several targets -/
def gFld (K : PySem.W.Frag) (ta : TE) (f : Str) : TG := fun y σ H Q => ta σ H fun x H1 => ∃ a C dx fs, x = .ref a ∧ H1 a = some (.ins C dx fs) ∧ Cls K C ∧ NoAttr K C f ∧ fs.length < 1000 ∧ Q σ (upd H1 a (.ins C dx (putF f y fs)))
theorem pg_fld {X : Cx} {o : Expr} {f : Str} {pos : Pos} {ta : TE} (ho : PE X o ta) : PG X (.Attribute o f pos) (gFld X.K ta f) := by
  refine ⟨fun pins s σ H y u Q I ry h => ?_⟩
  rw [assign_Attribute]
  refine wpAny_bind (wpAny_holding (thn (ho.run pins s σ H _ I h) fun ov s1 ⟨x, H1, I1, rx, a, C, dx, fs, ex, ea, c, n, l, q⟩ => ?_))
  subst ex
  obtain rfl : ov = Value.ref a := rx
  refine wpAny_bind (wpAny_standAt (wpAny_bind (wpAny_holding ?_)))
  exact setattr_ok I1 ea c n l ry fun s2 I2 => wpAny_release ⟨σ, _, I2, q⟩
/-! ### t.index(v), t a tuple of plain things -/
def rIndexT (K : PySem.W.Frag) : V → List V → Hp → VK → Prop := fun x xs H Q => ∃ (p : Addr) (ys : List V) (y : V) (j : Nat) (z : V), x = .ref p ∧ xs = [y] ∧ SqT K H p ys ∧ flatV y = true ∧ ys.all flatV = true ∧ ys[j]? = some z ∧ eqV z y = true ∧
  (∀ (m : Nat) (z' : V), m < j → ys[m]? = some z' → eqV z' y = false) ∧ Q (.int (j : Nat)) H
theorem mt_tupIndex {X : Cx} : MtR X "tuple.index" (rIndexT X.K) := by
  intro pins s σ H x xs v us Q I rx rxs h
  obtain ⟨p, ys, y, j, z, rfl, rfl, hq, fy, fys, hz, hzj, hno, q⟩ := h
  cases rx
  obtain ⟨uy, rfl, ry⟩ := vals1 rxs
  obtain ⟨its, rv, ⟨⟨cls, dd, dt, sl⟩, ho, hc, n, hd⟩, hlen⟩ := I.tuple hq
  simp only at hc hd
  subst hc hd
  have hvl := rv.length
  obtain ⟨u, hu, ru⟩ := rv.get hz
  obtain ⟨hjl, hje⟩ := List.getElem?_eq_some_iff.mp hu
  have hj : j < its.toArray.size := by simpa using hjl
  refine call_meets PySem.F.slot_tuple_index ⟨_, ho, rfl⟩ PySem.F.entry_tuple_index (PySem.F.args_tuple_index_2 _ _) (TI.tuple_indexAt p its.toArray n dd sl uy (eqU y) j hj ?_ ?_)
    ⟨ho, fun w hw => mem_eqAt ry fy rv fys w (by simpa using hw), ⟨.int (j : Nat), H, I.tok _, ⟨_, rfl⟩, q⟩⟩
  · rw [show its.toArray[j] = u by simpa using hje, eqU_of ru (flat_at fys hz)]
    exact hzj
  · intro m hm hmj
    have hml : m < its.length := by simpa using hm
    have hy' : ys[m]? = some (ys[m]'(by omega)) := List.getElem?_eq_getElem (by omega)
    obtain ⟨u2, hu2, ru2⟩ := rv.get hy'
    rw [show its.toArray[m] = u2 by simpa using (List.getElem?_eq_some_iff.mp hu2).2, eqU_of ru2 (flat_at fys hy')]
    exact hno m _ hmj hy'
/-! ### a tuple whose object is known -/
def Kt (H : Hp) (p : Addr) (ys : List V) : Prop := ∃ ob : Obj, H p = some (.frz ob (.tup ys)) ∧ ob.dict = none ∧ ob.cls = .type "tuple"
theorem Kt.sq {K : PySem.W.Frag} {H : Hp} {p : Addr} {ys : List V} (h : Kt H p ys) : SqT K H p ys := by
  obtain ⟨ob, e, _⟩ := h
  exact .inl (.inr ⟨ob, e⟩)
theorem Kt.same {H H' : Hp} {p : Addr} {ys : List V} (h : Kt H p ys) (s : Same H H') : Kt H' p ys := by
  obtain ⟨ob, e, r⟩ := h
  exact ⟨ob, s _ _ e, r⟩
section
variable {X : Cx}
theorem call_tupleF : CallR X (.type "tuple") (fun xs H Q => ∃ p ys, xs = [.ref p] ∧ SqL X.K H p ys ∧ ∀ l ob, H l = none → ob.dict = none → ob.cls = .type "tuple" → Q (.ref l) (upd H l (.frz ob (.tup ys)))) := by
  intro pins s σ H xs us Q I r h
  obtain ⟨p, ys, rfl, hq, q⟩ := h
  obtain ⟨u, rfl, rx⟩ := vals1 r
  cases rx
  obtain ⟨its, rv, pl, hz⟩ := I.list hq
  have hl := rv.length
  refine call_tuple_list pl.isList (fun h' kp => ?_) (by simp only [List.size_toArray] <;> omega)
  have I1 : Inv X pins σ H { s with heap := h' } := I.kept (t' := s.toks) kp
  have I2 : Inv X pins σ (upd H h'.objs.size (.frz { cls := .type "tuple", data := .seq its.toArray } (.tup ys))) { s with heap := h'.push { cls := .type "tuple", data := .seq its.toArray } } :=
    I1.laid (t' := s.toks) (fun b o e => Heap.get?_push_of_some _ e) (Nat.le_refl _) (show ObjOk X.prog X.w _ _ _ (.frz _ (.tup ys)) from ⟨Heap.get?_push_size _ rfl, hz, its, rv, IsTup.new _ _⟩)
  exact ⟨.ref h'.objs.size, _, I2, rfl, q _ _ (I1.hok.fresh (Nat.le_refl _)) rfl rfl⟩
def tBMF (r : V → List V → Hp → VK → Prop) (to : TE) (t : TA) : TE := fun σ H Q => to σ H fun x H1 => (∃ p ys, x = .ref p ∧ Kt H1 p ys) ∧ t σ H1 fun xs H2 => r x xs H2 Q
theorem pe_bmF {o e : Expr} {es : List Expr} {to : TE} {t : TA} {name : Str} {apos cpos : Pos} {id : String} {r : V → List V → Hp → VK → Prop} (slot : Slot "tuple" name id) (hty : typeOf (.builtin id) = pure (.type "method_descriptor")) (hm : MtR X id r) (ho : PE X o to) (ha : PA X (e :: es) t)
    (hbase : attributeBase o name X.env (eval o X.env) = eval o X.env := by rfl)
    (hfew : ((backTo cpos (starEach (e :: es) X.env)).all (fun x => !x.1) && (backToKw cpos (keywordEach [] X.env)).all (fun x => x.1.isSome)
      && decide ((e :: es).length + ([] : List Keyword).length + (if ([] : List Keyword).isEmpty then 0 else 1) < 30)) = true := by rfl)
    (hline : (apos.endLine == cpos.line) = true := by rfl) (hs : starEach (e :: es) X.env = (false, eval e X.env) :: starEach es X.env := by rfl) (hplain : (backTo cpos (starEach es X.env)).any (·.1) = false := by rfl) :
    PE X (.Call (.Attribute o name apos) (e :: es) [] cpos) (tBMF r to t) := by
  refine ⟨fun pins s σ H Q I h => wpAny_Call_method_late hbase hfew hline rfl (thn (ho.run pins s σ H _ I h) fun v s1 ⟨x, H1, I1, r1, hk, q1⟩ => ?_)⟩
  obtain ⟨p, ys, rfl, ob, hp, hd, hc⟩ := hk
  cases (show v = Value.ref p from r1)
  have hg := (I1.hok p _ hp).1
  refine ⟨"tuple", id, PySem.F.plainAttrs_tuple, slot, hty, ⟨ob, hg, hc⟩, fun a ea => ?_, ?_⟩
  · cases ea
    exact ⟨ob, hg, hd⟩
  have hA := ha.run cpos pins s1 σ H1 _ I1 q1
  rw [hs] at hA ⊢
  refine Calls.callWith_builtin ((congrArg (false || ·) hplain).trans rfl) (Calls.evalArgs_plain ?_)
  exact thn hA fun us s2 ⟨vs, H2, I2, r2, q2⟩ => hm pins s2 σ H2 (.ref p) vs (.ref p) us Q I2 r1 r2 q2
end
end Sfl
namespace Sfl
open PySem PySem.Spec PyProof.Rows L2
/-! ### calls made where no repr is under way -/
structure FnG (P : Program) (w : World) (K : PySem.W.Frag) (mg : Str → Option Value) (base : Heap) (k : Nat) (f : Addr) (fd : FuncData) (ps : List Str) (sp : Sp) : Prop where
  len : ∀ vs H Q E, sp vs H Q E → vs.length = ps.length
  run : ∀ (A : Around) (outer : List Env) (s : Shared) (H : Hp) (args : Args) (us : List Value) (vs : List V) (Q : VK) (E : XK), A.guards = some [] → Room k A → Env0 P w K mg base A outer s H → BindsTo s fd args (ps.zip us) → Vals vs us → sp vs H Q E →
    codeAny (model P w) A (.call (.ref f) args) (CR CX0 outer P w H s Q E) s
section
variable {P : Program} {w : World} {K : PySem.W.Frag} {mg : Str → Option Value} {base : Heap}
theorem FnG.mono {j k : Nat} {f : Addr} {fd : FuncData} {ps : List Str} {sp : Sp} (F : FnG P w K mg base j f fd ps sp) (h : j ≤ k) : FnG P w K mg base k f fd ps sp :=
  ⟨F.len, fun A outer s H args us vs Q E g hr => F.run A outer s H args us vs Q E g (hr.mono h)⟩
theorem fun_okG {x qual : Str} {st : Stmt} {f : Addr} {fd : FuncData} {N ps : List Str} {k : Nat} {sp : Sp} (F : Fun K x qual st f fd) (S : FnScope N ps (defScope st)) (len : ∀ vs H Q E, sp vs H Q E → vs.length = ps.length)
    (hbody : ∀ (cdv : Value) (A : Around) (outer : List Env) (s : Shared) (H : Hp) (vs : List V) (Q : VK) (E : XK), A.guards = some [] → Room k (A.deeper (envOfC qual (defScope st) s.heap.objs.size f cdv)) → sp vs H Q E →
      ∃ t, PSs (cxOf CX0 P w K mg base N qual (defScope st) f cdv A outer s H E).nox (defBody st) t ∧ t { nx := fun _ H' => Q .non H', rt := Q } (start N vs) H) : FnG P w K mg base (k + 1) f fd ps sp := by
  obtain ⟨oc, od, kV, doc, pm, an, cdv, ct, osl, rfl, lk, hcd⟩ := F.ex
  refine ⟨len, fun A outer s H args us vs Q E g hr e0 hb r hsp => ?_⟩
  refine StX.run_bnd lk hcd S hr e0 (G := fun xs H2 => xs = vs ∧ H2 = H) (fun A' Ex Q' hq => hb _ _ _ _ ?_) fun s2 H2 xs hG hr' => ?_
  · exact hq s H vs us e0 Un.refl rfl (fun _ _ z => z) r (len _ _ _ _ hsp) ⟨rfl, rfl⟩
  · obtain ⟨rfl, rfl⟩ := hG
    obtain ⟨t, ht, hq⟩ := hbody cdv A outer s2 _ _ Q E g hr' hsp
    exact ⟨t, ht.nox, hq⟩
end
section
variable {X : Cx} {k : Nat} {f : Addr} {fd : FuncData} {ps : List Str} {sp : Sp} {dvs : List V} {ds : List Value} {E : XK} {x : Str} {e : Expr} {es : List Expr} {t : TA} {p pos : Pos}
theorem run_fnG {pins : List (Addr × Obj)} {σ : L2.St} {H : Hp} {s : Shared} {Q : VK} {us : List Value} {vs : List V} (F : FnG X.prog X.w X.K X.mg X.base k f fd ps sp) (g : X.A.guards = some []) (hr : Room k X.A) (hb : Binds X.K fd ps ds) (hd : Vals dvs ds)
    (I : Inv X pins σ H s) (r : Vals vs us) (h : sp (vs ++ dvs) H Q E) : wpAny (model X.prog X.w) X.A (call (.ref f) us) (EP X pins σ Q) X.xe s := by
  have r2 : Vals (vs ++ dvs) (us ++ ds) := r.append hd
  refine wpAny_call (codeAny_mono (F.run X.A X.stack s H ⟨us, []⟩ (us ++ ds) (vs ++ dvs) Q E g hr I.env0 (hb s us I.kIn (by rw [← r2.length]; exact F.len _ _ _ _ h)) r2 h) fun z s' hz => ?_)
  cases z with
  | error e => exact False.elim hz
  | ok fl =>
    cases fl with
    | ret u => exact I.after hz
    | next => exact False.elim hz
    | brk => exact False.elim hz
    | cont => exact False.elim hz
theorem pe_callG (F : FnG X.prog X.w X.K X.mg X.base k f fd ps sp) (g : X.A.guards = some []) (hr : Room k X.A) (hg : Gl X x) (hm : X.mg x = some (.ref f)) (hk : PySem.W.keepIn X.K (.ref f) = true) (hb : Binds X.K fd ps ds) (hd : Vals dvs ds)
    (ha : PA X (e :: es) t) (hdb : (x == ("__debug__" : Str)) = false := by decide) (he : starEach (e :: es) X.env = (false, eval e X.env) :: starEach es X.env := by rfl) (hpl : (backTo pos (starEach es X.env)).any (·.1) = false := by rfl) :
    PE X (.Call (.Name x p) (e :: es) [] pos) (tCall sp dvs E t) := by
  refine ⟨fun pins s σ H Q I h => wpAny_Call_Name_kw (ld_glob I hg hm ?_ hdb)⟩
  exact PySem.W.callWith_K (h₀ := X.base) I.ok.mod.kin hk (thn (ha.run pos pins s σ H _ I h) fun us s1 ⟨vs, H1, I1, r, q⟩ => ⟨I1.kIn, run_fnG F g hr hb hd I1 r q⟩) he hpl
/-- repr(xs), a list of plain things -/
def rReprD (K : PySem.W.Frag) : List V → Hp → VK → Prop := fun xs H Q => ∃ (a : Addr) (d : PyData), xs = [.ref a] ∧ Dp K H (.ref a) d ∧ d.showable = true ∧ d.hasDict = false ∧ d.depth ≤ 60 ∧ d.shown.length ≤ sizeLine ∧ Q (.str d.shown) H
theorem call_reprD (g : X.A.guards = some []) (hu : X.A.units + 64 < cLine) : CallR X (.builtin "repr") (rReprD X.K) := by
  intro pins s σ H xs us Q I r h
  obtain ⟨a, d, rfl, hd, h1, h2, h3, h4, q⟩ := h
  obtain ⟨u, rfl, ru⟩ := vals1 r
  cases (show u = Value.ref a from ru)
  obtain ⟨as, hr⟩ := Dp.reads I d (.ref a) (.ref a) hd rfl
  exact repr_of_reads' hr h1 (PyData.noDict_hsm h2) g (by omega) (fun _ _ z => z) (fun h' v tk hk => ⟨.str d.shown, H, I.kept (t' := tk) hk, ⟨_, rfl⟩, q⟩) h4
end
/-! ### the head -/
theorem law_callG {P : Program} {w : World} {K : PySem.W.Frag} {mg mb : Str → Option Value} {k : Nat} {fa a : Addr} {fd : FuncData} {x : Str} {sp : Sp} {s₁ : Shared} {vs : List Value} {ns : List Int}
    (KX : K.In s₁.heap) (hns : s₁.heap.Ns mainGlobals mg) (hb : s₁.heap.Ns builtinsNs mb) (hbb : ∀ x : Str, x ≠ "__name__" → mb x = bootBuiltins x) (hlim : s₁.heap.NoLimit) (hg : s₁.gens = #[])
    (ha : s₁.heap.get? a = some { cls := .type "list", data := .seq vs.toArray }) (hi : IntsAre vs ns) (hl : ns.length ≤ sizeLine) (hr : Room k callerA)
    (F : ∀ base : Heap, K.In base → base.Ns mainGlobals mg → FnG P w K mg base k fa fd [x] sp) (hbind : ∀ (s : Shared) (u : Value), BindsTo s fd ⟨[u], []⟩ [(x, u)])
    (hsp : ∀ H : Hp, Only H → SqL K H a (ns.map V.int) → sp [.ref a] H (fun v _ => v = .bl true) fun _ _ _ => False) :
    codeAny (model P w) callerA (.call (.ref fa) ⟨[.ref a], []⟩) (fun r s' => r = .ok (.ret (.bool true)) ∧ OldK s₁.heap s'.heap ∧ s'.os = s₁.os ∧ AllBare s'.gens) s₁ := by
  have rV := vals_ints hi
  have main : ∀ H : Hp, Only H → SqL K H a (ns.map V.int) → HOk P w H s₁.heap → (∀ b, H b ≠ none → b = a) → (H a ≠ none → K.lookup a = none) →
      codeAny (model P w) callerA (.call (.ref fa) ⟨[.ref a], []⟩) (fun r s' => r = .ok (.ret (.bool true)) ∧ OldK s₁.heap s'.heap ∧ s'.os = s₁.os ∧ AllBare s'.gens) s₁ := by
    intro H hO hS hok hA hK
    have only : ∀ {b : Addr}, (b = a → False) → H b = none := fun {b} nb => by
      cases q : H b with
      | none => rfl
      | some u => exact absurd (hA b (fun z => by rw [q] at z; cases z)) nb
    have nsK : ∀ {b : Addr} {m : Str → Option Value}, s₁.heap.Ns b m → (hidT s₁.heap H).Ns b m := fun {b m} ⟨o, es, ep, e, d, r⟩ => ⟨o, es, ep, hidT_get e (only fun eq => by
      rw [eq, ha] at e
      cases e
      exact nomatch (show Data.seq vs.toArray _ = Data.dict es ep from d)), d, r⟩
    have hKb : K.In (hidT s₁.heap H) := fun b o e => hidT_get (KX b o e) (by
      cases q : H b with
      | none => rfl
      | some u =>
        have nz : H b ≠ none := fun z => by rw [q] at z; cases z
        have eb := hA b nz
        rw [eb] at nz e
        rw [hK nz] at e
        cases e)
    have hM : Mod K mg (hidT s₁.heap H) := ⟨hKb, nsK hns, ⟨mb, nsK hb, hbb⟩, let ⟨mc, h1, h2⟩ := hlim; ⟨mc, nsK h1, h2⟩⟩
    have nil : ∀ b : Addr, b ∉ frs [] := fun b z => by cases z
    have en : Env0 P w K mg (hidT s₁.heap H) callerA [] s₁ H := ⟨rfl, hM, fun b o e => of_hidT e, Nat.le_of_eq (hidT_size _ _), trivial, fun b z => absurd z (nil b), hok, .of_eq hg⟩
    refine codeAny_mono ((F _ hKb (nsK hns)).run callerA [] s₁ H ⟨[.ref a], []⟩ [.ref a] [.ref a] _ _ rfl hr en (hbind s₁ (.ref a)) (.cons rfl .nil) (hsp H hO hS)) fun r s' h => ?_
    cases r with
    | error e => exact False.elim h
    | ok fl =>
      cases fl with
      | next => exact False.elim h
      | brk => exact False.elim h
      | cont => exact False.elim h
      | ret u =>
        obtain ⟨v, H', os, bare, un, hok', r', q⟩ := h
        cases (show v = .bl true from q)
        cases (show u = Value.bool true from r')
        refine ⟨rfl, OldK.of_keep fun b o e => ?_, os, bare⟩
        rcases hO b with z | ⟨ob, xs, z⟩
        · exact un.keep b o e z (nil b) (fun y => by cases y)
        · have e1 := (hok b _ z).1
          rw [e] at e1
          cases e1
          exact (hok' b _ (un.frzs b _ _ z)).1
  cases hk : K.lookup a with
  | some o =>
    have e := KX a o hk
    rw [ha] at e
    cases e
    refine main (fun _ => none) (fun _ => .inl rfl) (.inr ⟨_, vs.toArray, _, hk, rfl, rfl, rfl, by rw [List.size_toArray, hi.length]; exact hl, by simpa using rV⟩) (fun b u z => nomatch (show (none : Option HO) = some u from z)) (fun b z => absurd rfl z) fun z => absurd rfl z
  | none =>
    refine main (fun b => if b = a then some (.frz { cls := .type "list", data := .seq vs.toArray } (.lst (ns.map V.int))) else none) (fun b => ?_) (.inl (.inr ⟨{ cls := .type "list", data := .seq vs.toArray }, if_pos rfl⟩)) (fun b u z => ?_) (fun b z => ?_) fun _ => hk
    · by_cases eb : b = a
      · exact .inr ⟨_, _, if_pos eb⟩
      · exact .inl (if_neg eb)
    · by_cases eb : b = a
      · cases (if_pos eb).symm.trans z
        subst eb
        exact ⟨ha, by rw [List.length_map]; exact hl, vs, _, rV, ha⟩
      · cases (if_neg eb).symm.trans z
    · by_cases eb : b = a
      · exact eb
      · exact absurd (if_neg eb) z
theorem walk_ofG {l : PySem.W.OpenLaw} {n k : Nat} {q : Program} {loose : List Str} {XP : (Str → Option Value) → Heap → Prop} {YP : World → Heap → Prop} {d : DefRec} {K : Params → PySem.W.Frag} {sp : World → Sp} {x : Str}
    (hn : l.most = some n) (hn2 : n ≤ sizeLine) (hdf : d.params.defaults = []) (hr : Room k callerA) (hY : ∀ (w : World) (h : Heap), YP w h → (K w.params).In h)
    (F : ∀ (w : World) (mg : Str → Option Value) (fa : Addr) (h : Heap), (K w.params).In h → h.Ns mainGlobals mg → mg d.name = some (.ref fa) →
      ∃ fd : FuncData, (∀ (s : Shared) (u : Value), BindsTo s fd ⟨[u], []⟩ [(x, u)]) ∧ ∀ base : Heap, (K w.params).In base → base.Ns mainGlobals mg → FnG l.prog w (K w.params) mg base k fa fd [x] (sp w))
    (hsp : ∀ (w : World) (H : Hp) (a : Addr) (ns : List Int), ns.length ≤ n → Only H → SqL (K w.params) H a (ns.map V.int) → sp w [.ref a] H (fun v _ => v = .bl true) fun _ _ _ => False) :
    PySem.W.WalkO q loose XP YP l.row.toRowW d [] (fun f vs => PySem.call f vs) := by
  refine Att.attach_call hn hdf fun w s₀ s₁ mg mb fa o pm cd doc a vs ns G Y ho hd hcd hmg hobj hints hlen hg => ?_
  obtain ⟨fd, hb, hF⟩ := F w mg fa _ (hY w _ Y) G.T.g hmg
  exact law_callG (hY w _ Y) G.T.g G.T.b G.T.builtins G.T.nolimit hg hobj hints (Nat.le_trans hlen hn2) hr hF hb fun H hO hS => hsp w H a ns hlen hO hS
end Sfl
namespace Sfl
open PySem PySem.Spec PyProof.Rows L2
/-! ### sets of texts: set(list), len, sorted -/
def txt (e : Int × Value) : Str := match e.2 with
  | .str z _ => z
  | _ => Str.empty
def IsTxt (P : Program) (w : World) (e : Int × Value) : Prop := ∃ z tk, e.2 = Value.str z tk ∧ e.1 = (strKind P w).hash z
/-- a set of texts stands at a: zs its members -/
def TxtSet (P : Program) (w : World) (h : Heap) (a : Addr) (zs : List Str) : Prop :=
  ∃ o es ep t, h.get? a = some o ∧ o.ExactSet ∧ o.data = .set es ep t ∧ (∀ e ∈ es.toList, IsTxt P w e) ∧ (es.toList.map txt).Perm zs ∧ zs.Nodup ∧
    es.size < scanBound ∧ t.fits es.size = true ∧ Ris t.place.toList ∧ (w.params.followText "set-order" = true ∨ t.led = true)
/-- an empty set as it is made -/
abbrev freshO (w : World) : Obj := { cls := .type "set", dict := none, data := .set #[] 0 (.fresh 0 0 (!w.params.followText "set-order")) }
theorem getD_of' {α : Type} {l : List α} {i : Nat} {d : α} (h : i < l.length) : l.getD i d = l[i] := by
  rw [List.getD_eq_getElem?_getD, List.getElem?_eq_getElem h]
  rfl
section
variable {P : Program} {w : World} {A : Around} {E : Value → Shared → Prop} {s : Shared} {a : Addr} {zs : List Str}
theorem TxtSet.keep {h h' : Heap} (R : TxtSet P w h a zs) (k : ∀ o, h.get? a = some o → h'.get? a = some o) : TxtSet P w h' a zs := by
  obtain ⟨o, es, ep, t, ho, r⟩ := R
  exact ⟨o, es, ep, t, k o ho, r⟩
theorem TxtSet.perm {h : Heap} {zs' : List Str} (R : TxtSet P w h a zs) (p : zs.Perm zs') : TxtSet P w h a zs' := by
  obtain ⟨o, es, ep, t, ho, hx, hd, g, pm, nd, r⟩ := R
  exact ⟨o, es, ep, t, ho, hx, hd, g, pm.trans p, p.nodup_iff.mp nd, r⟩
theorem txt_elems {l : List (Int × Value)} (g : ∀ e ∈ l, IsTxt P w e) : ElemsOf (strKind P w) l := fun e he => by
  obtain ⟨k, tk, h1, h2⟩ := g e he
  exact ⟨⟨k, by rw [h1]; exact strKind_is P w k tk, h2⟩, by rw [h1] <;> rfl⟩
theorem txt_is {e : Int × Value} (g : IsTxt P w e) (k : Str) : (strKind P w).is k e.2 = true ↔ txt e = k := by
  obtain ⟨k0, tk, h1, _⟩ := g
  unfold txt
  rw [h1]
  show ((k0 == k) = true) ↔ k0 = k
  exact beq_iff_eq
/-- what is left to be stored once a text has its place -/
theorem txt_tail {g : Bool → Sem Unit} (hg : ∀ (b : Bool) (s₁ : Shared) (Q' : Unit → Shared → Prop), Q' () s₁ → wpAny (model P w) A (g b) Q' E s₁)
    {o : Obj} {es : Array (Int × Value)} {ep : Nat} {t : SetTable} (ho : s.heap.get? a = some o) (hex : o.ExactSet) (hd : o.data = .set es ep t)
    {es1 : Array (Int × Value)} {t2 : SetTable} {zs' : List Str} (g1 : ∀ e ∈ es1.toList, IsTxt P w e) (m1 : (es1.toList.map txt).Perm zs') (nd : zs'.Nodup)
    (hb1 : es1.size < scanBound) (hf2 : t2.fits es1.size = true) (hr : Ris t2.place.toList) (hl : w.params.followText "set-order" = true ∨ t2.led = true) {wasDummy : Bool} {R : Option Bool → Shared → Prop}
    (hR : ∀ h', Heap.SameBut a s.heap h' → TxtSet P w h' a zs' → R (some true) { s with heap := h' }) :
    wpAny (model P w) A (do
        storeSet a es1 t2
        if (!wasDummy && t2.tooFull) = true then do
            g (relayAll t2 es1 (SetTable.grown es1.size)).2.2
            storeSet a (relayAll t2 es1 (SetTable.grown es1.size)).1 (relayAll t2 es1 (SetTable.grown es1.size)).2.1
            pure (some true)
          else pure (some true)) R E s := by
  refine wpAny_bind (wpAny_storeSet_of ho hd ?_ (fits_of_scanBound hb1))
  have ho1 := store_at (es' := es1) (t' := t2) ho hd
  have sb1 := Heap.SameBut.update s.heap a (Obj.putSet es1 t2)
  by_cases hfull : (!wasDummy && t2.tooFull) = true
  · rw [if_pos hfull]
    have pm := relayAll_perm t2 es1 (SetTable.grown es1.size)
    have hf3 := relayAll_fits t2 es1 (SetTable.grown es1.size)
    have hr3 := relayAll_ris t2 es1 (SetTable.grown es1.size)
    have hl3 := relayAll_led t2 es1 (SetTable.grown es1.size)
    revert pm hf3 hr3 hl3
    generalize relayAll t2 es1 (SetTable.grown es1.size) = Z
    obtain ⟨es2, t3, gave⟩ := Z
    intro pm hf3 hr3 hl3
    dsimp only at pm hf3 hr3 hl3 ⊢
    have hsz : es2.size = es1.size := by
      have := pm.length_eq
      rw [Array.length_toList, Array.length_toList] at this
      exact this
    have hb2 : es2.size < scanBound := hsz ▸ hb1
    refine wpAny_bind (hg _ _ _ (wpAny_bind (wpAny_storeSet_of ho1 rfl ?_ (fits_of_scanBound hb2))))
    have ho2 := store_at (es' := es2) (t' := t3) ho1 rfl
    refine wpAny_pure (hR _ (sb1.trans (Heap.SameBut.update _ a _)) ⟨_, es2, _, t3, ho2, hex, rfl, fun e he => g1 e (pm.mem_iff.mp he), (pm.map txt).trans m1, nd, hb2, hf3, hr3, ?_⟩)
    rcases hl with z | z
    · exact .inl z
    · exact .inr (hl3.trans z)
  · rw [if_neg hfull]
    exact wpAny_pure (hR _ sb1 ⟨_, es1, _, t2, ho1, hex, rfl, g1, m1, nd, hb1, hf2, hr, hl⟩)
/-- with one text more -/
def withTxt (zs : List Str) (z : Str) : List Str := if z ∈ zs then zs else z :: zs
theorem txt_add {k : Str} {tk : Tok} {Q : Bool → Shared → Prop} (R : TxtSet P w s.heap a zs) (room : zs.length + 1 < scanBound)
    (hQ : ∀ (b : Bool) h', Heap.SameBut a s.heap h' → TxtSet P w h' a (withTxt zs k) → Q b { s with heap := h' }) :
    wpAny (model P w) A (setAddHashed a (.str k tk) ((strKind P w).hash k)) Q E s := by
  obtain ⟨o, es, ep, t, ho, hex, hd, g, pz, nd, hb, hf, hr, hl⟩ := id R
  have hkey : (strKind P w).is k (.str k tk) = true := strKind_is P w k tk
  have hsc : (Value.str k tk).scannable = true := rfl
  have hel : ElemsOf (strKind P w) es.toList := txt_elems g
  unfold setAddHashed setAddHashedIn
  refine wpAny_holding (wpAny_bind (wpAny_setState_of ho hd hf ?_))
  dsimp only
  rw [byScan_of hsc hb hel]
  simp only [↓reduceIte]
  unfold setAddByScan
  refine wpAny_bind (wpAny_bind (wpAny_rule (wpAny_bind (wpAny_setScan_of hkey ho hd hf hel ?_))))
  cases hfi : List.findIdx? (fun e => (strKind P w).is k e.2) es.toList with
  | some j =>
    dsimp only
    obtain ⟨hj, pj, _⟩ := List.findIdx?_eq_some_iff_getElem.mp hfi
    have hin : k ∈ zs := pz.mem_iff.mp (List.mem_map.mpr ⟨es.toList[j], List.getElem_mem hj, (txt_is (g _ (List.getElem_mem hj)) k).mp pj⟩)
    refine wpAny_pure (wpAny_pure (hQ _ s.heap (Heap.SameBut.refl a s.heap) ?_))
    unfold withTxt
    rw [if_pos hin]
    exact R
  | none =>
    dsimp only
    have hout : k ∉ zs := fun z => by
      obtain ⟨e, he, q⟩ := List.mem_map.mp (pz.mem_iff.mpr z)
      have c := List.findIdx?_eq_none_iff.mp hfi e he
      rw [(txt_is (g e he) k).mpr q] at c
      cases c
    have hgw : ∀ (b : Bool) {s₁ : Shared} {Q' : Unit → Shared → Prop}, Q' () s₁ → wpAny (model P w) A (match b with | true => rule "set.scan.the-table-gave-way" | false => pure ()) Q' E s₁ :=
      fun b s₁ Q' q => by
        cases b
        · exact wpAny_pure q
        · exact wpAny_rule q
    have pm := layNew_perm t es ((strKind P w).hash k) (.str k tk)
    have hf1 := layNew_fits t es ((strKind P w).hash k) (.str k tk)
    have hr1 := layNew_ris t es ((strKind P w).hash k) (.str k tk) hr
    have hl1 := layNew_led t es ((strKind P w).hash k) (.str k tk)
    revert pm hf1 hr1 hl1
    generalize layNew t es ((strKind P w).hash k) (.str k tk) = Z
    obtain ⟨es1, t1, wasDummy, gave⟩ := Z
    intro pm hf1 hr1 hl1
    dsimp only at pm hf1 hr1 hl1 ⊢
    rw [Array.toList_push] at pm
    have pc : es1.toList.Perm (((strKind P w).hash k, Value.str k tk) :: es.toList) := pm.trans (List.perm_append_singleton _ _)
    have m1 : (es1.toList.map txt).Perm (withTxt zs k) := by
      unfold withTxt
      rw [if_neg hout]
      exact (pc.map txt).trans (List.Perm.cons k pz)
    have nd1 : (withTxt zs k).Nodup := by
      unfold withTxt
      rw [if_neg hout]
      exact List.nodup_cons.mpr ⟨hout, nd⟩
    have g1 : ∀ e ∈ es1.toList, IsTxt P w e := fun e he => by
      rcases List.mem_cons.mp (pc.mem_iff.mp he) with z | z
      · rw [z]
        exact ⟨k, tk, rfl, rfl⟩
      · exact g e z
    have hb1 : es1.size < scanBound := by
      have h1 := pc.length_eq
      have h2 := pz.length_eq
      rw [List.length_map] at h2
      rw [List.length_cons, h2, Array.length_toList] at h1
      omega
    have hled : w.params.followText "set-order" = true ∨ t1.led = true := by
      rcases hl with z | z
      · exact .inl z
      · exact .inr (hl1.trans z)
    refine wpAny_bind (hgw _ ?_)
    split
    · refine wpAny_bind ?_
      rw [hashByValue_scannable 8 hsc]
      refine wpAny_pure ?_
      refine txt_tail ?_ ho hex hd g1 m1 nd1 hb1 ?_ ?_ ?_ ?_
      · intro b s₁ Q' q
        cases b
        · first | exact wpAny_pure q | exact wpAny_rule q
        · first | exact wpAny_rule q | exact wpAny_pure q
      · first | (split <;> first | exact hf1 | exact SetTable.fits_plain_off hf1) | exact hf1
      · first | (split <;> exact hr1) | exact hr1
      · first | (split <;> exact hled) | exact hled
      · intro h' sb r
        dsimp only
        exact wpAny_pure (hQ _ h' sb r)
    · refine wpAny_bind (wpAny_pure ?_)
      simp only [↓reduceIte]
      refine txt_tail ?_ ho hex hd g1 m1 nd1 hb1 hf1 hr1 hled ?_
      · intro b s₁ Q' q
        cases b
        · first | exact wpAny_pure q | exact wpAny_rule q
        · first | exact wpAny_rule q | exact wpAny_pure q
      · intro h' sb r
        dsimp only
        exact wpAny_pure (hQ _ h' sb r)
theorem withTxt_mem {zs : List Str} {z y : Str} : y ∈ withTxt zs z ↔ y ∈ zs ∨ y = z := by
  unfold withTxt
  by_cases h : z ∈ zs
  · rw [if_pos h]
    constructor
    · exact .inl
    · rintro (h1 | h1)
      · exact h1
      · rw [h1]
        exact h
  · rw [if_neg h, List.mem_cons]
    exact Or.comm
theorem withTxt_nd {zs : List Str} {z : Str} (h : zs.Nodup) : (withTxt zs z).Nodup := by
  unfold withTxt
  by_cases c : z ∈ zs
  · rw [if_pos c]
    exact h
  · rw [if_neg c]
    exact List.nodup_cons.mpr ⟨c, h⟩
theorem withTxt_len (zs : List Str) (z : Str) : (withTxt zs z).length ≤ zs.length + 1 := by
  unfold withTxt
  split
  · omega
  · exact Nat.le_refl _
/-- the different texts -/
def difs (xs : List Str) : List Str := xs.foldl withTxt []
theorem difs_fold : ∀ (xs zs : List Str), (∀ y, y ∈ xs.foldl withTxt zs ↔ y ∈ zs ∨ y ∈ xs) ∧ (zs.Nodup → (xs.foldl withTxt zs).Nodup) ∧ (xs.foldl withTxt zs).length ≤ zs.length + xs.length
  | [], zs => ⟨fun y => by simp, id, by simp⟩
  | x :: xs, zs => by
    obtain ⟨h1, h2, h3⟩ := difs_fold xs (withTxt zs x)
    refine ⟨fun y => ?_, fun n => h2 (withTxt_nd n), ?_⟩
    · show y ∈ xs.foldl withTxt (withTxt zs x) ↔ _
      rw [h1 y, withTxt_mem, List.mem_cons, or_assoc]
    · show (xs.foldl withTxt (withTxt zs x)).length ≤ _
      have := withTxt_len zs x
      rw [List.length_cons]
      omega
theorem difs_mem {xs : List Str} {y : Str} : y ∈ difs xs ↔ y ∈ xs := by
  have := (difs_fold xs []).1 y
  unfold difs
  simpa using this
theorem difs_nd (xs : List Str) : (difs xs).Nodup := (difs_fold xs []).2.1 List.nodup_nil
theorem difs_len (xs : List Str) : (difs xs).length ≤ xs.length := by
  have := (difs_fold xs []).2.2
  unfold difs
  simpa using this
theorem txt_new {h : Heap} {a : Addr} (ho : h.get? a = some { cls := .type "set", dict := none, data := .set #[] 0 (.fresh 0 0 (!w.params.followText "set-order")) }) : TxtSet P w h a [] :=
  ⟨_, #[], 0, _, ho, ⟨rfl, rfl, rfl⟩, rfl, (fun e he => by simp at he), List.Perm.refl _, List.nodup_nil, (by decide), (by rfl), List.Pairwise.nil, by
    cases hw : w.params.followText "set-order"
    · exact .inr rfl
    · exact .inl rfl⟩
/-- the loop that puts the texts in -/
theorem txt_loop {I : Addr} {fp wr : List Addr} {G : Array GenState → Array GenState → Prop} {n : Nat} {Pv : Nat → Value → Prop} {St : Nat → Shared → Prop} {R : Result → Shared → Prop}
    (W : WalksS P w A.in1 I fp wr G n Pv St) (S : Addr) (hSf : S ∉ fp) (xs : List Str) (hn : n = xs.length) (hb : xs.length + 1 < scanBound) (hval : ∀ i v, Pv i v → ∃ k t, xs[i]? = some k ∧ v = .str k t) :
    ∀ (k i : Nat) (s : Shared), n - i = k → i ≤ n → St i s → TxtSet P w s.heap S (difs (xs.take i)) →
      (∀ s', Moved (S :: wr) G s s' → TxtSet P w s'.heap S (difs xs) → R (.ok (.ret .none)) s') →
      codeAny (model P w) A (.builtin "set.update.loop" ⟨[.ref S, .ref I], []⟩) R s := by
  have hSw : S ∉ wr := fun h => hSf (W.sub _ h)
  have hsub : ∀ b ∈ wr, b ∈ S :: wr := fun b hb => List.mem_cons_of_mem _ hb
  intro k
  induction k with
  | zero =>
    intro i s hk' hi hst hS hR
    have hin : i = n := by omega
    refine codeAny_builtin F.entry_set_update_loop ?_
    rw [Around.under_plainId F.plain_set_update_loop _]
    show wpAny _ A.in1 (pyNext (.ref I) >>= _) _ _ s
    refine wpAny_bind (W.done s _ _ (hin ▸ hst) fun s' hm => ?_)
    show wpAny _ A.in1 (ret Value.none) _ _ s'
    rw [List.take_of_length_le (by omega)] at hS
    exact wpAny_pure (hR s' (hm.mono hsub) (hS.keep fun o e => hm.heap S o hSw e))
  | succ k ih =>
    intro i s hk' hi hst hS hR
    have hlt : i < n := by omega
    refine codeAny_builtin F.entry_set_update_loop ?_
    rw [Around.under_plainId F.plain_set_update_loop _]
    show wpAny _ A.in1 (pyNext (.ref I) >>= _) _ _ s
    refine wpAny_bind (W.item i s _ _ hlt hst fun v s' hP hst' hm => ?_)
    obtain ⟨z, t, hz, rfl⟩ := hval i v hP
    have hS' : TxtSet P w s'.heap S (difs (xs.take i)) := hS.keep fun o e => hm.heap S o hSw e
    show wpAny _ A.in1 (holding [Value.str z t] (setAdd S (.str z t)) >>= _) _ _ s'
    refine wpAny_bind (wpAny_holding ?_)
    unfold setAdd
    refine wpAny_holding (wpAny_bind ((strKind P w).pyHash (k := z) (strKind_is _ _ _ _) ?_))
    have hroom : (difs (xs.take i)).length + 1 < scanBound := by
      have := difs_len (xs.take i)
      rw [List.length_take] at this
      omega
    refine txt_add (s := { s' with toks := s'.toks + 1 }) hS' hroom fun b h' hsb hS2 => ?_
    have e1 : withTxt (difs (xs.take i)) z = difs (xs.take (i + 1)) := by
      unfold difs
      rw [List.take_add_one, hz, List.foldl_append]
      rfl
    rw [e1] at hS2
    refine wpAny_pure ⟨plainId_quiet F.plain_set_update_loop _, ih (i + 1) _ (by omega) hlt (W.frame _ s' _ _ hst' (Nat.le_succ _) fun b hb o e => ?_) hS2 fun s'' hm'' hS'' => ?_⟩
    · exact (hsb.2 b (fun h : b = S => hSf (h ▸ hb))).trans e
    · refine hR s'' (Moved.trans W.gtrans ((hm.mono hsub).then_heap (Nat.le_succ _) fun b o hb e => ?_) hm'') hS''
      exact (hsb.2 b (fun h : b = S => hb (by rw [h]; exact List.mem_cons_self))).trans e
set_option maxHeartbeats 3200000 in
theorem call_set_txts {l : Addr} {items : Array Value} {xs : List Str} {Q : Value → Shared → Prop} (hh : A.handled = none) (hl : s.heap.IsList l items) (hit : StrsAre items.toList xs) (hb : xs.length + 1 < scanBound)
    (h : ∀ (h' : Heap) (tk : Nat), TxtSet P w h' s.heap.objs.size (difs xs) → (∀ b o, s.heap.get? b = some o → h'.get? b = some o) → Q (.ref s.heap.objs.size) { s with heap := h', toks := tk }) :
    wpAny (model P w) A (call (.type "set") [.ref l]) Q E s := by
  have hisz : items.size = xs.length := by
    rw [← Array.length_toList]
    exact StrsAre.len_eq hit
  obtain ⟨c, tl, hmro⟩ := F.called_set.mro
  have hmade := F.called_set.made
  have hsub := F.called_set.sub
  refine wpAny_call (codeAny_of_tree ?_)
  show wpAny _ _ (callAny (.type "set") _) _ _ _
  refine wpAny_pure ⟨Code.quiet_builtin _ (by decide +kernel), codeAny_builtin F.entry_type_call ?_⟩
  rw [Around.under_plain (weight_type_call_type "set" [.ref l] []) rfl]
  have h1 := F.called_set.notType
  have h2 := F.called_set.canCreate
  have hct := F.typeCall_set_1 (.ref l)
  repeat (any_goals (first | assumption | wp_step))
  refine codeAny_mono (code_set_led1 (.ref l) (E := E) (Q₁ := fun obj s₁ => obj = .ref s.heap.objs.size ∧ s₁ = { s with heap := s.heap.push (freshO w) }) ⟨rfl, rfl⟩) fun r s₁ hr => ?_
  cases r with
  | error e => exact hr
  | ok fl =>
    cases fl with
    | ret obj =>
      obtain ⟨rfl, rfl⟩ := hr
      have hS : (s.heap.push (freshO w)).get? s.heap.objs.size = some (freshO w) := Heap.get?_push_size _ rfl
      have hT : Shared.TypeIs { s with heap := s.heap.push (freshO w) } (.ref s.heap.objs.size) "set" := ⟨_, hS, rfl⟩
      have hli := F.called_set.init.lookup
      have hbi := F.called_set.init.bind (.ref s.heap.objs.size)
      repeat (any_goals (first | assumption | wp_step))
      refine codeAny_mono (codeAny_call_builtin (R := wants (fun r s₂ => r = .none ∧ ∃ h' tk, s₂ = { s with heap := h', toks := tk } ∧ TxtSet P w h' s.heap.objs.size (difs xs) ∧
          (∀ b o, s.heap.get? b = some o → h'.get? b = some o)) E) F.called_set.init.plain F.entry_set_init (check_set_init_1 hT ?_)) fun r₂ s₂ hr₂ => ?_
      · obtain ⟨ol, hol, hcl, nl, hdl⟩ := hl
        obtain ⟨ocls, odict, odata, oslots⟩ := ol
        simp only at hcl hdl
        subst hcl
        subst hdl
        have hol' : (s.heap.push (freshO w)).get? l = some { cls := .type "list", dict := odict, data := .seq items nl, slots := oslots } := Heap.get?_push_of_some _ hol
        have hsls := F.sub_list_set
        have hslf := F.sub_list_frozenset
        have hne : (Value.type "list" == Value.type "dict") = false := by decide
        have hl1 : (s.heap.push (freshO w)).IsList l items := ⟨_, hol', rfl, nl, rfl⟩
        unfold Builtin.«set.__init__» noKeywords Builtin.Frozenset.updateFrom
        generalize hPI : pyIter = PI
        wp_walk
        subst hPI
        refine wpAny_pyIter_list hl1 ?_
        refine wpAny_bind (wpAny_runValue ?_)
        have hlS : l < s.heap.objs.size := Heap.lt_size hol
        have hh3 : A.in1.in1.in1.handled = none := by simp [hh]
        have hz1 : (s.heap.push (freshO w)).objs.size = s.heap.objs.size + 1 := Heap.size_push ..
        have hneI : l ≠ (s.heap.push (freshO w)).objs.size := by
          rw [hz1]
          exact Nat.ne_of_lt (Nat.lt_succ_of_lt hlS)
        have hSf : s.heap.objs.size ∉ [(s.heap.push (freshO w)).objs.size, l] := by
          rw [hz1]
          intro z
          rcases List.mem_cons.mp z with z | z
          · exact Nat.ne_of_lt (Nat.lt_succ_self _) z
          · exact Nat.ne_of_gt hlS (List.mem_singleton.mp z)
        have hval : ∀ (i : Nat) (v : Value), items[i]? = some v → ∃ k t, xs[i]? = some k ∧ v = .str k t := fun i v hv => by
          have hi : i < xs.length := by
            rw [← hisz]
            exact (Array.getElem?_eq_some_iff.mp hv).1
          obtain ⟨t, e⟩ := SS.strs_at hit i v (by rw [Array.getElem?_toList]; exact hv)
          refine ⟨xs[i], t, List.getElem?_eq_getElem hi, ?_⟩
          rw [e, getD_of' hi]
        refine txt_loop (P := P) ((Walks.list hh3 _ l hneI items).toS) s.heap.objs.size hSf xs hisz hb hval (items.size - 0) 0 _ (by omega) (Nat.zero_le _)
          ⟨⟨_, Heap.get?_push_size _ rfl, rfl, rfl⟩, (hl1.push _)⟩ ?hS0 ?hR
        case hS0 =>
          refine txt_new ?_
          exact Heap.get?_push_of_some _ hS
        case hR =>
          intro s' hm hS'
          obtain ⟨h', g2, d', tk', os'⟩ := s'
          have eg : g2 = s.gens := hm.gens
          have ed : d' = s.drawn := hm.drawn
          have eo : os' = s.os := hm.os
          subst eg
          subst ed
          subst eo
          show wpAny _ _ _ _ _ _
          refine wpAny_pure ?_
          show wpAny _ _ (ret Value.none) _ _ _
          refine wpAny_pure ⟨rfl, h', tk', rfl, hS', fun b o e => ?_⟩
          have hb0 : b < s.heap.objs.size := Heap.lt_size e
          refine hm.heap b o (fun z => ?_) (Heap.get?_push_of_some _ (Heap.get?_push_of_some _ e))
          rcases List.mem_cons.mp z with z | z
          · exact Nat.ne_of_lt hb0 z
          · exact Nat.ne_of_lt (Nat.lt_succ_of_lt hb0) ((List.mem_singleton.mp z).trans hz1)
      · cases r₂ with
        | error e => exact hr₂
        | ok fl₂ =>
          cases fl₂ with
          | ret r =>
            obtain ⟨rfl, h', tk, rfl, hS', hk'⟩ := hr₂
            repeat (any_goals (first | assumption | wp_step))
            exact h _ _ hS' hk'
          | _ => exact hr₂.elim
    | _ => exact hr.elim
end
end Sfl
namespace Sfl
open PySem PySem.Spec PyProof.Rows L2
theorem txt_strOf {P : Program} {w : World} {e : Int × Value} (g : IsTxt P w e) : strOf e.2 = txt e := by
  obtain ⟨k, tk, h1, _⟩ := g
  unfold txt
  rw [h1]
  rfl
section
variable {P : Program} {w : World} {A : Around} {E : Value → Shared → Prop} {s : Shared} {a : Addr} {zs : List Str}
theorem sorted_txt {Q : Value → Shared → Prop} (R : TxtSet P w s.heap a zs) (hh : A.handled = none) (h64 : zs.length < 64)
    (hQ : ∀ s' p (out : Array Value) (c : Nat) (ys : List Str), (∀ b o, s.heap.get? b = some o → s'.heap.get? b = some o) → s'.gens = s.gens → s'.os = s.os → s.heap.objs.size ≤ p →
      s'.heap.get? p = some (seqObj "list" out c) → StrsAre out.toList ys → ys.Perm zs → sortedS ys = true → Q (.ref p) s') :
    wpAny (model P w) A (call (.builtin "sorted") [.ref a]) Q E s := by
  obtain ⟨o, es, ep, t, ho, hex, hd, g, pm, nd, hb, hf, hr, hl⟩ := R
  have hel : es.size = zs.length := by
    have := pm.length_eq
    rw [List.length_map, Array.length_toList] at this
    exact this
  refine Calls.call_function_entry kind_sorted plain_sorted entry_sorted (args_sorted1 _) ?_
  unfold Builtin.«sorted»
  refine wpAny_bind (m := checkCount "sorted" 1 1 _) (wpAny_pure ?_)
  refine wpAny_bind (collect_set (A := A.in1) hh ⟨o, ho, hex.1, hd⟩ hf hb hr hl fun s1 vs k1 hz g1 o1 pv => ?_)
  have hvl : vs.length = zs.length := by
    rw [pv.length_eq, List.length_map, Array.length_toList, hel]
  have hS : StrsAre vs (vs.map strOf) := strsAre_map vs fun v hv => by
    obtain ⟨e, he, q⟩ := List.mem_map.mp (pv.mem_iff.mp hv)
    obtain ⟨k, tk, h1, _⟩ := g e he
    exact ⟨k, tk, by rw [← q]; exact h1⟩
  have pz : (vs.map strOf).Perm zs := by
    refine (pv.map strOf).trans ?_
    rw [List.map_map]
    have e : es.toList.map (strOf ∘ fun x => x.2) = es.toList.map txt := List.map_congr_left fun e he => txt_strOf (g e he)
    rw [e]
    exact pm
  refine wpAny_bind (wpAny_newList ?_ (by rw [hvl, sizeLine_eq]; omega))
  have hoL : (s1.heap.push (seqObj "list" vs.toArray 0)).get? s1.heap.objs.size = some (seqObj "list" vs.toArray 0) := Heap.get?_push_size _ rfl
  refine wpAny_bind (wpAny_holding (wpAny_call_entry slot_list_sort ⟨_, hoL, rfl⟩ entry_list_sort (list_sort_treeK strKind_oneLt hoL hS.keysOf (fun v₁ v₂ rest e => keyKind_strs (by rw [← e]; exact hS)) (by rw [hvl]; exact h64) fun st' hp hs => ⟨_, rfl, ?_⟩) (args_list_sort _)))
  obtain ⟨ys, a1, a2, a3⟩ := sorted_out_str hS hp hs
  obtain ⟨c, hc⟩ := sortedHeap_at (vs := vs) (out := (arrOf st').map (·.2)) hoL
  refine wpAny_pure ⟨_, rfl, hQ _ s1.heap.objs.size _ c ys (fun b u e => ?_) g1 o1 hz hc a1 (a2.trans pz) a3⟩
  have q := k1 b u e
  have hlt := Heap.lt_size q
  show (sortedHeap (s1.heap.push (seqObj "list" vs.toArray 0)) s1.heap.objs.size vs _).get? b = some u
  rw [sortedHeap_old (Nat.ne_of_lt hlt) (by rw [size_push']; exact Nat.lt_succ_of_lt hlt)]
  exact Heap.get?_push_of_some _ q
end
/-- the set of texts as an object that is followed -/
def TxtO (P : Program) (w : World) (a : Addr) (zs : List Str) : HO := .ext fun h => TxtSet P w h a zs
section
variable {X : Cx}
theorem txtO_get {pins : List (Addr × Obj)} {σ : L2.St} {H : Hp} {s : Shared} {a : Addr} {zs : List Str} (I : L2.Inv X pins σ H s) (ha : H a = some (TxtO X.prog X.w a zs)) : TxtSet X.prog X.w s.heap a zs := (I.hok a _ ha).1
/-- set(list) -/
def rSetTxt (K : PySem.W.Frag) (P : Program) (w : World) : List V → Hp → VK → Prop := fun xs H Q => ∃ (l : Addr) (ys : List Str), xs = [.ref l] ∧ SqL K H l (ys.map V.str) ∧ ys.length ≤ 1000 ∧ ∀ p, H p = none → Q (.ref p) (upd H p (TxtO P w p (difs ys)))
theorem cr_setTxt (hc : X.calm = true) : CallR X (.type "set") (rSetTxt X.K X.prog X.w) := by
  intro pins s σ H vs us Q I r h
  obtain ⟨l, ys, rfl, hq, hlen, q⟩ := h
  rw [Vals.ref1 r]
  obtain ⟨its, rv, pl, hz⟩ := I.list hq
  refine call_set_txts (P := X.prog) (w := X.w) (I.ok.hd hc) pl.isList (by simpa using rv.strs) (by unfold scanBound; omega) fun h' tk hS hk => ?_
  have ⟨o, _, _, _, ho, _⟩ := hS
  have hobj : ObjOk X.prog X.w (upd H s.heap.objs.size (TxtO X.prog X.w s.heap.objs.size (difs ys))) h' s.heap.objs.size (TxtO X.prog X.w s.heap.objs.size (difs ys)) := ⟨hS, ⟨o, ho⟩, fun h1 h2 p k => TxtSet.keep p k⟩
  exact ⟨.ref _, upd H s.heap.objs.size (TxtO X.prog X.w s.heap.objs.size (difs ys)), I.laid (t' := tk) hk (Nat.le_refl _) hobj, rfl, q _ (I.hok.fresh (Nat.le_refl _))⟩
/-- sorted(set) -/
def rSortedTxt (P : Program) (w : World) : List V → Hp → VK → Prop := fun vs H Q => ∃ (a : Addr) (zs : List Str), vs = [V.ref a] ∧ H a = some (TxtO P w a zs) ∧ zs.length < 64 ∧
  ∀ (ys : List Str) (p : Addr), ys.Perm zs → sortedS ys = true → H p = none → Q (.ref p) (upd H p (.lst (ys.map V.str)))
theorem cr_sortedTxt (hc : X.calm = true) : CallR X (.builtin "sorted") (rSortedTxt X.prog X.w) := by
  intro pins s σ H vs us Q I r h
  obtain ⟨a, zs, rfl, ha, h64, q⟩ := h
  have R := txtO_get I ha
  rw [Vals.ref1 r]
  refine sorted_txt R (I.ok.hd hc) h64 fun s' p out c ys k g o hp hg hi pz hs => ?_
  have hlen : (ys.map V.str).length ≤ sizeLine := by
    rw [List.length_map, pz.length_eq, sizeLine_eq]
    omega
  have hn : H p = none := I.hok.fresh hp
  have J : L2.Inv X pins σ (upd H p (.lst (ys.map V.str))) { s with heap := s'.heap, gens := s'.gens, drawn := s'.drawn, toks := s'.toks } :=
    I.call (ch := []) (Un.laid k hp hn) (I.hok.laid k hp ⟨hlen, out.toList, c, vals_of_strs hi, hg⟩) (by rw [g]; exact I.bare) (fun _ z => nomatch z)
  have e : s' = { s with heap := s'.heap, gens := s'.gens, drawn := s'.drawn, toks := s'.toks } := by
    cases s'
    cases s
    cases o
    rfl
  rw [e]
  exact ⟨.ref p, _, J, rfl, q ys p pz hs hn⟩
/-- len(set) -/
def rLenTxt (P : Program) (w : World) : List V → Hp → VK → Prop := fun vs H Q => ∃ (a : Addr) (zs : List Str), vs = [V.ref a] ∧ H a = some (TxtO P w a zs) ∧ zs.length ≤ 1000 ∧ Q (.int (zs.length : Nat)) H
theorem call_lenTxt : CallR X (.builtin "len") (rLenTxt X.prog X.w) := by
  intro pins s σ H vs us Q I r h
  obtain ⟨a, zs, rfl, ha, hl, q⟩ := h
  have R := txtO_get I ha
  rw [Vals.ref1 r]
  obtain ⟨o, es, ep, t, ho, hex, hd, g, pm, nd, hb, hf, hr, hled⟩ := R
  have hel : es.size = zs.length := by
    have := pm.length_eq
    rw [List.length_map, Array.length_toList] at this
    exact this
  refine call_len_set ho hex hd hf (by rw [hel]; omega) ⟨.int (zs.length : Nat), H, I.tok _, ⟨_, by rw [hel]⟩, q⟩
end
end Sfl
/- data as elements of sets: their hashes, and what a search asks of them -/
namespace Sfl
open PySem PySem.Spec PyProof.Rows L2
mutual
/-- ints, texts, tuples of such -/
def hdy : PyData → Bool
  | .int _ => true
  | .str z => PyData.strOk z
  | .tuple ds => hdyAll ds
  | _ => false
def hdyAll : List PyData → Bool
  | [] => true
  | d :: ds => hdy d && hdyAll ds
end
mutual
def dh (P : Program) (w : World) : PyData → Int
  | .int i => (intKind P w).hash i
  | .str z => (strKind P w).hash z
  | .tuple ds => reduceHash (Builtin.Tuple.tupleHashOf (dhAll P w ds))
  | _ => 0
def dhAll (P : Program) (w : World) : List PyData → List Int
  | [] => []
  | d :: ds => dh P w d :: dhAll P w ds
end
mutual
def dn : PyData → Nat
  | .tuple ds => dnAll ds + 1
  | _ => 1
def dnAll : List PyData → Nat
  | [] => 0
  | d :: ds => dn d + dnAll ds
end
mutual
theorem hdy_lay : ∀ d : PyData, hdy d = true → d.canLay0 = true
  | .int _, _ => rfl
  | .str z, h => h
  | .tuple ds, h => hdyAll_lay ds h
  | .none, h => nomatch h
  | .bool _, h => nomatch h
  | .list _, h => nomatch h
  | .dict _, h => nomatch h
theorem hdyAll_lay : ∀ ds : List PyData, hdyAll ds = true → PyData.canLayAll0 ds = true
  | [], _ => rfl
  | d :: ds, h => by
    obtain ⟨h1, h2⟩ := Bool.and_eq_true_iff.mp (show (hdy d && hdyAll ds) = true from h)
    show (PyData.canLay0 d && PyData.canLayAll0 ds) = true
    rw [hdy_lay d h1, hdyAll_lay ds h2]
    rfl
end
mutual
theorem hdy_eqv : ∀ d e : PyData, hdy d = true → hdy e = true → PyData.eqv d e = true → d = e
  | .int i, .int j, _, _, h => by rw [beq_iff_eq.mp (show (i == j) = true from h)]
  | .str x, .str y, _, _, h => by rw [beq_iff_eq.mp (show (x == y) = true from h)]
  | .tuple xs, .tuple ys, hx, hy, h => by rw [hdyAll_eqv xs ys hx hy h]
  | .int _, .str _, _, _, h => nomatch h
  | .int _, .tuple _, _, _, h => nomatch h
  | .str _, .int _, _, _, h => nomatch h
  | .str _, .tuple _, _, _, h => nomatch h
  | .tuple _, .int _, _, _, h => nomatch h
  | .tuple _, .str _, _, _, h => nomatch h
  | .none, _, h, _, _ => nomatch h
  | .bool _, _, h, _, _ => nomatch h
  | .list _, _, h, _, _ => nomatch h
  | .dict _, _, h, _, _ => nomatch h
  | .int _, .none, _, h, _ => nomatch h
  | .int _, .bool _, _, h, _ => nomatch h
  | .int _, .list _, _, h, _ => nomatch h
  | .int _, .dict _, _, h, _ => nomatch h
  | .str _, .none, _, h, _ => nomatch h
  | .str _, .bool _, _, h, _ => nomatch h
  | .str _, .list _, _, h, _ => nomatch h
  | .str _, .dict _, _, h, _ => nomatch h
  | .tuple _, .none, _, h, _ => nomatch h
  | .tuple _, .bool _, _, h, _ => nomatch h
  | .tuple _, .list _, _, h, _ => nomatch h
  | .tuple _, .dict _, _, h, _ => nomatch h
theorem hdyAll_eqv : ∀ xs ys : List PyData, hdyAll xs = true → hdyAll ys = true → PyData.eqvAll xs ys = true → xs = ys
  | [], [], _, _, _ => rfl
  | [], _ :: _, _, _, h => nomatch h
  | _ :: _, [], _, _, h => nomatch h
  | x :: xs, y :: ys, hx, hy, h => by
    obtain ⟨a1, a2⟩ := Bool.and_eq_true_iff.mp (show (hdy x && hdyAll xs) = true from hx)
    obtain ⟨b1, b2⟩ := Bool.and_eq_true_iff.mp (show (hdy y && hdyAll ys) = true from hy)
    obtain ⟨c1, c2⟩ := Bool.and_eq_true_iff.mp (show (PyData.eqv x y && PyData.eqvAll xs ys) = true from h)
    rw [hdy_eqv x y a1 b1 c1, hdyAll_eqv xs ys a2 b2 c2]
end
theorem hdy_iff {d e : PyData} (hd : hdy d = true) (he : hdy e = true) : PyData.eqv d e = true ↔ d = e :=
  ⟨hdy_eqv d e hd he, fun h => by rw [h]; exact SeqAt.eqv_refl _ (hdy_lay e he)⟩
section
variable {P : Program} {w : World}
theorem lt_line {a b : Nat} (h : a + b < cLine) : a < cLine := Nat.lt_of_le_of_lt (Nat.le_add_right a b) h
theorem wp_reduced {M : Model} {A : Around} {E : Value → Shared → Prop} {s : Shared} {i : Int} {Q : Int → Shared → Prop} (h : Q (reduceHash i) s) : wpAny M A (pyHashByItsType.reduced i) Q E s := by
  unfold pyHashByItsType.reduced
  unfold reduceHash at h
  refine wpAny_ite ?_
  split
  · rename_i c
    rw [if_pos c] at h
    exact wpAny_pure h
  · rename_i c
    rw [if_neg c] at h
    exact wpAny_bind (wpAny_rule (wpAny_pure h))
mutual
/-- hash(v) -/
theorem hash_reads : ∀ (d : PyData) {A : Around} {E : Value → Shared → Prop} {s : Shared} {v : Value} {as : List Addr} {Q : Int → Shared → Prop}, hdy d = true → Reads s.heap v d as → A.units + d.depth < cLine → Q (dh P w d) { s with toks := s.toks + dn d } →
    wpAny (model P w) A (pyHash v) Q E s
  | .int i, A, E, s, v, as, Q, _, r, _, h => by
    cases r with
    | int _ t => exact (intKind P w).pyHash (k := i) (beq_self_eq_true i) h
  | .str z, A, E, s, v, as, Q, _, r, _, h => by
    cases r with
    | str _ t => exact (strKind P w).pyHash (k := z) (strKind_is P w z t) h
  | .tuple ds, A, E, s, v, as, Q, hd, r, hu, h => by
    cases r with
    | @tuple a o vs n _ _ ho hc hdt rs =>
      have hT : s.TypeIs (.ref a) "tuple" := ⟨o, ho, hc⟩
      have hu1 : A.units < cLine := lt_line hu
      unfold pyHash pyHashByItsType
      refine wpAny_bind (wpAny_cRoomFor_or (.inr hu1) (wpAny_bind (wpAny_specialOf hT PySem.F.slot_tuple_hash.lookup ?_)))
      refine wp_if_neg (by rw [beq_builtin_none]; decide) (wpAny_bind (wpAny_specialOf hT PySem.F.slot_tuple_hash.lookup ?_))
      refine wp_if_neg (by simp) ?_
      refine wpAny_bind (m := callSpecialIfBoundUnlessNone? (.ref a) (Str.ofString "__hash__") _) (wpAny_callSpecialIfBoundUnlessNone?_slot hT PySem.F.slot_tuple_hash (wpAny_call_entry PySem.F.slot_tuple_hash hT PySem.F.entry_tuple_hash ?_ (PySem.F.args_tuple_hash_1 _)))
      show wpAny _ _ (Builtin.Tuple.tupleItemsOf (.ref a) >>= _) _ _ s
      refine wpAny_bind (wpAny_tupleItemsOf ho hdt (wpAny_bind ?_))
      rw [← Array.forIn_toList]
      have hu2 : A.in1.units + PyData.depthAll ds < cLine := by
        have e : PyData.depth (.tuple ds) = PyData.depthAll ds + 1 := rfl
        show A.units + 1 + PyData.depthAll ds < cLine
        rw [e] at hu
        omega
      refine hash_each ds (A := A.in1) hd rs hu2 (fun x b s' Q' hx => ?_) ?_
      · refine wpAny_bind (wpAny_mono hx (fun i s2 q => ?_) fun _ _ q => q)
        first
          | exact wpAny_pure q
          | exact wpAny_bind (wpAny_pure (wpAny_pure q))
      · have e : ((#[] : Array Int) ++ (dhAll P w ds).toArray).toList = dhAll P w ds := by simp
        show wpAny _ _ (retInt (Builtin.Tuple.tupleHashOf ((#[] : Array Int) ++ (dhAll P w ds).toArray).toList)) _ _ _
        rw [e]
        refine wpAny_ret_mkInt ?_
        exact wp_reduced h
  | .none, _, _, _, _, _, _, h, _, _, _ => nomatch h
  | .bool _, _, _, _, _, _, _, h, _, _, _ => nomatch h
  | .list _, _, _, _, _, _, _, h, _, _, _ => nomatch h
  | .dict _, _, _, _, _, _, _, h, _, _, _ => nomatch h
theorem hash_each : ∀ (ds : List PyData) {A : Around} {E : Value → Shared → Prop} {s : Shared} {vs : List Value} {as : List Addr} {acc : Array Int} {f : Value → Array Int → Sem (ForInStep (Array Int))} {Q : Array Int → Shared → Prop}, hdyAll ds = true → ReadsAll s.heap vs ds as →
    A.units + PyData.depthAll ds < cLine → (∀ (x : Value) (b : Array Int) (s' : Shared) (Q' : ForInStep (Array Int) → Shared → Prop), wpAny (model P w) A (pyHash x) (fun i s2 => Q' (.yield (b.push i)) s2) E s' → wpAny (model P w) A (f x b) Q' E s') →
    Q (acc ++ (dhAll P w ds).toArray) { s with toks := s.toks + dnAll ds } → wpAny (model P w) A (forIn vs acc f) Q E s
  | [], A, E, s, vs, as, acc, f, Q, _, r, _, _, h => by
    cases r
    rw [List.forIn_nil]
    have e : acc ++ (dhAll P w []).toArray = acc := by simp [dhAll]
    rw [e] at h
    exact wpAny_pure h
  | d :: ds, A, E, s, vs, as, acc, f, Q, hd, r, hu, hf, h => by
    obtain ⟨h1, h2⟩ := Bool.and_eq_true_iff.mp (show (hdy d && hdyAll ds) = true from hd)
    have hm : PyData.depthAll (d :: ds) = max (PyData.depth d) (PyData.depthAll ds) := rfl
    have l1 := Nat.le_max_left (PyData.depth d) (PyData.depthAll ds)
    have l2 := Nat.le_max_right (PyData.depth d) (PyData.depthAll ds)
    cases r with
    | cons r1 r2 =>
      rw [List.forIn_cons]
      refine wpAny_bind (hf _ _ _ _ (hash_reads d h1 r1 (by omega) ?_))
      refine hash_each ds (s := { s with toks := s.toks + dn d }) h2 r2 (by omega) hf ?_
      have e : acc.push (dh P w d) ++ (dhAll P w ds).toArray = acc ++ (dhAll P w (d :: ds)).toArray := by
        apply Array.toList_inj.mp
        simp [dhAll]
      rw [e]
      have e2 : s.toks + dn d + dnAll ds = s.toks + dnAll (d :: ds) := by
        show _ = s.toks + (dn d + dnAll ds)
        omega
      show Q _ { s with toks := s.toks + dn d + dnAll ds }
      rw [e2]
      exact h
end
end
end Sfl
/- data as elements of sets: what a search asks of them -/
namespace Sfl
open PySem PySem.Spec PyProof.Rows L2
/-- v is a datum of these, at most n deep -/
def Elm (h : Heap) (n : Nat) (v : Value) : Prop := ∃ d as, Reads h v d as ∧ hdy d = true ∧ d.depth ≤ n
theorem elm_all {h : Heap} {n : Nat} : ∀ {vs : List Value} {ds : List PyData} {as : List Addr}, ReadsAll h vs ds as → hdyAll ds = true → PyData.depthAll ds ≤ n → ∀ v ∈ vs, Elm h n v
  | _, _, _, .nil, _, _, v, hv => nomatch hv
  | _, _, _, .cons (d := d) (ds := ds) r rs, hd, hn, v, hv => by
    obtain ⟨h1, h2⟩ := Bool.and_eq_true_iff.mp (show (hdy d && hdyAll ds) = true from hd)
    have hm : max d.depth (PyData.depthAll ds) ≤ n := hn
    rcases List.mem_cons.mp hv with rfl | hv
    · exact ⟨d, _, r, h1, Nat.le_trans (Nat.le_max_left _ _) hm⟩
    · exact elm_all rs h2 (Nat.le_trans (Nat.le_max_right _ _) hm) v hv
section
variable {M : Model} {A : Around} {E : Value → Shared → Prop}
theorem wp_either {α : Type} {c : Prop} [Decidable c] {a b : Sem α} {s : Shared} {Q : α → Shared → Prop} (ha : wpAny M A a Q E s) (hb : wpAny M A b Q E s) : wpAny M A (if c then a else b) Q E s := by
  by_cases h : c
  · exact wp_if_pos h ha
  · exact wp_if_neg h hb
/-- a loop over elements whose turns all go on -/
theorem turns_on {β : Type} {n : Nat} {s : Shared} {vs : List Value} {f : Value → Option β × Unit → Sem (ForInStep (Option β × Unit))} {Q : Option β × Unit → Shared → Prop} (hv : ∀ v ∈ vs, Elm s.heap n v)
    (hf : ∀ (v : Value) (Q' : ForInStep (Option β × Unit) → Shared → Prop), Elm s.heap n v → Q' (.yield (none, ())) s → wpAny M A (f v (none, ())) Q' E s) (h : Q (none, ()) s) : wpAny M A (forIn vs (none, ()) f) Q E s := by
  refine wpAny_forIn_list _ (fun rest r s' => r = (none, ()) ∧ s' = s ∧ ∀ v ∈ rest, Elm s.heap n v) _ ?_ ?_ _ _ ⟨rfl, rfl, hv⟩
  · rintro v rest r s' ⟨rfl, rfl, hr⟩
    exact hf v _ (hr v List.mem_cons_self) ⟨rfl, rfl, fun u hu => hr u (List.mem_cons_of_mem _ hu)⟩
  · rintro r s' ⟨rfl, rfl, _⟩
    exact h
/-- == of them asks nobody -/
theorem quiet_elm : ∀ (n : Nat) {s : Shared} {v : Value} {Q : Bool → Shared → Prop}, Elm s.heap n v → Q true s → wpAny M A (eqIsQuiet n v) Q E s := by
  intro n
  induction n with
  | zero =>
    rintro s v Q ⟨d, as, r, hd, hn⟩ h
    cases r with
    | int i t => exact wpAny_pure h
    | str z t => exact wpAny_pure h
    | @tuple a o vs m xs as ho hc hdt rs => exact absurd hn (by show ¬ PyData.depthAll xs + 1 ≤ 0; omega)
    | none => exact nomatch hd
    | bool b => exact nomatch hd
    | list => exact nomatch hd
    | dict => exact nomatch hd
  | succ n ih =>
    rintro s v Q ⟨d, as, r, hd, hn⟩ h
    cases r with
    | int i t => exact wpAny_pure h
    | str z t => exact wpAny_pure h
    | @tuple a o vs m xs as ho hc hdt rs =>
      have hT : s.TypeIs (.ref a) "tuple" := ⟨o, ho, hc⟩
      have hel := elm_all rs hd (n := n) (Nat.le_of_succ_le_succ (show PyData.depthAll xs + 1 ≤ n + 1 from hn))
      unfold eqIsQuiet
      refine wpAny_bind (wpAny_specialOf hT PySem.F.slot_tuple_eq.lookup ?_)
      show wpAny _ _ (isInstance (.ref a) (.type "tuple") >>= _) _ _ s
      refine wpAny_bind (wpAny_isInstance hT isSubtype_tuple_tuple ?_)
      refine wp_if_neg (by simp) ?_
      refine wpAny_bind (wpAny_seqItems ho hdt (wpAny_bind ?_))
      show wpAny _ _ (forIn vs _ _) _ _ s
      rw [← Array.forIn_toList]
      refine turns_on hel (fun u Q' hu q => wpAny_bind (ih hu ?_)) (wpAny_pure h)
      exact wp_if_neg (by simp) (wpAny_pure q)
    | none => exact nomatch hd
    | bool b => exact nomatch hd
    | list => exact nomatch hd
    | dict => exact nomatch hd
/-- no class statement is asked -/
theorem noclass_elm : ∀ (n : Nat) {s : Shared} {v : Value} {Q : Bool → Shared → Prop}, Elm s.heap n v → Q false s → wpAny M A (ofAClassStatement n v) Q E s := by
  intro n
  induction n with
  | zero =>
    rintro s v Q ⟨d, as, r, hd, hn⟩ h
    cases r with
    | int i t => exact wpAny_pure h
    | str z t => exact wpAny_pure h
    | @tuple a o vs m xs as ho hc hdt rs => exact absurd hn (by show ¬ PyData.depthAll xs + 1 ≤ 0; omega)
    | none => exact nomatch hd
    | bool b => exact nomatch hd
    | list => exact nomatch hd
    | dict => exact nomatch hd
  | succ n ih =>
    rintro s v Q ⟨d, as, r, hd, hn⟩ h
    cases r with
    | int i t => exact wpAny_pure h
    | str z t => exact wpAny_pure h
    | @tuple a o vs m xs as ho hc hdt rs =>
      have hT : s.TypeIs (.ref a) "tuple" := ⟨o, ho, hc⟩
      have hel := elm_all rs hd (n := n) (Nat.le_of_succ_le_succ (show PyData.depthAll xs + 1 ≤ n + 1 from hn))
      unfold ofAClassStatement
      refine wpAny_bind (wpAny_typeOf hT ?_)
      dsimp only
      refine wpAny_bind ?_
      refine wpAny_pure ?_
      refine wp_if_neg (by simp) ?_
      show wpAny _ _ (seqItems? (.ref a) >>= _) _ _ s
      refine wpAny_bind (wpAny_seqItems ho hdt ?_)
      dsimp only
      refine wpAny_bind ?_
      rw [← Array.forIn_toList]
      refine turns_on hel (fun u Q' hu q => wpAny_bind (ih hu ?_)) (wpAny_pure h)
      exact wp_if_neg (by simp) (wpAny_pure q)
    | none => exact nomatch hd
    | bool b => exact nomatch hd
    | list => exact nomatch hd
    | dict => exact nomatch hd
/-- whether a hash goes by value alone: either way -/
theorem byval_elm : ∀ (n : Nat) {s : Shared} {v : Value} {Q : Bool → Shared → Prop}, Elm s.heap n v → (∀ b, Q b s) → wpAny M A (hashByValue n v) Q E s := by
  intro n
  induction n with
  | zero =>
    rintro s v Q ⟨d, as, r, hd, hn⟩ h
    cases r with
    | int i t => exact wpAny_pure (h _)
    | str z t => exact wpAny_pure (h _)
    | @tuple a o vs m xs as ho hc hdt rs => exact absurd hn (by show ¬ PyData.depthAll xs + 1 ≤ 0; omega)
    | none => exact nomatch hd
    | bool b => exact nomatch hd
    | list => exact nomatch hd
    | dict => exact nomatch hd
  | succ n ih =>
    rintro s v Q ⟨d, as, r, hd, hn⟩ h
    cases r with
    | int i t => exact wpAny_pure (h _)
    | str z t => exact wpAny_pure (h _)
    | @tuple a o vs m xs as ho hc hdt rs =>
      have hT : s.TypeIs (.ref a) "tuple" := ⟨o, ho, hc⟩
      have hel := elm_all rs hd (n := n) (Nat.le_of_succ_le_succ (show PyData.depthAll xs + 1 ≤ n + 1 from hn))
      unfold hashByValue
      refine wpAny_bind (wpAny_specialOf hT PySem.F.slot_tuple_hash.lookup ?_)
      show wpAny _ _ (seqItems? (.ref a) >>= _) _ _ s
      refine wpAny_bind (wpAny_seqItems ho hdt (wpAny_bind ?_))
      show wpAny _ _ (forIn vs _ _) _ _ s
      rw [← Array.forIn_toList]
      refine wpAny_forIn_list _ (fun rest r s' => r = (none, ()) ∧ s' = s ∧ ∀ u ∈ rest, Elm s.heap n u) _ ?_ ?_ _ _ ⟨rfl, rfl, hel⟩
      · rintro u rest r s' ⟨rfl, rfl, hr⟩
        refine wpAny_bind (ih (hr u List.mem_cons_self) fun b => ?_)
        cases b with
        | true => exact wp_if_neg (by simp) (wpAny_pure ⟨rfl, rfl, fun x hx => hr x (List.mem_cons_of_mem _ hx)⟩)
        | false => exact wp_if_pos (by simp) (wpAny_pure (wpAny_pure (h _)))
      · rintro r s' ⟨rfl, rfl, _⟩
        exact wpAny_pure (h _)
    | none => exact nomatch hd
    | bool b => exact nomatch hd
    | list => exact nomatch hd
    | dict => exact nomatch hd
/-- a search among such elements shows nothing -/
theorem seen_elm {s : Shared} {b : Addr} {ys : List Value} {Q : Bool → Shared → Prop} (hb : Elm s.heap 8 (.ref b)) (hy : ∀ y ∈ ys, Elm s.heap 8 y) (h : Q false s) : wpAny M A (searchCouldBeSeen (.ref b) ys) Q E s := by
  unfold searchCouldBeSeen
  refine wpAny_bind (turns_on hy (fun y Q' ey q => ?_) (wpAny_pure h))
  refine wp_either (wpAny_pure q) ?_
  · refine wpAny_bind (quiet_elm 8 hb (wp_if_neg (by simp) ?_))
    refine wpAny_bind (quiet_elm 8 ey (wp_if_neg (by simp) ?_))
    refine wpAny_bind (noclass_elm 8 hb (wp_if_neg (by simp) ?_))
    exact wpAny_bind (noclass_elm 8 ey (wp_if_neg (by simp) (wpAny_pure q)))
end
end Sfl
/- a set of data: the search, one element more -/
namespace Sfl
open PySem PySem.Spec PyProof.Rows L2
/-- an element: where it stands and what it is -/
abbrev El := Addr × PyData
def EAt (h : Heap) (p : El) : Prop := (∃ as, Reads h (.ref p.1) p.2 as) ∧ hdy p.2 = true ∧ p.2.depth ≤ 8
theorem EAt.elm {h : Heap} {p : El} (e : EAt h p) : Elm h 8 (.ref p.1) := by
  obtain ⟨⟨as, r⟩, h1, h2⟩ := e
  exact ⟨p.2, as, r, h1, h2⟩
mutual
theorem reads_keep {h h' : Heap} (k : ∀ b o, h.get? b = some o → o.cls = .type "tuple" → h'.get? b = some o) : ∀ (d : PyData) {v : Value} {as : List Addr}, hdy d = true → Reads h v d as → Reads h' v d as
  | .int _, _, _, _, r => by cases r; exact .int _ _
  | .str _, _, _, _, r => by cases r; exact .str _ _
  | .tuple ds, _, _, hd, r => by
    cases r with
    | tuple ho hc hdt rs => exact .tuple (k _ _ ho hc) hc hdt (reads_keepAll k ds hd rs)
  | .none, _, _, hd, _ => nomatch hd
  | .bool _, _, _, hd, _ => nomatch hd
  | .list _, _, _, hd, _ => nomatch hd
  | .dict _, _, _, hd, _ => nomatch hd
theorem reads_keepAll {h h' : Heap} (k : ∀ b o, h.get? b = some o → o.cls = .type "tuple" → h'.get? b = some o) : ∀ (ds : List PyData) {vs : List Value} {as : List Addr}, hdyAll ds = true → ReadsAll h vs ds as → ReadsAll h' vs ds as
  | [], _, _, _, r => by cases r; exact .nil
  | d :: ds, _, _, hd, r => by
    obtain ⟨h1, h2⟩ := Bool.and_eq_true_iff.mp (show (hdy d && hdyAll ds) = true from hd)
    cases r with
    | cons r1 r2 => exact .cons (reads_keep k d h1 r1) (reads_keepAll k ds h2 r2)
end
theorem EAt.keep {h h' : Heap} {p : El} (e : EAt h p) (k : ∀ b o, h.get? b = some o → o.cls = .type "tuple" → h'.get? b = some o) : EAt h' p := by
  obtain ⟨⟨as, r⟩, h1, h2⟩ := e
  exact ⟨⟨as, reads_keep k _ h1 r⟩, h1, h2⟩
/-- a change of the set alone leaves the tuples -/
theorem EAt.but {h h' : Heap} {p : El} {a : Addr} {o : Obj} (e : EAt h p) (ho : h.get? a = some o) (hc : o.cls = .type "set") (hs : Heap.SameBut a h h') : EAt h' p := e.keep fun b ob hb hcb => by
  by_cases c : b = a
  · subst c
    rw [ho] at hb
    rw [← Option.some.inj hb, hc] at hcb
    exact nomatch hcb
  · exact (hs.2 b c).trans hb
section
variable (P : Program) (w : World)
def eh (p : El) : Int := dh P w p.2
def dRows (L : List El) : List (Int × Value) := L.map fun p => (eh P w p, .ref p.1)
structure DSet (h : Heap) (a : Addr) (L : List El) (es : Array (Int × Value)) (ep : Nat) (t : SetTable) : Prop where
  here : ∃ o, h.get? a = some o ∧ o.ExactSet ∧ o.data = .set es ep t
  rows : es.toList = dRows P w L
  tab : TabOk t (L.map (eh P w))
  nd : (L.map (·.2)).Nodup
  el : ∀ p ∈ L, EAt h p
  led : w.params.followText "set-order" = true ∨ t.led = true
  room : L.length * 5 < t.mask * 3
  few : L.length < 64
end
section
variable {P : Program} {w : World} {A : Around} {E : Value → Shared → Prop} {s : Shared} {a : Addr} {L : List El} {es : Array (Int × Value)} {ep : Nat} {t : SetTable}
theorem rows_len (h : es.toList = dRows P w L) : es.size = L.length := by
  rw [← Array.length_toList, h]
  exact List.length_map _
theorem rows_at (h : es.toList = dRows P w L) {i : Nat} {p : El} (hp : L[i]? = some p) : es[i]? = some (eh P w p, .ref p.1) := by
  rw [← Array.getElem?_toList, h, dRows, List.getElem?_map, hp]
  rfl
theorem fits_of {n : Nat} (h1 : t.place.size = n) (h2 : t.dummies = #[]) (h3 : n ≤ t.mask) : t.fits n = true := by
  unfold SetTable.fits SetTable.fill
  rw [h2, h1, Bool.and_eq_true, beq_iff_eq, decide_eq_true_eq]
  exact ⟨rfl, h3⟩
theorem DSet.fit (R : DSet P w s.heap a L es ep t) : t.fits es.size = true := by
  have h1 := R.tab.sz
  have h2 := R.room
  rw [List.length_map] at h1
  rw [rows_len R.rows]
  exact fits_of h1 R.tab.dm (by omega)
theorem gave_not (h : MaskOk t.mask) : ¬ t.gaveWay = true := by
  unfold SetTable.gaveWay
  rw [mask_odd h]
  decide
theorem nth_dummy (m : Nat) : ∀ (n : Nat) (p : SetTable.Probe), p.dummy = none → (nth m p n).dummy = none
  | 0, _, h => h
  | n + 1, p, h => nth_dummy m n (adv m p) (by unfold adv; split <;> exact h)
/-- the probe behind c steps of the way of a hash -/
abbrev prb (m : Nat) (h : Int) (c : Nat) : SetTable.Probe := nth m (runAt m (SetTable.bits h % (m + 1)) (SetTable.bits h)) c
theorem prb_add (m : Nat) (h : Int) (c q : Nat) : nth m (prb m h c) q = prb m h (c + q) := (nth_add m c _ q).symm
/-- where equal elements may still stand, seen from step c of the way that ends at K -/
def Ahead (P : Program) (w : World) (t : SetTable) (L : List El) (k : PyData) (K c : Nat) : Prop := ∀ (i : Nat) (p : El), L[i]? = some p → p.2 = k → ∃ c', c ≤ c' ∧ c' < K ∧ t.place.toList[i]? = some (way t.mask (dh P w k) c')
theorem get_lt' {α : Type} {xs : List α} {i : Nat} {x : α} (h : xs[i]? = some x) : i < xs.length := (List.getElem?_eq_some_iff.mp h).1
theorem wp_led {α : Type} {M : Model} {b : Bool} {m n : Sem α} {Q : α → Shared → Prop} (h1 : b = true → wpAny M A m Q E s) (h2 : b = false → wpAny M A n Q E s) : wpAny M A (if (!b) = true then n else m) Q E s := by
  cases b with
  | true => exact wp_if_neg (by simp) (h1 rfl)
  | false => exact wp_if_pos (by simp) (h2 rfl)
/-- == of two elements -/
theorem eq_elm {p : El} {x : Addr} {k : PyData} {Q : Bool → Shared → Prop} (hp : EAt s.heap p) (hx : EAt s.heap (x, k)) (hu : A.units + 8 < cLine) (h : Q (PyData.eqv p.2 k) s) : wpAny (model P w) A (eqBool (.ref p.1) (.ref x)) Q E s := by
  obtain ⟨⟨as, r1⟩, h1, d1⟩ := hp
  obtain ⟨⟨bs, r2⟩, h2, _⟩ := hx
  exact SeqAt.eqAt_reads p.2 k A s _ _ as bs r1 r2 (hdy_lay _ h1) (hdy_lay _ h2) (Nat.lt_of_le_of_lt (Nat.add_le_add_left (Nat.le_trans (Nat.min_le_left _ _) d1) _) hu) P w E Q h
theorem search_steps (R : DSet P w s.heap a L es ep t) {x : Addr} {k : PyData} (hx : EAt s.heap (x, k)) (hu : A.units + 8 < cLine) {K : Nat} (hT : K < 10 * SetTable.turns t.mask) (hK : way t.mask (dh P w k) K ∉ t.place.toList)
    (hb : ∀ c, c < K → way t.mask (dh P w k) c ∈ t.place.toList) {Q : SetFound → Shared → Prop} (hin : (∃ p ∈ L, p.2 = k) → Q (.there none) s) (hout : (∀ p ∈ L, p.2 ≠ k) → Q (.free (way t.mask (dh P w k) K) false) s) :
    ∀ (n c f : Nat) (st : Option SetTable.Probe), K - c = n → c ≤ K → n < f → st.getD (t.probeStart (dh P w k)) = prb t.mask (dh P w k) c → Ahead P w t L k K c → wpAny (model P w) A (setSearchFrom a (.ref x) (dh P w k) true f st) Q E s := by
  intro n
  induction n using Nat.strongRecOn with
  | ind n ih =>
    intro c f st hn hc hf hst hah
    obtain ⟨o, ho, hex, hd⟩ := R.here
    obtain ⟨f, rfl⟩ : ∃ g, f = g + 1 := ⟨f - 1, by omega⟩
    generalize hh : dh P w k = hv at *
    rw [setSearchFrom_succ]
    refine wpAny_bind (wpAny_setState_of ho hd R.fit ?_)
    dsimp only
    refine wp_if_neg (gave_not R.tab.mok) ?_
    have hashAt : ∀ (i : Nat) (p : El), L[i]? = some p → (es[i]?.map (·.1)).getD 0 = eh P w p := fun i p hp => by
      rw [rows_at R.rows hp]
      rfl
    have look := go_spec t R.tab.ris R.tab.dm (fun i => (es[i]?.map (·.1)).getD 0) hv (10 * SetTable.turns t.mask) (K - c) (prb t.mask hv c) (nth_dummy _ _ _ rfl) (by omega) (fun q hq => by rw [prb_add]; exact hb _ (by omega)) (by rw [prb_add, show c + (K - c) = K by omega]; exact hK)
    rcases look with ⟨q, i, hq, hi, hhi, hno, hpr⟩ | ⟨hno, hpr⟩
    · -- a candidate
      rw [prb_add] at hi hpr
      rw [prb_add] at hpr
      have hil : i < L.length := by
        have h1 := get_lt' hi
        have h2 := R.tab.sz
        rw [List.length_map] at h2
        rw [Array.length_toList] at h1
        omega
      obtain ⟨p, hp⟩ : ∃ p, L[i]? = some p := ⟨L[i], List.getElem?_eq_getElem hil⟩
      have hpm := List.mem_of_getElem? hp
      have met : t.probe (fun i => (es[i]?.map (·.1)).getD 0) hv (st.getD (t.probeStart hv)) = some (.candidate (way t.mask hv (c + q)) i (prb t.mask hv (c + (q + 1)))) := by
        rw [hst]
        exact hpr
      rw [met]
      dsimp only
      have rest : wpAny (model P w) A (searchRest a (.ref x) hv true f es t (way t.mask hv (c + q)) i (prb t.mask hv (c + (q + 1)))) Q E s := by
        unfold searchRest
        rw [rows_at R.rows hp]
        dsimp only
        refine wpAny_bind (wpAny_holding (eq_elm (R.el p hpm) hx hu (wpAny_bind (wpAny_setState_of ho hd R.fit ?_))))
        dsimp only
        by_cases e : p.2 = k
        · refine wp_if_pos ?_ (wpAny_pure (hin ⟨p, hpm, e⟩))
          rw [e, SeqAt.eqv_refl _ (hdy_lay _ hx.2.1)]
          rfl
        · have ef : PyData.eqv p.2 k = false := by
            cases c2 : PyData.eqv p.2 k with
            | false => rfl
            | true => exact absurd ((hdy_iff (R.el p hpm).2.1 hx.2.1).mp c2) e
          rw [ef]
          refine wp_if_neg (by simp) ?_
          rw [sameMem]
          have hsl := slot_live R.tab.ris hi
          dsimp only
          have hsl' : t.slot (way t.mask hv (c + q)) = .live i := hsl
          simp only [if_true, hsl', rows_at R.rows hp]
          refine wpAny_bind (wpAny_isSame_ref_self (wpAny_bind (wpAny_pure ?_)))
          simp only [if_true]
          refine wp_if_neg (by simp) ?_
          refine ih (K - (c + (q + 1))) (by omega) (c + (q + 1)) f _ rfl (by omega) (by omega) rfl fun i0 p0 h0 hk0 => ?_
          obtain ⟨c', a1, a2, a3⟩ := hah i0 p0 h0 hk0
          refine ⟨c', ?_, a2, a3⟩
          rw [hh] at a3
          rcases Nat.lt_trichotomy c' (c + q) with z | z | z
          · refine absurd ((hashAt i0 p0 h0).trans ?_) (hno (c' - c) i0 (by omega) (by rw [prb_add, show c + (c' - c) = c' by omega]; exact a3))
            unfold eh
            rw [hk0, hh]
          · subst z
            have s0 := slot_live R.tab.ris a3
            rw [hsl'] at s0
            injection s0 with s0
            rw [← s0, hp] at h0
            rw [← Option.some.inj h0] at hk0
            exact absurd hk0 e
          · omega
      refine wp_led (fun _ => rest) fun _ => ?_
      refine wpAny_bind (seen_elm hx.elm (fun y hy => ?_) (wp_if_neg (by simp) rest))
      obtain ⟨e, he, rfl⟩ := List.mem_map.mp hy
      have he1 : e ∈ es.toList := Array.mem_toList_iff.mpr (Array.mem_filter.mp (Array.mem_toList_iff.mp he)).1
      rw [R.rows] at he1
      obtain ⟨p2, hp2, rfl⟩ := List.mem_map.mp he1
      exact (R.el p2 hp2).elm
    · -- an empty slot
      rw [prb_add, show c + (K - c) = K by omega] at hpr
      have met : t.probe (fun i => (es[i]?.map (·.1)).getD 0) hv (st.getD (t.probeStart hv)) = some (.empty (way t.mask hv K) none) := by
        rw [hst]
        exact hpr
      rw [met]
      dsimp only
      refine wpAny_pure (hout fun p0 h0 hk0 => ?_)
      obtain ⟨i0, hi0, e0⟩ := List.getElem_of_mem h0
      obtain ⟨c', a1, a2, a3⟩ := hah i0 p0 (by rw [List.getElem?_eq_getElem hi0, e0]) hk0
      rw [hh] at a3
      refine absurd ((hashAt i0 p0 (by rw [List.getElem?_eq_getElem hi0, e0])).trans ?_) (hno (c' - c) i0 (by omega) (by rw [prb_add, show c + (c' - c) = c' by omega]; exact a3))
      unfold eh
      rw [hk0, hh]
end
end Sfl
/- a set of data: one element more -/
namespace Sfl
open PySem PySem.Spec PyProof.Rows L2
theorem range_take {α : Type} (L : List α) : ∀ n : Nat, (List.range n).filterMap (fun i => L[i]?) = L.take n
  | 0 => rfl
  | n + 1 => by
    rw [List.range_succ, List.filterMap_append, range_take L n, List.take_add_one]
    cases h : L[n]? with
    | none => rw [List.filterMap_cons_none h]; rfl
    | some x => rw [List.filterMap_cons_some h]; rfl
section
variable {P : Program} {w : World} {A : Around} {E : Value → Shared → Prop} {s : Shared} {a : Addr} {L : List El} {es : Array (Int × Value)} {ep : Nat} {t : SetTable}
theorem search_whole (R : DSet P w s.heap a L es ep t) {x : Addr} {k : PyData} (hx : EAt s.heap (x, k)) (hu : A.units + 8 < cLine) {Q : SetFound → Shared → Prop} (hin : (∃ p ∈ L, p.2 = k) → Q (.there none) s)
    (hout : ∀ K, (∀ p ∈ L, p.2 ≠ k) → way t.mask (dh P w k) K ∉ t.place.toList → (∀ c, c < K → way t.mask (dh P w k) c ∈ t.place.toList) → Q (.free (way t.mask (dh P w k) K) false) s) :
    wpAny (model P w) A (setSearch a (.ref x) (dh P w k) true) Q E s := by
  have hroom := R.room
  have hsz := R.tab.sz
  rw [List.length_map] at hsz
  obtain ⟨K, hT, hK, hb⟩ := R.tab.first (by rw [List.length_map]; omega) (dh P w k)
  have hturn : 10 * SetTable.turns t.mask ≤ 1420 := by
    unfold SetTable.turns
    rcases R.tab.mok with e | e | e <;> omega
  unfold setSearch
  refine search_steps R hx hu hT hK hb hin (fun h => hout K h hK hb) K 0 100000 none (Nat.sub_zero K) (Nat.zero_le _) (by omega) rfl fun i p hp hk => ?_
  have hi := get_lt' hp
  have hpl : t.place.toList[i]? = some (t.place.toList[i]'(by rw [Array.length_toList]; omega)) := List.getElem?_eq_getElem _
  obtain ⟨c, hc, e⟩ := R.tab.before hK (i := i) (by rw [List.getElem?_map, hp]; show some (dh P w p.2) = _; rw [hk]) hpl
  exact ⟨c, Nat.zero_le _, hc, by rw [hpl, e]⟩
/-- the rows in another order -/
theorem rows_order {order : Array Nat} (hr : es.toList = dRows P w L) (hp : order.toList.Perm (List.range L.length)) :
    ∃ L2, (order.filterMap (es[·]?)).toList = dRows P w L2 ∧ L2.Perm L ∧ L2.map (eh P w) = order.toList.map fun i => (es.map (·.1)).getD i 0 := by
  have hlt : ∀ i ∈ order.toList, i < L.length := fun i hi => List.mem_range.mp (hp.mem_iff.mp hi)
  have go : ∀ l : List Nat, (∀ i ∈ l, i < L.length) → (l.filterMap fun i => es[i]?) = dRows P w (l.filterMap fun i => L[i]?) ∧ (l.filterMap fun i => L[i]?).map (eh P w) = l.map fun i => (es.map (·.1)).getD i 0 := by
    intro l
    induction l with
    | nil => exact fun _ => ⟨rfl, rfl⟩
    | cons i l ih =>
      intro h
      obtain ⟨e1, e2⟩ := ih fun j hj => h j (List.mem_cons_of_mem _ hj)
      have hi : L[i]? = some (L[i]'(h i List.mem_cons_self)) := List.getElem?_eq_getElem _
      have he := rows_at hr hi
      have hg : (es.map (·.1)).getD i 0 = eh P w (L[i]'(h i List.mem_cons_self)) := by
        rw [Array.getD_eq_getD_getElem?, Array.getElem?_map, he]
        rfl
      rw [List.filterMap_cons_some he, List.filterMap_cons_some hi, List.map_cons, List.map_cons, e1, e2, hg]
      exact ⟨rfl, rfl⟩
  obtain ⟨e1, e2⟩ := go order.toList hlt
  refine ⟨_, by rw [Array.toList_filterMap]; exact e1, ?_, e2⟩
  have all : (List.range L.length).filterMap (fun i => L[i]?) = L := by rw [range_take, List.take_length]
  exact (hp.filterMap _).trans (by rw [all])
/-- the table laid anew, larger -/
theorem relay_set {o : Obj} (ho : s.heap.get? a = some o) (hex : o.ExactSet) (hd : o.data = .set es ep t) (hr : es.toList = dRows P w L) (hz : t.place.size = es.size) (hdm : t.dummies = #[]) (hle : es.size ≤ t.mask) (nd : (L.map (·.2)).Nodup) (el : ∀ p ∈ L, EAt s.heap p)
    (ld : w.params.followText "set-order" = true ∨ t.led = true) (few : L.length < 64) {want m : Nat} (hw : SetTable.sizeAbove want - 1 = m) (hm : MaskOk m) (h128 : SetTable.sizeAbove want ≤ 128) (hroom : L.length * 5 < m * 3) {Q : Unit → Shared → Prop}
    (hQ : ∀ h' L' es' ep' t', Heap.SameBut a s.heap h' → DSet P w h' a L' es' ep' t' → L'.Perm L → Q () { s with heap := h' }) : wpAny (model P w) A (setRelay a want) Q E s := by
  have hl := rows_len hr
  have hm127 : m ≤ 127 := by rcases hm with e | e | e <;> omega
  obtain ⟨t', order, e, hp, T, em, el', epl, edm⟩ := relaid_ok t (hs := es.map (·.1)) (wanted := want) hw hm (by rw [Array.size_map, hl]; omega)
  rw [Array.size_map, hl] at hp
  obtain ⟨L2, r1, r2, r3⟩ := rows_order hr hp
  rw [← r3] at T
  have hs2 : (order.filterMap (es[·]?)).size = es.size := by rw [rows_len r1, r2.length_eq, hl]
  rw [setRelay_eq]
  refine wpAny_bind (wpAny_setState_of ho hd (fits_of hz hdm hle) ?_)
  dsimp only
  refine wp_if_neg (by rw [sizeLine_eq]; omega) ?_
  rw [e]
  dsimp only
  refine wpAny_bind (wp_if_neg (by rw [hs2]; simp) (wpAny_pure ?_))
  dsimp only
  refine wpAny_storeSet_of ho hd ?_ (by rw [hs2, hl, sizeLine_eq]; omega)
  have sb := Heap.SameBut.update s.heap a (Obj.putSet (order.filterMap (es[·]?)) t')
  refine hQ _ L2 _ (ep + 1) t' sb ⟨⟨_, store_at ho hd, ⟨hex.1, hex.2.1, hex.2.2⟩, rfl⟩, r1, T, (r2.map _).nodup_iff.mpr nd, fun p hp => (el p (r2.mem_iff.mp hp)).but ho hex.1 sb, by rw [el']; exact ld, by rw [r2.length_eq, em]; exact hroom, by rw [r2.length_eq]; exact few⟩ r2
end
end Sfl
/- a set of data: adding -/
namespace Sfl
open PySem PySem.Spec PyProof.Rows L2
section
variable {P : Program} {w : World} {A : Around} {E : Value → Shared → Prop} {s : Shared} {a : Addr} {L : List El} {es : Array (Int × Value)} {ep : Nat} {t : SetTable}
/-- what the set has got -/
def Grown (L : List El) (p : El) (L' : List El) : Prop := (L' = L ∧ ∃ q ∈ L, q.2 = p.2) ∨ (L'.Perm (p :: L) ∧ ∀ q ∈ L, q.2 ≠ p.2)
theorem tabOk_plain {hs : List Int} {b : Bool} (T : TabOk t hs) : TabOk { t with plain := b } hs := ⟨T.ris, T.dm, T.sz, T.mok, T.bd, T.reach⟩
/-- behind the place: the rows are stored, the table is laid anew where it is too full -/
theorem add_rest {o : Obj} (ho : s.heap.get? a = some o) (hex : o.ExactSet) (hd : o.data = .set es ep t) {p : El} {L1 : List El} {es1 : Array (Int × Value)} {t2 : SetTable} (hr : es1.toList = dRows P w L1) (pm : L1.Perm (p :: L)) (T : TabOk t2 (L1.map (eh P w))) (nd : (L1.map (·.2)).Nodup)
    (el : ∀ q ∈ L1, EAt s.heap q) (ld : w.params.followText "set-order" = true ∨ t2.led = true) (few : L.length + 1 < 64) (hroom : L.length * 5 < t2.mask * 3) {Q : Bool → Shared → Prop}
    (hQ : ∀ h' L' es' ep' t', Heap.SameBut a s.heap h' → DSet P w h' a L' es' ep' t' → L'.Perm (p :: L) → Q true { s with heap := h' }) {m : Sem Unit} (hm : m = setRelay a (SetTable.grown (L.length + 1))) :
    wpAny (model P w) A (storeSet a es1 t2 >>= fun _ => if (!false && t2.tooFull) = true then m >>= fun _ => pure true else pure true) Q E s := by
  subst hm
  have hl1 : L1.length = L.length + 1 := pm.length_eq
  have hz := rows_len hr
  have hsz := T.sz
  rw [List.length_map] at hsz
  refine wpAny_bind (wpAny_storeSet_of ho hd ?_ (by rw [hz, hl1, sizeLine_eq]; omega))
  have sb := Heap.SameBut.update s.heap a (Obj.putSet es1 t2)
  have ho1 := store_at (es' := es1) (t' := t2) ho hd
  have el1 : ∀ q ∈ L1, EAt (s.heap.update a (Obj.putSet es1 t2)) q := fun q hq => (el q hq).but ho hex.1 sb
  generalize s.heap.update a (Obj.putSet es1 t2) = h1 at sb ho1 el1 ⊢
  have hfill : t2.fill = L.length + 1 := by
    unfold SetTable.fill
    rw [T.dm, hsz, hl1]
    rfl
  by_cases hf : t2.tooFull = true
  · refine wp_if_pos (by simp [hf]) (wpAny_bind ?_)
    have h5 : (L.length + 1) * 5 ≥ t2.mask * 3 := by
      have := hf
      unfold SetTable.tooFull at this
      rw [decide_eq_true_eq, hfill] at this
      exact this
    have go : ∀ m, SetTable.sizeAbove (SetTable.grown (L.length + 1)) - 1 = m → MaskOk m → SetTable.sizeAbove (SetTable.grown (L.length + 1)) ≤ 128 → (L.length + 1) * 5 < m * 3 → es1.size ≤ t2.mask →
        wpAny (model P w) A (setRelay a (SetTable.grown (L.length + 1))) (fun _ s' => wpAny (model P w) A (pure true) Q E s') E { s with heap := h1 } := fun m e1 e2 e3 e4 e5 =>
      relay_set (s := { s with heap := h1 }) ho1 ⟨hex.1, hex.2.1, hex.2.2⟩ rfl hr (by rw [hsz, hz]) T.dm e5 nd el1 ld (by rw [hl1]; exact few) e1 e2 e3 (by rw [hl1]; exact e4)
        fun h2 L2 es2 ep2 t3 sb2 R2 pm2 => wpAny_pure (hQ h2 L2 es2 ep2 t3 (sb.trans sb2) R2 (pm2.trans pm))
    rcases T.mok with e | e | e
    · have e2 : L.length = 4 := by rw [e] at h5 hroom; omega
      exact go 31 (by rw [e2, size_20]) (.inr (.inl rfl)) (by rw [e2, size_20]; decide) (by omega) (by rw [hz, hl1, e]; omega)
    · have e2 : L.length = 18 := by rw [e] at h5 hroom; omega
      exact go 127 (by rw [e2, size_76]) (.inr (.inr rfl)) (by rw [e2, size_76]; decide) (by omega) (by rw [hz, hl1, e]; omega)
    · rw [e] at h5
      omega
  · refine wp_if_neg (by simp [hf]) (wpAny_pure (hQ h1 L1 es1 _ t2 sb ⟨⟨_, ho1, ⟨hex.1, hex.2.1, hex.2.2⟩, rfl⟩, hr, T, nd, el1, ld, ?_, by rw [hl1]; exact few⟩ pm))
    have := hf
    unfold SetTable.tooFull at this
    rw [decide_eq_true_eq, hfill] at this
    rw [hl1]
    omega
theorem add_set (R : DSet P w s.heap a L es ep t) {x : Addr} {k : PyData} (hx : EAt s.heap (x, k)) (hu : A.units + 8 < cLine) (few : L.length + 1 < 64) {Q : Bool → Shared → Prop}
    (hQ : ∀ b h' L' es' ep' t', Heap.SameBut a s.heap h' → DSet P w h' a L' es' ep' t' → Grown L (x, k) L' → Q b { s with heap := h' }) : wpAny (model P w) A (setAddHashed a (.ref x) (dh P w k)) Q E s := by
  obtain ⟨o, ho, hex, hd⟩ := R.here
  unfold setAddHashed
  refine wpAny_holding ?_
  rw [show (100000 : Nat) = 99999 + 1 from rfl, setAddHashedIn_succ]
  refine wpAny_bind (wpAny_setState_of ho hd R.fit ?_)
  dsimp only
  refine wp_if_neg (by simp [byScan, Value.scannable]) (wpAny_bind (search_whole R hx hu (fun h => ?_) fun K hno hK hb => ?_))
  · exact wpAny_pure (hQ false s.heap L es ep t (Heap.SameBut.refl a s.heap) R (.inl ⟨rfl, h⟩))
  · dsimp only
    refine wpAny_bind (wpAny_setState_of ho hd R.fit ?_)
    dsimp only
    obtain ⟨q1, q2, q3, q4, q5, q6, _, _, _⟩ := R.tab.put hK hb
    generalize hput : t.put (way t.mask (dh P w k) K) = pt at q1 q3 q4 q5 q6 ⊢
    obtain ⟨t1, p⟩ := pt
    dsimp only at q1 q3 q4 q5 q6 ⊢
    subst q1
    generalize hp : SetTable.below t.place (way t.mask (dh P w k) K) = p at q2 q3
    have hin : (SetTable.insertAt es p (dh P w k, .ref x)).toList = dRows P w (L.take p ++ (x, k) :: L.drop p) := by
      rw [SetTable.toList_insertAt, R.rows]
      unfold dRows
      rw [List.map_append, List.map_cons, List.map_take, List.map_drop]
      rfl
    have pm := put_perm L p (x, k)
    have hhs : (L.take p ++ (x, k) :: L.drop p).map (eh P w) = (L.map (eh P w)).take p ++ dh P w k :: (L.map (eh P w)).drop p := by
      rw [List.map_append, List.map_cons, List.map_take, List.map_drop]
      rfl
    rw [← hhs] at q3
    have nd1 : ((L.take p ++ (x, k) :: L.drop p).map (·.2)).Nodup := by
      refine (pm.map (·.2)).nodup_iff.mpr ?_
      rw [List.map_cons]
      refine List.nodup_cons.mpr ⟨fun h => ?_, R.nd⟩
      obtain ⟨e, he, ee⟩ := List.mem_map.mp h
      exact hno e he ee
    have el1 : ∀ q ∈ L.take p ++ (x, k) :: L.drop p, EAt s.heap q := fun q hq => by
      rcases List.mem_cons.mp (pm.mem_iff.mp hq) with rfl | hq
      · exact hx
      · exact R.el q hq
    have hl := rows_len R.rows
    have go : ∀ b : Bool, wpAny (model P w) A (storeSet a (SetTable.insertAt es p (dh P w k, .ref x)) (if b = true then t1 else { t1 with plain := false }) >>= fun _ =>
        if (!false && (if b = true then t1 else { t1 with plain := false }).tooFull) = true then setRelay a (SetTable.grown (es.size + 1)) >>= fun _ => pure true else pure true) Q E s := fun b => by
      have T2 : TabOk (if b = true then t1 else { t1 with plain := false }) ((L.take p ++ (x, k) :: L.drop p).map (eh P w)) := by
        cases b with
        | true => exact q3
        | false => exact tabOk_plain q3
      have em : (if b = true then t1 else { t1 with plain := false }).mask = t.mask := by cases b <;> exact q4
      have el : (if b = true then t1 else { t1 with plain := false }).led = t.led := by cases b <;> exact q5
      generalize (if b = true then t1 else { t1 with plain := false }) = t2 at T2 em el
      exact add_rest ho hex hd hin pm T2 nd1 el1 (by rw [el]; exact R.led) few (by rw [em]; exact R.room) (fun h' L' es' ep' t' sb R' pm' => hQ true h' L' es' ep' t' sb R' (.inr ⟨pm', hno⟩)) (by rw [hl])
    by_cases c : t1.plain = true
    · refine wp_if_pos c (wpAny_bind (byval_elm 8 hx.elm fun b => ?_))
      exact go b
    · refine wp_if_neg c (wpAny_bind (wpAny_pure ?_))
      exact go true
end
end Sfl
/- sets of data as followed objects; add -/
namespace Sfl
open PySem PySem.Spec PyProof.Rows L2
/-- what stands at the set's address -/
structure DSB (P : Program) (w : World) (h : Heap) (a : Addr) (L : List El) : Prop where
  here : ∃ (es : Array (Int × Value)) (ep : Nat) (t : SetTable), (∃ o, h.get? a = some o ∧ o.ExactSet ∧ o.data = .set es ep t) ∧ es.toList = dRows P w L ∧ TabOk t (L.map (eh P w)) ∧ (w.params.followText "set-order" = true ∨ t.led = true) ∧ L.length * 5 < t.mask * 3
  nd : (L.map (·.2)).Nodup
  hd : ∀ p ∈ L, hdy p.2 = true ∧ p.2.depth ≤ 8
  few : L.length < 64
theorem DSB.keep {P : Program} {w : World} {h h' : Heap} {a : Addr} {L : List El} (R : DSB P w h a L) (k : ∀ o, h.get? a = some o → h'.get? a = some o) : DSB P w h' a L := by
  obtain ⟨⟨es, ep, t, ⟨o, ho, hx, hd⟩, r⟩, n, e, f⟩ := R
  exact ⟨⟨es, ep, t, ⟨o, k o ho, hx, hd⟩, r⟩, n, e, f⟩
theorem DSB.obj {P : Program} {w : World} {h : Heap} {a : Addr} {L : List El} (R : DSB P w h a L) : ∃ o, h.get? a = some o := by
  obtain ⟨_, _, _, ⟨o, ho, _⟩, _⟩ := R.here
  exact ⟨o, ho⟩
theorem DSet.base {P : Program} {w : World} {h : Heap} {a : Addr} {L : List El} {es : Array (Int × Value)} {ep : Nat} {t : SetTable} (R : DSet P w h a L es ep t) : DSB P w h a L :=
  ⟨⟨es, ep, t, R.here, R.rows, R.tab, R.led, R.room⟩, R.nd, fun p hp => (R.el p hp).2, R.few⟩
theorem DSB.full {P : Program} {w : World} {h : Heap} {a : Addr} {L : List El} (R : DSB P w h a L) (el : ∀ p ∈ L, ∃ as, Reads h (.ref p.1) p.2 as) : ∃ es ep t, DSet P w h a L es ep t := by
  obtain ⟨es, ep, t, h1, h2, h3, h4, h5⟩ := R.here
  exact ⟨es, ep, t, h1, h2, h3, R.nd, fun p hp => ⟨el p hp, R.hd p hp⟩, h4, h5, R.few⟩
/-- a new set stands at a -/
theorem dsb_new {P : Program} {w : World} {h : Heap} {a : Addr} (ho : h.get? a = some (freshO w)) : DSB P w h a [] := by
  refine ⟨⟨#[], 0, _, ⟨_, ho, ⟨rfl, rfl, rfl⟩, rfl⟩, rfl, ⟨List.Pairwise.nil, rfl, rfl, .inl rfl, fun x hx => absurd (show x ∈ ([] : List Nat) from hx) List.not_mem_nil, fun i hv j e => nomatch (show ([] : List Int)[i]? = some hv from e)⟩, ?_, show (0 : Nat) < 7 * 3 by decide⟩, List.nodup_nil, fun p hp => absurd hp List.not_mem_nil, by decide⟩
  cases hw : w.params.followText "set-order"
  · exact .inr rfl
  · exact .inl rfl
/-- the set as a followed object -/
def DSO (P : Program) (w : World) (a : Addr) (L : List El) : HO := .ext fun h => DSB P w h a L
theorem dso_ok {P : Program} {w : World} {H : Hp} {h : Heap} {a : Addr} {L : List El} (R : DSB P w h a L) : ObjOk P w H h a (DSO P w a L) := ⟨R, R.obj, fun h1 h2 p k => DSB.keep p k⟩
/-- the elements in the followed heap -/
def ElH (K : PySem.W.Frag) (H : Hp) (L : List El) : Prop := ∀ p ∈ L, Dp K H (.ref p.1) p.2
section
variable {X : Cx} {pins : List (Addr × Obj)} {σ : L2.St} {H : Hp} {s : Shared} {a : Addr} {L : List El}
theorem dso_get (I : L2.Inv X pins σ H s) (ha : H a = some (DSO X.prog X.w a L)) : DSB X.prog X.w s.heap a L := (I.hok a _ ha).1
theorem dso_full (I : L2.Inv X pins σ H s) (ha : H a = some (DSO X.prog X.w a L)) (hl : ElH X.K H L) : ∃ es ep t, DSet X.prog X.w s.heap a L es ep t := (dso_get I ha).full fun p hp => Dp.reads I p.2 _ _ (hl p hp) rfl
/-- add of a datum -/
theorem dso_add {E : Value → Shared → Prop} {x : Addr} {d : PyData} {Q : Value → Shared → Prop} (I : L2.Inv X pins σ H s) (ha : H a = some (DSO X.prog X.w a L)) (hl : ElH X.K H L) (hu : X.A.units + 64 < cLine) (hx : Dp X.K H (.ref x) d) (h1 : hdy d = true) (h2 : d.depth ≤ 8) (few : L.length + 1 < 64)
    (q : ∀ L' s', Grown L (x, d) L' → L2.Inv X pins σ (upd H a (DSO X.prog X.w a L')) s' → Q .none s') : wpAny (model X.prog X.w) X.A (call (.builtin "set.add") [.ref a, .ref x]) Q E s := by
  obtain ⟨es, ep, t, R⟩ := dso_full I ha hl
  obtain ⟨as, rx⟩ := Dp.reads I d _ _ hx (show RelV (.ref x) (.ref x) from rfl)
  obtain ⟨o, ho, hex, hd⟩ := R.here
  refine wpAny_call_entry F.slot_set_add ⟨o, ho, hex.1⟩ F.entry_set_add ?_ (F.args_set_add_2 _ _)
  unfold Builtin.«set.add» Builtin.Frozenset.oneOther
  simp only [List.isEmpty_nil, bind_assoc]
  unfold Builtin.Frozenset.addrOf setAdd
  refine wpAny_bind (wpAny_pure ?_)
  try dsimp only
  refine wpAny_bind (wpAny_pure ?_)
  try dsimp only
  refine wpAny_bind (wpAny_holding (wpAny_bind (hash_reads d h1 rx (by show X.A.units + 1 + _ < _; omega) ?_)))
  refine add_set (s := { s with toks := s.toks + dn d }) R ⟨⟨as, rx⟩, h1, h2⟩ (by show X.A.units + 1 + 8 < cLine; omega) few fun b h' L' es' ep' t' sb R' g => ?_
  show wpAny _ _ (ret Value.none) _ _ _
  refine wpAny_pure ⟨_, rfl, q L' _ g (I.write (e := a) (t' := s.toks + dn d) (by rw [ha]; trivial) (.inl rfl) (fun b u hb hu => (sb.2 b hb).trans hu) ?_ (dso_ok R'.base))⟩
  obtain ⟨o', ho', _⟩ := R'.here
  exact ⟨o', ho'⟩
end
end Sfl
set_option maxHeartbeats 2000000
/- {elt for target in iter if ..} whose elements are data -/
namespace Sfl
open PySem PySem.Spec PyProof.Rows L2
/-- one datum more in the set at D, then Nx -/
def AddD (P : Program) (w : World) (K : PySem.W.Frag) (D : Addr) (y : V) (H : Hp) (Nx : Hp → Prop) : Prop :=
  ∃ (x : Addr) (d : PyData) (L : List El), y = .ref x ∧ Dp K H (.ref x) d ∧ hdy d = true ∧ d.depth ≤ 8 ∧ H D = some (DSO P w D L) ∧ ElH K H L ∧ L.length + 1 < 64 ∧ ∀ L', Grown L (x, d) L' → Nx (upd H D (DSO P w D L'))
/-- one turn -/
def TurnD (P : Program) (w : World) (K : PySem.W.Frag) (g : TG) (tt : TT) (te : TE) (vs : List Nat) (D : Addr) (σ : L2.St) (x : V) (H : Hp) (Nx : Hp → Prop) : Prop :=
  g x (wipe σ vs) H fun σ2 H2 => wipe σ2 vs = wipe σ vs ∧ tt σ2 H2 fun b H3 => if b = true then te σ2 H3 fun y H4 => AddD P w K D y H4 Nx else Nx H3
def tSd (P : Program) (w : World) (K : PySem.W.Frag) (wi : TI) (g : TG) (tt : TT) (te : TE) (vs : List Nat) : TE := fun σ H Q => wi σ H fun J H1 => ∀ D, H1 D = none →
  ∃ W : Nat → Nat → Hp → Prop, (∃ m, W 0 m (upd H1 D (DSO P w D []))) ∧ ∀ i m H', W i m H' → (J.stop i H' ∧ Q (.ref D) H') ∨
    (J.go i H' ∧ ∃ Nx : Hp → Prop, (∀ G, Nx G → ∃ m', m' < m ∧ W (i + 1) m' G) ∧ ∀ x G, J.yld i H' x G → TurnD P w K g tt te vs D σ x G Nx)
section
variable {X : Cx}
theorem sd_core {pins : List (Addr × Obj)} {s : Shared} {σ : L2.St} {H : Hp} {Q : VK} {elt tg iter : Expr} {ifs : List Expr} {scope : Scope} {own : List (PySem.Str × Nat)} {pos pos' : Pos} {wi : TI} {g : TG} {tt : TT} {te : TE}
    {use : Option (Value → Sem Unit)} {Qf : Value → Shared → Prop} (hc : X.calm = true) (hN : X.N.Nodup) (hu : X.A.units + 64 < cLine) (I : L2.Inv X pins σ H s) (hi : PI X tg iter wi) (ok : BlkOk X.N X.env.scope scope own)
    (hb : ∀ (u : Shared) (G : Hp) (C : Addr) (cl : List (PySem.Str × Addr)) (fp : List Addr), PG (X.blk u G scope (compEnvC scope cl C X.env) fp) tg g ∧ PTs (X.blk u G scope (compEnvC scope cl C X.env) fp) ifs tt ∧ PE (X.blk u G scope (compEnvC scope cl C X.env) fp) elt te)
    (hs : ∀ x, foldedSetIterable iter X.env x = pure x) (h : tSd X.prog X.w X.K wi g tt te (own.map (·.2)) σ H Q)
    (fin : ∀ D C u m G, L2.Inv X pins σ G u → Q (.ref D) G → u.heap.Ns C m → FpOk X pins G C → compPost (model X.prog X.w) X.A X.xe use Qf (.ref D) C (.ok .next) u) :
    wpAny (model X.prog X.w) X.A (comprehension (.SetComp elt [⟨tg, iter, ifs, 0⟩] scope pos) scope X.env pos' (newSet (.type "set")) false (eval iter X.env) use) Qf X.xe s := by
  have free : ∀ y ∈ scope.names, y.2 = .free → ∃ c, X.env.cells.lookup y.1 = some c := fun y hy e =>
    I.ok.has _ ((ok.free y hy e).imp id id |>.elim .inl .inr)
  refine wpAny_comprehension_free (use := use) rfl hs (closure_ok free) ok.kind (fun y hy e => (ok.uniq y hy).trans (by rw [e])) ?_
  refine thn (hi.run pins s σ H _ I h) fun _ s1 h1 => thn h1 fun _ s2 ⟨it, fp, tn, J, H2, eit, I2, T, st2, f2, q⟩ => ?_
  subst eit
  refine PpSet.newSet_ok (newEnv_comp ?_)
  obtain ⟨D, hD⟩ : ∃ D, D = s2.heap.objs.size := ⟨_, rfl⟩
  rw [← hD]
  obtain ⟨W, ⟨m0, w0⟩, turn⟩ := q D (I2.hok.fresh (Nat.le_of_eq hD.symm))
  obtain ⟨u, hu3⟩ : ∃ u : Shared, u = { s2 with heap := s2.heap.push (freshO X.w) } := ⟨_, rfl⟩
  have hup : u.heap = s2.heap.push (freshO X.w) := by rw [hu3]
  have at0 : u.heap.get? D = some (freshO X.w) := by
    rw [hup, hD]
    exact Heap.get?_push_size _ rfl
  have up : ∀ b o, s2.heap.get? b = some o → u.heap.get? b = some o := fun b o e => by
    rw [hup]
    exact Heap.get?_push_of_some _ e
  obtain ⟨G0, hG0⟩ : ∃ G, G = upd H2 D (DSO X.prog X.w D []) := ⟨_, rfl⟩
  rw [← hG0] at w0
  have Iu : L2.Inv X pins σ G0 u := by
    rw [hG0, hu3]
    refine I2.laid (t' := s2.toks) (fun b o e => Heap.get?_push_of_some _ e) (Nat.le_of_eq hD.symm) (dso_ok (dsb_new ?_))
    rw [hD]
    exact Heap.get?_push_size _ rfl
  have low : ∀ b ∈ fp, b < s2.heap.objs.size := fun b hb =>
    let ⟨o, e, _⟩ := T.obj _ _ st2 b hb
    Heap.lt_size e
  have fu : ∀ b ∈ fp, FpOk X pins G0 b ∧ b < u.heap.objs.size := fun b hb => by
    have lt := low b hb
    obtain ⟨n2, r2⟩ := f2 b hb
    refine ⟨⟨?_, r2⟩, ?_⟩
    · rw [hG0, upd_ne (by rw [hD]; exact Nat.ne_of_lt lt)]
      exact n2
    · rw [hup, Heap.size_push]
      exact Nat.lt_succ_of_lt lt
  have stu : tn 0 u.heap := T.keep _ _ _ st2 fun b _ => up b
  have B := block_start Iu ok hN fu
  obtain ⟨pg, pt, pe⟩ := hb u G0 u.heap.objs.size (cellsFrom (u.heap.objs.size + 1) scope.names (cloFrom X.env.cells scope.names [])) fp
  have goal : codeAny (model X.prog X.w) X.A (.compStart (.SetComp elt [⟨tg, iter, ifs, 0⟩] scope pos) 0 (.ref it) (.ref D) (compEnvC scope (cellsFrom (u.heap.objs.size + 1) scope.names (cloFrom X.env.cells scope.names [])) u.heap.objs.size X.env))
      (compPost (model X.prog X.w) X.A X.xe use Qf (.ref D) u.heap.objs.size) { u with heap := pushCells (u.heap.push { cls := .type "dict", data := .dict #[] }) scope.names } := by
    obtain ⟨ce, hce⟩ : ∃ ce, ce = compEnvC scope (cellsFrom (u.heap.objs.size + 1) scope.names (cloFrom X.env.cells scope.names [])) u.heap.objs.size X.env := ⟨_, rfl⟩
    have loc : ce.locals = u.heap.objs.size := by rw [hce]; rfl
    rw [← hce] at B pg pt pe ⊢
    obtain ⟨v, hv⟩ : ∃ v : Shared, v = { u with heap := pushCells (u.heap.push { cls := .type "dict", data := .dict #[] }) scope.names } := ⟨_, rfl⟩
    rw [← hv] at B ⊢
    have stv : tn 0 v.heap := T.keep _ _ _ stu fun b _ o e => by
      rw [hv]
      exact pushCells_keeps _ _ _ _ (Heap.get?_push_of_some _ e)
    have far : ∀ {σ' : L2.St} {G : Hp} {y : Shared}, L2.Inv (X.blk u G0 scope ce fp) [] σ' G y → (∀ b ∈ fp, G b = none) → ∀ b ∈ fp, FpOk (X.blk u G0 scope ce fp) [] G b := fun {σ' G y} J nn b hb =>
      ⟨nn b hb, (J.ok.exf b hb).1, J.ok.exfs b hb, .inl hb, fun x c e => (J.ok.exf b hb).2 x c e, fun p hp => absurd (show p ∈ ([] : List (Addr × Obj)) ++ [] from hp) (by simp)⟩
    have loop : codeAny (model X.prog X.w) X.A (.compLoop (.SetComp elt [⟨tg, iter, ifs, 0⟩] scope pos) 0 (.ref it) (.ref D) ce) (compPost (model X.prog X.w) X.A X.xe use Qf (.ref D) u.heap.objs.size) v := by
      refine PpSet.compLoopS_any (fun n y => ∃ i G, L2.Inv (X.blk u G0 scope ce fp) [] (wipe σ (own.map (·.2))) G y ∧ tn i y.heap ∧ (∀ b ∈ fp, G b = none) ∧ W i n G) (fun n y ⟨i, G, Iy, sty, nny, wy⟩ => ?_) m0
        ⟨0, G0, B, stv, fun b hb => (fu b hb).1.1, w0⟩
      rcases turn i n G wy with ⟨stop, qq⟩ | ⟨go, Nx, hNx, step⟩
      · refine thnF (T.done (X.blk u G0 scope ce fp) rfl rfl rfl hc i [] y _ G (fun _ _ => False) Iy (far Iy nny) sty stop) fun r z ⟨hr, Iz⟩ => ?_
        subst hr
        have Ib : L2.Inv X pins σ G z := Iu.call' (ch := fp) Iz.os Iz.base Iz.hok Iz.bare fun b hb => by
          obtain ⟨⟨_, r1, r2, r3, r4, r5⟩, _⟩ := fu b hb
          exact ⟨r3, r1, r4, r5⟩
        have nC : G u.heap.objs.size = none := loc ▸ (show G ce.locals = none from Iz.free)
        obtain ⟨m, hn, _⟩ := Iz.loc
        have hn' : z.heap.Ns u.heap.objs.size m := loc ▸ (show z.heap.Ns ce.locals m from hn)
        exact fin D u.heap.objs.size z m G Ib qq hn' (Iu.fpOk (Nat.le_refl _) nC)
      · refine thnF (T.item (X.blk u G0 scope ce fp) rfl rfl rfl hc i [] y _ G (fun _ _ => False) Iy (far Iy nny) sty go) fun r z ⟨ov, hr, hz⟩ => ?_
        subst hr
        refine thnF hz fun _ z1 ⟨x, G1, I1, r1, y1, st1, nn1⟩ => ?_
        have Ip := I1.pinned (far I1 nn1) (T.obj _ _ st1)
        refine thnF (pg.run _ z1 _ G1 x ov _ Ip r1 (step x G1 y1)) fun _ z2 ⟨σ2, G2, Iz2, hw, q2⟩ => ?_
        refine thnF (pt.run _ z2 σ2 G2 _ Iz2 q2) fun b z3 ⟨G3, Iz3, q3⟩ => ?_
        have again : ∀ {z' : Shared} {G' : Hp}, L2.Inv (X.blk u G0 scope ce fp) ([] ++ pinsAt fp z1.heap) σ2 G' z' → Nx G' →
            ∃ m, m < n ∧ ∃ i G, L2.Inv (X.blk u G0 scope ce fp) [] (wipe σ (own.map (·.2))) G z' ∧ tn i z'.heap ∧ (∀ b ∈ fp, G b = none) ∧ W i m G := fun {z' G'} I' nx => by
          obtain ⟨m', lt, w'⟩ := hNx G' nx
          have pinned : ∀ b ∈ fp, ∀ o, z1.heap.get? b = some o → z'.heap.get? b = some o ∧ G' b = none := fun b hb o e => by
            have p := I'.pin (b, o) (List.mem_append_right _ (List.mem_append_right _ (mem_pinsAt hb e)))
            exact ⟨p.1, p.2.1⟩
          refine ⟨m', lt, i + 1, G', (I'.unpinned (pins := [])).weak ?_ (fun j v e => ?_), T.keep _ _ _ st1 (fun b hb o e => (pinned b hb o e).1), fun b hb => ?_, w'⟩
          · rw [← hw]
            exact wipe_length ..
          · rw [← hw] at e
            exact (wipe_some e).1
          · obtain ⟨o, e, _⟩ := T.obj _ _ st1 b hb
            exact (pinned b hb o e).2
        cases b with
        | false =>
          rw [if_neg (by decide)] at q3 ⊢
          exact again Iz3 q3
        | true =>
          rw [if_pos rfl] at q3 ⊢
          refine thnF (pe.run _ z3 σ2 G3 _ Iz3 q3) fun e z4 ⟨yv, G4, I4, r4, x4, d4, L4, ey, dp4, hd4, de4, at4, el4, few4, nx⟩ => ?_
          subst ey
          cases (show e = Value.ref x4 from r4)
          exact dso_add (X := X.blk u G0 scope ce fp) I4 at4 el4 hu dp4 hd4 de4 few4 fun L' z5 gr I5 => again I5 (nx L' gr)
    exact PpSet.codeAny_compStart_set loop (T.self X.A 0 _ _ _ stv loop)
  rw [hu3] at goal
  exact goal
/-- as a value -/
theorem pe_sd {elt tg iter : Expr} {ifs : List Expr} {scope : Scope} {own : List (PySem.Str × Nat)} {pos : Pos} {wi : TI} {g : TG} {tt : TT} {te : TE} (hc : X.calm = true) (hN : X.N.Nodup) (hu : X.A.units + 64 < cLine) (hi : PI X tg iter wi) (ok : BlkOk X.N X.env.scope scope own)
    (hb : ∀ (u : Shared) (G : Hp) (C : Addr) (cl : List (PySem.Str × Addr)) (fp : List Addr), PG (X.blk u G scope (compEnvC scope cl C X.env) fp) tg g ∧ PTs (X.blk u G scope (compEnvC scope cl C X.env) fp) ifs tt ∧ PE (X.blk u G scope (compEnvC scope cl C X.env) fp) elt te)
    (hs : ∀ x, foldedSetIterable iter X.env x = pure x := by intro _; rfl) : PE X (.SetComp elt [⟨tg, iter, ifs, 0⟩] scope pos) (tSd X.prog X.w X.K wi g tt te (own.map (·.2))) := by
  refine ⟨fun pins s σ H Q I h => ?_⟩
  rw [PpSet.eval_SetComp]
  refine sd_core hc hN hu I hi ok hb hs h fun D C u m G Iu q hn ⟨f0, f1, f2, f3, f4, f5⟩ => ⟨m, hn, fun h'' sb => ⟨.ref D, G, ?_, rfl, q⟩⟩
  exact Iu.turned (t' := u.toks) (fun b o nb e => (sb.2 b nb).trans e) f0 f1 f3 f4 f5
end
end Sfl
/- sorted(set) of alike data -/
namespace Sfl
open PySem PySem.Spec PyProof.Rows L2
/-- ascending as Python orders data -/
def Asc (L : List El) : Prop := L.Pairwise fun p q => PySem.W.dataLt q.2 p.2 = false
/-- elements that can be compared -/
def CanSort (L : List El) : Prop := PySem.W.AllAlike (L.map (·.2)) ∧ ∀ p ∈ L, ∃ x r, p.2 = .tuple (x :: r)
theorem CanSort.perm {L M : List El} (c : CanSort L) (p : M.Perm L) : CanSort M := by
  refine ⟨fun d hd e he => ?_, fun q hq => c.2 q (p.mem_iff.mp hq)⟩
  exact c.1 d ((p.map _).mem_iff.mp hd) e ((p.map _).mem_iff.mp he)
theorem perm_back {α β : Type} (f : α → β) : ∀ {L : List α} {vs : List β}, vs.Perm (L.map f) → ∃ M : List α, M.Perm L ∧ vs = M.map f := by
  intro L
  induction L with
  | nil => exact fun {vs} h => ⟨[], .nil, List.perm_nil.mp h⟩
  | cons x L ih =>
    intro vs h
    have hm : f x ∈ vs := h.mem_iff.mpr List.mem_cons_self
    obtain ⟨a, b, rfl⟩ := List.append_of_mem hm
    obtain ⟨M, hM, e⟩ := ih ((List.perm_cons (f x)).mp (List.perm_middle.symm.trans h))
    obtain ⟨A, B, rfl, rfl, rfl⟩ := List.map_eq_append_iff.mp e.symm
    exact ⟨A ++ x :: B, List.perm_middle.trans (hM.cons x), by simp⟩
theorem each_self {α β : Type} {R : β → α → Prop} (f : α → β) : ∀ {L : List α}, (∀ p ∈ L, R (f p) p) → PySem.W.EachIs R (L.map f) L
  | [], _ => .nil
  | p :: L, h => .cons (h p List.mem_cons_self) (each_self f fun q hq => h q (List.mem_cons_of_mem _ hq))
theorem each_eq {α β : Type} (f : α → β) : ∀ {vs : List β} {L : List α}, PySem.W.EachIs (fun v p => v = f p) vs L → vs = L.map f
  | _, _, .nil => rfl
  | _, _, .cons h t => by rw [h, each_eq f t]; rfl
section
variable {P : Program} {w : World} {A : Around} {E : Value → Shared → Prop} {s : Shared} {a : Addr} {L : List El} {es : Array (Int × Value)} {ep : Nat} {t : SetTable}
theorem sorted_dset {Q : Value → Shared → Prop} (R : DSet P w s.heap a L es ep t) (hh : A.handled = none) (hu : A.units + 64 < cLine) (cs : CanSort L)
    (hQ : ∀ s' p (c : Nat) (M : List El), (∀ b o, s.heap.get? b = some o → s'.heap.get? b = some o) → s'.gens = s.gens → s'.os = s.os → s.heap.objs.size ≤ p →
      s'.heap.get? p = some (seqObj "list" (M.map fun q => Value.ref q.1).toArray c) → M.Perm L → Asc M → Q (.ref p) s') :
    wpAny (model P w) A (call (.builtin "sorted") [.ref a]) Q E s := by
  obtain ⟨o, ho, hex, hd⟩ := R.here
  have few := R.few
  have hel := rows_len R.rows
  have fit := R.fit
  refine Calls.call_function_entry kind_sorted plain_sorted entry_sorted (args_sorted1 _) ?_
  unfold Builtin.«sorted»
  refine wpAny_bind (m := checkCount "sorted" 1 1 _) (wpAny_pure ?_)
  refine wpAny_bind (collect_set (A := A.in1) hh ⟨o, ho, hex.1, hd⟩ fit (by unfold scanBound; omega) R.tab.ris R.led fun s1 vs k1 hz g1 o1 pv => ?_)
  have pv' : vs.Perm (L.map fun q => Value.ref q.1) := by
    rw [R.rows] at pv
    unfold dRows at pv
    rw [List.map_map] at pv
    exact pv
  obtain ⟨N, pN, rfl⟩ := perm_back _ pv'
  have hN : N.length = L.length := pN.length_eq
  have csN := cs.perm pN
  refine wpAny_bind (wpAny_newList ?_ (by rw [List.length_map, hN, sizeLine_eq]; omega))
  have hoL : (s1.heap.push (seqObj "list" (N.map fun q => Value.ref q.1).toArray 0)).get? s1.heap.objs.size = some (seqObj "list" (N.map fun q => Value.ref q.1).toArray 0) := Heap.get?_push_size _ rfl
  generalize hvs : (N.map fun q => Value.ref q.1) = vs at hoL ⊢
  have keep : ∀ b ob, s.heap.get? b = some ob → ob.cls = .type "tuple" → (PySem.W.sortingHeap (s1.heap.push (seqObj "list" vs.toArray 0)) s1.heap.objs.size vs).get? b = some ob := fun b ob hb hc => by
    have q := k1 b ob hb
    exact PySem.W.sortingHeap_old (Nat.ne_of_lt (Heap.lt_size q)) (Heap.get?_push_of_some _ q)
  have er : PySem.W.EachIs (fun v (p : El) => ∃ as, Reads (PySem.W.sortingHeap (s1.heap.push (seqObj "list" vs.toArray 0)) s1.heap.objs.size vs) v p.2 as) vs N := by
    have e0 := each_self (R := fun v (p : El) => ∃ as, Reads (PySem.W.sortingHeap (s1.heap.push (seqObj "list" vs.toArray 0)) s1.heap.objs.size vs) v p.2 as) (fun q : El => Value.ref q.1) (L := N) fun p hp => (((R.el p (pN.mem_iff.mp hp)).keep keep).1)
    rw [hvs] at e0
    exact e0
  have ee : PySem.W.EachIs (fun v (p : El) => v = Value.ref p.1) vs N := by
    rw [← hvs]
    exact each_self _ fun _ _ => rfl
  have S := PySem.W.SortsAt.data (prog := P) (w := w) (A := A.in1.in1) (s := { s1 with heap := PySem.W.sortingHeap (s1.heap.push (seqObj "list" vs.toArray 0)) s1.heap.objs.size vs }) (ds := N.map (·.2)) (PySem.W.each_map _ er) csN.1
    (.inl fun d hd => by
      obtain ⟨p, hp, rfl⟩ := List.mem_map.mp hd
      exact csN.2 p hp) fun d hd => by
      obtain ⟨p, hp, rfl⟩ := List.mem_map.mp hd
      have := (R.el p (pN.mem_iff.mp hp)).2.2
      show A.units + 1 + 1 + _ < cLine
      omega
  have hlen : vs.length = L.length := by rw [← hvs, List.length_map, hN]
  have out := each_eq _ (PySem.W.sortVals_data (h' := PySem.W.sortingHeap (s1.heap.push (seqObj "list" vs.toArray 0)) s1.heap.objs.size vs) (enc := fun p : El => p.2) false ee er csN.1)
  refine wpAny_bind (wpAny_holding (wpAny_call_entry slot_list_sort ⟨_, hoL, rfl⟩ entry_list_sort (PySem.W.list_sort_vals (s := { s1 with heap := s1.heap.push (seqObj "list" vs.toArray 0) }) hoL S (by rw [hlen, sizeLine_eq]; omega) ⟨_, rfl, ?_⟩) (args_list_sort _)))
  rw [out]
  obtain ⟨c, hc⟩ := sortedHeap_at (vs := vs) (out := ((N.mergeSort (PySem.W.dataLe false fun p : El => p.2)).map fun q => Value.ref q.1).toArray) hoL
  refine wpAny_pure ⟨_, rfl, hQ _ s1.heap.objs.size c _ (fun b u e => ?_) g1 o1 hz hc ((List.mergeSort_perm _ _).trans pN) ?_⟩
  · have q := k1 b u e
    have hlt := Heap.lt_size q
    show (sortedHeap (s1.heap.push (seqObj "list" vs.toArray 0)) s1.heap.objs.size vs _).get? b = some u
    rw [sortedHeap_old (Nat.ne_of_lt hlt) (by rw [size_push']; exact Nat.lt_succ_of_lt hlt)]
    exact Heap.get?_push_of_some _ q
  · have T := PySem.W.sortLe_total (listOrd itemOrd) false (fun p : El => PySem.W.keyToks p.2)
    refine (List.pairwise_mergeSort (fun x y z => T.trans x y z) (fun x y => ?_) N).imp fun {p q} h => ?_
    · rcases T.total x y with z | z
      · exact Bool.or_eq_true_iff.mpr (.inl z)
      · exact Bool.or_eq_true_iff.mpr (.inr z)
    · have h' : (!PySem.W.dataLt q.2 p.2) = true := h
      rwa [Bool.not_eq_true'] at h'
end
section
variable {X : Cx}
/-- sorted(set) -/
def rSortedD (K : PySem.W.Frag) (P : Program) (w : World) : List V → Hp → VK → Prop := fun vs H Q => ∃ (a : Addr) (L : List El), vs = [V.ref a] ∧ H a = some (DSO P w a L) ∧ ElH K H L ∧ CanSort L ∧
  ∀ (M : List El) (p : Addr), M.Perm L → (M.map (·.2)).Nodup → Asc M → H p = none → Q (.ref p) (upd H p (.lst (M.map fun q => V.ref q.1)))
theorem cr_sortedD (hc : X.calm = true) (hu : X.A.units + 64 < cLine) : CallR X (.builtin "sorted") (rSortedD X.K X.prog X.w) := by
  intro pins s σ H vs us Q I r h
  obtain ⟨a, L, rfl, ha, el, cs, q⟩ := h
  obtain ⟨es, ep, t, R⟩ := dso_full I ha el
  rw [Vals.ref1 r]
  refine sorted_dset R (I.ok.hd hc) hu cs fun s' p c M k g o hp hg pm as => ?_
  have few := R.few
  have hlen : (M.map fun q => V.ref q.1).length ≤ sizeLine := by
    rw [List.length_map, pm.length_eq, sizeLine_eq]
    omega
  have hn : H p = none := I.hok.fresh hp
  have vals : ∀ N : List El, Vals (N.map fun q => V.ref q.1) (N.map fun q => Value.ref q.1) := fun N => by
    induction N with
    | nil => exact .nil
    | cons x N ih => exact .cons rfl ih
  have J : L2.Inv X pins σ (upd H p (.lst (M.map fun q => V.ref q.1))) { s with heap := s'.heap, gens := s'.gens, drawn := s'.drawn, toks := s'.toks } :=
    I.call (ch := []) (Un.laid k hp hn) (I.hok.laid k hp ⟨hlen, (M.map fun q => Value.ref q.1), c, vals M, hg⟩) (by rw [g]; exact I.bare) (fun _ z => nomatch z)
  have e : s' = { s with heap := s'.heap, gens := s'.gens, drawn := s'.drawn, toks := s'.toks } := by
    cases s'
    cases s
    cases o
    rfl
  rw [e]
  exact ⟨.ref p, _, J, rfl, q M p pm ((pm.map _).nodup_iff.mpr R.nd) as hn⟩
end
end Sfl
/- set(list) of data -/
namespace Sfl
open PySem PySem.Spec PyProof.Rows L2
/-- L holds what xs hold, once each -/
def Made (xs L : List El) : Prop := (∀ p ∈ L, p ∈ xs) ∧ (∀ d, d ∈ L.map (·.2) ↔ d ∈ xs.map (·.2)) ∧ L.length ≤ xs.length
theorem made_nil : Made [] [] := ⟨fun _ h => h, fun _ => .rfl, Nat.le_refl _⟩
theorem Grown.len {L L' : List El} {p : El} (g : Grown L p L') : L'.length ≤ L.length + 1 := by
  rcases g with ⟨rfl, _⟩ | ⟨pm, _⟩
  · exact Nat.le_succ _
  · rw [pm.length_eq]
    exact Nat.le_refl _
theorem Grown.mem {L L' : List El} {p : El} (g : Grown L p L') (d : PyData) : d ∈ L'.map (·.2) ↔ d ∈ L.map (·.2) ∨ d = p.2 := by
  rcases g with ⟨rfl, q, hq, e⟩ | ⟨pm, _⟩
  · refine ⟨.inl, fun h => h.elim id fun z => ?_⟩
    rw [z, ← e]
    exact List.mem_map_of_mem hq
  · rw [(pm.map _).mem_iff, List.map_cons, List.mem_cons]
    exact Or.comm
theorem Grown.sub {L L' : List El} {p q : El} (g : Grown L p L') (h : q ∈ L') : q ∈ L ∨ q = p := by
  rcases g with ⟨rfl, _⟩ | ⟨pm, _⟩
  · exact .inl h
  · exact (List.mem_cons.mp (pm.mem_iff.mp h)).symm
theorem Made.grow {xs L L' : List El} {p : El} (m : Made xs L) (g : Grown L p L') : Made (xs ++ [p]) L' := by
  refine ⟨fun q hq => ?_, fun d => ?_, ?_⟩
  · rcases g.sub hq with z | z
    · exact List.mem_append_left _ (m.1 q z)
    · exact List.mem_append_right _ (List.mem_singleton.mpr z)
  · rw [g.mem d, m.2.1 d, List.map_append, List.mem_append]
    simp
  · have := g.len
    have := m.2.2
    rw [List.length_append]
    show L'.length ≤ xs.length + 1
    omega
section
variable {P : Program} {w : World} {A : Around} {E : Value → Shared → Prop} {s : Shared} {a : Addr}
theorem dat_loop {I : Addr} {fp wr : List Addr} {G : Array GenState → Array GenState → Prop} {n : Nat} {Pv : Nat → Value → Prop} {St : Nat → Shared → Prop} {R : Result → Shared → Prop}
    (W : WalksS P w A.in1 I fp wr G n Pv St) (S : Addr) (hSf : S ∉ fp) {h0 : Heap} (old : ∀ b o, h0.get? b = some o → b ∉ S :: wr) (xs : List El) (hn : n = xs.length) (hb : xs.length < 63) (el : ∀ p ∈ xs, EAt h0 p) (hu : A.units + 20 < cLine)
    (hval : ∀ i v, Pv i v → ∃ p, xs[i]? = some p ∧ v = .ref p.1) :
    ∀ (k i : Nat) (s : Shared) (L : List El), n - i = k → i ≤ n → St i s → DSB P w s.heap S L → Made (xs.take i) L → (∀ b o, h0.get? b = some o → s.heap.get? b = some o) →
      (∀ s' L', Moved (S :: wr) G s s' → DSB P w s'.heap S L' → Made xs L' → R (.ok (.ret .none)) s') →
      codeAny (model P w) A (.builtin "set.update.loop" ⟨[.ref S, .ref I], []⟩) R s := by
  have hSw : S ∉ wr := fun h => hSf (W.sub _ h)
  have hsub : ∀ b ∈ wr, b ∈ S :: wr := fun b hb => List.mem_cons_of_mem _ hb
  intro k
  induction k with
  | zero =>
    intro i s L hk' hi hst hS hM hold hR
    have hin : i = n := by omega
    refine codeAny_builtin F.entry_set_update_loop ?_
    rw [Around.under_plainId F.plain_set_update_loop _]
    show wpAny _ A.in1 (pyNext (.ref I) >>= _) _ _ s
    refine wpAny_bind (W.done s _ _ (hin ▸ hst) fun s' hm => ?_)
    show wpAny _ A.in1 (ret Value.none) _ _ s'
    rw [List.take_of_length_le (by omega)] at hM
    exact wpAny_pure (hR s' L (hm.mono hsub) (hS.keep fun o e => hm.heap S o hSw e) hM)
  | succ k ih =>
    intro i s L hk' hi hst hS hM hold hR
    have hlt : i < n := by omega
    refine codeAny_builtin F.entry_set_update_loop ?_
    rw [Around.under_plainId F.plain_set_update_loop _]
    show wpAny _ A.in1 (pyNext (.ref I) >>= _) _ _ s
    refine wpAny_bind (W.item i s _ _ hlt hst fun v s' hP hst' hm => ?_)
    obtain ⟨p, hz, rfl⟩ := hval i v hP
    have hpx := List.mem_of_getElem? hz
    have hold' : ∀ b o, h0.get? b = some o → s'.heap.get? b = some o := fun b o e => hm.heap b o (fun z => old b o e (hsub b z)) (hold b o e)
    have hE : ∀ q ∈ xs, EAt s'.heap q := fun q hq => (el q hq).keep fun b o e _ => hold' b o e
    have hS' : DSB P w s'.heap S L := hS.keep fun o e => hm.heap S o hSw e
    obtain ⟨es, ep, t, R'⟩ := hS'.full fun q hq => (hE q (List.mem_of_mem_take (hM.1 q hq))).1
    obtain ⟨⟨as, rp⟩, hd1, hd2⟩ := hE p hpx
    show wpAny _ A.in1 (holding [Value.ref p.1] (setAdd S (.ref p.1)) >>= _) _ _ s'
    refine wpAny_bind (wpAny_holding ?_)
    unfold setAdd
    refine wpAny_holding (wpAny_bind (hash_reads p.2 hd1 rp (by show A.units + 1 + _ < cLine; omega) ?_))
    have hroom : L.length + 1 < 64 := by
      have := hM.2.2
      rw [List.length_take] at this
      omega
    refine add_set (s := { s' with toks := s'.toks + dn p.2 }) R' ⟨⟨as, rp⟩, hd1, hd2⟩ (by show A.units + 1 + 8 < cLine; omega) hroom fun b h' L' es' ep' t' hsb R2 g => ?_
    have hM2 : Made (xs.take (i + 1)) L' := by
      rw [List.take_add_one, hz]
      exact hM.grow g
    refine wpAny_pure ⟨plainId_quiet F.plain_set_update_loop _, ih (i + 1) _ L' (by omega) hlt (W.frame _ s' _ _ hst' (Nat.le_add_right _ _) fun b hb o e => ?_) R2.base hM2 (fun b o e => ?_) fun s'' L'' hm'' hS'' hM'' => ?_⟩
    · exact (hsb.2 b (fun h : b = S => hSf (h ▸ hb))).trans e
    · exact (hsb.2 b (fun h : b = S => old b o e (h ▸ List.mem_cons_self))).trans (hold' b o e)
    · refine hR s'' L'' (Moved.trans W.gtrans ((hm.mono hsub).then_heap (Nat.le_add_right _ _) fun b o hb e => ?_) hm'') hS'' hM''
      exact (hsb.2 b (fun h : b = S => hb (by rw [h]; exact List.mem_cons_self))).trans e
set_option maxHeartbeats 3200000 in
theorem call_set_data {l : Addr} {items : Array Value} {xs : List El} {Q : Value → Shared → Prop} (hh : A.handled = none) (hl : s.heap.IsList l items) (hit : items.toList = xs.map fun p => Value.ref p.1) (hb : xs.length < 63) (hel : ∀ p ∈ xs, EAt s.heap p) (hu : A.units + 64 < cLine)
    (h : ∀ (h' : Heap) (tk : Nat) (L : List El), DSB P w h' s.heap.objs.size L → Made xs L → (∀ b o, s.heap.get? b = some o → h'.get? b = some o) → Q (.ref s.heap.objs.size) { s with heap := h', toks := tk }) :
    wpAny (model P w) A (call (.type "set") [.ref l]) Q E s := by
  have hisz : items.size = xs.length := by
    rw [← Array.length_toList]
    rw [hit, List.length_map]
  obtain ⟨c, tl, hmro⟩ := F.called_set.mro
  have hmade := F.called_set.made
  have hsub := F.called_set.sub
  refine wpAny_call (codeAny_of_tree ?_)
  show wpAny _ _ (callAny (.type "set") _) _ _ _
  refine wpAny_pure ⟨Code.quiet_builtin _ (by decide +kernel), codeAny_builtin F.entry_type_call ?_⟩
  rw [Around.under_plain (weight_type_call_type "set" [.ref l] []) rfl]
  have h1 := F.called_set.notType
  have h2 := F.called_set.canCreate
  have hct := F.typeCall_set_1 (.ref l)
  repeat (any_goals (first | assumption | wp_step))
  refine codeAny_mono (code_set_led1 (.ref l) (E := E) (Q₁ := fun obj s₁ => obj = .ref s.heap.objs.size ∧ s₁ = { s with heap := s.heap.push (freshO w) }) ⟨rfl, rfl⟩) fun r s₁ hr => ?_
  cases r with
  | error e => exact hr
  | ok fl =>
    cases fl with
    | ret obj =>
      obtain ⟨rfl, rfl⟩ := hr
      have hS : (s.heap.push (freshO w)).get? s.heap.objs.size = some (freshO w) := Heap.get?_push_size _ rfl
      have hT : Shared.TypeIs { s with heap := s.heap.push (freshO w) } (.ref s.heap.objs.size) "set" := ⟨_, hS, rfl⟩
      have hli := F.called_set.init.lookup
      have hbi := F.called_set.init.bind (.ref s.heap.objs.size)
      repeat (any_goals (first | assumption | wp_step))
      refine codeAny_mono (codeAny_call_builtin (R := wants (fun r s₂ => r = .none ∧ ∃ h' tk L, s₂ = { s with heap := h', toks := tk } ∧ DSB P w h' s.heap.objs.size L ∧ Made xs L ∧
          (∀ b o, s.heap.get? b = some o → h'.get? b = some o)) E) F.called_set.init.plain F.entry_set_init (check_set_init_1 hT ?_)) fun r₂ s₂ hr₂ => ?_
      · obtain ⟨ol, hol, hcl, nl, hdl⟩ := hl
        obtain ⟨ocls, odict, odata, oslots⟩ := ol
        simp only at hcl hdl
        subst hcl
        subst hdl
        have hol' : (s.heap.push (freshO w)).get? l = some { cls := .type "list", dict := odict, data := .seq items nl, slots := oslots } := Heap.get?_push_of_some _ hol
        have hsls := F.sub_list_set
        have hslf := F.sub_list_frozenset
        have hne : (Value.type "list" == Value.type "dict") = false := by decide
        have hl1 : (s.heap.push (freshO w)).IsList l items := ⟨_, hol', rfl, nl, rfl⟩
        unfold Builtin.«set.__init__» noKeywords Builtin.Frozenset.updateFrom
        generalize hPI : pyIter = PI
        wp_walk
        subst hPI
        refine wpAny_pyIter_list hl1 ?_
        refine wpAny_bind (wpAny_runValue ?_)
        have hlS : l < s.heap.objs.size := Heap.lt_size hol
        have hh3 : A.in1.in1.in1.handled = none := by simp [hh]
        have hz1 : (s.heap.push (freshO w)).objs.size = s.heap.objs.size + 1 := Heap.size_push ..
        have hneI : l ≠ (s.heap.push (freshO w)).objs.size := by
          rw [hz1]
          exact Nat.ne_of_lt (Nat.lt_succ_of_lt hlS)
        have hSf : s.heap.objs.size ∉ [(s.heap.push (freshO w)).objs.size, l] := by
          rw [hz1]
          intro z
          rcases List.mem_cons.mp z with z | z
          · exact Nat.ne_of_lt (Nat.lt_succ_self _) z
          · exact Nat.ne_of_gt hlS (List.mem_singleton.mp z)
        have hval : ∀ (i : Nat) (v : Value), items[i]? = some v → ∃ p, xs[i]? = some p ∧ v = .ref p.1 := fun i v hv => by
          rw [← Array.getElem?_toList, hit, List.getElem?_map] at hv
          cases hx : xs[i]? with
          | none => rw [hx] at hv; cases hv
          | some p => rw [hx] at hv; exact ⟨p, rfl, (Option.some.inj hv).symm⟩
        have old : ∀ b o, s.heap.get? b = some o → b ∉ s.heap.objs.size :: [(s.heap.push (freshO w)).objs.size] := fun b o e z => by
          have lt := Heap.lt_size e
          rw [hz1] at z
          rcases List.mem_cons.mp z with z | z
          · exact Nat.ne_of_lt lt z
          · exact Nat.ne_of_lt (Nat.lt_succ_of_lt lt) (List.mem_singleton.mp z)
        refine dat_loop (P := P) ((Walks.list hh3 _ l hneI items).toS) s.heap.objs.size hSf old xs hisz hb hel (by show A.units + 1 + 1 + 20 < cLine; omega) hval (items.size - 0) 0 _ [] (by omega) (Nat.zero_le _)
          ⟨⟨_, Heap.get?_push_size _ rfl, rfl, rfl⟩, (hl1.push _)⟩ ?hS0 made_nil (fun b o e => Heap.get?_push_of_some _ (Heap.get?_push_of_some _ e)) ?hR
        case hS0 =>
          refine dsb_new ?_
          exact Heap.get?_push_of_some _ hS
        case hR =>
          intro s' L' hm hS' hM'
          obtain ⟨h', g2, d', tk', os'⟩ := s'
          have eg : g2 = s.gens := hm.gens
          have ed : d' = s.drawn := hm.drawn
          have eo : os' = s.os := hm.os
          subst eg
          subst ed
          subst eo
          show wpAny _ _ _ _ _ _
          refine wpAny_pure ?_
          show wpAny _ _ (ret Value.none) _ _ _
          refine wpAny_pure ⟨rfl, h', tk', L', rfl, hS', hM', fun b o e => ?_⟩
          have hb0 : b < s.heap.objs.size := Heap.lt_size e
          refine hm.heap b o (fun z => ?_) (Heap.get?_push_of_some _ (Heap.get?_push_of_some _ e))
          rcases List.mem_cons.mp z with z | z
          · exact Nat.ne_of_lt hb0 z
          · exact Nat.ne_of_lt (Nat.lt_succ_of_lt hb0) ((List.mem_singleton.mp z).trans hz1)
      · cases r₂ with
        | error e => exact hr₂
        | ok fl₂ =>
          cases fl₂ with
          | ret r =>
            obtain ⟨rfl, h', tk, L', rfl, hS', hM', hk'⟩ := hr₂
            repeat (any_goals (first | assumption | wp_step))
            exact h _ _ _ hS' hM' hk'
          | _ => exact hr₂.elim
    | _ => exact hr.elim
end
section
variable {X : Cx}
/-- set(list) -/
def rSetD (K : PySem.W.Frag) (P : Program) (w : World) : List V → Hp → VK → Prop := fun us H Q => ∃ (l : Addr) (xs : List El), us = [.ref l] ∧ SqL K H l (xs.map fun p => V.ref p.1) ∧ xs.length < 63 ∧ ElH K H xs ∧ (∀ p ∈ xs, hdy p.2 = true ∧ p.2.depth ≤ 8) ∧
  ∀ p L, H p = none → Made xs L → (L.map (·.2)).Nodup → Q (.ref p) (upd H p (DSO P w p L))
theorem cr_setD (hc : X.calm = true) (hu : X.A.units + 64 < cLine) : CallR X (.type "set") (rSetD X.K X.prog X.w) := by
  intro pins s σ H vs us Q I r h
  obtain ⟨l, xs, rfl, hq, hlen, el, hd, q⟩ := h
  rw [Vals.ref1 r]
  obtain ⟨its, rv, pl, hz⟩ := I.list hq
  have vals : ∀ (N : List El) (ws : List Value), Vals (N.map fun q => V.ref q.1) ws → ws = N.map fun q => Value.ref q.1 := fun N => by
    induction N with
    | nil => exact fun ws h => by cases h; rfl
    | cons x N ih =>
      intro ws h
      cases h with
      | cons h1 h2 => rw [show _ = Value.ref x.1 from h1, ih _ h2]; rfl
  refine call_set_data (P := X.prog) (w := X.w) (I.ok.hd hc) pl.isList (vals xs _ rv) hlen (fun p hp => ⟨Dp.reads I p.2 _ _ (el p hp) rfl, hd p hp⟩) hu fun h' tk L hS hM hk => ?_
  exact ⟨.ref _, upd H s.heap.objs.size (DSO X.prog X.w s.heap.objs.size L), I.laid (t' := tk) hk (Nat.le_refl _) (dso_ok hS), rfl, q _ L (I.hok.fresh (Nat.le_refl _)) hM hS.nd⟩
end
end Sfl
/- logs with their lengths in front, sorted; walks of a set comprehension -/
namespace Sfl
open PySem PySem.Spec PyProof.Rows L2
/-! ### the order -/
theorem toks_strs : ∀ {l m : List Str}, PySem.W.keyToksAll (l.map PyData.str) = PySem.W.keyToksAll (m.map PyData.str) → l = m
  | [], [], _ => rfl
  | [], y :: m, h => by
    rw [List.map_cons, PySem.W.toks_all_cons] at h
    have h1 := (List.cons.inj h).1
    exact absurd (Sum.inl.inj h1) (by decide)
  | x :: l, [], h => by
    rw [List.map_cons, PySem.W.toks_all_cons] at h
    have h1 := (List.cons.inj h).1
    exact absurd (Sum.inl.inj h1) (by decide)
  | x :: l, y :: m, h => by
    rw [List.map_cons, List.map_cons, PySem.W.toks_all_cons, PySem.W.toks_all_cons] at h
    have h2 : Sum.inr x.cps.toList :: PySem.W.keyToksAll (l.map PyData.str) = Sum.inr y.cps.toList :: PySem.W.keyToksAll (m.map PyData.str) := (List.cons.inj h).2
    obtain ⟨h3, h4⟩ := List.cons.inj h2
    rw [PySem.W.str_of_cps (Sum.inr.inj h3), toks_strs h4]
/-- a log as a datum, a log behind its length -/
abbrev lgD (l : List Str) : PyData := .tuple (l.map PyData.str)
def pd (l : List Str) : PyData := .tuple [.int (l.length : Nat), lgD l]
def Lay (l : List Str) : Prop := ∀ z ∈ l, PyData.strOk z = true
theorem hdy_strs : ∀ l : List Str, Lay l → hdyAll (l.map PyData.str) = true
  | [], _ => rfl
  | z :: l, h => by
    show hdyAll (PyData.str z :: l.map PyData.str) = true
    simp [hdyAll, hdy, hdy_strs l fun y hy => h y (List.mem_cons_of_mem _ hy), h z List.mem_cons_self]
theorem hdy_pd {l : List Str} (h : Lay l) : hdy (pd l) = true := by
  unfold pd
  simp [hdy, hdyAll, hdy_strs l h]
theorem depth_strs : ∀ l : List Str, PyData.depthAll (l.map PyData.str) = 0
  | [] => by simp [PyData.depthAll]
  | z :: l => by
    show PyData.depthAll (PyData.str z :: l.map PyData.str) = 0
    rw [PyData.depthAll, depth_strs l]
    simp [PyData.depth]
theorem depth_pd (l : List Str) : (pd l).depth ≤ 8 := by
  have h : (lgD l).depth = 1 := by
    unfold lgD
    rw [PyData.depth, depth_strs]
  unfold pd
  rw [PyData.depth, PyData.depthAll, PyData.depthAll, PyData.depthAll, h, PyData.depth]
  decide
theorem alike_strs : ∀ l m : List Str, PySem.W.alikeAll (l.map PyData.str) (m.map PyData.str) = true
  | [], _ => by simp [PySem.W.alikeAll]
  | _ :: _, [] => by simp [PySem.W.alikeAll]
  | x :: xs, y :: ys => by
    show PySem.W.alikeAll (.str x :: xs.map .str) (.str y :: ys.map .str) = true
    rw [PySem.W.alikeAll, alike_strs xs ys]
    simp [PySem.W.alike]
theorem alike_pd (l m : List Str) : PySem.W.alike (pd l) (pd m) = true := by
  unfold pd
  rw [PySem.W.alike, PySem.W.alikeAll, PySem.W.alikeAll, PySem.W.alikeAll, PySem.W.alike, PySem.W.alike, alike_strs]
  rfl
theorem toks_pd {l m : List Str} (h : PySem.W.keyToks (pd l) = PySem.W.keyToks (pd m)) : l = m := by
  have q : ∀ l : List Str, PySem.W.keyToks (pd l) = .inl 1 :: (.inl (l.length : Nat) :: (.inl 1 :: (PySem.W.keyToksAll (l.map PyData.str) ++ [.inl 0]))) := fun l => by
    unfold pd
    rw [PySem.W.keyToks, PySem.W.toks_all_cons, PySem.W.toks_all_cons, PySem.W.keyToks, PySem.W.keyToks, PySem.W.keyToksAll]
    rfl
  rw [q, q] at h
  exact toks_strs (List.append_cancel_right (List.cons.inj (List.cons.inj (List.cons.inj h).2).2).2)
theorem pd_inj {l m : List Str} (h : pd l = pd m) : l = m := toks_pd (congrArg _ h)
/-- the different logs of ls in order -/
def SrtL (ls ms : List (List Str)) : Prop := ms.Pairwise (fun l m => PySem.W.dataLt (pd m) (pd l) = false) ∧ ms.Nodup ∧ ∀ l, l ∈ ms ↔ l ∈ ls
theorem SrtL.one {ls ls' ms ms' : List (List Str)} (h : SrtL ls ms) (h' : SrtL ls' ms') (e : ∀ l, l ∈ ls ↔ l ∈ ls') : ms = ms' := by
  have p : ms.Perm ms' := (List.perm_ext_iff_of_nodup h.2.1 h'.2.1).mpr fun l => (h.2.2 l).trans ((e l).trans (h'.2.2 l).symm)
  exact p.eq_of_pairwise (fun a b _ _ h1 h2 => toks_pd ((listOrd itemOrd).total _ _ h2 h1)) h.1 h'.1
/-! ### pairs in the heap -/
def PairEl (H : Hp) (p : El) (l : List Str) (r : Addr) : Prop := H p.1 = some (.tup [.int (l.length : Nat), .ref r]) ∧ Tp H r l ∧ p.2 = pd l
theorem PairEl.dp {K : PySem.W.Frag} {H : Hp} {p : El} {l : List Str} {r : Addr} (h : PairEl H p l r) : Dp K H (.ref p.1) p.2 := by
  rw [h.2.2]
  exact .tup (sqt h.1) (.cons (.int _) (.cons (dp_tp h.2.1) .nil))
theorem PairEl.keep {H H' : Hp} {p : El} {l : List Str} {r : Addr} (h : PairEl H p l r) (k : ∀ b xs, H b = some (.tup xs) → H' b = some (.tup xs)) : PairEl H' p l r := ⟨k _ _ h.1, k _ _ h.2.1, h.2.2⟩
/-- L: the pairs of the logs ls, once each -/
def Prs (H : Hp) (ls : List (List Str)) (L : List El) : Prop := (∀ p ∈ L, ∃ l r, l ∈ ls ∧ PairEl H p l r) ∧ (∀ d, d ∈ L.map (·.2) ↔ d ∈ ls.map pd) ∧ L.length ≤ ls.length
theorem prs_nil {H : Hp} : Prs H [] [] := ⟨fun _ h => absurd h List.not_mem_nil, fun _ => .rfl, Nat.le_refl _⟩
theorem Prs.keep {H H' : Hp} {ls : List (List Str)} {L : List El} (h : Prs H ls L) (k : ∀ b xs, H b = some (.tup xs) → H' b = some (.tup xs)) : Prs H' ls L :=
  ⟨fun p hp => let ⟨l, r, hl, e⟩ := h.1 p hp; ⟨l, r, hl, e.keep k⟩, h.2.1, h.2.2⟩
theorem Prs.elh {K : PySem.W.Frag} {H : Hp} {ls : List (List Str)} {L : List El} (h : Prs H ls L) : ElH K H L := fun p hp => let ⟨_, _, _, e⟩ := h.1 p hp; e.dp
theorem Prs.grow {H : Hp} {ls : List (List Str)} {L L' : List El} {p : El} {l : List Str} {r : Addr} (h : Prs H ls L) (e : PairEl H p l r) (g : Grown L p L') : Prs H (ls ++ [l]) L' := by
  refine ⟨fun q hq => ?_, fun d => ?_, ?_⟩
  · rcases g.sub hq with z | rfl
    · obtain ⟨m, r, hm, e'⟩ := h.1 q z
      exact ⟨m, r, List.mem_append_left _ hm, e'⟩
    · exact ⟨l, r, List.mem_append_right _ (List.mem_singleton.mpr rfl), e⟩
  · rw [g.mem d, h.2.1 d, e.2.2, List.map_append, List.mem_append]
    simp
  · have := g.len
    have := h.2.2
    rw [List.length_append]
    show L'.length ≤ ls.length + 1
    omega
theorem Prs.can {H : Hp} {ls : List (List Str)} {L : List El} (h : Prs H ls L) : CanSort L := by
  refine ⟨fun d hd e he => ?_, fun p hp => ?_⟩
  · obtain ⟨l, _, rfl⟩ := List.mem_map.mp ((h.2.1 d).mp hd)
    obtain ⟨m, _, rfl⟩ := List.mem_map.mp ((h.2.1 e).mp he)
    exact alike_pd l m
  · obtain ⟨l, _, _, e⟩ := h.1 p hp
    exact ⟨_, _, e.2.2⟩
/-- each pair of M stands for a log -/
def EachP (H : Hp) : List El → List Addr → List (List Str) → Prop
  | [], [], [] => True
  | p :: M, r :: rs, l :: ms => PairEl H p l r ∧ EachP H M rs ms
  | _, _, _ => False
theorem each_p {H : Hp} : ∀ {M : List El}, (∀ p ∈ M, ∃ l r, PairEl H p l r) → ∃ rs ms, EachP H M rs ms
  | [], _ => ⟨[], [], trivial⟩
  | p :: M, h => by
    obtain ⟨l, r, e⟩ := h p List.mem_cons_self
    obtain ⟨rs, ms, es⟩ := each_p fun q hq => h q (List.mem_cons_of_mem _ hq)
    exact ⟨r :: rs, l :: ms, e, es⟩
theorem EachP.len {H : Hp} : ∀ {M : List El} {rs : List Addr} {ms : List (List Str)}, EachP H M rs ms → rs.length = M.length ∧ ms.length = M.length
  | [], [], [], _ => ⟨rfl, rfl⟩
  | _ :: _, _ :: _, _ :: _, h => by
    obtain ⟨a, b⟩ := EachP.len h.2
    exact ⟨congrArg (· + 1) a, congrArg (· + 1) b⟩
theorem EachP.data {H : Hp} : ∀ {M : List El} {rs : List Addr} {ms : List (List Str)}, EachP H M rs ms → M.map (·.2) = ms.map pd
  | [], [], [], _ => rfl
  | _ :: _, _ :: _, _ :: _, h => by
    rw [List.map_cons, List.map_cons, EachP.data h.2, h.1.2.2]
theorem EachP.at {H : Hp} : ∀ {M : List El} {rs : List Addr} {ms : List (List Str)}, EachP H M rs ms → ∀ {i : Nat} {p : El}, M[i]? = some p → ∃ r l, rs[i]? = some r ∧ ms[i]? = some l ∧ PairEl H p l r
  | _ :: _, r :: _, l :: _, h, 0, p, e => by
    cases Option.some.inj e
    exact ⟨r, l, rfl, rfl, h.1⟩
  | _ :: _, _ :: _, _ :: _, h, i + 1, p, e => EachP.at h.2 (i := i) e
theorem EachP.tp {H : Hp} : ∀ {M : List El} {rs : List Addr} {ms : List (List Str)}, EachP H M rs ms → ∀ {i : Nat} {r : Addr} {l : List Str}, rs[i]? = some r → ms[i]? = some l → Tp H r l
  | [], [], [], _, _, _, _, e, _ => nomatch e
  | _ :: _, _ :: _, _ :: _, h, 0, r, l, e, f => by
    cases Option.some.inj e
    cases Option.some.inj f
    exact h.1.2.1
  | _ :: _, _ :: _, _ :: _, h, i + 1, r, l, e, f => EachP.tp h.2 (i := i) e f
theorem srt_of {H : Hp} {ls : List (List Str)} {L M : List El} {rs : List Addr} {ms : List (List Str)} (h : Prs H ls L) (pm : M.Perm L) (n1 : (M.map (·.2)).Nodup) (as : Asc M) (es : EachP H M rs ms) : SrtL ls ms := by
  have hd := es.data
  have inj : ∀ {l : List Str} {xs : List (List Str)}, l ∈ xs ↔ pd l ∈ xs.map pd := fun {l xs} => ⟨List.mem_map_of_mem, fun h => by
    obtain ⟨m, hm, e⟩ := List.mem_map.mp h
    rw [← pd_inj e]
    exact hm⟩
  refine ⟨?_, ?_, fun l => ?_⟩
  · have a1 : (M.map (·.2)).Pairwise fun x y => PySem.W.dataLt y x = false := List.pairwise_map.mpr as
    rw [hd] at a1
    exact List.pairwise_map.mp a1
  · rw [hd] at n1
    exact (List.pairwise_map.mp n1).imp fun h e => h (congrArg pd e)
  · rw [inj, ← hd, (pm.map _).mem_iff, h.2.1, ← inj]
/-! ### the walk over a tuple, over a list -/
theorem sd_tup {P : Program} {w : World} {K : PySem.W.Frag} {a : Addr} {xs : List V} {g : TG} {tt : TT} {te : TE} {vs : List Nat} {σ : L2.St} {H1 : Hp} {D : Addr} {Qd : Hp → Prop} (Pv : Nat → Hp → Prop) (h0 : Pv 0 (upd H1 D (DSO P w D [])))
    (hl : ∀ i H, i ≤ xs.length → Pv i H → SqT K H a xs) (hs : ∀ i x H, xs[i]? = some x → Pv i H → TurnD P w K g tt te vs D σ x H (Pv (i + 1))) (hd : ∀ H, Pv xs.length H → Qd H) :
    ∃ W : Nat → Nat → Hp → Prop, (∃ m, W 0 m (upd H1 D (DSO P w D []))) ∧ ∀ i m H', W i m H' → ((Itt K a).stop i H' ∧ Qd H') ∨
      ((Itt K a).go i H' ∧ ∃ Nx : Hp → Prop, (∀ G, Nx G → ∃ m', m' < m ∧ W (i + 1) m' G) ∧ ∀ x G, (Itt K a).yld i H' x G → TurnD P w K g tt te vs D σ x G Nx) := by
  refine ⟨fun i m G => m = xs.length - i ∧ i ≤ xs.length ∧ Pv i G, ⟨_, rfl, Nat.zero_le _, h0⟩, ?_⟩
  rintro i _ G ⟨rfl, hi, p⟩
  have q := hl i G hi p
  rcases Nat.lt_or_ge i xs.length with lt | ge
  · refine .inr ⟨⟨xs, xs[i], q, List.getElem?_eq_getElem lt⟩, Pv (i + 1), fun G' p' => ⟨xs.length - (i + 1), by omega, rfl, lt, p'⟩, fun x G' ⟨e, y⟩ => ?_⟩
    subst e
    exact hs i x _ (y xs q) p
  · have e : i = xs.length := Nat.le_antisymm hi ge
    subst e
    exact .inl ⟨⟨xs, q, Nat.le_refl _⟩, hd G p⟩
end Sfl
namespace Sfl
open PySem PySem.Spec PyProof.Rows L2 GenW
section
variable {M : Model} {A : Around} {R : GenEnd} {Y : Protocol} {n : Nat} {s₀ : Shared} {c : Code} {fs : List Frame} {s : Shared} {env : Env}
  {gd : Bool → Bool} {lv : List Value → List Value}
theorem seg_bindW {α β : Type} {m : Sem α} {k : α → Sem β} {K : β → Sem PySem.Fin} {H : Value → Sem PySem.Fin}
    (h : wpAny M (A.over c fs) m (fun a s' => Seg M A R Y n s₀ c ((k a).wrap K H gd lv) fs s') (fun x s' => Seg M A R Y n s₀ c (H x) fs s') s) :
    Seg M A R Y n s₀ c ((m >>= k).wrap K H gd lv) fs s := by
  rw [Sem.bind_eq_wrap', Sem.wrap_wrap]
  exact seg_wrap h
theorem seg_If {test : Expr} {body orelse : List Stmt} {pos : Pos} {K : Flow → Sem PySem.Fin} {H : Value → Sem PySem.Fin}
    (h : wpAny M (A.over c fs) (isTrue test env (eval test env)) (fun b s' => if b = true then Seg M A R Y n s₀ c ((execs body env).wrap K H gd lv) fs s' else Seg M A R Y n s₀ c ((execs orelse env).wrap K H gd lv) fs s')
      (fun x s' => Seg M A R Y n s₀ c (H x) fs s') s) : Seg M A R Y n s₀ c ((exec (.If test body orelse pos) env).wrap K H gd lv) fs s := by
  rw [exec_If]
  refine seg_bindW (wpAny_standAt ?_)
  refine seg_bindW (wpAny_mono h (fun b s' hb => ?_) fun _ _ x => x)
  cases b with
  | true =>
    rw [if_pos rfl] at hb
    exact hb
  | false =>
    rw [if_neg Bool.false_ne_true] at hb
    exact hb
theorem seg_For {target iter : Expr} {body : List Stmt} {pos : Pos} {K : Flow → Sem PySem.Fin} {H : Value → Sem PySem.Fin}
    (h : wpAny M (A.over c fs) (eval iter env) (fun x s₁ => wpAny M (A.over c fs) (pyIter x) (fun it s₂ => ∀ p, Seg M A R Y n s₀ (.forLoop target it body [] env) (M.den (.forLoop target it body [] env))
      (.ret (fun r => ((match r with | .ok f => (.pure f : Sem Flow) | .error e => .raise e).onRaise (cameBack env)).wrap K H gd lv) none (gd false) (lv []) c p [] :: fs) s₂) (fun x s' => Seg M A R Y n s₀ c (H x) fs s') s₁) (fun x s' => Seg M A R Y n s₀ c (H x) fs s') s)
    (hs : ∀ x, foldedSetIterable iter env x = pure x) : Seg M A R Y n s₀ c ((exec (.For target iter body [] pos) env).wrap K H gd lv) fs s := by
  rw [exec_For]
  refine seg_bindW (wpAny_standAt ?_)
  refine seg_bindW (wpAny_mono h (fun x s1 h1 => ?_) fun _ _ x => x)
  rw [hs x]
  refine seg_bindW (wpAny_pure ?_)
  refine seg_bindW (wpAny_standAt ?_)
  refine seg_bindW (wpAny_holding (wpAny_mono h1 (fun it s2 h2 => ?_) fun _ _ x => x))
  exact seg_call h2
end
section
variable {prog : Program} {w : World} {A : Around} {R : GenEnd} {Y : Protocol} {n : Nat} {s₀ : Shared} {fs : List Frame} {s : Shared} {env : Env}
abbrev noteE (env : Env) (x : Value) : Sem PySem.Fin := (do noteFrame x env; theTreesLotGoes x : Sem Unit).bind fun _ => (Sem.raise x : Sem PySem.Fin)
abbrev forK (c0 : Code) : Flow → Sem PySem.Fin := fun f => match f with
  | .next | .cont => .pure (.again c0)
  | .brk => .pure (.done .next)
  | .ret v => .pure (.done (.ret v))
theorem seg_forLoop {target : Expr} {it : Value} {body : List Stmt}
    (h : wpAny (model prog w) (A.over (.forLoop target it body [] env) fs) (pyNext it) (fun r s₁ => match r with
      | none => Seg (model prog w) A R Y n s₀ (.block [] env) (.pure (.done .next)) fs s₁
      | some v => wpAny (model prog w) (A.over (.forLoop target it body [] env) fs) (letOwnedTupleGo target it v) (fun _ s₂ => wpAny (model prog w) (A.over (.forLoop target it body [] env) fs) (assign target env v) (fun _ s₃ =>
          Seg (model prog w) A R Y n s₀ (.forLoop target it body [] env) ((execs body env).wrap (forK (.forLoop target it body [] env)) (noteE env) id id) fs s₃)
            (fun x s' => Seg (model prog w) A R Y n s₀ (.forLoop target it body [] env) (noteE env x) fs s') s₂) (fun x s' => Seg (model prog w) A R Y n s₀ (.forLoop target it body [] env) (noteE env x) fs s') s₁)
      (fun x s' => Seg (model prog w) A R Y n s₀ (.forLoop target it body [] env) (noteE env x) fs s') s) :
    Seg (model prog w) A R Y n s₀ (.forLoop target it body [] env) ((model prog w).den (.forLoop target it body [] env)) fs s := by
  show Seg _ A R Y n s₀ _ ((forTurn target it body [] env).onRaise (fun x => do noteFrame x env; theTreesLotGoes x)) fs s
  rw [Sem.onRaise_eq_wrap]
  unfold forTurn
  refine seg_bindW (wpAny_standAt ?_)
  refine seg_bindW (wpAny_onRaise (wpAny_mono h (fun r s1 h1 => ?_) fun x s' hx => ?_))
  · cases r with
    | none => exact seg_again rfl h1
    | some v =>
      refine seg_bindW (wpAny_mono h1 (fun _ s2 h2 => ?_) fun x s' hx => ?_)
      · refine seg_bindW (wpAny_mono h2 (fun _ s3 h3 => ?_) fun x s' hx => ?_)
        · rw [Sem.bind_eq_wrap', Sem.wrap_wrap]
          refine Eq.mp (congrArg (fun t => Seg _ A R Y n s₀ _ t fs s3) (Sem.wrap_congr (execs body env) _ _ (fun f => ?_) (fun e => ?_))) h3
          · cases f <;> rfl
          · rfl
        · exact hx
      · exact hx
  · exact wpAny_standAt hx
end

section
variable {X : Cx}
def tGIf (t : TT) (a b : TGn) : TGn := fun D ys σ H => t σ H fun k H1 => if k = true then a D ys σ H1 else b D ys σ H1
theorem gs_if {test : Expr} {body orelse : List Stmt} {pos : Pos} {t : TT} {a b : TGn} (hc : PT X test t) (ha : GSs X body a) (hb : GSs X orelse b) : GS X (.If test body orelse pos) (tGIf t a b) := by
  refine ⟨fun A S ip R n ys s₀ c fs K J gd lv s σ H D g hn k hI ht => ?_⟩
  obtain ⟨acc, cc, r, I⟩ := hI
  refine seg_If ?_
  rw [g.over]
  refine wpAny_mono (hc.run _ s σ H _ I ht) (fun q s' hq => ?_) fun x s' hx => k.exc n s₀ x s' hx
  obtain ⟨H2, I2, q2⟩ := hq
  cases q with
  | true =>
    rw [if_pos rfl] at q2 ⊢
    exact ha.run A S ip R n ys s₀ c fs K J gd lv s' σ H2 D g hn k ⟨acc, cc, r, I2⟩ q2
  | false =>
    rw [if_neg Bool.false_ne_true] at q2 ⊢
    exact hb.run A S ip R n ys s₀ c fs K J gd lv s' σ H2 D g hn k ⟨acc, cc, r, I2⟩ q2
/-- for, with yields in its body -/
def tGFor (wi : TI) (g : TG) (tb : TGn) : TGn := fun D ys σ H => wi σ H fun Jt H1 => ∃ W : Nat → Nat → List V → L2.St → Hp → Prop, (∃ m, W 0 m ys σ H1) ∧ ∀ i m ys σ H, W i m ys σ H →
  (Jt.stop i H ∧ D.nx ys σ H) ∨ (Jt.go i H ∧ ∃ N : List V → L2.St → Hp → Prop, (∀ ys' σ' H', N ys' σ' H' → ∃ m', m' < m ∧ W (i + 1) m' ys' σ' H') ∧
    ∀ x H', Jt.yld i H x H' → g x σ H' fun σ2 H2 => tb { D with nx := N, ct := N, bk := D.nx } ys σ2 H2)
theorem fpOk_pins {b : Addr} {H H' : Hp} {S : Addr} {o o' : Obj} {ip : List (Addr × Obj)} (h : FpOk X ((S, o) :: ip) H b) (hn : H' b = none) : FpOk X ((S, o') :: ip) H' b := by
  obtain ⟨_, h1, h2, h3, h4, h5⟩ := h
  refine ⟨hn, h1, h2, h3, h4, fun p hp => ?_⟩
  rcases List.mem_append.mp hp with z | z
  · exact h5 p (List.mem_append_left _ z)
  · rcases List.mem_cons.mp z with z | z
    · subst z
      exact h5 (S, o) (List.mem_append_right _ List.mem_cons_self)
    · exact h5 p (List.mem_append_right _ (List.mem_cons_of_mem _ z))
theorem fpOk_ne {b : Addr} {H : Hp} {S : Addr} {o : Obj} {ip : List (Addr × Obj)} (h : FpOk X ((S, o) :: ip) H b) : b ≠ S := fun e => h.2.2.2.2.2 (S, o) (List.mem_append_right _ List.mem_cons_self) e.symm
theorem gs_for {iter tg : Expr} {body : List Stmt} {wi : TI} {g : TG} {tb : TGn} {pos : Pos} (hp : PassesOwn (model X.prog X.w) X.A X.env X.xe) (hc : X.calm = true) (hi : PI X tg iter wi) (hg : PG X tg g) (hb : GSs X body tb)
    (hs : ∀ x, foldedSetIterable iter X.env x = pure x := by intro _; rfl) : GS X (.For tg iter body [] pos) (tGFor wi g tb) := by
  refine ⟨fun A S ip R n ys s₀ c fs K J gd lv s σ H D gc hn k hI ht => ?_⟩
  obtain ⟨acc, cc, r, I⟩ := hI
  refine seg_For ?_ hs
  rw [gc.over]
  refine wpAny_mono (hi.run _ s σ H _ I ht) (fun v s1 h1 => wpAny_mono h1 (fun itv s2 h2 => ?_) fun x s' hx => k.exc n s₀ x s' hx) fun x s' hx => k.exc n s₀ x s' hx
  obtain ⟨it, fp, tn, Jt, H2, e, I2, T, st2, f2, W, ⟨m0, w0⟩, turn⟩ := h2
  subst e
  intro p
  have gl := fun (kk : Result → Sem PySem.Fin) (cl : Code) (hw : cl.weight = 0) (hu : cl.cUnits = 0) => gc_loop (k := kk) (c' := cl) (l := lv []) (kp := []) (p := p) gc hw hu
  have loop : ∀ (m i n : Nat) (ys : List V) (s₀ s : Shared) (σ : L2.St) (H : Hp), n + ys.length = sizeLine → W i m ys σ H → GI X S ip ys σ H s → tn i s.heap → (∀ b ∈ fp, H b = none) →
      Seg (model X.prog X.w) A R (GY X S) n s₀ (.forLoop tg (.ref it) body [] X.env) ((model X.prog X.w).den (.forLoop tg (.ref it) body [] X.env))
        (.ret (fun r => ((match r with | .ok f => (.pure f : Sem Flow) | .error e => .raise e).onRaise (cameBack X.env)).wrap K J gd lv) none (gd false) (lv []) c p [] :: fs) s := by
    intro m
    induction m using Nat.strongRecOn with
    | ind m ih =>
      intro i n ys s₀ s σ H hn w hI st3 fr3
      have ee : ∀ (n : Nat) (s₀ : Shared) (x : Value) (s' : Shared), X.xe x s' → Seg (model X.prog X.w) A R (GY X S) n s₀ (.forLoop tg (.ref it) body [] X.env) (noteE X.env x)
          (.ret (fun r => ((match r with | .ok f => (.pure f : Sem Flow) | .error e => .raise e).onRaise (cameBack X.env)).wrap K J gd lv) none (gd false) (lv []) c p [] :: fs) s' := fun n s₀ x s' hx => by
        unfold noteE
        rw [Sem.bind_eq_wrap]
        refine seg_wrap ?_
        rw [(gl _ (.forLoop tg (.ref it) body [] X.env) rfl rfl).over]
        refine wpAny_bind (wpAny_mono (hp x s' hx) (fun _ s'' hcb => wpAny_theTreesLotGoes ?_) fun y s'' hcb => ?_)
        · exact seg_leaf (.error x) (seg_cameBack gc k hcb)
        · exact seg_leaf (.error y) (seg_cameBack gc k hcb)
      refine seg_forLoop ?_
      rw [(gl _ (.forLoop tg (.ref it) body [] X.env) rfl rfl).over]
      obtain ⟨acc3, cc3, r3, I3⟩ := hI
      have stat : ∀ {H' : Hp}, (∀ b ∈ fp, H' b = none) → ∀ b ∈ fp, FpOk X ((S, lstObj acc3 cc3) :: ip) H' b := fun hn b hb => fpOk_pins (f2 b hb) (hn b hb)
      rcases turn i m ys σ H w with ⟨stop, qn⟩ | ⟨go, N, hN, step⟩
      · refine wpAny_mono (T.done X rfl rfl rfl hc i _ s σ H X.xe I3 (stat fr3) st3 stop) (fun r s4 ⟨hr, I4⟩ => ?_) fun x s' hx => ee n s₀ x s' hx
        subst hr
        exact seg_leaf (.ok .next) (k.ok n ys s₀ s4 .next hn ⟨σ, H, ⟨acc3, cc3, r3, I4⟩, qn⟩)
      · refine wpAny_mono (T.item X rfl rfl rfl hc i _ s σ H X.xe I3 (stat fr3) st3 go) (fun r s4 ⟨u, hr, h4⟩ => ?_) fun x s' hx => ee n s₀ x s' hx
        subst hr
        refine wpAny_mono h4 (fun _ s5 ⟨x, H5, I5, r5, y5, st5, fr5⟩ => ?_) fun x s' hx => ee n s₀ x s' hx
        have I5' := I5.pinned (stat fr5) (T.obj _ _ st5)
        refine wpAny_mono (hg.run _ s5 σ H5 x u _ I5' r5 (step x H5 y5)) (fun _ s6 ⟨σ6, H6, I6, q6⟩ => ?_) fun x s' hx => ee n s₀ x s' hx
        have gcl := gl (fun r => ((match r with | .ok f => (.pure f : Sem Flow) | .error e => .raise e).onRaise (cameBack X.env)).wrap K J gd lv) (.forLoop tg (.ref it) body [] X.env) rfl rfl
        refine hb.run A S (ip ++ pinsAt fp s5.heap) R n ys s₀ _ _ _ _ id id s6 σ6 H6 { D with nx := N, ct := N, bk := D.nx } ⟨gcl.pn, fun q hq => ?_, gcl.apart, gcl.over, gcl.split, gcl.guard, gcl.gd⟩ hn
          ⟨fun n' ys' s₀' s7 f hn' hs => ?_, fun n' s₀' x s7 hx => ee n' s₀' x s7 hx⟩ ⟨acc3, cc3, r3, I6⟩ q6
        · rcases List.mem_append.mp hq with z | z
          · exact gcl.ip q z
          · exact fpOk_ne (f2 _ (of_pinsAt z).1)
        · have again : ∀ {σ7 : L2.St} {H7 : Hp}, GI X S (ip ++ pinsAt fp s5.heap) ys' σ7 H7 s7 → N ys' σ7 H7 → Seg (model X.prog X.w) A R (GY X S) n' s₀' (.forLoop tg (.ref it) body [] X.env) (.pure (.again (.forLoop tg (.ref it) body [] X.env)))
              (.ret (fun r => ((match r with | .ok f => (.pure f : Sem Flow) | .error e => .raise e).onRaise (cameBack X.env)).wrap K J gd lv) none (gd false) (lv []) c p [] :: fs) s7 := fun {σ7 H7} G7 n7 => by
            obtain ⟨acc7, cc7, r7, I7⟩ := G7
            obtain ⟨m', hm, w7⟩ := hN ys' σ7 H7 n7
            have I7' : Inv X (((S, lstObj acc7 cc7) :: ip) ++ pinsAt fp s5.heap) σ7 H7 s7 := I7
            refine seg_again rfl (ih m' hm (i + 1) n' ys' s₀' s7 σ7 H7 hn' w7 ⟨acc7, cc7, r7, I7'.unpinned⟩ (T.keep _ _ _ st5 fun b hb o e => (I7'.pin (b, o) (List.mem_append_right _ (List.mem_append_right _ (mem_pinsAt hb e)))).1) fun b hb => ?_)
            obtain ⟨o, e, d⟩ := T.obj _ _ st5 b hb
            exact (I7'.pin (b, o) (List.mem_append_right _ (List.mem_append_right _ (mem_pinsAt hb e)))).2.1
          have un : ∀ {σ7 : L2.St} {H7 : Hp}, GI X S (ip ++ pinsAt fp s5.heap) ys' σ7 H7 s7 → GI X S ip ys' σ7 H7 s7 := fun {σ7 H7} G7 => by
            obtain ⟨acc7, cc7, r7, I7⟩ := G7
            have I7' : Inv X (((S, lstObj acc7 cc7) :: ip) ++ pinsAt fp s5.heap) σ7 H7 s7 := I7
            exact ⟨acc7, cc7, r7, I7'.unpinned⟩
          cases f with
          | next =>
            obtain ⟨σ7, H7, G7, n7⟩ := hs
            exact again G7 n7
          | cont =>
            obtain ⟨σ7, H7, G7, n7⟩ := hs
            exact again G7 n7
          | brk =>
            obtain ⟨σ7, H7, G7, q7⟩ := hs
            exact seg_leaf (.ok .next) (k.ok n' ys' s₀' s7 .next hn' ⟨σ7, H7, un G7, q7⟩)
          | ret v =>
            obtain ⟨x7, σ7, H7, G7, r7, q7⟩ := hs
            exact seg_leaf (.ok (.ret v)) (k.ok n' ys' s₀' s7 (.ret v) hn' ⟨x7, σ7, H7, un G7, r7, q7⟩)
  exact loop m0 0 n ys s₀ s2 σ H2 hn w0 ⟨acc, cc, r, I2⟩ st2 fun b hb => (f2 b hb).1
end
end Sfl
namespace Sfl
open PySem PySem.Spec PyProof.Rows L2
def topS (i : Nat) : Stmt := PySem.Challenge.pw_seldomflip_k01_letters_and_logs.main.body.getD i (.Pass ⟨0, 0, 0, 0⟩)
abbrev sIsName : Stmt := topS 6
abbrev sIsAscending : Stmt := topS 7
abbrev sInOrder : Stmt := topS 9
abbrev sIsAnyLog : Stmt := topS 13
abbrev sCheckLetters : Stmt := topS 14
abbrev sCheckLog : Stmt := topS 15
abbrev sCheckLogs : Stmt := topS 16
abbrev sIsLetters : Stmt := topS 17
abbrev sMakeLetters : Stmt := topS 18
abbrev sIsLog : Stmt := topS 19
abbrev sSortedLogs : Stmt := topS 20
abbrev sDice : Stmt := topS 22
abbrev sRoll : Stmt := topS 23
abbrev sPick : Stmt := topS 24
abbrev sMixed : Stmt := topS 25
abbrev sLetters : Stmt := topS 26
abbrev sLog : Stmt := topS 27
abbrev sOdd : Stmt := topS 28
abbrev sMadeL : Stmt := topS 29
abbrev sNames : Stmt := topS 30
abbrev sLogs : Stmt := topS 31
abbrev sLaw : Stmt := topS 32

/-- what the top leaves of the built-in names -/
structure Bn (mg : Str → Option Value) : Prop where
  len : mg "len" = none
  enum : mg "enumerate" = none
  tuple : mg "tuple" = none
  isi : mg "isinstance" = none
  str : mg "str" = none
  all : mg "all" = none
  range : mg "range" = none
  min : mg "min" = none
  max : mg "max" = none
  list : mg "list" = none
  sorted : mg "sorted" = none
  abs : mg "abs" = none
  int : mg "int" = none
  repr : mg "repr" = none
  set : mg "set" = none
  zip : mg "zip" = none
  signs : ∃ t, mg "MAX_SIGNS" = some (.int 8 t)
  lets : ∃ t, mg "MAX_LETTERS" = some (.int 4 t)
  events : ∃ t, mg "MAX_EVENTS" = some (.int 200 t)

section
variable {P : Program} {w : World} {K : PySem.W.Frag} {mg : Str → Option Value} {base : Heap}

/-! ### is_name -/
theorem scIsName : FnScope ["value"] ["value"] (defScope sIsName) := ⟨rfl, rfl, rfl, by decide +kernel, rfl, by decide +kernel, by decide +kernel⟩
def spIsName : Sp := fun vs H Q _ => ∃ z : Str, vs = [.str z] ∧ z.length ≤ sizeLine ∧ Q (.bl (Nm z)) H
theorem ok_isName {f : Addr} {fd : FuncData} {k : Nat} (F : Fun K "is_name" "is_name" sIsName f fd) (B : Bn mg) : FnOk P w K mg base CX0 (k + 1) f fd ["value"] spIsName := by
  refine F.ok scIsName (fun vs H Q E h => ?_) (fun cdv A outer s H vs Q E hr h => ?_)
  · obtain ⟨z, rfl, _⟩ := h
    rfl
  · obtain ⟨z, rfl, hz, q⟩ := h
    obtain ⟨tS, gS⟩ := B.signs
    refine ⟨_, pss_cons (ps_if (PW.pt (pw_or (pt_not (pt_val (pe_callB call_isi (by rfl) B.isi (by decide +kernel) (pa_cons (pv 0) (pa_cons (pe_bltn (v := .ty "str") (by rfl) B.str (by decide +kernel) rfl) pa_nil)))))
        (pw_or1 (pt_cmpR op_gt (pe_callB call_len_str (by rfl) B.len PySem.boot_len (pa_cons (pv 0) pa_nil)) (pe_glob (v := .int 8) rfl gS ⟨_, rfl⟩) (nomark _)))))
        (pss_one (ps_ret pe_bl)) pss_nil)
      (pss_one (ps_ret (pe_and (pe_m0 PySem.F.slot_str_isascii PySem.F.type_str_isascii mt_isascii (pv 0))
        (pe_and (pe_m0 PySem.F.slot_str_isalpha PySem.F.type_str_isalpha mt_isalpha (pv 0))
        (pe_one (pe_m0 PySem.F.slot_str_islower PySem.F.type_str_islower mt_islower (pv 0))))))), ?_⟩
    refine ⟨_, rfl, .str z, .ty "str", _, .type "str", true, rfl, .ty _, .base (.str _), kit_ty (by decide +kernel), _, rfl, iteF ?_⟩
    refine ⟨_, rfl, z, rfl, hz, _, _, rfl, rfl, _, rfl, ?_⟩
    have hq : Nm z = if z.length > 8 then false else (if Txt.isascii z then (if Txt.isalpha z then Txt.islower z else false) else false) := rfl
    refine ite2 (fun hc => ?_) (fun hc => ?_)
    · have h8 : z.length > 8 := by
        have := of_decide_eq_true hc
        omega
      rw [if_pos h8] at hq
      rw [hq] at q
      exact q
    · have h8 : ¬ z.length > 8 := fun z' => hc (decide_eq_true (by omega))
      rw [if_neg h8] at hq
      rw [hq] at q
      refine ⟨_, rfl, ⟨_, rfl⟩, z, rfl, rfl, trivial, _, rfl, ?_⟩
      cases e1 : Txt.isascii z with
      | false =>
        rw [e1] at q
        exact iteF q
      | true =>
        rw [e1] at q
        refine iteT ⟨_, rfl, ⟨_, rfl⟩, z, rfl, rfl, trivial, _, rfl, ?_⟩
        cases e2 : Txt.isalpha z with
        | false =>
          rw [e2] at q
          exact iteF q
        | true =>
          rw [e2] at q
          exact iteT ⟨_, rfl, ⟨_, rfl⟩, z, rfl, rfl, trivial, q⟩
end
end Sfl
namespace Sfl
open PySem PySem.Spec PyProof.Rows L2
section
variable {P : Program} {w : World} {K : PySem.W.Frag} {mg : Str → Option Value} {base : Heap}
theorem get_map {α β : Type} {f : α → β} {xs : List α} {i : Nat} (h : i < xs.length) : (xs.map f)[i]? = some (f xs[i]) := by
  rw [List.getElem?_map, List.getElem?_eq_getElem h]
  rfl
theorem get_map' {α β : Type} {f : α → β} {xs : List α} {i : Nat} {y : β} (h : (xs.map f)[i]? = some y) : ∃ x, xs[i]? = some x ∧ f x = y := by
  rw [List.getElem?_map] at h
  cases e : xs[i]? with
  | none => rw [e] at h; cases h
  | some x => rw [e] at h; exact ⟨x, rfl, Option.some.inj h⟩
theorem get_lt {α : Type} {xs : List α} {i : Nat} {x : α} (h : xs[i]? = some x) : i < xs.length := (List.getElem?_eq_some_iff.mp h).1
/-! ### first_way -/
end
end Sfl

namespace Sfl
open PySem PySem.Spec PyProof.Rows L2
/-- a def of the text as its callers see it -/
def Cal (P : Program) (w : World) (K : PySem.W.Frag) (mg : Str → Option Value) (base : Heap) (k : Nat) (x : Str) (ps : List Str) (sp : Sp) : Prop :=
  ∃ (f : Addr) (fd : FuncData), FnOk P w K mg base CX0 k f fd ps sp ∧ mg x = some (.ref f) ∧ PySem.W.keepIn K (.ref f) = true ∧ Binds K fd ps []
section
variable {P : Program} {w : World} {K : PySem.W.Frag} {mg : Str → Option Value} {base : Heap}
theorem Cal.mono {j k : Nat} {x : Str} {ps : List Str} {sp : Sp} (C : Cal P w K mg base j x ps sp) (h : j ≤ k) : Cal P w K mg base k x ps sp := by
  obtain ⟨f, fd, G, g, kp, b⟩ := C
  exact ⟨f, fd, G.mono h, g, kp, b⟩

end
end Sfl

namespace Sfl
open PySem PySem.Spec PyProof.Rows L2
theorem nm_len {z : Str} (h : Nm z = true) : z.length ≤ 8 := by
  unfold Nm at h
  by_cases c : z.length > 8
  · rw [if_pos c] at h
    cases h
  · omega
theorem nm_line {z : Str} (h : Nm z = true) : z.length ≤ sizeLine := Nat.le_trans (nm_len h) (by decide)
/-- a log that is passed -/
structure Lg (l : List Str) : Prop where
  len : l.length ≤ 200
  nm : ∀ z ∈ l, Nm z = true
theorem Lg.k {l : List Str} (h : Lg l) : l.length ≤ 1000 := Nat.le_trans h.len (by decide)
section
variable {P : Program} {w : World} {K : PySem.W.Frag} {mg : Str → Option Value} {base : Heap}
theorem scIsAnyLog : FnScope ["value", "event"] ["value"] (defScope sIsAnyLog) := ⟨rfl, rfl, rfl, by decide +kernel, rfl, by decide +kernel, by decide +kernel⟩
def spIsAnyLog : Sp := fun vs H Q _ => ∃ (p : Addr) (l : List Str), vs = [.ref p] ∧ Tp H p l ∧ Lg l ∧ ∀ H', Same H H' → Q (.bl true) H'
theorem ok_isAnyLog {f : Addr} {fd : FuncData} {k : Nat} (F : Fun K "is_any_log" "is_any_log" sIsAnyLog f fd) (B : Bn mg) (C1 : Cal P w K mg base k "is_name" ["value"] spIsName) :
    FnOk P w K mg base CX0 (k + 1) f fd ["value"] spIsAnyLog := by
  obtain ⟨f1, fd1, G1, g1, kp1, b1⟩ := C1
  refine F.ok scIsAnyLog (fun vs H Q E h => ?_) (fun cdv A outer s H vs Q E hr h => ?_)
  · obtain ⟨p, l, rfl, _⟩ := h
    rfl
  · obtain ⟨p, l, rfl, hp, hl, q⟩ := h
    obtain ⟨tS, gS⟩ := B.events
    refine ⟨_, pss_cons (ps_if (PW.pt (pw_or (pt_not (pt_val (pe_callB call_isi (by rfl) B.isi (by decide +kernel) (pa_cons (pv 0) (pa_cons (pe_bltn (v := .ty "tuple") (by rfl) B.tuple (by decide +kernel) rfl) pa_nil)))))
        (pw_or1 (pt_cmpR op_gt (pe_callB call_len_seq (by rfl) B.len PySem.boot_len (pa_cons (pv 0) pa_nil)) (pe_glob (v := .int 200) rfl gS ⟨_, rfl⟩) (nomark _)))))
        (pss_one (ps_ret pe_bl)) pss_nil)
      (pss_one (ps_ret (pe_callB (cr_all rfl) (by rfl) B.all (by decide +kernel) (pa_cons
        (pe_lc (own := [("event", 1)]) (g := gName 1) (tt := tYes) rfl scIsAnyLog.nd (pi_tup (pv 0)) (blkOk_by (own := [("event", 1)]) (N := ["value", "event"]) (sc := defScope sIsAnyLog) (by decide +kernel))
          (fun _ _ _ _ _ => pg_name (i := 1) scIsAnyLog.nd rfl (Or.inl rfl)) (fun _ _ _ _ _ => pts_nil)
          (fun _ _ _ _ _ => pe_call G1 hr (by rfl) g1 kp1 b1 .nil pass0 (pa_cons (pv 1) pa_nil))) pa_nil)))), ?_⟩
    refine ⟨_, rfl, .ref p, .ty "tuple", _, .type "tuple", true, rfl, .ty _, .base (.tup hp), kit_ty (by decide +kernel), _, rfl, iteF ?_⟩
    refine ⟨_, rfl, p, _, rfl, .inr (sqt hp), _, _, rfl, rfl, _, rfl, ?_⟩
    rw [List.length_map]
    refine ite2 (fun hc => ?_) (fun _ => ?_)
    · have := of_decide_eq_true hc
      have := hl.len
      omega
    · refine ⟨.ref p, rfl, p, rfl, ⟨_, sqt hp⟩, fun D nD => ?_⟩
      refine lc_tup (xs := l.map V.str) (fun i H4 => Same H H4 ∧ H4 D = some (.lst ((List.replicate i true).map V.bl)))
        ⟨same_upd nD, by rw [upd_same]; rfl⟩ (fun i H4 hi hp4 => sqt (hp4.1 _ _ hp)) (fun i x H4 hx hp4 => ?_) (fun H4 hp4 => ?_)
      · obtain ⟨sm, hD⟩ := hp4
        obtain ⟨z, hz, rfl⟩ := get_map' hx
        have nz := hl.nm z (List.mem_of_getElem? hz)
        refine ⟨rfl, .str z, rfl, z, rfl, nm_line nz, _, hD, ?_, ?_, ?_⟩
        · rw [List.length_map, List.length_replicate]
          have := get_lt hz
          have := hl.len
          exact small1000 (by omega)
        · intro b u e
          rw [upd_ne (ne_of_none e nD)]
          exact sm _ _ e
        · rw [upd_same, nz, List.replicate_succ', List.map_append]
          rfl
      · obtain ⟨sm, hD⟩ := hp4
        refine ⟨D, List.replicate (l.map V.str).length true, rfl, sql hD, ?_⟩
        have e : (List.replicate (l.map V.str).length true).all id = true := by simp
        rw [e]
        exact q _ sm
theorem scCheckLog : FnScope ["value"] ["value"] (defScope sCheckLog) := ⟨rfl, rfl, rfl, by decide +kernel, rfl, by decide +kernel, by decide +kernel⟩
def spCheckLog : Sp := fun vs H Q _ => ∃ (p : Addr) (l : List Str), vs = [.ref p] ∧ Tp H p l ∧ Lg l ∧ ∀ H', Same H H' → Q .non H'
theorem ok_checkLog {f : Addr} {fd : FuncData} {k : Nat} (F : Fun K "check_log" "check_log" sCheckLog f fd) (C1 : Cal P w K mg base k "is_any_log" ["value"] spIsAnyLog) :
    FnOk P w K mg base CX0 (k + 1) f fd ["value"] spCheckLog := by
  obtain ⟨f1, fd1, G1, g1, kp1, b1⟩ := C1
  refine F.ok scCheckLog (fun vs H Q E h => ?_) (fun cdv A outer s H vs Q E hr h => ?_)
  · obtain ⟨p, l, rfl, _⟩ := h
    rfl
  · obtain ⟨p, l, rfl, hp, hl, q⟩ := h
    refine ⟨_, pss_one (ps_if (pt_not (pt_val (pe_call G1 hr (by rfl) g1 kp1 b1 .nil pass0 (pa_cons (pv 0) pa_nil)))) (pss_one ps_never) pss_nil), ?_⟩
    exact ⟨_, rfl, p, l, rfl, hp, hl, fun H' sm => ⟨_, rfl, iteF (q H' sm)⟩⟩
end
end Sfl

namespace Sfl
open PySem PySem.Spec PyProof.Rows L2
/-- dice stand at a: three numbers, the last one counts the rolls -/
def Dc (H : Hp) (a : Addr) (m : Nat) : Prop := ∃ i j k : Int, H a = some (.lst [.int i, .int j, .int k]) ∧ 0 ≤ k ∧ k ≤ (m : Int)
theorem Dc.mono {H : Hp} {a : Addr} {m n : Nat} (d : Dc H a m) (h : m ≤ n) : Dc H a n := by
  obtain ⟨i, j, k, e, h0, h1⟩ := d
  exact ⟨i, j, k, e, h0, by omega⟩
theorem Dc.same {H H' : Hp} {a : Addr} {m : Nat} (d : Dc H a m) (s : Same H H') : Dc H' a m := by
  obtain ⟨i, j, k, e, h0, h1⟩ := d
  exact ⟨i, j, k, s _ _ e, h0, h1⟩
theorem Dc.ne {H : Hp} {a p : Addr} {m : Nat} {xs : List V} (d : Dc H a m) (h : H p = some (.tup xs)) : p ≠ a := by
  obtain ⟨i, j, k, e, h0, h1⟩ := d
  exact ne_of h e (by intro z; cases z)
theorem Dc.new {H : Hp} {a p : Addr} {m : Nat} (d : Dc H a m) (h : H p = none) : p ≠ a := by
  obtain ⟨i, j, k, e, h0, h1⟩ := d
  exact (ne_of_none e h).symm
theorem Kp.tup {a p : Addr} {H H' : Hp} {m : Nat} {xs : List V} (x : Kp a H H') (d : Dc H a m) (h : H p = some (.tup xs)) : H' p = some (.tup xs) := x p _ (d.ne h) h
theorem Kp.new {a p : Addr} {H H' : Hp} {m : Nat} (x : Kp a H H') (d : Dc H a m) (h : H' p = none) (hp : p ≠ a) : H p = none := by
  cases e : H p with
  | none => rfl
  | some o =>
    have := x p o hp e
    rw [h] at this
    cases this
def mmax : Nat := 1000000
theorem two_bound {q one k : Int} {m : Nat} (h0 : 0 ≤ q) (h1 : q < 18014398509481951) (h2 : 0 ≤ one) (h3 : one < 36028797018963913) (h4 : 0 ≤ k) (h5 : k ≤ (m : Int)) (h6 : m ≤ mmax + 1) :
    (q * one + 374761393 * k).natAbs < 2 ^ 200 := by
  have a1 : q * one ≤ 18014398509481951 * 36028797018963913 := Int.mul_le_mul (by omega) (by omega) h2 (by omega)
  have a2 : 0 ≤ q * one := Int.mul_nonneg h0 h2
  have h6' : m ≤ 1000001 := h6
  have e : (2 : Nat) ^ 200 = 1606938044258990275541962092341162602522202993782792835301376 := by decide +kernel
  rw [e]
  omega
section
variable {P : Program} {w : World} {K : PySem.W.Frag} {mg : Str → Option Value} {base : Heap}
theorem scRoll : FnScope ["dice", "size", "found", "one", "two"] ["dice", "size"] (defScope sRoll) := ⟨rfl, rfl, rfl, by decide +kernel, rfl, by decide +kernel, by decide +kernel⟩
def spRoll : Sp := fun vs H Q _ => ∃ (a : Addr) (n : Int) (m : Nat), vs = [.ref a, .int n] ∧ Dc H a m ∧ m ≤ mmax ∧ 0 < n ∧ n < 1073741824 ∧
  ∀ H' r, Kp a H H' → Dc H' a (m + 1) → 0 ≤ r → r < n → Q (.int r) H'
theorem ok_roll {f : Addr} {fd : FuncData} {k : Nat} (F : Fun K "_law_roll" "_law_roll" sRoll f fd) (B : Bn mg) : FnOk P w K mg base CX0 (k + 1) f fd ["dice", "size"] spRoll := by
  refine F.ok scRoll (fun vs H Q E h => ?_) (fun cdv A outer s H vs Q E hr h => ?_)
  · obtain ⟨a, n, m, rfl, _⟩ := h
    rfl
  · obtain ⟨a, n, m, rfl, hd, hm, hn0, hn1, q⟩ := h
    obtain ⟨i, j, kk, ha, hk0, hk1⟩ := id hd
    refine ⟨_, pss_cons (ps_if (pt_cmpR op_gt (pe_ix ix_list (pv 0) pe_int (fun _ _ => rfl)) pe_int (nomark _))
        (pss_cons (ps_set (i := 2) scRoll.nd rfl (.inl rfl) (pe_op op_mod (pe_callTy call_int1 (by rfl) B.int (by decide +kernel) (pa_cons (pe_ix ix_list (pv 0) pe_int (fun _ _ => rfl)) pa_nil)) (pv 1)))
        (pss_cons (ps_asg (pe_op op_fdivN (pe_ix ix_list (pv 0) pe_int (fun _ _ => rfl)) (pv 1)) (pg_sub (pv 0) pe_int set_list))
        (pss_one (ps_ret (pv 2))))) pss_nil)
      (pss_cons (ps_asg (pe_op op_add (pe_ix ix_list (pv 0) pe_int (fun _ _ => rfl)) pe_int) (pg_sub (pv 0) pe_int set_list))
      (pss_cons (ps_set (i := 3) scRoll.nd rfl (.inl rfl) (pe_op op_mod (pe_callTy call_int1 (by rfl) B.int (by decide +kernel) (pa_cons (pe_op op_add (pe_ix ix_list (pv 0) pe_int (fun _ _ => rfl)) (pe_op op_mul pe_int (pe_ix ix_list (pv 0) pe_int (fun _ _ => rfl)))) pa_nil)) pe_int))
      (pss_cons (ps_set (i := 4) scRoll.nd rfl (.inl rfl) (pe_op op_add (pe_op op_mul (pe_op op_mod (pe_callTy call_int1 (by rfl) B.int (by decide +kernel) (pa_cons (pe_op op_mul (pv 3) (pv 3)) pa_nil)) pe_int) (pv 3)) (pe_op op_mul pe_int (pe_ix ix_list (pv 0) pe_int (fun _ _ => rfl)))))
      (pss_one (ps_ret (pe_op op_mod (pe_callTy call_int1 (by rfl) B.int (by decide +kernel) (pa_cons (pe_op op_fdiv (pe_op op_mod (pe_callTy call_int1 (by rfl) B.int (by decide +kernel) (pa_cons (pe_op op_add (pe_op op_mulW (pv 4) (pv 4)) (pe_ix ix_list (pv 0) pe_int (fun _ _ => rfl))) pa_nil)) pe_int) pe_int) pa_nil)) (pv 1))))))), ?_⟩
    have at0 : ∀ x y z : V, atI [x, y, z] 0 = some x := fun _ _ _ => rfl
    have at1 : ∀ x y z : V, atI [x, y, z] 1 = some y := fun _ _ _ => rfl
    have at2 : ∀ x y z : V, atI [x, y, z] 2 = some z := fun _ _ _ => rfl
    refine ⟨.ref a, rfl, a, _, 0, _, rfl, rfl, sql ha, at0 _ _ _, i, 0, rfl, rfl, _, rfl, ite2 (fun hc => ?_) (fun hc => ?_)⟩
    · refine ⟨.ref a, rfl, a, _, 0, _, rfl, rfl, sql ha, at0 _ _ _, .inl ⟨i, rfl, .int n, rfl, i, n, rfl, rfl, hn0, ?_⟩⟩
      refine ⟨.ref a, rfl, a, _, 0, _, rfl, rfl, sql ha, at0 _ _ _, .int n, rfl, i, n, rfl, rfl, ⟨by omega, by omega⟩, ?_⟩
      refine ⟨.ref a, rfl, a, _, 0, 0, rfl, rfl, ha, rfl, .int (i % n), rfl, ?_⟩
      exact q _ _ kp_upd ⟨_, j, kk, upd_same, hk0, by omega⟩ (Int.emod_nonneg _ (by omega)) (Int.emod_lt_of_pos _ hn0)
    · refine ⟨.ref a, rfl, a, _, 2, _, rfl, rfl, sql ha, at2 _ _ _, kk, 1, rfl, rfl, .ref a, rfl, a, _, 2, 2, rfl, rfl, ha, rfl, ?_⟩
      generalize hH2 : upd H a _ = H2
      have h2 : H2 a = some (.lst [.int i, .int j, .int (kk + 1)]) := by
        rw [← hH2]
        exact upd_same
      have k2 : Kp a H H2 := by
        rw [← hH2]
        exact kp_upd
      refine ⟨.ref a, rfl, a, _, 1, _, rfl, rfl, sql h2, at1 _ _ _, .ref a, rfl, a, _, 2, _, rfl, rfl, sql h2, at2 _ _ _, _, _, rfl, rfl, .inl (by decide), _, _, rfl, rfl, .inl ⟨_, rfl, _, _, rfl, rfl, (show (0 : Int) < 36028797018963913 by decide), ?_⟩⟩
      generalize ho : (j + 1442695041 * (kk + 1)) % 36028797018963913 = one
      have o0 : 0 ≤ one := by rw [← ho]; exact Int.emod_nonneg _ (by decide)
      have o1 : one < 36028797018963913 := by rw [← ho]; exact Int.emod_lt_of_pos _ (by decide)
      refine ⟨.int one, (by rw [← ho]; rfl), .int one, (by rw [← ho]; rfl), one, one, rfl, rfl, .inl ⟨by omega, by omega⟩, .inl ⟨_, rfl, _, _, rfl, rfl, (show (0 : Int) < 18014398509481951 by decide), ?_⟩⟩
      generalize hqq : (one * one) % 18014398509481951 = qq
      have q0 : 0 ≤ qq := by rw [← hqq]; exact Int.emod_nonneg _ (by decide)
      have q1 : qq < 18014398509481951 := by rw [← hqq]; exact Int.emod_lt_of_pos _ (by decide)
      refine ⟨.int one, (by rw [← ho]; rfl), qq, one, (by rw [← hqq]), rfl, .inl ⟨by omega, by omega⟩, .ref a, rfl, a, _, 2, _, rfl, rfl, sql h2, at2 _ _ _, _, _, rfl, rfl, .inl (by decide), _, _, rfl, rfl, ?_⟩
      have hb := two_bound (m := m + 1) q0 q1 o0 o1 (show 0 ≤ kk + 1 by omega) (by omega) (by omega)
      generalize ht : qq * one + 374761393 * (kk + 1) = two at hb
      refine ⟨.int two, (by rw [← ht, ← hqq, ← ho]; rfl), .int two, (by rw [← ht, ← hqq, ← ho]; rfl), two, two, rfl, rfl, wide_mul hb hb (by decide) (by decide) (by decide), .ref a, rfl, a, _, 1, _, rfl, rfl, sql h2, at1 _ _ _, _, _, rfl, rfl, .inl ⟨_, rfl, _, _, rfl, rfl, (show (0 : Int) < 1125899906842597 by decide), _, _, rfl, rfl, (show (0 : Int) < 1024 ∧ (1024 : Int) < 1073741824 by decide), .inl ⟨_, rfl, .int n, rfl, _, n, rfl, rfl, hn0, ?_⟩⟩⟩
      exact q _ _ k2 ⟨_, _, _, h2, by omega, by omega⟩ (Int.emod_nonneg _ (by omega)) (Int.emod_lt_of_pos _ hn0)
end
end Sfl

namespace Sfl
open PySem PySem.Spec PyProof.Rows L2
theorem pow_a : L2.CPow 10 61 := ⟨by decide, by decide, by decide⟩
theorem pow_b : L2.CPow 10 18 := ⟨by decide, by decide, by decide⟩
theorem pow_ok : CPowW ((10 : Int) ^ (61 : Int).toNat) 11 := by
  constructor <;> decide +kernel
theorem pow_pos11 : (0 : Int) < ((10 : Int) ^ (61 : Int).toNat) ^ (11 : Int).toNat := by decide +kernel
section
variable {P : Program} {w : World} {K : PySem.W.Frag} {mg : Str → Option Value} {base : Heap}
theorem scDice : FnScope ["script", "spot", "cell", "great", "mixed"] ["script", "spot"] (defScope sDice) := ⟨rfl, rfl, rfl, by decide +kernel, rfl, by decide +kernel, by decide +kernel⟩
def spDice (K : PySem.W.Frag) : Sp := fun vs H Q _ => ∃ (sc : Addr) (ns : List Int) (i : Nat), vs = [.ref sc, .int (i : Nat)] ∧ SqL K H sc (ns.map V.int) ∧ i ≤ 100 ∧
  ∀ H' p, Same H H' → H p = none → Dc H' p 0 → Q (.ref p) H'
theorem ok_dice {f : Addr} {fd : FuncData} {k : Nat} (F : Fun K "_law_dice" "_law_dice" sDice f fd) (B : Bn mg) : FnOk P w K mg base CX0 (k + 1) f fd ["script", "spot"] (spDice K) := by
  refine F.ok scDice (fun vs H Q E h => ?_) (fun cdv A outer s H vs Q E hr h => ?_)
  · obtain ⟨sc, ns, i, rfl, _⟩ := h
    rfl
  · obtain ⟨sc, ns, i, rfl, hs, hi, q⟩ := h
    refine ⟨_, pss_cons (ps_set (i := 2) scDice.nd rfl (.inl rfl) (pe_ifExp (pt_cmpR op_lt (pv 1) (pe_callB call_len_seq (by rfl) B.len PySem.boot_len (pa_cons (pv 0) pa_nil)) (nomark _))
          (pe_ix ix_list (pv 0) (pv 1) (fun _ _ => rfl)) (pe_op op_add (pe_op op_mul pe_int (pv 1)) pe_int)))
      (pss_cons (ps_set (i := 3) scDice.nd rfl (.inl rfl) (pe_op op_mod (pe_callTy call_int1 (by rfl) B.int (by decide +kernel) (pa_cons (pe_callB call_abs (by rfl) B.abs (by decide +kernel) (pa_cons (pv 2) pa_nil)) pa_nil))
          (pe_op op_powW (pe_op op_pow pe_int pe_int) pe_int)))
      (pss_cons (ps_set (i := 4) scDice.nd rfl (.inl rfl) (pe_op op_add (pe_op op_add (pe_op op_add (pe_op op_mul (pv 3) pe_int) (pe_op op_mul pe_int (pv 1)))
          (pe_op op_mul pe_int (pe_callTy call_int1 (by rfl) B.int (by decide +kernel) (pa_cons (pe_cmpR op_lt (pv 2) pe_int (nomark _)) pa_nil)))) pe_int))
      (pss_cons (ps_set (i := 4) scDice.nd rfl (.inl rfl) (pe_op op_mod (pe_callTy call_int1 (by rfl) B.int (by decide +kernel) (pa_cons (pv 4) pa_nil)) pe_int))
      (pss_one (ps_ret (pe_lst (pa_cons (pe_callB (call_max2 rfl) (by rfl) B.max (by decide +kernel) (pa_cons pe_int (pa_cons (pe_op op_add (pe_op op_sub (pv 3) (pe_op op_pow pe_int pe_int)) pe_int) pa_nil))) (pa_cons (pv 4) (pa_cons pe_int pa_nil))))))))), ?_⟩
    refine ⟨.int (i : Nat), rfl, .ref sc, rfl, sc, _, rfl, .inl hs, _, _, rfl, rfl, _, rfl, ?_⟩
    rw [List.length_map]
    refine ite2 (fun hc => ?_) (fun hc => ?_)
    · have hlt : i < ns.length := by
        have := of_decide_eq_true hc
        omega
      refine ⟨.ref sc, rfl, .int (i : Nat), rfl, sc, _, _, .int ns[i], rfl, rfl, hs, atI_nat (get_map hlt), ?_⟩
      refine ⟨.int ns[i], rfl, ns[i], rfl, .inl ⟨_, rfl, 10, 61, rfl, rfl, pow_a, _, 11, rfl, rfl, pow_ok, _, _, rfl, rfl, pow_pos11, ?_⟩⟩
      refine ⟨_, rfl, _, _, rfl, rfl, .inr ⟨by decide, by decide⟩, .int (i : Nat), rfl, _, _, rfl, rfl, .inl ⟨by decide, by decide⟩, _, _, rfl, rfl, .int ns[i], rfl, _, _, rfl, rfl, .inr ⟨_, rfl, _, _, rfl, rfl, .inl ⟨by decide, by decide⟩, _, _, rfl, rfl, _, _, rfl, rfl, ?_⟩⟩
      refine ⟨_, rfl, .inl ⟨_, rfl, _, _, rfl, rfl, (show (0 : Int) < 2305843009213693951 by decide), ?_⟩⟩
      refine ⟨_, rfl, 10, 18, rfl, rfl, pow_b, _, _, rfl, rfl, _, _, rfl, rfl, _, _, rfl, _, rfl, (show 3 ≤ sizeLine by decide), fun p hp => ?_⟩
      exact q _ p (same_upd hp) hp ⟨_, _, 0, upd_same, by decide, by decide⟩
    · refine ⟨.int (i : Nat), rfl, 31, _, rfl, rfl, .inl ⟨by decide, by decide⟩, _, _, rfl, rfl, ?_⟩
      refine ⟨_, rfl, _, rfl, .inl ⟨_, rfl, 10, 61, rfl, rfl, pow_a, _, 11, rfl, rfl, pow_ok, _, _, rfl, rfl, pow_pos11, ?_⟩⟩
      refine ⟨_, rfl, _, _, rfl, rfl, .inr ⟨by decide, by decide⟩, .int (i : Nat), rfl, _, _, rfl, rfl, .inl ⟨by decide, by decide⟩, _, _, rfl, rfl, _, rfl, _, _, rfl, rfl, .inr ⟨_, rfl, _, _, rfl, rfl, .inl ⟨by decide, by decide⟩, _, _, rfl, rfl, _, _, rfl, rfl, ?_⟩⟩
      refine ⟨_, rfl, .inl ⟨_, rfl, _, _, rfl, rfl, (show (0 : Int) < 2305843009213693951 by decide), ?_⟩⟩
      refine ⟨_, rfl, 10, 18, rfl, rfl, pow_b, _, _, rfl, rfl, _, _, rfl, rfl, _, _, rfl, _, rfl, (show 3 ≤ sizeLine by decide), fun p hp => ?_⟩
      exact q _ p (same_upd hp) hp ⟨_, _, 0, upd_same, by decide, by decide⟩
end
end Sfl

namespace Sfl
open PySem PySem.Spec PyProof.Rows L2
section
variable {P : Program} {w : World} {K : PySem.W.Frag} {mg : Str → Option Value} {base : Heap}
/-! ### _law_pick -/
theorem scPick : FnScope ["dice", "items"] ["dice", "items"] (defScope sPick) := ⟨rfl, rfl, rfl, by decide +kernel, rfl, by decide +kernel, by decide +kernel⟩
def spPick : Sp := fun vs H Q _ => ∃ (a it : Addr) (xs : List V) (m : Nat), vs = [.ref a, .ref it] ∧ Dc H a m ∧ m ≤ mmax ∧ It' H it xs ∧ it ≠ a ∧ 0 < xs.length ∧ xs.length ≤ 1000 ∧
  ∀ (H' : Hp) (i : Nat) (x : V), xs[i]? = some x → Kp a H H' → Dc H' a (m + 1) → Q x H'
theorem ok_pick {f : Addr} {fd : FuncData} {k : Nat} (F : Fun K "_law_pick" "_law_pick" sPick f fd) (B : Bn mg) (C1 : Cal P w K mg base k "_law_roll" ["dice", "size"] spRoll) :
    FnOk P w K mg base CX0 (k + 1) f fd ["dice", "items"] spPick := by
  obtain ⟨f1, fd1, G1, g1, kp1, b1⟩ := C1
  refine F.ok scPick (fun vs H Q E h => ?_) (fun cdv A outer s H vs Q E hr h => ?_)
  · obtain ⟨a, it, xs, m, rfl, _⟩ := h
    rfl
  · obtain ⟨a, it, xs, m, rfl, hd, hm, hit, hne, h0, h1, q⟩ := h
    refine ⟨_, pss_one (ps_ret (pe_ix ix_seq (pv 1) (pe_call G1 hr (by rfl) g1 kp1 b1 .nil pass0 (pa_cons (pv 0) (pa_cons (pe_callB call_len_seq (by rfl) B.len PySem.boot_len (pa_cons (pv 1) pa_nil)) pa_nil))) (fun _ _ => rfl))), ?_⟩
    refine ⟨.ref it, rfl, .ref a, rfl, .ref it, rfl, it, xs, rfl, hit.sq, a, _, m, rfl, hd, hm, by omega, by omega, fun H' r hk hd' r0 r1 => ?_⟩
    have hlt : r.toNat < xs.length := by omega
    have er : r = ((r.toNat : Nat) : Int) := by omega
    rw [er]
    exact (hit.kp hk hne).ix (List.getElem?_eq_getElem hlt) (q H' _ _ (List.getElem?_eq_getElem hlt) hk hd')
/-! ### _law_mixed, of texts -/
theorem scMixed : FnScope ["dice", "items", "left", "found"] ["dice", "items"] (defScope sMixed) := ⟨rfl, rfl, rfl, by decide +kernel, rfl, by decide +kernel, by decide +kernel⟩
def spMixed : Sp := fun vs H Q _ => ∃ (a it : Addr) (l : List Str) (m : Nat), vs = [.ref a, .ref it] ∧ Dc H a m ∧ m + l.length ≤ mmax ∧ It' H it (l.map V.str) ∧ it ≠ a ∧ l.length ≤ 1000 ∧ (∀ z ∈ l, PyData.strOk z = true) ∧
  ∀ H' p r, List.Perm r l → Kp a H H' → Dc H' a (m + l.length) → H p = none → H' p = some (.lst (r.map V.str)) → Q (.ref p) H'
theorem erase_perm : ∀ {α : Type} {l : List α} {k : Nat} {x : α}, l[k]? = some x → List.Perm (x :: l.eraseIdx k) l
  | _, [], k, x, h => by simp at h
  | _, y :: r, 0, x, h => by
    have e : y = x := Option.some.inj h
    subst e
    exact List.Perm.refl _
  | _, y :: r, k + 1, x, h => by
    have ih := erase_perm (l := r) (k := k) (x := x) h
    show List.Perm (x :: y :: r.eraseIdx k) (y :: r)
    exact (List.Perm.swap y x _).trans (List.Perm.cons y ih)
theorem map_erase {α β : Type} (f : α → β) : ∀ (l : List α) (k : Nat), (l.map f).eraseIdx k = (l.eraseIdx k).map f
  | [], _ => rfl
  | _ :: _, 0 => rfl
  | x :: r, k + 1 => by
    show f x :: (r.map f).eraseIdx k = f x :: (r.eraseIdx k).map f
    rw [map_erase f r k]
theorem ok_mixed {f : Addr} {fd : FuncData} {k : Nat} (F : Fun K "_law_mixed" "_law_mixed" sMixed f fd) (B : Bn mg) (C1 : Cal P w K mg base k "_law_roll" ["dice", "size"] spRoll) :
    FnOk P w K mg base CX0 (k + 1) f fd ["dice", "items"] spMixed := by
  obtain ⟨f1, fd1, G1, g1, kp1, b1⟩ := C1
  refine F.ok scMixed (fun vs H Q E h => ?_) (fun cdv A outer s H vs Q E hr h => ?_)
  · obtain ⟨a, it, l, m, rfl, _⟩ := h
    rfl
  · obtain ⟨a, it, l, m, rfl, hd, hm, hit, hne, hlen, hok, q⟩ := h
    refine ⟨_, pss_cons (ps_par (i := 2) (j := 3) (by rfl) scMixed.nd rfl rfl (by decide) rfl rfl (pa_cons (pe_callTy call_list_of (by rfl) B.list (by decide +kernel) (pa_cons (pv 1) pa_nil)) (pa_cons (pe_lst pa_nil) pa_nil)) (by rfl))
      (pss_cons (ps_while PassesOwn.never (pt_cmpR (op_neD hr.units) (pv 2) (pe_lst pa_nil) (nomark _))
        (pss_one (ps_expr (pe_bm PySem.F.plainAttrs_list PySem.F.slot_list_append PySem.F.type_list_append mt_append (pv 3) (pa_cons
          (pe_bm PySem.F.plainAttrs_list PySem.F.slot_list_pop PySem.F.type_list_pop mt_popAt (pv 2) (pa_cons
            (pe_call G1 hr (by rfl) g1 kp1 b1 .nil pass0 (pa_cons (pv 0) (pa_cons (pe_callB call_len_seq (by rfl) B.len PySem.boot_len (pa_cons (pv 2) pa_nil)) pa_nil))) pa_nil)) pa_nil)))))
      (pss_one (ps_ret (pv 3)))), ?_⟩
    refine ⟨.ref it, rfl, it, l.map V.str, rfl, hit.sq, fun lf nlf => ⟨Nat.zero_le _, fun fo nfo => ⟨_, _, rfl, ?_⟩⟩⟩
    have nla : lf ≠ a := hd.new nlf
    have s1 := same_upd (o := .lst (l.map V.str)) nlf
    have s2 := s1.trans (same_upd (o := .lst []) nfo)
    have nfa : fo ≠ a := (hd.same s1).new nfo
    have nlo : lf ≠ fo := ne_of_none upd_same nfo
    refine while_by (fun σ H3 => ∃ (lf' r : List Str), σ = [some (.ref a), some (.ref it), some (.ref lf), some (.ref fo)] ∧ H3 lf = some (.lst (lf'.map V.str)) ∧ H3 fo = some (.lst (r.map V.str)) ∧
        List.Perm (r ++ lf') l ∧ Kp a H H3 ∧ Dc H3 a (m + r.length))
      (fun _ H3 => match H3 lf with
        | some (.lst xs) => xs.length
        | _ => 0) ?_ ?_ ?_
    · refine ⟨l, [], rfl, ?_, upd_same, List.Perm.refl _, Kp.of s2, (hd.same s2).mono (Nat.le_add_right _ _)⟩
      rw [upd_ne nlo, upd_same]
    · rintro σ H3 ⟨lf', r, rfl, hl3, hf3, hp, hk, hd3⟩
      have hpl := hp.length_eq
      rw [List.length_append] at hpl
      have hok' : ∀ z ∈ lf', PyData.strOk z = true := fun z hz => hok z (hp.subset (List.mem_append_right _ hz))
      refine ⟨.ref lf, rfl, Nat.zero_le _, fun t nt => ?_⟩
      have s4 := same_upd (o := .lst []) nt
      refine ⟨_, _, .lst (sql (s4 _ _ hl3)) (all_strs lf'), .lst (sql upd_same) .nil, shL (flat_strs lf' hok'), rfl, _, rfl, ?_⟩
      cases lf' with
      | nil =>
        refine iteF ⟨.ref fo, rfl, ?_⟩
        rw [List.append_nil] at hp
        refine q _ fo r hp (hk.trans (Kp.of s4)) ?_ (s1.free nfo) (s4 _ _ hf3)
        have := (hd3.same s4)
        rw [hp.length_eq] at this
        exact this
      | cons x rest =>
        refine iteT ⟨.ref fo, rfl, .inl ⟨rfl, _, .inl (.inl (s4 _ _ hf3))⟩, .ref lf, rfl, .inl ⟨rfl, _, .inl (.inl (s4 _ _ hl3))⟩, ?_⟩
        refine ⟨.ref a, rfl, .ref lf, rfl, lf, _, rfl, .inl (sql (s4 _ _ hl3)), a, _, _, rfl, hd3.same s4, ?_, ?_, ?_, fun H5 i hk5 hd5 i0 i1 => ?_⟩
        · rw [List.length_cons] at hpl
          omega
        · rw [List.length_map, List.length_cons]
          omega
        · rw [List.length_map]
          rw [List.length_cons] at hpl ⊢
          omega
        rw [List.length_map] at i1
        have hlt : i.toNat < (x :: rest).length := by omega
        have hl5 := hk5 _ _ nla (s4 _ _ hl3)
        have hf5 := hk5 _ _ nfa (s4 _ _ hf3)
        generalize hall : x :: rest = all at *
        have hy : all[i.toNat]? = some all[i.toNat] := List.getElem?_eq_getElem hlt
        refine ⟨lf, _, i, i.toNat, .str all[i.toNat], rfl, rfl, hl5, by omega, by omega, ?_, ?_, ?_⟩
        · rw [List.length_map]
          unfold seqIndex?
          rw [if_neg (show ¬ i < 0 by omega)]
          show (if (decide (0 ≤ i) && decide (i < all.length)) = true then some i.toNat else none) = some i.toNat
          rw [decide_eq_true i0, decide_eq_true (show i < (all.length : Int) by omega)]
          rfl
        · exact get_map hlt
        · have hf6 : (upd H5 lf (.lst ((all.map V.str).eraseIdx i.toNat))) fo = some (.lst (r.map V.str)) := by
            rw [upd_ne nlo.symm]
            exact hf5
          refine ⟨fo, _, _, rfl, rfl, hf6, ?_, ?_, ?_⟩
          · rw [List.length_map]
            exact small1000 (by omega)
          · refine ⟨all.eraseIdx i.toNat, r ++ [all[i.toNat]], rfl, ?_, ?_, ?_, ?_, ?_⟩
            · rw [upd_ne nlo, upd_same, map_erase]
            · rw [upd_same, List.map_append]
              rfl
            · rw [List.append_assoc]
              exact ((erase_perm hy).append_left r).trans hp
            · intro b o nb e
              have n1 : b ≠ fo := ne_of_none (s1 _ _ e) nfo
              have n2 : b ≠ lf := ne_of_none e nlf
              rw [upd_ne n1, upd_ne n2]
              exact hk5 _ _ nb (s4 _ _ (hk _ _ nb e))
            · obtain ⟨u1, u2, u3, e, v0, v1⟩ := hd5
              refine ⟨u1, u2, u3, ?_, v0, ?_⟩
              · rw [upd_ne nfa.symm, upd_ne nla.symm]
                exact e
              · rw [List.length_append]
                show u3 ≤ ((m + (r.length + 1) : Nat) : Int)
                omega
          · rw [upd_ne nlo, upd_same, hl3]
            show ((all.map V.str).eraseIdx i.toNat).length < (all.map V.str).length
            rw [List.length_eraseIdx, List.length_map, if_pos hlt]
            omega
    · intro σ H3 Q1 Q2 hm h
      obtain ⟨v, e1, h1, h2⟩ := h
      refine ⟨v, e1, h1, fun p hp => ?_⟩
      obtain ⟨d, e, c1, c2, c3, c4, k', c5, c6⟩ := h2 p hp
      exact ⟨d, e, c1, c2, c3, c4, k', c5, hm _ _ c6⟩
end
end Sfl

namespace Sfl
open PySem PySem.Spec PyProof.Rows L2
structure Pool (l : List Str) : Prop where
  len : l.length = 4
  nm : ∀ z ∈ l, Nm z = true
  nd : l.Nodup
theorem pool1 : Pool ["a", "b", "c", "d"] := ⟨rfl, by decide +kernel, by decide +kernel⟩
theorem pool2 : Pool ["a", "ab", "b", "ba"] := ⟨rfl, by decide +kernel, by decide +kernel⟩
theorem pool3 : Pool ["log", "logs", "none", "yes"] := ⟨rfl, by decide +kernel, by decide +kernel⟩
theorem pool4 : Pool ["p", "q", "zzzzzzzz", "r"] := ⟨rfl, by decide +kernel, by decide +kernel⟩
/-- letters as they are drawn -/
structure Lt (ls : List Str) (top : Nat) : Prop where
  pos : 0 < ls.length
  len : ls.length ≤ top
  le4 : ls.length ≤ 4
  nm : ∀ z ∈ ls, Nm z = true
  nd : ls.Nodup
  so : sortedS ls = true
theorem pool_of {H : Hp} {t1 t2 t3 t4 : Addr} {i : Nat} {x : V} (h1 : Tp H t1 ["a", "b", "c", "d"]) (h2 : Tp H t2 ["a", "ab", "b", "ba"]) (h3 : Tp H t3 ["log", "logs", "none", "yes"]) (h4 : Tp H t4 ["p", "q", "zzzzzzzz", "r"])
    (h : [V.ref t1, .ref t2, .ref t3, .ref t4][i]? = some x) : ∃ t l, x = .ref t ∧ Tp H t l ∧ Pool l := by
  match i, h with
  | 0, h => exact ⟨t1, _, (Option.some.inj h).symm, h1, pool1⟩
  | 1, h => exact ⟨t2, _, (Option.some.inj h).symm, h2, pool2⟩
  | 2, h => exact ⟨t3, _, (Option.some.inj h).symm, h3, pool3⟩
  | 3, h => exact ⟨t4, _, (Option.some.inj h).symm, h4, pool4⟩
theorem int_of {i : Nat} {x : V} (h : [V.int 0, .int 1, .int 1, .int 1, .int 2, .int 2, .int 3][i]? = some x) : ∃ j : Nat, x = .int (j : Nat) ∧ j ≤ 3 := by
  match i, h with
  | 0, h => exact ⟨0, (Option.some.inj h).symm, by decide⟩
  | 1, h => exact ⟨1, (Option.some.inj h).symm, by decide⟩
  | 2, h => exact ⟨1, (Option.some.inj h).symm, by decide⟩
  | 3, h => exact ⟨1, (Option.some.inj h).symm, by decide⟩
  | 4, h => exact ⟨2, (Option.some.inj h).symm, by decide⟩
  | 5, h => exact ⟨2, (Option.some.inj h).symm, by decide⟩
  | 6, h => exact ⟨3, (Option.some.inj h).symm, by decide⟩
section
variable {P : Program} {w : World} {K : PySem.W.Frag} {mg : Str → Option Value} {base : Heap}
theorem scLetters : FnScope ["dice", "top", "pools", "pool"] ["dice", "top"] (defScope sLetters) := ⟨rfl, rfl, rfl, by decide +kernel, rfl, by decide +kernel, by decide +kernel⟩
def spLetters : Sp := fun vs H Q _ => ∃ (a : Addr) (top m : Nat), vs = [.ref a, .int (top : Nat)] ∧ Dc H a m ∧ m + 6 ≤ mmax ∧ 1 ≤ top ∧ top ≤ 4 ∧
  ∀ H' p ls, Lt ls top → Kp a H H' → Dc H' a (m + 6) → H p = none → Tp H' p ls → Q (.ref p) H'
theorem ok_letters {f : Addr} {fd : FuncData} {k : Nat} (F : Fun K "_law_letters" "_law_letters" sLetters f fd) (B : Bn mg)
    (C1 : Cal P w K mg base k "_law_pick" ["dice", "items"] spPick) (C2 : Cal P w K mg base k "_law_mixed" ["dice", "items"] spMixed) :
    FnOk P w K mg base CX0 (k + 1) f fd ["dice", "top"] spLetters := by
  obtain ⟨f1, fd1, G1, g1, kp1, b1⟩ := C1
  obtain ⟨f2, fd2, G2, g2, kp2, b2⟩ := C2
  refine F.ok scLetters (fun vs H Q E h => ?_) (fun cdv A outer s H vs Q E hr h => ?_)
  · obtain ⟨a, top, m, rfl, _⟩ := h
    rfl
  · obtain ⟨a, top, m, rfl, hd, hm, ht1, ht4, q⟩ := h
    refine ⟨_, pss_cons (ps_set (i := 2) scLetters.nd rfl (.inl rfl) (pe_lst (pa_cons (pe_tup (pa_cons pe_str (pa_cons pe_str (pa_cons pe_str (pa_cons pe_str pa_nil)))))
          (pa_cons (pe_tup (pa_cons pe_str (pa_cons pe_str (pa_cons pe_str (pa_cons pe_str pa_nil)))))
          (pa_cons (pe_tup (pa_cons pe_str (pa_cons pe_str (pa_cons pe_str (pa_cons pe_str pa_nil))))) pa_nil)))))
      (pss_cons (ps_set (i := 2) scLetters.nd rfl (.inl rfl) (pe_op op_cat (pv 2) (pe_lst (pa_cons (pe_tup (pa_cons pe_str (pa_cons pe_str (pa_cons pe_str (pa_cons pe_str pa_nil))))) pa_nil))))
      (pss_cons (ps_set (i := 3) scLetters.nd rfl (.inl rfl) (pe_call G2 hr (by rfl) g2 kp2 b2 .nil pass0 (pa_cons (pv 0) (pa_cons (pe_call G1 hr (by rfl) g1 kp1 b1 .nil pass0 (pa_cons (pv 0) (pa_cons (pv 2) pa_nil))) pa_nil))))
      (pss_one (ps_ret (pe_callTy call_tuple_of (by rfl) B.tuple (by decide +kernel) (pa_cons (pe_callB cr_sortedS (by rfl) B.sorted (by decide +kernel) (pa_cons
        (pe_slice sl_list (pv 3) po_none (po_some (pe_op op_add pe_int (pe_callB (call_min2 rfl) (by rfl) B.min (by decide +kernel) (pa_cons (pe_op op_sub (pv 1) pe_int)
          (pa_cons (pe_call G1 hr (by rfl) g1 kp1 b1 .nil pass0 (pa_cons (pv 0) (pa_cons (pe_lst (pa_cons pe_int (pa_cons pe_int (pa_cons pe_int (pa_cons pe_int (pa_cons pe_int (pa_cons pe_int (pa_cons pe_int pa_nil)))))))) pa_nil))) pa_nil)))))) pa_nil)) pa_nil)))))), ?_⟩
    have h4 : 4 ≤ sizeLine := by decide
    -- pools
    refine ⟨h4, fun t1 n1 => ⟨h4, fun t2 n2 => ⟨h4, fun t3 n3 => ⟨(show 3 ≤ sizeLine by decide), fun pl npl => ?_⟩⟩⟩⟩
    have s1 := same_upd (o := .tup [.str "a", .str "b", .str "c", .str "d"]) n1
    have s2 := same_upd (o := .tup [.str "a", .str "ab", .str "b", .str "ba"]) n2
    have s3 := same_upd (o := .tup [.str "log", .str "logs", .str "none", .str "yes"]) n3
    have s4 := same_upd (o := .lst [.ref t1, .ref t2, .ref t3]) npl
    have s14 := s1.trans (s2.trans (s3.trans s4))
    refine ⟨.ref pl, rfl, h4, fun t4 n4 => ⟨(show 1 ≤ sizeLine by decide), fun l1 nl1 => ?_⟩⟩
    have s5 := same_upd (o := .tup [.str "p", .str "q", .str "zzzzzzzz", .str "r"]) n4
    have s6 := same_upd (o := .lst [.ref t4]) nl1
    refine ⟨pl, l1, [.ref t1, .ref t2, .ref t3], [.ref t4], rfl, rfl, s6 _ _ (s5 _ _ upd_same), upd_same, h4, fun pp npp => ?_⟩
    have s7 := same_upd (o := .lst ([.ref t1, .ref t2, .ref t3] ++ [.ref t4])) npp
    have sA := s14.trans (s5.trans (s6.trans s7))
    have e1 := s7 _ _ (s6 _ _ (s5 _ _ (s4 _ _ (s3 _ _ (s2 _ _ (upd_same (H := H) (a := t1) (o := .tup [.str "a", .str "b", .str "c", .str "d"])))))))
    have e2 := s7 _ _ (s6 _ _ (s5 _ _ (s4 _ _ (s3 _ _ (upd_same (a := t2) (o := .tup [.str "a", .str "ab", .str "b", .str "ba"]))))))
    have e3 := s7 _ _ (s6 _ _ (s5 _ _ (s4 _ _ (upd_same (a := t3) (o := .tup [.str "log", .str "logs", .str "none", .str "yes"])))))
    have e4 := s7 _ _ (s6 _ _ (upd_same (a := t4) (o := .tup [.str "p", .str "q", .str "zzzzzzzz", .str "r"])))
    have dA := hd.same sA
    have npa : pp ≠ a := (hd.same (s14.trans (s5.trans s6))).new npp
    generalize hHA : upd _ pp _ = HA at *
    have epp : HA pp = some (.lst [.ref t1, .ref t2, .ref t3, .ref t4]) := by
      rw [← hHA]
      exact upd_same
    -- pool
    refine ⟨.ref a, rfl, .ref a, rfl, .ref pp, rfl, a, pp, _, m, rfl, dA, by omega, .inl epp, npa, (show 0 < 4 by decide), (show 4 ≤ 1000 by decide), fun HB i x hx kB dB => ?_⟩
    obtain ⟨t, l, rfl, ht, pl'⟩ := pool_of (kB.tup dA e1) (kB.tup dA e2) (kB.tup dA e3) (kB.tup dA e4) hx
    refine ⟨a, t, l, m + 1, rfl, dB, by rw [pl'.len]; omega, .inr ht, dB.ne ht, by rw [pl'.len]; decide, fun z hz => nm_ok (pl'.nm z hz), fun HC p r hp kC dC np hr => ?_⟩
    have npaC : p ≠ a := dB.new np
    rw [pl'.len] at dC
    -- the slice
    refine ⟨.ref p, rfl, ?_⟩
    refine ⟨.int (top : Nat), rfl, (top : Int), 1, rfl, rfl, .ref a, rfl, (show 7 ≤ sizeLine by decide), fun l7 nl7 => ?_⟩
    have s8 := same_upd (o := .lst [.int 0, .int 1, .int 1, .int 1, .int 2, .int 2, .int 3]) nl7
    refine ⟨a, l7, _, m + 1 + 4, rfl, dC.same s8, by omega, .inl upd_same, dC.new nl7, (show 0 < 7 by decide), (show 7 ≤ 1000 by decide), fun HD i2 x2 hx2 kD dD => ?_⟩
    obtain ⟨j, rfl, hj⟩ := int_of hx2
    have hpD := kD p _ npaC (s8 _ _ hr)
    generalize hkk : 1 + min (top - 1) j = kk
    refine ⟨_, _, rfl, 1, _, rfl, rfl, ((kk : Nat) : Int), ?_, p, _, rfl, sql hpD, fun p9 n9 => ?_⟩
    · show V.int (1 + (if ((j : Nat) : Int) < ((top : Nat) : Int) - 1 then ((j : Nat) : Int) else ((top : Nat) : Int) - 1)) = V.int ((kk : Nat) : Int)
      congr 1
      split <;> omega
    have hrl : r.length = 4 := hp.length_eq.trans pl'.len
    have hk1 : 1 ≤ kk := by omega
    have hkt : kk ≤ top := by omega
    have hk4 : kk ≤ 4 := by omega
    rw [cut_take _ _ (by rw [List.length_map, hrl]; exact hk4), ← List.map_take]
    refine ⟨p9, r.take kk, rfl, sql upd_same, ?_, fun ys p10 perm so n10 => ?_⟩
    · rw [List.length_take]
      omega
    refine ⟨p10, _, rfl, .inl ⟨sql upd_same, fun p11 n11 => ?_⟩⟩
    have s9 := (same_upd (o := .lst ((r.take kk).map V.str)) n9).trans ((same_upd (o := .lst (ys.map V.str)) n10).trans (same_upd (o := .tup (ys.map V.str)) n11))
    have kAll : Kp a H HD := (Kp.of sA).trans (kB.trans (kC.trans ((Kp.of s8).trans kD)))
    have n11' : p11 ≠ a := by
      have := ((dD.same (same_upd (o := .lst ((r.take kk).map V.str)) n9)).same (same_upd (o := .lst (ys.map V.str)) n10)).new n11
      exact this
    refine q _ p11 ys ?_ (kAll.trans (Kp.of s9)) (dD.same s9) ?_ upd_same
    · have hl : ys.length = kk := by
        rw [perm.length_eq, List.length_take]
        omega
      have hsub : ∀ z ∈ ys, z ∈ l := fun z hz => hp.subset (List.mem_of_mem_take (perm.subset hz))
      exact ⟨by omega, by omega, by omega, fun z hz => pl'.nm z (hsub z hz), perm.nodup_iff.mpr ((hp.nodup_iff.mpr pl'.nd).sublist (List.take_sublist kk r)), so⟩
    · refine kAll.new hd ?_ n11'
      have := ((same_upd (o := .lst ((r.take kk).map V.str)) n9).trans (same_upd (o := .lst (ys.map V.str)) n10)).free n11
      exact this
end
end Sfl

namespace Sfl
open PySem PySem.Spec PyProof.Rows L2
section
variable {P : Program} {w : World} {K : PySem.W.Frag} {mg : Str → Option Value} {base : Heap}
theorem mmax_le {m : Nat} (h : m ≤ mmax) : m ≤ 1000000 := h
/-! ### _law_log -/
theorem scLog : FnScope ["dice", "letters", "top", "turn"] ["dice", "letters", "top"] (defScope sLog) := ⟨rfl, rfl, rfl, by decide +kernel, rfl, by decide +kernel, by decide +kernel⟩
def spLog : Sp := fun vs H Q _ => ∃ (a lt : Addr) (ls : List Str) (top m : Nat), vs = [.ref a, .ref lt, .int (top : Nat)] ∧ Dc H a m ∧ m + top + 1 ≤ mmax ∧ Tp H lt ls ∧ 0 < ls.length ∧ ls.length ≤ 1000 ∧ top ≤ 1000 ∧
  ∀ H' p l, l.length ≤ top → (∀ z ∈ l, z ∈ ls) → Kp a H H' → Dc H' a (m + top + 1) → H p = none → Tp H' p l → Q (.ref p) H'
theorem ok_log {f : Addr} {fd : FuncData} {k : Nat} (F : Fun K "_law_log" "_law_log" sLog f fd) (B : Bn mg)
    (C1 : Cal P w K mg base k "_law_pick" ["dice", "items"] spPick) (C2 : Cal P w K mg base k "_law_roll" ["dice", "size"] spRoll) :
    FnOk P w K mg base CX0 (k + 1) f fd ["dice", "letters", "top"] spLog := by
  obtain ⟨f1, fd1, G1, g1, kp1, b1⟩ := C1
  obtain ⟨f2, fd2, G2, g2, kp2, b2⟩ := C2
  refine F.ok scLog (fun vs H Q E h => ?_) (fun cdv A outer s H vs Q E hr h => ?_)
  · obtain ⟨a, lt, ls, top, m, rfl, _⟩ := h
    rfl
  · obtain ⟨a, lt, ls, top, m, rfl, hd, hm, hlt, h0, h1, htop, q⟩ := h
    refine ⟨_, pss_one (ps_ret (pe_callTy call_tuple_of (by rfl) B.tuple (by decide +kernel) (pa_cons
        (pe_lc (own := [("turn", 3)]) (g := gName 3) (tt := tYes) rfl scLog.nd (pi_range1 rfl B.range (pa_cons (pe_call G2 hr (by rfl) g2 kp2 b2 .nil pass0 (pa_cons (pv 0) (pa_cons (pe_op op_add (pv 2) pe_int) pa_nil))) pa_nil))
          (blkOk_by (own := [("turn", 3)]) (N := ["dice", "letters", "top", "turn"]) (sc := defScope sLog) (by decide +kernel))
          (fun _ _ _ _ _ => pg_name (i := 3) scLog.nd rfl (Or.inl rfl)) (fun _ _ _ _ _ => pts_nil)
          (fun _ _ _ _ _ => pe_call G1 hr (by rfl) g1 kp1 b1 .nil pass0 (pa_cons (pv 0) (pa_cons (pv 1) pa_nil)))) pa_nil))), ?_⟩
    refine ⟨.ref a, rfl, .int (top : Nat), rfl, (top : Int), 1, rfl, rfl, a, (top : Int) + 1, m, rfl, hd, by omega, by omega, by omega, fun H1 r k1 d1 r0 r1 => ?_⟩
    refine ⟨r, rfl, by omega, by omega, fun D nD => ?_⟩
    have nDa : D ≠ a := d1.new nD
    refine lc_range (lo := 0) (n := r.toNat) (fun i H4 => ∃ l : List Str, H4 D = some (.lst (l.map V.str)) ∧ l.length = i ∧ (∀ z ∈ l, z ∈ ls) ∧ Kp a H1 H4 ∧ Dc H4 a (m + 1 + i)) ?_ ?_ ?_
    · exact ⟨[], upd_same, rfl, (fun z hz => by cases hz), Kp.of (same_upd nD), d1.same (same_upd nD)⟩
    · rintro i H4 hi ⟨l, hD, hl, hsub, hk, hd4⟩
      have hltt : Tp H4 lt ls := hk.tup d1 (k1.tup hd hlt)
      refine ⟨rfl, .ref a, rfl, .ref lt, rfl, a, lt, _, m + 1 + i, rfl, hd4, by omega, .inr hltt, hd4.ne hltt, by rw [List.length_map]; exact h0, by rw [List.length_map]; exact h1, fun H5 j x hx k5 d5 => ?_⟩
      obtain ⟨z, hz, rfl⟩ := get_map' hx
      have hD5 := k5 _ _ nDa hD
      refine ⟨_, hD5, ?_, l ++ [z], ?_, ?_, ?_, ?_, ?_⟩
      · rw [List.length_map]
        exact small1000 (by omega)
      · rw [upd_same, List.map_append]
        rfl
      · rw [List.length_append, hl]
        rfl
      · intro y hy
        rcases List.mem_append.mp hy with hy | hy
        · exact hsub y hy
        · rw [List.mem_singleton.mp hy]
          exact List.mem_of_getElem? hz
      · intro b o nb e
        rw [upd_ne (ne_of_none e nD)]
        exact k5 _ _ nb (hk _ _ nb e)
      · obtain ⟨u1, u2, u3, e, v0, v1⟩ := d5
        exact ⟨u1, u2, u3, by rw [upd_ne nDa.symm]; exact e, v0, by omega⟩
    · rintro H4 ⟨l, hD, hl, hsub, hk, hd4⟩
      refine ⟨D, _, rfl, .inl ⟨sql hD, fun p np => ?_⟩⟩
      have npa : p ≠ a := hd4.new np
      refine q _ p l (by omega) hsub ((k1.trans hk).trans (Kp.of (same_upd np))) ((hd4.same (same_upd np)).mono (by omega)) ((k1.trans hk).new hd np npa) upd_same

end
end Sfl
namespace Sfl
open PySem PySem.Spec PyProof.Rows L2
/-- the type of a value as it is seen by isinstance -/
inductive Kd (H : Hp) : V → String → Prop where
  | non : Kd H .non "NoneType"
  | bl (b : Bool) : Kd H (.bl b) "bool"
  | int (i : Int) : Kd H (.int i) "int"
  | str (z : Str) : Kd H (.str z) "str"
  | lst {a : Addr} {xs : List V} (e : H a = some (.lst xs)) : Kd H (.ref a) "list"
  | tup {a : Addr} {xs : List V} (e : H a = some (.tup xs)) : Kd H (.ref a) "tuple"
  | dct {a : Addr} {kvs : List (Key × V)} (e : H a = some (.dK kvs)) : Kd H (.ref a) "dict"
theorem Kd.ty {K : PySem.W.Frag} {H : Hp} {v : V} {t : String} (h : Kd H v t) : TyX K H v (.type t) := by
  cases h with
  | non => exact .base .non
  | bl b => exact .base (.bl b)
  | int i => exact .base (.int i)
  | str z => exact .base (.str z)
  | lst e => exact .base (.lst e)
  | tup e => exact .base (.tup e)
  | dct e => exact .base (.dK e)
theorem Kd.same {H H' : Hp} {v : V} {t : String} (h : Kd H v t) (sm : Same H H') : Kd H' v t := by
  cases h with
  | non => exact .non
  | bl b => exact .bl b
  | int i => exact .int i
  | str z => exact .str z
  | lst e => exact .lst (sm _ _ e)
  | tup e => exact .tup (sm _ _ e)
  | dct e => exact .dct (sm _ _ e)
/-- whether a value is a letter -/
def Nv (H : Hp) (v : V) (b : Bool) : Prop := (∃ z : Str, v = .str z ∧ z.length ≤ sizeLine ∧ b = Nm z) ∨ (∃ t, Kd H v t ∧ kitB t "str" = some false ∧ b = false)
theorem Nv.same {H H' : Hp} {v : V} {b : Bool} (h : Nv H v b) (sm : Same H H') : Nv H' v b := by
  rcases h with h | ⟨t, k, e, q⟩
  · exact .inl h
  · exact .inr ⟨t, k.same sm, e, q⟩
section
variable {P : Program} {w : World} {K : PySem.W.Frag} {mg : Str → Option Value} {base : Heap}
def spIsNameV : Sp := fun vs H Q _ => ∃ (v : V) (b : Bool), vs = [v] ∧ Nv H v b ∧ Q (.bl b) H
theorem ok_isNameV {f : Addr} {fd : FuncData} {k : Nat} (F : Fun K "is_name" "is_name" sIsName f fd) (B : Bn mg) : FnOk P w K mg base CX0 (k + 1) f fd ["value"] spIsNameV := by
  refine F.ok scIsName (fun vs H Q E h => ?_) (fun cdv A outer s H vs Q E hr h => ?_)
  · obtain ⟨v, b, rfl, _⟩ := h
    rfl
  · obtain ⟨v, b, rfl, hv, q⟩ := h
    obtain ⟨tS, gS⟩ := B.signs
    refine ⟨_, pss_cons (ps_if (PW.pt (pw_or (pt_not (pt_val (pe_callB call_isi (by rfl) B.isi (by decide +kernel) (pa_cons (pv 0) (pa_cons (pe_bltn (v := .ty "str") (by rfl) B.str (by decide +kernel) rfl) pa_nil)))))
        (pw_or1 (pt_cmpR op_gt (pe_callB call_len_str (by rfl) B.len PySem.boot_len (pa_cons (pv 0) pa_nil)) (pe_glob (v := .int 8) rfl gS ⟨_, rfl⟩) (nomark _)))))
        (pss_one (ps_ret pe_bl)) pss_nil)
      (pss_one (ps_ret (pe_and (pe_m0 PySem.F.slot_str_isascii PySem.F.type_str_isascii mt_isascii (pv 0))
        (pe_and (pe_m0 PySem.F.slot_str_isalpha PySem.F.type_str_isalpha mt_isalpha (pv 0))
        (pe_one (pe_m0 PySem.F.slot_str_islower PySem.F.type_str_islower mt_islower (pv 0))))))), ?_⟩
    rcases hv with ⟨z, rfl, hz, rfl⟩ | ⟨t, ht, kt, rfl⟩
    · refine ⟨_, rfl, .str z, .ty "str", _, .type "str", true, rfl, .ty _, .base (.str _), kit_ty (by decide +kernel), _, rfl, iteF ?_⟩
      refine ⟨_, rfl, z, rfl, hz, _, _, rfl, rfl, _, rfl, ?_⟩
      have hq : Nm z = if z.length > 8 then false else (if Txt.isascii z then (if Txt.isalpha z then Txt.islower z else false) else false) := rfl
      refine ite2 (fun hc => ?_) (fun hc => ?_)
      · have h8 : z.length > 8 := by
          have := of_decide_eq_true hc
          omega
        rw [if_pos h8] at hq
        rw [hq] at q
        exact q
      · have h8 : ¬ z.length > 8 := fun z' => hc (decide_eq_true (by omega))
        rw [if_neg h8] at hq
        rw [hq] at q
        refine ⟨_, rfl, ⟨_, rfl⟩, z, rfl, rfl, trivial, _, rfl, ?_⟩
        cases e1 : Txt.isascii z with
        | false =>
          rw [e1] at q
          exact iteF q
        | true =>
          rw [e1] at q
          refine iteT ⟨_, rfl, ⟨_, rfl⟩, z, rfl, rfl, trivial, _, rfl, ?_⟩
          cases e2 : Txt.isalpha z with
          | false =>
            rw [e2] at q
            exact iteF q
          | true =>
            rw [e2] at q
            exact iteT ⟨_, rfl, ⟨_, rfl⟩, z, rfl, rfl, trivial, q⟩
    · exact ⟨_, rfl, v, .ty "str", _, .type "str", false, rfl, .ty _, ht.ty, kit_ty kt, _, rfl, iteT q⟩
/-- the values of a log's places, and what is said of them -/
def Nvs (H : Hp) (xs : List V) (bs : List Bool) : Prop := bs.length = xs.length ∧ ∀ (i : Nat) (x : V) (b : Bool), xs[i]? = some x → bs[i]? = some b → Nv H x b
theorem Nvs.same {H H' : Hp} {xs : List V} {bs : List Bool} (h : Nvs H xs bs) (sm : Same H H') : Nvs H' xs bs := ⟨h.1, fun i x b e f => (h.2 i x b e f).same sm⟩
def spIsAnyLogV : Sp := fun vs H Q _ => ∃ (v : V), vs = [v] ∧
  ((∃ t, Kd H v t ∧ kitB t "tuple" = some false ∧ Q (.bl false) H) ∨
   (∃ (p : Addr) (xs : List V) (bs : List Bool), v = .ref p ∧ H p = some (.tup xs) ∧ xs.length ≤ 1000 ∧ Nvs H xs bs ∧ ∀ H', Same H H' → Q (.bl (decide (xs.length ≤ 200) && bs.all id)) H'))
theorem ok_isAnyLogV {f : Addr} {fd : FuncData} {k : Nat} (F : Fun K "is_any_log" "is_any_log" sIsAnyLog f fd) (B : Bn mg) (C1 : Cal P w K mg base k "is_name" ["value"] spIsNameV) :
    FnOk P w K mg base CX0 (k + 1) f fd ["value"] spIsAnyLogV := by
  obtain ⟨f1, fd1, G1, g1, kp1, b1⟩ := C1
  refine F.ok scIsAnyLog (fun vs H Q E h => ?_) (fun cdv A outer s H vs Q E hr h => ?_)
  · obtain ⟨v, rfl, _⟩ := h
    rfl
  · obtain ⟨v, rfl, h⟩ := h
    obtain ⟨tS, gS⟩ := B.events
    refine ⟨_, pss_cons (ps_if (PW.pt (pw_or (pt_not (pt_val (pe_callB call_isi (by rfl) B.isi (by decide +kernel) (pa_cons (pv 0) (pa_cons (pe_bltn (v := .ty "tuple") (by rfl) B.tuple (by decide +kernel) rfl) pa_nil)))))
        (pw_or1 (pt_cmpR op_gt (pe_callB call_len_seq (by rfl) B.len PySem.boot_len (pa_cons (pv 0) pa_nil)) (pe_glob (v := .int 200) rfl gS ⟨_, rfl⟩) (nomark _)))))
        (pss_one (ps_ret pe_bl)) pss_nil)
      (pss_one (ps_ret (pe_callB (cr_all rfl) (by rfl) B.all (by decide +kernel) (pa_cons
        (pe_lc (own := [("event", 1)]) (g := gName 1) (tt := tYes) rfl scIsAnyLog.nd (pi_tup (pv 0)) (blkOk_by (own := [("event", 1)]) (N := ["value", "event"]) (sc := defScope sIsAnyLog) (by decide +kernel))
          (fun _ _ _ _ _ => pg_name (i := 1) scIsAnyLog.nd rfl (Or.inl rfl)) (fun _ _ _ _ _ => pts_nil)
          (fun _ _ _ _ _ => pe_call G1 hr (by rfl) g1 kp1 b1 .nil pass0 (pa_cons (pv 1) pa_nil))) pa_nil)))), ?_⟩
    rcases h with ⟨t, ht, kt, q⟩ | ⟨p, xs, bs, rfl, hp, hx, hn, q⟩
    · exact ⟨_, rfl, v, .ty "tuple", _, .type "tuple", false, rfl, .ty _, ht.ty, kit_ty kt, _, rfl, iteT q⟩
    refine ⟨_, rfl, .ref p, .ty "tuple", _, .type "tuple", true, rfl, .ty _, .base (.tup hp), kit_ty (by decide +kernel), _, rfl, iteF ?_⟩
    refine ⟨_, rfl, p, _, rfl, .inr (sqt hp), _, _, rfl, rfl, _, rfl, ?_⟩
    refine ite2 (fun hc => ?_) (fun hc => ?_)
    · have h2 := of_decide_eq_true hc
      have h3 : decide (xs.length ≤ 200) = false := decide_eq_false (by omega)
      have q' := q _ (fun _ _ e => e)
      rw [h3] at q'
      exact q'
    · have h3 : decide (xs.length ≤ 200) = true := decide_eq_true (by
        rcases Nat.lt_or_ge 200 xs.length with h | h
        · exact absurd (decide_eq_true (by omega)) hc
        · exact h)
      refine ⟨.ref p, rfl, p, rfl, ⟨_, sqt hp⟩, fun D nD => ?_⟩
      refine lc_tup (xs := xs) (fun i H4 => Same H H4 ∧ H4 D = some (.lst ((bs.take i).map V.bl)))
        ⟨same_upd nD, by rw [upd_same]; rfl⟩ (fun i H4 hi hp4 => sqt (hp4.1 _ _ hp)) (fun i x H4 hx4 hp4 => ?_) (fun H4 hp4 => ?_)
      · obtain ⟨sm, hD⟩ := hp4
        have hi : i < bs.length := by
          rw [hn.1]
          exact (List.getElem?_eq_some_iff.mp hx4).1
        have hb : bs[i]? = some bs[i] := List.getElem?_eq_getElem hi
        have nv := (hn.2 i x _ hx4 hb).same sm
        refine ⟨rfl, x, rfl, x, bs[i], rfl, nv, _, hD, ?_, ?_, ?_⟩
        · rw [List.length_map, List.length_take]
          have := hn.1
          exact small1000 (by omega)
        · intro b u e
          rw [upd_ne (ne_of_none e nD)]
          exact sm _ _ e
        · rw [upd_same, List.take_add_one, hb, List.map_append]
          rfl
      · obtain ⟨sm, hD⟩ := hp4
        rw [← hn.1, List.take_length] at hD
        refine ⟨D, bs, rfl, sql hD, ?_⟩
        have q' := q _ sm
        rw [h3] at q'
        exact q'
end
end Sfl
namespace Sfl
open PySem PySem.Spec PyProof.Rows L2
/-- the top's facts of an own error class over ValueError -/
structure Er (K : PySem.W.Frag) (mg : Str → Option Value) (x : Str) (C : Addr) : Prop where
  g : mg x = some (.ref C)
  e : PySem.W.excIn K C [.type "ValueError", .type "Exception", .type "BaseException", .type "object"] "ValueError.__new__" = true
  k : PySem.W.keepIn K (.ref C) = true
  b : PySem.W.subIn K (.ref C) (.type "BaseException") = some true
  t : PySem.W.typeIn K (.ref C) = some (.type "type")
/-- a def that may raise, as its callers see it -/
def CalX (P : Program) (w : World) (K : PySem.W.Frag) (mg : Str → Option Value) (base : Heap) (k : Nat) (x : Str) (ps : List Str) (sp : Sp) : Prop :=
  ∃ (f : Addr) (fd : FuncData), FnOk P w K mg base (L2.CX P w) k f fd ps sp ∧ mg x = some (.ref f) ∧ PySem.W.keepIn K (.ref f) = true ∧ Binds K fd ps []
section
variable {P : Program} {w : World} {K : PySem.W.Frag} {mg : Str → Option Value} {base : Heap}
theorem CalX.mono {j k : Nat} {x : Str} {ps : List Str} {sp : Sp} (C : CalX P w K mg base j x ps sp) (h : j ≤ k) : CalX P w K mg base k x ps sp := by
  obtain ⟨f, fd, G, g, kp, b⟩ := C
  exact ⟨f, fd, G.mono h, g, kp, b⟩
def spCheckLogV (C : Addr) : Sp := fun vs H Q E => ∃ (v : V), vs = [v] ∧
  ((∃ t, Kd H v t ∧ kitB t "tuple" = some false ∧ E (.ref C) none H) ∨
   (∃ (p : Addr) (xs : List V) (bs : List Bool), v = .ref p ∧ H p = some (.tup xs) ∧ xs.length ≤ 1000 ∧ Nvs H xs bs ∧
     ∀ H', Same H H' → if (decide (xs.length ≤ 200) && bs.all id) = true then Q .non H' else E (.ref C) none H'))
theorem ok_checkLogV {f C : Addr} {fd : FuncData} {k : Nat} (F : Fun K "check_log" "check_log" sCheckLog f fd) (R : Er K mg "InvalidLog" C) (C1 : Cal P w K mg base k "is_any_log" ["value"] spIsAnyLogV) :
    FnOk P w K mg base (L2.CX P w) (k + 1) f fd ["value"] (spCheckLogV C) := by
  obtain ⟨f1, fd1, G1, g1, kp1, b1⟩ := C1
  refine F.okX scCheckLog (fun vs H Q E h => ?_) (fun cdv A outer s H vs Q E hr h => ?_)
  · obtain ⟨v, rfl, _⟩ := h
    rfl
  · obtain ⟨v, rfl, h⟩ := h
    refine ⟨_, pss_one (ps_if (pt_not (pt_val (pe_call G1 hr (by rfl) g1 kp1 b1 .nil pass0 (pa_cons (pv 0) pa_nil)))) (pss_one (ps_raise rfl (takes_of rfl rfl rfl rfl) (pmk_own PySem.F.excBase_ValueError R.e R.g R.k (raises_own R.b R.t) (by exact rfl)))) pss_nil), ?_⟩
    rcases h with ⟨t, ht, kt, q⟩ | ⟨p, xs, bs, rfl, hp, hx, hn, q⟩
    · exact ⟨_, rfl, v, rfl, .inl ⟨t, ht, kt, _, rfl, iteT q⟩⟩
    · refine ⟨_, rfl, .ref p, rfl, .inr ⟨p, xs, bs, rfl, hp, hx, hn, fun H' sm => ⟨_, rfl, ?_⟩⟩⟩
      have q' := q H' sm
      generalize (decide (xs.length ≤ 200) && bs.all id) = b at q' ⊢
      cases b with
      | true => exact iteF q'
      | false => exact iteT q'
end
end Sfl
namespace Sfl
open PySem PySem.Spec PyProof.Rows L2
/-- a walk over zip of two tuples of any lengths -/
theorem walk_zipT {K : PySem.W.Frag} {a b : Addr} {xs ys : List V} {n : Nat} (hn : n = min xs.length ys.length) : Walk (RZ.ItzT K a b) n (fun H => SqT K H a xs ∧ SqT K H b ys) (YPair (fun i => xs[i]?) (fun i => ys[i]?)) := by
  subst hn
  refine ⟨fun j _ hj q => ?_, fun _ q => ⟨xs, ys, q.1, q.2, by omega⟩, fun j H v H' _ q y => ?_⟩
  · have l1 : j < xs.length := by omega
    have l2 : j < ys.length := by omega
    exact ⟨xs, ys, xs[j], ys[j], q.1, q.2, List.getElem?_eq_getElem l1, List.getElem?_eq_getElem l2⟩
  · obtain ⟨U, x, z, e1, e2, e3, e4, e5⟩ := y
    exact ⟨U, x, z, e1, e2, e3, e4 xs q.1, e5 ys q.2⟩
/-- whether names ascend -/
def ascL (l : List Str) : List Bool := (l.zip (l.drop 1)).map fun z => decide (z.1.cps.toList < z.2.cps.toList)
def asc (l : List Str) : Bool := (ascL l).all id
theorem pgTupQ {X : Cx} {es : List Expr} {k : Nat} {pos : Pos} {t : TGs} (K : PySem.W.Frag) (n : Nat) (hc : X.calm = true) (hp : PGs X es t) (hn : (assignEach es X.env).length = n := by rfl) (hst : (assignEach es X.env).findIdx? (·.1) = none := by rfl) (h : X.K = K := by rfl) : PG X (.Tuple es k pos) (gTup K n t) := by
  subst h hn
  exact pg_tup hc hp rfl hst
section
variable {P : Program} {w : World} {K : PySem.W.Frag} {mg : Str → Option Value} {base : Heap}
theorem scIsAsc : FnScope ["row", "one", "other"] ["row"] (defScope sIsAscending) := ⟨rfl, rfl, rfl, by decide +kernel, rfl, by decide +kernel, by decide +kernel⟩
def spIsAsc : Sp := fun vs H Q _ => ∃ (p : Addr) (l : List Str), vs = [.ref p] ∧ Tp H p l ∧ l.length ≤ 1000 ∧ ∀ H', Same H H' → Q (.bl (asc l)) H'
theorem ok_isAsc {f : Addr} {fd : FuncData} {k : Nat} (F : Fun K "is_ascending" "is_ascending" sIsAscending f fd) (B : Bn mg) : FnOk P w K mg base CX0 (k + 1) f fd ["row"] spIsAsc := by
  refine F.ok scIsAsc (fun vs H Q E h => ?_) (fun cdv A outer s H vs Q E hr h => ?_)
  · obtain ⟨p, l, rfl, _⟩ := h
    rfl
  · obtain ⟨p, l, rfl, hp, hl, q⟩ := h
    refine ⟨_, pss_one (ps_ret (pe_callB (cr_all rfl) (by rfl) B.all (by decide +kernel) (pa_cons
        (pe_lc (own := [("one", 1), ("other", 2)]) (tt := tYes) rfl scIsAsc.nd (RZ.pi_zipA (by rfl) B.zip (pa_cons (pv 0) (pa_cons (pe_slice sl_tupS (pv 0) (po_some pe_int) po_none) pa_nil))) (blkOk_by (own := [("one", 1), ("other", 2)]) (N := ["row", "one", "other"]) (sc := defScope sIsAscending) (by decide +kernel))
          (fun _ _ _ _ _ => pgTupQ K 2 rfl (pgs_cons (pg_name (i := 1) scIsAsc.nd rfl (Or.inl rfl)) (pgs_cons (pg_name (i := 2) scIsAsc.nd rfl (Or.inl rfl)) pgs_nil))) (fun _ _ _ _ _ => pts_nil)
          (fun _ _ _ _ _ => pe_cmpR op_lt_str (pv 1) (pv 2) (nomark _))) pa_nil))), ?_⟩
    refine ⟨.ref p, rfl, .ref p, rfl, (1 : Int), rfl, p, _, rfl, hp, fun p1 H1 s1 e1 => ?_⟩
    have ec : cutV (l.map V.str) (some (1 : Int)) none = (l.drop 1).map V.str := by
      cases l with
      | nil => rfl
      | cons z r =>
        rw [show (1 : Int) = ((1 : Nat) : Int) from rfl, cut_drop _ _ (by rw [List.length_map, List.length_cons]; omega), ← List.map_drop]
    rw [ec] at e1
    have hz : (l.zip (l.drop 1)).length = min (l.map V.str).length ((l.drop 1).map V.str).length := by
      rw [List.length_zip, List.length_map, List.length_map]
    refine ⟨p, p1, _, _, rfl, .inr ⟨sqt (s1 _ _ hp), sqt e1, fun D nD => ?_⟩⟩
    refine lc_it (walk_zipT hz) (fun i H4 => Same H1 H4 ∧ H4 D = some (.lst (((ascL l).take i).map V.bl)))
      ⟨same_upd nD, by rw [upd_same]; rfl⟩ (fun i H4 hi hp4 => ⟨sqt (hp4.1 _ _ (s1 _ _ hp)), sqt (hp4.1 _ _ e1)⟩) (fun i x H4 H5 hi hp4 y => ?_) (fun H4 hp4 => ?_)
    · obtain ⟨sm, hD⟩ := hp4
      obtain ⟨T, u, v, rfl, nT, rfl, hu, hv⟩ := y
      obtain ⟨za, ha, rfl⟩ := get_map' hu
      obtain ⟨zb, hb, rfl⟩ := get_map' hv
      have nDT : D ≠ T := ne_of_none hD nT
      have st := same_upd (o := .tup [V.str za, V.str zb]) nT
      have hq : (ascL l)[i]? = some (decide (za.cps.toList < zb.cps.toList)) := by
        show ((l.zip (l.drop 1)).map _)[i]? = _
        rw [List.getElem?_map, List.getElem?_zip_eq_some (z := (za, zb)) |>.mpr ⟨ha, hb⟩]
        rfl
      refine ⟨T, [.str za, .str zb], rfl, sqt upd_same, rfl, _, _, rfl, _, _, rfl, rfl, rfl, _, rfl, _, rfl, za, zb, rfl, rfl, _, (st _ _ hD), ?_, ?_, ?_⟩
      · rw [List.length_map, List.length_take]
        rw [List.length_zip] at hi
        exact small1000 (by omega)
      · intro b o e
        have e4 := sm b o e
        rw [upd_ne (ne_of_none e nD)]
        exact st _ _ e4
      · rw [upd_same, List.take_add_one, hq, List.map_append]
        rfl
    · obtain ⟨sm, hD⟩ := hp4
      rw [show (l.zip (l.drop 1)).length = (ascL l).length by unfold ascL; rw [List.length_map], List.take_length] at hD
      exact ⟨D, ascL l, rfl, sql hD, q _ (s1.trans sm)⟩
end
end Sfl
namespace Sfl
open PySem PySem.Spec PyProof.Rows L2
section
variable {P : Program} {w : World} {K : PySem.W.Frag} {mg : Str → Option Value} {base : Heap}
theorem scIsLetters : FnScope ["value", "letter"] ["value"] (defScope sIsLetters) := ⟨rfl, rfl, rfl, by decide +kernel, rfl, by decide +kernel, by decide +kernel⟩
/-- is_letters: no tuple; a tuple with no names or of another length; names -/
def spIsLettersV : Sp := fun vs H Q _ => ∃ (v : V), vs = [v] ∧
  ((∃ t, Kd H v t ∧ kitB t "tuple" = some false ∧ Q (.bl false) H) ∨
   (∃ (p : Addr) (xs : List V) (bs : List Bool), v = .ref p ∧ H p = some (.tup xs) ∧ xs.length ≤ 1000 ∧ Nvs H xs bs ∧
     (((1 ≤ xs.length ∧ xs.length ≤ 4 → bs.all id = false) ∧ ∀ H', Same H H' → Q (.bl false) H') ∨
      (∃ l : List Str, xs = l.map V.str ∧ 1 ≤ l.length ∧ l.length ≤ 4 ∧ bs.all id = true ∧ ∀ H', Same H H' → Q (.bl (asc l)) H'))))
theorem ok_isLettersV {f : Addr} {fd : FuncData} {k : Nat} (F : Fun K "is_letters" "is_letters" sIsLetters f fd) (B : Bn mg) (C1 : Cal P w K mg base k "is_name" ["value"] spIsNameV)
    (C2 : Cal P w K mg base k "is_ascending" ["row"] spIsAsc) : FnOk P w K mg base CX0 (k + 1) f fd ["value"] spIsLettersV := by
  obtain ⟨f1, fd1, G1, g1, kp1, b1⟩ := C1
  obtain ⟨f2, fd2, G2, g2, kp2, b2⟩ := C2
  refine F.ok scIsLetters (fun vs H Q E h => ?_) (fun cdv A outer s H vs Q E hr h => ?_)
  · obtain ⟨v, rfl, _⟩ := h
    rfl
  · obtain ⟨v, rfl, h⟩ := h
    obtain ⟨tS, gS⟩ := B.lets
    refine ⟨_, pss_cons (ps_if (PW.pt (pw_or (pt_not (pt_val (pe_callB call_isi (by rfl) B.isi (by decide +kernel) (pa_cons (pv 0) (pa_cons (pe_bltn (v := .ty "tuple") (by rfl) B.tuple (by decide +kernel) rfl) pa_nil)))))
        (pw_or1 (pt_not (pt_chain op_le op_le pe_int (pe_callB call_len_seq (by rfl) B.len PySem.boot_len (pa_cons (pv 0) pa_nil)) (pe_glob (v := .int 4) rfl gS ⟨_, rfl⟩))))))
        (pss_one (ps_ret pe_bl)) pss_nil)
      (pss_one (ps_ret (pe_and (pe_callB (cr_all rfl) (by rfl) B.all (by decide +kernel) (pa_cons
        (pe_lc (own := [("letter", 1)]) (g := gName 1) (tt := tYes) rfl scIsLetters.nd (pi_tup (pv 0)) (blkOk_by (own := [("letter", 1)]) (N := ["value", "letter"]) (sc := defScope sIsLetters) (by decide +kernel))
          (fun _ _ _ _ _ => pg_name (i := 1) scIsLetters.nd rfl (Or.inl rfl)) (fun _ _ _ _ _ => pts_nil)
          (fun _ _ _ _ _ => pe_call G1 hr (by rfl) g1 kp1 b1 .nil pass0 (pa_cons (pv 1) pa_nil))) pa_nil))
        (pe_one (pe_call G2 hr (by rfl) g2 kp2 b2 .nil pass0 (pa_cons (pv 0) pa_nil)))))), ?_⟩
    rcases h with ⟨t, ht, kt, q⟩ | ⟨p, xs, bs, rfl, hp, hx, hn, h⟩
    · exact ⟨_, rfl, v, .ty "tuple", _, .type "tuple", false, rfl, .ty _, ht.ty, kit_ty kt, _, rfl, iteT q⟩
    refine ⟨_, rfl, .ref p, .ty "tuple", _, .type "tuple", true, rfl, .ty _, .base (.tup hp), kit_ty (by decide +kernel), _, rfl, iteF ?_⟩
    refine ⟨.ref p, rfl, p, _, rfl, .inr (sqt hp), _, _, rfl, rfl, _, rfl, ?_⟩
    by_cases h1 : 1 ≤ xs.length
    · rw [decide_eq_true (show (1 : Int) ≤ ((xs.length : Nat) : Int) by omega)]
      refine iteT ⟨_, _, rfl, rfl, _, rfl, ?_⟩
      by_cases h4 : xs.length ≤ 4
      · rw [decide_eq_true (show ((xs.length : Nat) : Int) ≤ 4 by omega)]
        refine iteF ⟨.ref p, rfl, p, rfl, ⟨_, sqt hp⟩, fun D nD => ?_⟩
        refine lc_tup (xs := xs) (fun i H4 => Same H H4 ∧ H4 D = some (.lst ((bs.take i).map V.bl)))
          ⟨same_upd nD, by rw [upd_same]; rfl⟩ (fun i H4 hi hp4 => sqt (hp4.1 _ _ hp)) (fun i x H4 hx4 hp4 => ?_) (fun H4 hp4 => ?_)
        · obtain ⟨sm, hD⟩ := hp4
          have hi : i < bs.length := by
            rw [hn.1]
            exact (List.getElem?_eq_some_iff.mp hx4).1
          have hb : bs[i]? = some bs[i] := List.getElem?_eq_getElem hi
          have nv := (hn.2 i x _ hx4 hb).same sm
          refine ⟨rfl, x, rfl, x, bs[i], rfl, nv, _, hD, ?_, ?_, ?_⟩
          · rw [List.length_map, List.length_take]
            have := hn.1
            exact small1000 (by omega)
          · intro b u e
            rw [upd_ne (ne_of_none e nD)]
            exact sm _ _ e
          · rw [upd_same, List.take_add_one, hb, List.map_append]
            rfl
        · obtain ⟨sm, hD⟩ := hp4
          rw [← hn.1, List.take_length] at hD
          refine ⟨D, bs, rfl, sql hD, ?_⟩
          rcases h with ⟨hb, q⟩ | ⟨l, rfl, l1, l2, hb, q⟩
          · rw [hb ⟨h1, h4⟩]
            exact ⟨_, rfl, iteF (q _ sm)⟩
          · rw [hb]
            exact ⟨_, rfl, iteT ⟨_, rfl, p, l, rfl, sm _ _ hp, by omega, fun H' s' => q _ (sm.trans s')⟩⟩
      · rw [decide_eq_false (show ¬ ((xs.length : Nat) : Int) ≤ 4 by omega)]
        rcases h with ⟨_, q⟩ | ⟨l, rfl, l1, l2, hb, q⟩
        · exact iteT (q _ fun _ _ e => e)
        · rw [List.length_map] at h4
          exact absurd l2 h4
    · rw [decide_eq_false (show ¬ (1 : Int) ≤ ((xs.length : Nat) : Int) by omega)]
      rcases h with ⟨_, q⟩ | ⟨l, rfl, l1, l2, hb, q⟩
      · exact iteF ⟨_, rfl, iteT (q _ fun _ _ e => e)⟩
      · rw [List.length_map] at h1
        exact absurd l1 h1
end
end Sfl
namespace Sfl
open PySem PySem.Spec PyProof.Rows L2
section
variable {P : Program} {w : World} {K : PySem.W.Frag} {mg : Str → Option Value} {base : Heap}
theorem scCheckLetters : FnScope ["value"] ["value"] (defScope sCheckLetters) := ⟨rfl, rfl, rfl, by decide +kernel, rfl, by decide +kernel, by decide +kernel⟩
def spCheckLettersV (C : Addr) : Sp := fun vs H Q E => ∃ (v : V), vs = [v] ∧
  ((∃ t, Kd H v t ∧ kitB t "tuple" = some false ∧ E (.ref C) none H) ∨
   (∃ (p : Addr) (xs : List V) (bs : List Bool), v = .ref p ∧ H p = some (.tup xs) ∧ xs.length ≤ 1000 ∧ Nvs H xs bs ∧
     (((1 ≤ xs.length ∧ xs.length ≤ 4 → bs.all id = false) ∧ ∀ H', Same H H' → E (.ref C) none H') ∨
      (∃ l : List Str, xs = l.map V.str ∧ 1 ≤ l.length ∧ l.length ≤ 4 ∧ bs.all id = true ∧ ∀ H', Same H H' → if asc l = true then Q .non H' else E (.ref C) none H'))))
theorem ok_checkLettersV {f C : Addr} {fd : FuncData} {k : Nat} (F : Fun K "check_letters" "check_letters" sCheckLetters f fd) (R : Er K mg "InvalidLetters" C) (C1 : Cal P w K mg base k "is_letters" ["value"] spIsLettersV) :
    FnOk P w K mg base (L2.CX P w) (k + 1) f fd ["value"] (spCheckLettersV C) := by
  obtain ⟨f1, fd1, G1, g1, kp1, b1⟩ := C1
  refine F.okX scCheckLetters (fun vs H Q E h => ?_) (fun cdv A outer s H vs Q E hr h => ?_)
  · obtain ⟨v, rfl, _⟩ := h
    rfl
  · obtain ⟨v, rfl, h⟩ := h
    refine ⟨_, pss_one (ps_if (pt_not (pt_val (pe_call G1 hr (by rfl) g1 kp1 b1 .nil pass0 (pa_cons (pv 0) pa_nil)))) (pss_one (ps_raise rfl (takes_of rfl rfl rfl rfl) (pmk_own PySem.F.excBase_ValueError R.e R.g R.k (raises_own R.b R.t) (by exact rfl)))) pss_nil), ?_⟩
    rcases h with ⟨t, ht, kt, q⟩ | ⟨p, xs, bs, rfl, hp, hx, hn, h⟩
    · exact ⟨_, rfl, v, rfl, .inl ⟨t, ht, kt, _, rfl, iteT q⟩⟩
    · refine ⟨_, rfl, .ref p, rfl, .inr ⟨p, xs, bs, rfl, hp, hx, hn, ?_⟩⟩
      rcases h with ⟨hb, q⟩ | ⟨l, rfl, l1, l2, hb, q⟩
      · exact .inl ⟨hb, fun H' sm => ⟨_, rfl, iteT (q H' sm)⟩⟩
      · refine .inr ⟨l, rfl, l1, l2, hb, fun H' sm => ⟨_, rfl, ?_⟩⟩
        have q' := q H' sm
        generalize asc l = b at q' ⊢
        cases b with
        | true => exact iteF q'
        | false => exact iteT q'
end
end Sfl
namespace Sfl
open PySem PySem.Spec PyProof.Rows L2
/-- letters that are passed -/
structure Ls (l : List Str) : Prop where
  one : 1 ≤ l.length
  four : l.length ≤ 4
  nm : ∀ z ∈ l, Nm z = true
  up : asc l = true
theorem nvs_strs {H : Hp} {l : List Str} (h : ∀ z ∈ l, z.length ≤ sizeLine) : Nvs H (l.map V.str) (l.map Nm) := by
  refine ⟨by rw [List.length_map, List.length_map], fun i x b e f => ?_⟩
  obtain ⟨z, hz, rfl⟩ := get_map' e
  obtain ⟨z', hz', rfl⟩ := get_map' f
  rw [hz] at hz'
  cases hz'
  exact .inl ⟨z, rfl, h z (List.mem_of_getElem? hz), rfl⟩
theorem all_nm {l : List Str} (h : ∀ z ∈ l, Nm z = true) : (l.map Nm).all id = true := by
  rw [List.all_map]
  exact List.all_eq_true.mpr h
theorem inQ {X : Cx} (K : PySem.W.Frag) (h : X.K = K := by rfl) : OpR X (compareOp .In) (rIn K false) := by
  subst h
  exact op_in_seq
section
variable {P : Program} {w : World} {K : PySem.W.Frag} {mg : Str → Option Value} {base : Heap}
/-- check_letters where it lets by -/
def spCheckLetters0 : Sp := fun vs H Q _ => ∃ (p : Addr) (l : List Str), vs = [.ref p] ∧ Tp H p l ∧ Ls l ∧ ∀ H', Same H H' → Q .non H'
theorem ok_checkLetters0 {f : Addr} {fd : FuncData} {k : Nat} (F : Fun K "check_letters" "check_letters" sCheckLetters f fd) (C1 : Cal P w K mg base k "is_letters" ["value"] spIsLettersV) :
    FnOk P w K mg base CX0 (k + 1) f fd ["value"] spCheckLetters0 := by
  obtain ⟨f1, fd1, G1, g1, kp1, b1⟩ := C1
  refine F.ok scCheckLetters (fun vs H Q E h => ?_) (fun cdv A outer s H vs Q E hr h => ?_)
  · obtain ⟨p, l, rfl, _⟩ := h
    rfl
  · obtain ⟨p, l, rfl, hp, hl, q⟩ := h
    refine ⟨_, pss_one (ps_if (pt_not (pt_val (pe_call G1 hr (by rfl) g1 kp1 b1 .nil pass0 (pa_cons (pv 0) pa_nil)))) (pss_one ps_never) pss_nil), ?_⟩
    have h4 := hl.four
    refine ⟨_, rfl, .ref p, rfl, .inr ⟨p, _, _, rfl, hp, by rw [List.length_map]; omega, nvs_strs (fun z hz => nm_line (hl.nm z hz)), .inr ⟨l, rfl, hl.one, h4, all_nm hl.nm, fun H' sm => ⟨_, rfl, ?_⟩⟩⟩⟩
    rw [hl.up]
    exact iteF (q H' sm)
theorem scIsLog : FnScope ["letters", "value", "event"] ["letters", "value"] (defScope sIsLog) := ⟨rfl, rfl, rfl, by decide +kernel, rfl, by decide +kernel, by decide +kernel⟩
def spIsLogV : Sp := fun vs H Q _ => ∃ (lt : Addr) (ls : List Str) (v : V), vs = [.ref lt, v] ∧ Tp H lt ls ∧ Ls ls ∧
  ((∃ t, Kd H v t ∧ kitB t "tuple" = some false ∧ ∀ H', Same H H' → Q (.bl false) H') ∨
   (∃ (p : Addr) (xs : List V) (bs : List Bool), v = .ref p ∧ H p = some (.tup xs) ∧ xs.length ≤ 1000 ∧ Nvs H xs bs ∧
     (((decide (xs.length ≤ 200) && bs.all id) = false ∧ ∀ H', Same H H' → Q (.bl false) H') ∨
      (∃ l : List Str, xs = l.map V.str ∧ l.length ≤ 200 ∧ bs.all id = true ∧ ∀ H', Same H H' → Q (.bl (l.all fun z => decide (z ∈ ls))) H'))))
theorem inV_strs (z : Str) : ∀ ls : List Str, inV (.str z) (ls.map V.str) = decide (z ∈ ls)
  | [] => rfl
  | y :: r => by
    have ih := inV_strs z r
    show (eqV (.str y) (.str z) || inV (.str z) (r.map V.str)) = _
    rw [ih]
    show (decide _ || _) = _
    by_cases e : y = z
    · subst e
      simp [eqV]
    · have e' : ¬ z = y := fun h => e h.symm
      simp [eqV, e, e']
theorem flatV_strs (ls : List Str) : (ls.map V.str).all flatV = true := by
  rw [List.all_map]
  exact List.all_eq_true.mpr fun _ _ => rfl
theorem ok_isLogV {f : Addr} {fd : FuncData} {k : Nat} (F : Fun K "is_log" "is_log" sIsLog f fd) (B : Bn mg) (C1 : Cal P w K mg base k "check_letters" ["value"] spCheckLetters0)
    (C2 : Cal P w K mg base k "is_any_log" ["value"] spIsAnyLogV) : FnOk P w K mg base CX0 (k + 1) f fd ["letters", "value"] spIsLogV := by
  obtain ⟨f1, fd1, G1, g1, kp1, b1⟩ := C1
  obtain ⟨f2, fd2, G2, g2, kp2, b2⟩ := C2
  refine F.ok scIsLog (fun vs H Q E h => ?_) (fun cdv A outer s H vs Q E hr h => ?_)
  · obtain ⟨lt, ls, v, rfl, _⟩ := h
    rfl
  · obtain ⟨lt, ls, v, rfl, hlt, Ll, h⟩ := h
    refine ⟨_, pss_cons (ps_expr (pe_call G1 hr (by rfl) g1 kp1 b1 .nil pass0 (pa_cons (pv 0) pa_nil)))
      (pss_one (ps_ret (pe_and (pe_call G2 hr (by rfl) g2 kp2 b2 .nil pass0 (pa_cons (pv 1) pa_nil))
        (pe_one (pe_callB (cr_all rfl) (by rfl) B.all (by decide +kernel) (pa_cons
        (pe_lc (own := [("event", 2)]) (g := gName 2) (tt := tYes) rfl scIsLog.nd (pi_tup (pv 1)) (blkOk_by (own := [("event", 2)]) (N := ["letters", "value", "event"]) (sc := defScope sIsLog) (by decide +kernel))
          (fun _ _ _ _ _ => pg_name (i := 2) scIsLog.nd rfl (Or.inl rfl)) (fun _ _ _ _ _ => pts_nil)
          (fun _ _ _ _ _ => pe_cmpR (inQ K) (pv 2) (pv 0) (by rfl))) pa_nil)))))), ?_⟩
    refine ⟨_, rfl, lt, ls, rfl, hlt, Ll, fun H1 s1 => ?_⟩
    rcases h with ⟨t, ht, kt, q⟩ | ⟨p, xs, bs, rfl, hp, hx, hn, h⟩
    · exact ⟨_, rfl, v, rfl, .inl ⟨t, ht.same s1, kt, _, rfl, iteF (q _ s1)⟩⟩
    refine ⟨_, rfl, .ref p, rfl, .inr ⟨p, xs, bs, rfl, s1 _ _ hp, hx, hn.same s1, fun H2 s2 => ⟨_, rfl, ?_⟩⟩⟩
    have s12 := s1.trans s2
    rcases h with ⟨hb, q⟩ | ⟨l, rfl, l2, hb, q⟩
    · rw [hb]
      exact iteF (q _ s12)
    · rw [List.length_map, decide_eq_true l2, hb]
      refine iteT ⟨.ref p, rfl, p, rfl, ⟨_, sqt (s12 _ _ hp)⟩, fun D nD => ?_⟩
      refine lc_tup (xs := l.map V.str) (fun i H4 => Same H2 H4 ∧ H4 D = some (.lst (((l.take i).map fun z => decide (z ∈ ls)).map V.bl)))
        ⟨same_upd nD, by rw [upd_same]; rfl⟩ (fun i H4 hi hp4 => sqt (hp4.1 _ _ (s12 _ _ hp))) (fun i x H4 hx4 hp4 => ?_) (fun H4 hp4 => ?_)
      · obtain ⟨sm, hD⟩ := hp4
        obtain ⟨z, hz, rfl⟩ := get_map' hx4
        have hi := get_lt hz
        refine ⟨rfl, .str z, rfl, .ref lt, rfl, lt, _, rfl, .inr (sqt (sm _ _ (s12 _ _ hlt))), rfl, flatV_strs ls, _, hD, ?_, ?_, ?_⟩
        · rw [List.length_map, List.length_map, List.length_take]
          exact small1000 (by omega)
        · intro b u e
          rw [upd_ne (ne_of_none e nD)]
          exact sm _ _ e
        · rw [upd_same, List.take_add_one, hz, List.map_append, List.map_append]
          simp [inV_strs]
      · obtain ⟨sm, hD⟩ := hp4
        rw [List.length_map, List.take_length] at hD
        refine ⟨D, _, rfl, sql hD, ?_⟩
        have q' := q _ (s12.trans sm)
        rw [show (l.all fun z => decide (z ∈ ls)) = ((l.map fun z => decide (z ∈ ls)).all id) by rw [List.all_map]; rfl] at q'
        exact q'
end
end Sfl
namespace Sfl
open PySem PySem.Spec PyProof.Rows L2
theorem same_upd2 {H : Hp} {p : Addr} {o o' : HO} (h : H p = none) : Same H (upd (upd H p o) p o') := fun b u e => by
  rw [upd_ne (ne_of_none e h), upd_ne (ne_of_none e h)]
  exact e
/-- a value that is no letter, no log and no tuple of logs; it is not at a, nor are its items -/
def Od (a : Addr) (H : Hp) (v : V) : Prop := v ≠ .ref a ∧ Nv H v false ∧ ((∃ t, Kd H v t ∧ kitB t "tuple" = some false) ∨
  ∃ (p : Addr) (xs : List V) (bs : List Bool), v = .ref p ∧ H p = some (.tup xs) ∧ xs.length ≤ 2 ∧ Nvs H xs bs ∧ bs.all id = false ∧ ∀ x ∈ xs, x ≠ .ref a)
theorem Kd.kp {a : Addr} {H H' : Hp} {v : V} {t : String} (h : Kd H v t) (x : Kp a H H') (ne : v ≠ .ref a) : Kd H' v t := by
  cases h with
  | non => exact .non
  | bl b => exact .bl b
  | int i => exact .int i
  | str z => exact .str z
  | lst e => exact .lst (x _ _ (fun h => ne (congrArg V.ref h)) e)
  | tup e => exact .tup (x _ _ (fun h => ne (congrArg V.ref h)) e)
  | dct e => exact .dct (x _ _ (fun h => ne (congrArg V.ref h)) e)
theorem Nv.kp {a : Addr} {H H' : Hp} {v : V} {b : Bool} (h : Nv H v b) (x : Kp a H H') (ne : v ≠ .ref a) : Nv H' v b := by
  rcases h with h | ⟨t, k, e, q⟩
  · exact .inl h
  · exact .inr ⟨t, k.kp x ne, e, q⟩
theorem Od.kp {a : Addr} {H H' : Hp} {v : V} (h : Od a H v) (x : Kp a H H') : Od a H' v := by
  obtain ⟨ne, nv, r⟩ := h
  refine ⟨ne, nv.kp x ne, ?_⟩
  rcases r with ⟨t, k, e⟩ | ⟨p, xs, bs, rfl, hp, l2, hn, hb, hx⟩
  · exact .inl ⟨t, k.kp x ne, e⟩
  · refine .inr ⟨p, xs, bs, rfl, x _ _ (fun h => ne (congrArg V.ref h)) hp, l2, ⟨hn.1, fun i y b e f => (hn.2 i y b e f).kp x (hx y (List.mem_of_getElem? e))⟩, hb, hx⟩
theorem Od.same {a : Addr} {H H' : Hp} {v : V} (h : Od a H v) (s : Same H H') : Od a H' v := h.kp (Kp.of s)
theorem od_val {a : Addr} {H : Hp} {v : V} {t : String} (k : Kd H v t) (h1 : kitB t "str" = some false) (h2 : kitB t "tuple" = some false) (ne : v ≠ .ref a) : Od a H v := ⟨ne, .inr ⟨t, k, h1, rfl⟩, .inl ⟨t, k, h2⟩⟩
theorem od_str {a : Addr} {H : Hp} {z : Str} (hz : z.length ≤ sizeLine) (h : Nm z = false) : Od a H (.str z) := ⟨(fun q => nomatch q), .inl ⟨z, rfl, hz, h.symm⟩, .inl ⟨"str", .str z, by decide +kernel⟩⟩
theorem od_tup {a p : Addr} {H : Hp} {xs : List V} {bs : List Bool} (e : H p = some (.tup xs)) (l : xs.length ≤ 2) (nv : Nvs H xs bs) (b : bs.all id = false) (ne : p ≠ a) (nx : ∀ x ∈ xs, x ≠ .ref a) : Od a H (.ref p) :=
  ⟨fun q => ne (V.ref.inj q), .inr ⟨"tuple", .tup e, by decide +kernel, rfl⟩, .inr ⟨p, xs, bs, rfl, e, l, nv, b, nx⟩⟩
/-- a tuple whose first item is no letter -/
theorem od_one {a p : Addr} {H : Hp} {x : V} (e : H p = some (.tup [x])) (nv : Nv H x false) (ne : p ≠ a) (nx : x ≠ .ref a) : Od a H (.ref p) := by
  refine od_tup (bs := [false]) e (by simp) ⟨rfl, fun i y b h f => ?_⟩ rfl ne (fun y hy => by rw [List.mem_singleton.mp hy]; exact nx)
  match i, h, f with
  | 0, h, f =>
    cases h
    cases f
    exact nv
theorem od_two {a p : Addr} {H : Hp} {x y : V} {b1 b2 : Bool} (e : H p = some (.tup [x, y])) (n1 : Nv H x b1) (n2 : Nv H y b2) (hb : ([b1, b2]).all id = false) (ne : p ≠ a) (nx : x ≠ .ref a) (ny : y ≠ .ref a) : Od a H (.ref p) := by
  refine od_tup (bs := [b1, b2]) e (by simp) ⟨rfl, fun i u b h f => ?_⟩ hb ne (fun u hu => ?_)
  · match i, h, f with
    | 0, h, f =>
      cases h
      cases f
      exact n1
    | 1, h, f =>
      cases h
      cases f
      exact n2
  · rcases List.mem_cons.mp hu with rfl | hu
    · exact nx
    · rw [List.mem_singleton.mp hu]
      exact ny
theorem pow39 : L2.CPow 10 39 := ⟨by decide, by decide, by decide⟩
section
variable {P : Program} {w : World} {K : PySem.W.Frag} {mg : Str → Option Value} {base : Heap}
theorem scOdd : FnScope ["dice", "some"] ["dice"] (defScope sOdd) := ⟨rfl, rfl, rfl, by decide +kernel, rfl, by decide +kernel, by decide +kernel⟩
def spOdd : Sp := fun vs H Q _ => ∃ (a : Addr) (m : Nat), vs = [.ref a] ∧ Dc H a m ∧ m + 1 ≤ mmax ∧ ∀ (H' : Hp) (v : V), Kp a H H' → Dc H' a (m + 1) → Od a H' v → Q v H'
theorem ok_odd {f : Addr} {fd : FuncData} {k : Nat} (F : Fun K "_law_odd" "_law_odd" sOdd f fd) (B : Bn mg) (C1 : Cal P w K mg base k "_law_pick" ["dice", "items"] spPick) : FnOk P w K mg base CX0 (k + 1) f fd ["dice"] spOdd := by
  obtain ⟨f1, fd1, G1, g1, kp1, b1⟩ := C1
  refine F.ok scOdd (fun vs H Q E h => ?_) (fun cdv A outer s H vs Q E hr h => ?_)
  · obtain ⟨a, m, rfl, _⟩ := h
    rfl
  · obtain ⟨a, m, rfl, hd, hm, q⟩ := h
    refine ⟨_, pss_cons (ps_set (i := 1) scOdd.nd rfl (.inl rfl) (pe_lst (pa_cons pe_non (pa_cons pe_bl (pa_cons pe_int (pa_cons (pe_un un_neg pe_int) (pa_cons (pe_op op_pow pe_int pe_int) (pa_cons pe_str (pa_cons pe_str (pa_cons pe_str (pa_cons pe_str (pa_cons pe_str
        (pa_cons (pe_lst (pa_cons pe_str pa_nil)) (pa_cons pe_dnewK (pa_cons (pe_disp (pps_cons pe_str pe_int pps_nil) rfl rfl (by decide) (by decide)) (pa_cons (pe_tup (pa_cons pe_str pa_nil)) (pa_cons (pe_tup (pa_cons pe_int pa_nil)) (pa_cons (pe_tup (pa_cons (pe_tup (pa_cons pe_int pa_nil)) pa_nil)) pa_nil))))))))))))))))))
      (pss_cons (ps_set (i := 1) scOdd.nd rfl (.inl rfl) (pe_op op_cat (pv 1) (pe_lst (pa_cons (pe_tup (pa_cons pe_str (pa_cons pe_non pa_nil))) (pa_cons (pe_tup (pa_cons (pe_lst (pa_cons pe_str pa_nil)) pa_nil)) (pa_cons (pe_tup (pa_cons pe_str pa_nil))
        (pa_cons pe_str (pa_cons (pe_lst pa_nil) (pa_cons (pe_tup (pa_cons pe_str (pa_cons pe_str pa_nil))) (pa_cons pe_str (pa_cons (pe_tup (pa_cons pe_str pa_nil)) pa_nil)))))))))))
      (pss_one (ps_ret (pe_call G1 hr (by rfl) g1 kp1 b1 .nil pass0 (pa_cons (pv 0) (pa_cons (pv 1) pa_nil)))))), ?_⟩
    have h2 : 2 ≤ sizeLine := by decide
    have h1 : 1 ≤ sizeLine := by decide
    refine ⟨_, rfl, _, _, rfl, rfl, pow39, h1, fun l1 nl1 d1 nd1 d2 nd2 => ?_⟩
    refine ⟨upd_same, [(.inr "a", .int 1)], rfl, by decide, h1, fun t1 nt1 => ⟨h1, fun t2 nt2 => ⟨h1, fun t3 nt3 => ⟨h1, fun t4 nt4 => ⟨(show 16 ≤ sizeLine by decide), fun L1 nL1 => ?_⟩⟩⟩⟩⟩
    refine ⟨.ref L1, rfl, h2, fun t5 nt5 => ⟨h1, fun l2 nl2 => ⟨h1, fun t6 nt6 => ⟨h1, fun t7 nt7 => ⟨Nat.zero_le _, fun l3 nl3 => ⟨h2, fun t8 nt8 => ⟨h1, fun t9 nt9 => ⟨(show 8 ≤ sizeLine by decide), fun L2 nL2 => ?_⟩⟩⟩⟩⟩⟩⟩⟩
    have f0 : Same H H := Same.refl H
    have e1 := same_upd (o := .lst [.str "a"]) nl1
    have m1 := (hd.same f0).new nl1
    have f1 := f0.trans e1
    have e2 := same_upd (o := .dK []) nd1
    have m2 := (hd.same f1).new nd1
    have f2 := f1.trans e2
    have e3 := same_upd2 (o := .dK []) (o' := .dK (mergeK [] [(.inr "a", .int 1)])) nd2
    have m3 := (hd.same f2).new nd2
    have f3 := f2.trans e3
    have e4 := same_upd (o := .tup [.str "A"]) nt1
    have m4 := (hd.same f3).new nt1
    have f4 := f3.trans e4
    have e5 := same_upd (o := .tup [.int 1]) nt2
    have m5 := (hd.same f4).new nt2
    have f5 := f4.trans e5
    have e6 := same_upd (o := .tup [.int 1]) nt3
    have m6 := (hd.same f5).new nt3
    have f6 := f5.trans e6
    have e7 := same_upd (o := .tup [.ref t3]) nt4
    have m7 := (hd.same f6).new nt4
    have f7 := f6.trans e7
    have e8 := same_upd (o := .lst [V.non, .bl true, .int 0, .int (-1), .int (10 ^ (39 : Int).toNat), .str "", .str "A", .str "abcdefghi", .str "a b", .str "a1", .ref l1, .ref d1, .ref d2, .ref t1, .ref t2, .ref t4]) nL1
    have m8 := (hd.same f7).new nL1
    have f8 := f7.trans e8
    have e9 := same_upd (o := .tup [.str "a", .non]) nt5
    have m9 := (hd.same f8).new nt5
    have f9 := f8.trans e9
    have e10 := same_upd (o := .lst [.str "a"]) nl2
    have m10 := (hd.same f9).new nl2
    have f10 := f9.trans e10
    have e11 := same_upd (o := .tup [.ref l2]) nt6
    have m11 := (hd.same f10).new nt6
    have f11 := f10.trans e11
    have e12 := same_upd (o := .tup [.str ""]) nt7
    have m12 := (hd.same f11).new nt7
    have f12 := f11.trans e12
    have e13 := same_upd (o := .lst []) nl3
    have m13 := (hd.same f12).new nl3
    have f13 := f12.trans e13
    have e14 := same_upd (o := .tup [.str "abcdefghi", .str "a"]) nt8
    have m14 := (hd.same f13).new nt8
    have f14 := f13.trans e14
    have e15 := same_upd (o := .tup [.str "a\n"]) nt9
    have m15 := (hd.same f14).new nt9
    have f15 := f14.trans e15
    have e16 := same_upd (o := .lst [V.ref t5, .ref t6, .ref t7, .str "a,b", .ref l3, .ref t8, .str "a\n", .ref t9]) nL2
    have m16 := (hd.same f15).new nL2
    have f16 := f15.trans e16
    refine ⟨L1, L2, [V.non, .bl true, .int 0, .int (-1), .int (10 ^ (39 : Int).toNat), .str "", .str "A", .str "abcdefghi", .str "a b", .str "a1", .ref l1, .ref d1, .ref d2, .ref t1, .ref t2, .ref t4], [V.ref t5, .ref t6, .ref t7, .str "a,b", .ref l3, .ref t8, .str "a\n", .ref t9], rfl, rfl, ?_, upd_same, ?_, fun L3 nL3 => ?_⟩
    · exact e16 _ _ (e15 _ _ (e14 _ _ (e13 _ _ (e12 _ _ (e11 _ _ (e10 _ _ (e9 _ _ (upd_same))))))))
    · show 24 ≤ sizeLine
      decide
    have e17 := same_upd (o := .lst ([V.non, .bl true, .int 0, .int (-1), .int (10 ^ (39 : Int).toNat), .str "", .str "A", .str "abcdefghi", .str "a b", .str "a1", .ref l1, .ref d1, .ref d2, .ref t1, .ref t2, .ref t4] ++ [V.ref t5, .ref t6, .ref t7, .str "a,b", .ref l3, .ref t8, .str "a\n", .ref t9])) nL3
    have m17 := (hd.same f16).new nL3
    have f17 := f16.trans e17
    have b16 := e17
    have b15 := e16.trans b16
    have b14 := e15.trans b15
    have b13 := e14.trans b14
    have b12 := e13.trans b13
    have b11 := e12.trans b12
    have b10 := e11.trans b11
    have b9 := e10.trans b10
    have b8 := e9.trans b9
    have b7 := e8.trans b8
    have b6 := e7.trans b7
    have b5 := e6.trans b6
    have b4 := e5.trans b5
    have b3 := e4.trans b4
    have b2 := e3.trans b3
    have b1 := e2.trans b2
    have xl1 := b1 _ _ upd_same
    have xd1 := b2 _ _ upd_same
    have xd2 := b3 _ _ upd_same
    have xt1 := b4 _ _ upd_same
    have xt2 := b5 _ _ upd_same
    have xt3 := b6 _ _ upd_same
    have xt4 := b7 _ _ upd_same
    have xt5 := b9 _ _ upd_same
    have xl2 := b10 _ _ upd_same
    have xt6 := b11 _ _ upd_same
    have xt7 := b12 _ _ upd_same
    have xl3 := b13 _ _ upd_same
    have xt8 := b14 _ _ upd_same
    have xt9 := b15 _ _ upd_same
    have nr : ∀ (x y : Addr), x ≠ y → V.ref x ≠ V.ref y := fun x y h q => h (V.ref.inj q)
    have kN : kitB "NoneType" "str" = some false ∧ kitB "NoneType" "tuple" = some false ∧ kitB "bool" "str" = some false ∧ kitB "bool" "tuple" = some false ∧ kitB "int" "str" = some false ∧ kitB "int" "tuple" = some false ∧ kitB "list" "str" = some false ∧ kitB "list" "tuple" = some false ∧ kitB "dict" "str" = some false ∧ kitB "dict" "tuple" = some false ∧ kitB "tuple" "str" = some false := by decide +kernel
    obtain ⟨k1, k2, k3, k4, k5, k6, k7, k8, k9, k10, k11⟩ := kN
    refine ⟨.ref a, rfl, .ref L3, rfl, a, L3, _, m, rfl, hd.same f17, by omega, .inl upd_same, m17, (show 0 < 24 by decide), (show 24 ≤ 1000 by decide), fun H' i x hx kk dd => q H' x ((Kp.of f17).trans kk) dd (Od.kp ?_ kk)⟩
    have hx' := List.mem_of_getElem? hx
    clear hx
    revert x
    show ∀ x, x ∈ ([V.non, .bl true, .int 0, .int (-1), .int (10 ^ (39 : Int).toNat), .str "", .str "A", .str "abcdefghi", .str "a b", .str "a1", .ref l1, .ref d1, .ref d2, .ref t1, .ref t2, .ref t4, V.ref t5, .ref t6, .ref t7, .str "a,b", .ref l3, .ref t8, .str "a\n", .ref t9] : List V) → _
    refine List.forall_mem_cons.mpr ⟨od_val .non k1 k2 (fun q => nomatch q), ?_⟩
    refine List.forall_mem_cons.mpr ⟨od_val (.bl _) k3 k4 (fun q => nomatch q), ?_⟩
    refine List.forall_mem_cons.mpr ⟨od_val (.int _) k5 k6 (fun q => nomatch q), ?_⟩
    refine List.forall_mem_cons.mpr ⟨od_val (.int _) k5 k6 (fun q => nomatch q), ?_⟩
    refine List.forall_mem_cons.mpr ⟨od_val (.int _) k5 k6 (fun q => nomatch q), ?_⟩
    refine List.forall_mem_cons.mpr ⟨od_str (show (Str.ofString "").length ≤ sizeLine by decide) (by decide +kernel), ?_⟩
    refine List.forall_mem_cons.mpr ⟨od_str (show (Str.ofString "A").length ≤ sizeLine by decide) (by decide +kernel), ?_⟩
    refine List.forall_mem_cons.mpr ⟨od_str (show (Str.ofString "abcdefghi").length ≤ sizeLine by decide) (by decide +kernel), ?_⟩
    refine List.forall_mem_cons.mpr ⟨od_str (show (Str.ofString "a b").length ≤ sizeLine by decide) (by decide +kernel), ?_⟩
    refine List.forall_mem_cons.mpr ⟨od_str (show (Str.ofString "a1").length ≤ sizeLine by decide) (by decide +kernel), ?_⟩
    refine List.forall_mem_cons.mpr ⟨od_val (.lst xl1) k7 k8 (nr _ _ m1), ?_⟩
    refine List.forall_mem_cons.mpr ⟨od_val (.dct xd1) k9 k10 (nr _ _ m2), ?_⟩
    refine List.forall_mem_cons.mpr ⟨od_val (.dct xd2) k9 k10 (nr _ _ m3), ?_⟩
    refine List.forall_mem_cons.mpr ⟨od_one xt1 (.inl ⟨_, rfl, (show (Str.ofString "A").length ≤ sizeLine by decide), (show _ = Nm (Str.ofString "A") by decide +kernel)⟩) m4 (fun q => nomatch q), ?_⟩
    refine List.forall_mem_cons.mpr ⟨od_one xt2 (.inr ⟨"int", .int _, k5, rfl⟩) m5 (fun q => nomatch q), ?_⟩
    refine List.forall_mem_cons.mpr ⟨od_one xt4 (.inr ⟨"tuple", .tup xt3, k11, rfl⟩) m7 (nr _ _ m6), ?_⟩
    refine List.forall_mem_cons.mpr ⟨od_two (b1 := true) (b2 := false) xt5 (.inl ⟨_, rfl, (show (Str.ofString "a").length ≤ sizeLine by decide), (show _ = Nm (Str.ofString "a") by decide +kernel)⟩) (.inr ⟨"NoneType", .non, k1, rfl⟩) rfl m9 (fun q => nomatch q) (fun q => nomatch q), ?_⟩
    refine List.forall_mem_cons.mpr ⟨od_one xt6 (.inr ⟨"list", .lst xl2, k7, rfl⟩) m11 (nr _ _ m10), ?_⟩
    refine List.forall_mem_cons.mpr ⟨od_one xt7 (.inl ⟨_, rfl, (show (Str.ofString "").length ≤ sizeLine by decide), (show _ = Nm (Str.ofString "") by decide +kernel)⟩) m12 (fun q => nomatch q), ?_⟩
    refine List.forall_mem_cons.mpr ⟨od_str (show (Str.ofString "a,b").length ≤ sizeLine by decide) (by decide +kernel), ?_⟩
    refine List.forall_mem_cons.mpr ⟨od_val (.lst xl3) k7 k8 (nr _ _ m13), ?_⟩
    refine List.forall_mem_cons.mpr ⟨od_two (b1 := false) (b2 := true) xt8 (.inl ⟨_, rfl, (show (Str.ofString "abcdefghi").length ≤ sizeLine by decide), (show _ = Nm (Str.ofString "abcdefghi") by decide +kernel)⟩) (.inl ⟨_, rfl, (show (Str.ofString "a").length ≤ sizeLine by decide), (show _ = Nm (Str.ofString "a") by decide +kernel)⟩) rfl m14 (fun q => nomatch q) (fun q => nomatch q), ?_⟩
    refine List.forall_mem_cons.mpr ⟨od_str (show (Str.ofString "a\n").length ≤ sizeLine by decide) (by decide +kernel), ?_⟩
    refine List.forall_mem_cons.mpr ⟨od_one xt9 (.inl ⟨_, rfl, (show (Str.ofString "a\n").length ≤ sizeLine by decide), (show _ = Nm (Str.ofString "a\n") by decide +kernel)⟩) m15 (fun q => nomatch q), ?_⟩
    exact fun x h => nomatch h
end
end Sfl
namespace Sfl
open PySem PySem.Spec PyProof.Rows L2
/-- a tuple of logs that are passed -/
def Lgs (H : Hp) (p : Addr) (rs : List Addr) (ls : List (List Str)) : Prop := H p = some (.tup (rs.map V.ref)) ∧ rs.length = ls.length ∧ ∀ (i : Nat) (r : Addr) (l : List Str), rs[i]? = some r → ls[i]? = some l → Tp H r l
theorem Lgs.same {H H' : Hp} {p : Addr} {rs : List Addr} {ls : List (List Str)} (h : Lgs H p rs ls) (s : Same H H') : Lgs H' p rs ls := ⟨s _ _ h.1, h.2.1, fun i r l a b => s _ _ (h.2.2 i r l a b)⟩
section
variable {P : Program} {w : World} {K : PySem.W.Frag} {mg : Str → Option Value} {base : Heap}
theorem scCheckLogs : FnScope ["value", "log"] ["value"] (defScope sCheckLogs) := ⟨rfl, rfl, rfl, by decide +kernel, rfl, by decide +kernel, by decide +kernel⟩
def spCheckLogs0 : Sp := fun vs H Q _ => ∃ (p : Addr) (rs : List Addr) (ls : List (List Str)), vs = [.ref p] ∧ Lgs H p rs ls ∧ (∀ l ∈ ls, Lg l) ∧ ∀ H', Same H H' → Q .non H'
theorem ok_checkLogs0 {f : Addr} {fd : FuncData} {k : Nat} (F : Fun K "check_logs" "check_logs" sCheckLogs f fd) (B : Bn mg) (C1 : Cal P w K mg base k "check_log" ["value"] spCheckLog) :
    FnOk P w K mg base CX0 (k + 1) f fd ["value"] spCheckLogs0 := by
  obtain ⟨f1, fd1, G1, g1, kp1, b1⟩ := C1
  refine F.ok scCheckLogs (fun vs H Q E h => ?_) (fun cdv A outer s H vs Q E hr h => ?_)
  · obtain ⟨p, rs, ls, rfl, _⟩ := h
    rfl
  · obtain ⟨p, rs, ls, rfl, hp, hl, q⟩ := h
    refine ⟨_, pss_cons (ps_if (pt_not (pt_val (pe_callB call_isi (by rfl) B.isi (by decide +kernel) (pa_cons (pv 0) (pa_cons (pe_bltn (v := .ty "tuple") (by rfl) B.tuple (by decide +kernel) rfl) pa_nil))))) (pss_one ps_never) pss_nil)
      (pss_one (ps_for PassesOwn.never rfl (pi_tup (pv 0)) (pg_name (i := 1) scCheckLogs.nd rfl (.inl rfl))
        (pss_one (ps_expr (pe_call G1 hr (by rfl) g1 kp1 b1 .nil pass0 (pa_cons (pv 1) pa_nil)))))), ?_⟩
    refine ⟨_, rfl, .ref p, .ty "tuple", _, .type "tuple", true, rfl, .ty _, .base (.tup hp.1), kit_ty (by decide +kernel), _, rfl, iteF ?_⟩
    refine ⟨.ref p, rfl, p, rfl, ⟨_, sqt hp.1⟩, ?_⟩
    refine for_tup (xs := rs.map V.ref) (fun i σ H3 => ∃ y, σ = [some (.ref p), y] ∧ Same H H3) ?_ ?_ ?_ ?_
    · exact ⟨none, rfl, Same.refl H⟩
    · rintro i σ H3 hi ⟨y, rfl, s3⟩
      exact sqt (s3 _ _ hp.1)
    · rintro i x σ H3 hx ⟨y, rfl, s3⟩
      obtain ⟨r, hr', rfl⟩ := get_map' hx
      have hi : i < ls.length := by
        rw [← hp.2.1]
        exact get_lt hr'
      have hli := List.getElem?_eq_getElem hi
      exact ⟨_, rfl, r, _, rfl, s3 _ _ (hp.2.2 i r _ hr' hli), hl _ (List.mem_of_getElem? hli), fun H4 s4 => ⟨_, rfl, s3.trans s4⟩⟩
    · rintro σ H3 ⟨y, rfl, s3⟩
      exact q _ s3
end
end Sfl
/- in_order, sorted_logs (law k01) -/
namespace Sfl
open PySem PySem.Spec PyProof.Rows L2
theorem sortedDK {X : Cx} (K : PySem.W.Frag) (P : Program) (w : World) (hc : X.calm = true) (hu : X.A.units + 64 < cLine) (h1 : X.K = K := by rfl) (h2 : X.prog = P := by rfl) (h3 : X.w = w := by rfl) : CallR X (.builtin "sorted") (rSortedD K P w) := by
  subst h1 h2 h3
  exact cr_sortedD hc hu
theorem sdK {X : Cx} {elt tg iter : Expr} {ifs : List Expr} {scope : Scope} {own : List (PySem.Str × Nat)} {pos : Pos} {wi : TI} {g : TG} {tt : TT} {te : TE} (K : PySem.W.Frag) (P : Program) (w : World) (hc : X.calm = true) (hN : X.N.Nodup) (hu : X.A.units + 64 < cLine) (hi : PI X tg iter wi) (ok : BlkOk X.N X.env.scope scope own)
    (hb : ∀ (u : Shared) (G : Hp) (C : Addr) (cl : List (PySem.Str × Addr)) (fp : List Addr), PG (X.blk u G scope (compEnvC scope cl C X.env) fp) tg g ∧ PTs (X.blk u G scope (compEnvC scope cl C X.env) fp) ifs tt ∧ PE (X.blk u G scope (compEnvC scope cl C X.env) fp) elt te)
    (hs : ∀ x, foldedSetIterable iter X.env x = pure x := by intro _; rfl) (h1 : X.K = K := by rfl) (h2 : X.prog = P := by rfl) (h3 : X.w = w := by rfl) : PE X (.SetComp elt [⟨tg, iter, ifs, 0⟩] scope pos) (tSd P w K wi g tt te (own.map (·.2))) := by
  subst h1 h2 h3
  exact pe_sd hc hN hu hi ok hb hs
theorem lenQ {X : Cx} (K : PySem.W.Frag) (h : X.K = K := by rfl) : CallR X (.builtin "len") (fun xs H Q => ∃ p ys, xs = [V.ref p] ∧ (SqL K H p ys ∨ SqT K H p ys) ∧ Q (.int ys.length) H) := by
  subst h
  exact call_len_seq
theorem back_none {H H' : Hp} {b : Addr} (s : Same H H') (n : H' b = none) : H b = none := by
  cases e : H b with
  | none => rfl
  | some o =>
    rw [s b o e] at n
    exact nomatch n
theorem Lgs.keep {H H' : Hp} {p : Addr} {rs : List Addr} {ls : List (List Str)} (h : Lgs H p rs ls) (k : ∀ b xs, H b = some (.tup xs) → H' b = some (.tup xs)) : Lgs H' p rs ls := ⟨k _ _ h.1, h.2.1, fun i r l a b => k _ _ (h.2.2 i r l a b)⟩
section
variable {P : Program} {w : World} {K : PySem.W.Frag} {mg : Str → Option Value} {base : Heap}
theorem scInOrder : FnScope ["logs", "pairs", "log", "_"] ["logs"] (defScope sInOrder) := ⟨rfl, rfl, rfl, by decide +kernel, rfl, by decide +kernel, by decide +kernel⟩
def spInOrder : Sp := fun vs H Q _ => ∃ (p : Addr) (rs : List Addr) (ls : List (List Str)), vs = [.ref p] ∧ Lgs H p rs ls ∧ ls.length < 63 ∧ (∀ l ∈ ls, Lay l ∧ l.length ≤ 1000) ∧
  ∀ H' t rs' ms, Same H H' → H t = none → Lgs H' t rs' ms → SrtL ls ms → Q (.ref t) H'
theorem ok_inOrder {f : Addr} {fd : FuncData} {k : Nat} (F : Fun K "in_order" "in_order" sInOrder f fd) (B : Bn mg) : FnOk P w K mg base CX0 (k + 1) f fd ["logs"] spInOrder := by
  refine F.ok scInOrder (fun vs H Q E h => ?_) (fun cdv A outer s H vs Q E hr h => ?_)
  · obtain ⟨p, rs, ls, rfl, _⟩ := h
    rfl
  · obtain ⟨p, rs, ls, rfl, hp, hn, hl, q⟩ := h
    refine ⟨_, pss_cons (ps_set (i := 1) scInOrder.nd rfl (.inl rfl) (pe_callB (sortedDK K P w rfl hr.units) (by rfl) B.sorted (by decide +kernel) (pa_cons
        (sdK (own := [("log", 2)]) (g := gName 2) (tt := tYes) K P w rfl scInOrder.nd hr.units (pi_tup (pv 0)) (blkOk_by (own := [("log", 2)]) (N := ["logs", "pairs", "log", "_"]) (sc := defScope sInOrder) (by decide +kernel))
          (fun _ _ _ _ _ => ⟨pg_name (i := 2) scInOrder.nd rfl (Or.inl rfl), pts_nil, pe_tup (pa_cons (pe_callB (lenQ K) (by rfl) B.len PySem.boot_len (pa_cons (pv 2) pa_nil)) (pa_cons (pv 2) pa_nil))⟩)) pa_nil)))
      (pss_one (ps_ret (pe_callTy call_tuple_of (by rfl) B.tuple (by decide +kernel) (pa_cons
        (pe_lc (own := [("_", 3), ("log", 2)]) (tt := tYes) rfl scInOrder.nd (pi_list (pv 1)) (blkOk_by (own := [("_", 3), ("log", 2)]) (N := ["logs", "pairs", "log", "_"]) (sc := defScope sInOrder) (by decide +kernel))
          (fun _ _ _ _ _ => pgTupQ K 2 rfl (pgs_cons (pg_name (i := 3) scInOrder.nd rfl (Or.inl rfl)) (pgs_cons (pg_name (i := 2) scInOrder.nd rfl (Or.inl rfl)) pgs_nil))) (fun _ _ _ _ _ => pts_nil)
          (fun _ _ _ _ _ => pv 2)) pa_nil)))), ?_⟩
    refine ⟨.ref p, rfl, p, rfl, ⟨_, sqt hp.1⟩, fun D nD => ?_⟩
    refine sd_tup (xs := rs.map V.ref) (fun i H4 => Same H H4 ∧ ∃ L, H4 D = some (DSO P w D L) ∧ Prs H4 (ls.take i) L) ?_ ?_ ?_ ?_
    · exact ⟨same_upd nD, [], upd_same, prs_nil⟩
    · rintro i H4 hi ⟨s4, _⟩
      exact sqt (s4 _ _ hp.1)
    · rintro i x H4 hx ⟨s4, L, hD, hL⟩
      obtain ⟨r, hr', rfl⟩ := get_map' hx
      have hi : i < ls.length := by
        rw [← hp.2.1]
        exact get_lt hr'
      have hli := List.getElem?_eq_getElem hi
      generalize ls[i] = l at hli
      have hlm := List.mem_of_getElem? hli
      have tr : Tp H4 r l := s4 _ _ (hp.2.2 i r _ hr' hli)
      refine ⟨rfl, .ref r, rfl, r, _, rfl, .inr (sqt tr), .ref r, rfl, (show 2 ≤ sizeLine by decide), fun t nt => ?_⟩
      rw [List.length_map]
      have st := same_upd (o := .tup [V.int (l.length : Nat), .ref r]) nt
      have pe : PairEl (upd H4 t (.tup [V.int (l.length : Nat), .ref r])) (t, pd l) l r := ⟨upd_same, st _ _ tr, rfl⟩
      have hL5 := hL.keep (H' := upd H4 t (.tup [V.int (l.length : Nat), .ref r])) fun b xs e => st _ _ e
      have hlen := hL.2.2
      rw [List.length_take] at hlen
      refine ⟨t, pd l, L, rfl, pe.dp, hdy_pd (hl l hlm).1, depth_pd l, st _ _ hD, hL5.elh, by omega, fun L' g => ⟨?_, L', upd_same, ?_⟩⟩
      · intro b o e
        rw [upd_ne (ne_of_none e nD)]
        exact st _ _ (s4 _ _ e)
      · rw [List.take_add_one, hli]
        refine (hL5.grow pe g).keep fun b xs e => ?_
        rw [upd_ne]
        · exact e
        · rintro rfl
          rw [st _ _ hD] at e
          exact nomatch e
    · rintro H4 ⟨s4, L, hD, hL⟩
      rw [List.length_map, hp.2.1, List.take_length] at hL
      refine ⟨D, L, rfl, hD, hL.elh, hL.can, fun M t pm nd as nt => ?_⟩
      have st := same_upd (o := .lst (M.map fun q => V.ref q.1)) nt
      obtain ⟨rs', ms, es⟩ := each_p (H := H4) (M := M) fun x hx => by
        obtain ⟨l, r, _, e⟩ := hL.1 x (pm.mem_iff.mp hx)
        exact ⟨l, r, e⟩
      have srt := srt_of hL pm nd as es
      have hM : M.length < 63 := by
        have := hL.2.2
        have := pm.length_eq
        omega
      refine ⟨.ref t, rfl, t, rfl, ⟨_, sql upd_same⟩, fun D2 nD2 => ?_⟩
      refine lc_list (xs := M.map fun q => V.ref q.1) (fun i H5 => Same (upd H4 t (.lst (M.map fun q => V.ref q.1))) H5 ∧ H5 D2 = some (.lst ((rs'.take i).map V.ref))) ⟨same_upd nD2, by rw [upd_same]; rfl⟩ ?_ ?_ ?_
      · rintro i H5 hi ⟨s5, _⟩
        exact sql (s5 _ _ upd_same)
      · rintro i x H5 hx ⟨s5, hD5⟩
        obtain ⟨e, he, rfl⟩ := get_map' hx
        obtain ⟨r, l, hr2, hl2, pe⟩ := es.at he
        refine ⟨e.1, _, rfl, sqt (s5 _ _ (st _ _ pe.1)), rfl, _, _, rfl, _, _, rfl, rfl, rfl, .ref r, rfl, _, hD5, ?_, ?_, ?_⟩
        · rw [List.length_map, List.length_take]
          have := es.len.1
          exact small1000 (by omega)
        · intro b o e
          rw [upd_ne (ne_of_none e nD2)]
          exact s5 _ _ e
        · rw [upd_same, List.take_add_one, hr2, List.map_append]
          rfl
      · rintro H5 ⟨s5, hD5⟩
        rw [List.length_map, ← es.len.1, List.take_length] at hD5
        refine ⟨D2, _, rfl, .inl ⟨sql hD5, fun z nz => ?_⟩⟩
        have sz := same_upd (o := .tup (rs'.map V.ref)) nz
        have sall := ((s4.trans st).trans s5).trans sz
        refine q _ z rs' ms sall (back_none ((s4.trans st).trans s5) nz) ⟨upd_same, by rw [es.len.1, es.len.2], fun i r l a b => sz _ _ (s5 _ _ (st _ _ (es.tp a b)))⟩ srt
theorem scSortedLogs : FnScope ["logs"] ["logs"] (defScope sSortedLogs) := ⟨rfl, rfl, rfl, by decide +kernel, rfl, by decide +kernel, by decide +kernel⟩
def spSortedLogs : Sp := fun vs H Q _ => ∃ (p : Addr) (rs : List Addr) (ls : List (List Str)), vs = [.ref p] ∧ Lgs H p rs ls ∧ ls.length < 63 ∧ (∀ l ∈ ls, Lg l) ∧
  ∀ H' t rs' ms, Same H H' → H t = none → Lgs H' t rs' ms → SrtL ls ms → Q (.ref t) H'
theorem Lg.lay {l : List Str} (h : Lg l) : Lay l := fun z hz => nm_ok (h.nm z hz)
theorem ok_sortedLogs {f : Addr} {fd : FuncData} {k : Nat} (F : Fun K "sorted_logs" "sorted_logs" sSortedLogs f fd) (C1 : Cal P w K mg base k "check_logs" ["value"] spCheckLogs0) (C2 : Cal P w K mg base k "in_order" ["logs"] spInOrder) :
    FnOk P w K mg base CX0 (k + 1) f fd ["logs"] spSortedLogs := by
  obtain ⟨f1, fd1, G1, g1, kp1, b1⟩ := C1
  obtain ⟨f2, fd2, G2, g2, kp2, b2⟩ := C2
  refine F.ok scSortedLogs (fun vs H Q E h => ?_) (fun cdv A outer s H vs Q E hr h => ?_)
  · obtain ⟨p, rs, ls, rfl, _⟩ := h
    rfl
  · obtain ⟨p, rs, ls, rfl, hp, hn, hl, q⟩ := h
    refine ⟨_, pss_cons (ps_expr (pe_call G1 hr (by rfl) g1 kp1 b1 .nil pass0 (pa_cons (pv 0) pa_nil)))
      (pss_one (ps_ret (pe_call G2 hr (by rfl) g2 kp2 b2 .nil pass0 (pa_cons (pv 0) pa_nil)))), ?_⟩
    refine ⟨.ref p, rfl, p, rs, ls, rfl, hp, hl, fun H1 s1 => ⟨.ref p, rfl, p, rs, ls, rfl, hp.same s1, hn, fun l h => ⟨(hl l h).lay, (hl l h).k⟩, fun H' t rs' ms s2 nt ht srt => q H' t rs' ms (s1.trans s2) (back_none s1 nt) ht srt⟩⟩
end
end Sfl
/- set(tuple) of texts -/
namespace Sfl
open PySem PySem.Spec PyProof.Rows L2
section
variable {P : Program} {w : World} {A : Around} {E : Value → Shared → Prop} {s : Shared} {a : Addr} {zs : List Str}
set_option maxHeartbeats 3200000 in
theorem call_set_txtsT {l : Addr} {items : Array Value} {xs : List Str} {Q : Value → Shared → Prop} (hh : A.handled = none) (hl : s.heap.IsTuple l items) (hit : StrsAre items.toList xs) (hb : xs.length + 1 < scanBound)
    (h : ∀ (h' : Heap) (tk : Nat), TxtSet P w h' s.heap.objs.size (difs xs) → (∀ b o, s.heap.get? b = some o → h'.get? b = some o) → Q (.ref s.heap.objs.size) { s with heap := h', toks := tk }) :
    wpAny (model P w) A (call (.type "set") [.ref l]) Q E s := by
  have hisz : items.size = xs.length := by
    rw [← Array.length_toList]
    exact StrsAre.len_eq hit
  obtain ⟨c, tl, hmro⟩ := F.called_set.mro
  have hmade := F.called_set.made
  have hsub := F.called_set.sub
  refine wpAny_call (codeAny_of_tree ?_)
  show wpAny _ _ (callAny (.type "set") _) _ _ _
  refine wpAny_pure ⟨Code.quiet_builtin _ (by decide +kernel), codeAny_builtin F.entry_type_call ?_⟩
  rw [Around.under_plain (weight_type_call_type "set" [.ref l] []) rfl]
  have h1 := F.called_set.notType
  have h2 := F.called_set.canCreate
  have hct := F.typeCall_set_1 (.ref l)
  repeat (any_goals (first | assumption | wp_step))
  refine codeAny_mono (code_set_led1 (.ref l) (E := E) (Q₁ := fun obj s₁ => obj = .ref s.heap.objs.size ∧ s₁ = { s with heap := s.heap.push (freshO w) }) ⟨rfl, rfl⟩) fun r s₁ hr => ?_
  cases r with
  | error e => exact hr
  | ok fl =>
    cases fl with
    | ret obj =>
      obtain ⟨rfl, rfl⟩ := hr
      have hS : (s.heap.push (freshO w)).get? s.heap.objs.size = some (freshO w) := Heap.get?_push_size _ rfl
      have hT : Shared.TypeIs { s with heap := s.heap.push (freshO w) } (.ref s.heap.objs.size) "set" := ⟨_, hS, rfl⟩
      have hli := F.called_set.init.lookup
      have hbi := F.called_set.init.bind (.ref s.heap.objs.size)
      repeat (any_goals (first | assumption | wp_step))
      refine codeAny_mono (codeAny_call_builtin (R := wants (fun r s₂ => r = .none ∧ ∃ h' tk, s₂ = { s with heap := h', toks := tk } ∧ TxtSet P w h' s.heap.objs.size (difs xs) ∧
          (∀ b o, s.heap.get? b = some o → h'.get? b = some o)) E) F.called_set.init.plain F.entry_set_init (check_set_init_1 hT ?_)) fun r₂ s₂ hr₂ => ?_
      · obtain ⟨ol, hol, hcl, nl, hdl⟩ := hl
        obtain ⟨ocls, odict, odata, oslots⟩ := ol
        simp only at hcl hdl
        subst hcl
        subst hdl
        have hol' : (s.heap.push (freshO w)).get? l = some { cls := .type "tuple", dict := odict, data := .seq items nl, slots := oslots } := Heap.get?_push_of_some _ hol
        have hsls := F.sub_tuple_set
        have hslf := F.sub_tuple_frozenset
        have hne : (Value.type "tuple" == Value.type "dict") = false := by decide
        have hl1 : (s.heap.push (freshO w)).IsTuple l items := ⟨_, hol', rfl, nl, rfl⟩
        unfold Builtin.«set.__init__» noKeywords Builtin.Frozenset.updateFrom
        generalize hPI : pyIter = PI
        wp_walk
        subst hPI
        refine wpAny_pyIter_tuple hl1 ?_
        refine wpAny_bind (wpAny_runValue ?_)
        have hlS : l < s.heap.objs.size := Heap.lt_size hol
        have hh3 : A.in1.in1.in1.handled = none := by simp [hh]
        have hz1 : (s.heap.push (freshO w)).objs.size = s.heap.objs.size + 1 := Heap.size_push ..
        have hneI : l ≠ (s.heap.push (freshO w)).objs.size := by
          rw [hz1]
          exact Nat.ne_of_lt (Nat.lt_succ_of_lt hlS)
        have hSf : s.heap.objs.size ∉ [(s.heap.push (freshO w)).objs.size, l] := by
          rw [hz1]
          intro z
          rcases List.mem_cons.mp z with z | z
          · exact Nat.ne_of_lt (Nat.lt_succ_self _) z
          · exact Nat.ne_of_gt hlS (List.mem_singleton.mp z)
        have hval : ∀ (i : Nat) (v : Value), items[i]? = some v → ∃ k t, xs[i]? = some k ∧ v = .str k t := fun i v hv => by
          have hi : i < xs.length := by
            rw [← hisz]
            exact (Array.getElem?_eq_some_iff.mp hv).1
          obtain ⟨t, e⟩ := SS.strs_at hit i v (by rw [Array.getElem?_toList]; exact hv)
          refine ⟨xs[i], t, List.getElem?_eq_getElem hi, ?_⟩
          rw [e, getD_of' hi]
        refine txt_loop (P := P) ((Walks.tuple hh3 _ l hneI items).toS) s.heap.objs.size hSf xs hisz hb hval (items.size - 0) 0 _ (by omega) (Nat.zero_le _)
          ⟨⟨_, Heap.get?_push_size _ rfl, rfl, rfl⟩, (hl1.push _)⟩ ?hS0 ?hR
        case hS0 =>
          refine txt_new ?_
          exact Heap.get?_push_of_some _ hS
        case hR =>
          intro s' hm hS'
          obtain ⟨h', g2, d', tk', os'⟩ := s'
          have eg : g2 = s.gens := hm.gens
          have ed : d' = s.drawn := hm.drawn
          have eo : os' = s.os := hm.os
          subst eg
          subst ed
          subst eo
          show wpAny _ _ _ _ _ _
          refine wpAny_pure ?_
          show wpAny _ _ (ret Value.none) _ _ _
          refine wpAny_pure ⟨rfl, h', tk', rfl, hS', fun b o e => ?_⟩
          have hb0 : b < s.heap.objs.size := Heap.lt_size e
          refine hm.heap b o (fun z => ?_) (Heap.get?_push_of_some _ (Heap.get?_push_of_some _ e))
          rcases List.mem_cons.mp z with z | z
          · exact Nat.ne_of_lt hb0 z
          · exact Nat.ne_of_lt (Nat.lt_succ_of_lt hb0) ((List.mem_singleton.mp z).trans hz1)
      · cases r₂ with
        | error e => exact hr₂
        | ok fl₂ =>
          cases fl₂ with
          | ret r =>
            obtain ⟨rfl, h', tk, rfl, hS', hk'⟩ := hr₂
            repeat (any_goals (first | assumption | wp_step))
            exact h _ _ hS' hk'
          | _ => exact hr₂.elim
    | _ => exact hr.elim
end
section
variable {X : Cx}
/-- set(tuple) -/
def rSetTxtT (K : PySem.W.Frag) (P : Program) (w : World) : List V → Hp → VK → Prop := fun xs H Q => ∃ (l : Addr) (ys : List Str), xs = [.ref l] ∧ SqT K H l (ys.map V.str) ∧ ys.length ≤ 1000 ∧ ∀ p, H p = none → Q (.ref p) (upd H p (TxtO P w p (difs ys)))
theorem cr_setTxtT (hc : X.calm = true) : CallR X (.type "set") (rSetTxtT X.K X.prog X.w) := by
  intro pins s σ H vs us Q I r h
  obtain ⟨l, ys, rfl, hq, hlen, q⟩ := h
  rw [Vals.ref1 r]
  obtain ⟨its, rv, pl, hz⟩ := I.tuple hq
  refine call_set_txtsT (P := X.prog) (w := X.w) (I.ok.hd hc) pl (by simpa using rv.strs) (by unfold scanBound; omega) fun h' tk hS hk => ?_
  have ⟨o, _, _, _, ho, _⟩ := hS
  have hobj : ObjOk X.prog X.w (upd H s.heap.objs.size (TxtO X.prog X.w s.heap.objs.size (difs ys))) h' s.heap.objs.size (TxtO X.prog X.w s.heap.objs.size (difs ys)) := ⟨hS, ⟨o, ho⟩, fun h1 h2 p k => TxtSet.keep p k⟩
  exact ⟨.ref _, upd H s.heap.objs.size (TxtO X.prog X.w s.heap.objs.size (difs ys)), I.laid (t' := tk) hk (Nat.le_refl _) hobj, rfl, q _ (I.hok.fresh (Nat.le_refl _))⟩
end
end Sfl
/- make_letters( *names) (law k01) -/
namespace Sfl
open PySem PySem.Spec PyProof.Rows L2
/-! ### letters ascend -/
theorem lt_of_not : ∀ a b : List Nat, ltCps b a = false → a ≠ b → ltCps a b = true
  | [], [], _, h => absurd rfl h
  | [], y :: ys, _, _ => rfl
  | x :: xs, [], h, _ => by
    have e : ltCps [] (x :: xs) = true := rfl
    rw [e] at h
    cases h
  | x :: xs, y :: ys, h, hn => by
    unfold ltCps at h ⊢
    by_cases c1 : x < y
    · simp [c1]
    · by_cases c2 : y < x
      · simp [c2] at h
      · have e : x = y := by omega
        subst e
        have hn' : xs ≠ ys := fun z => hn (by rw [z])
        simp at h ⊢
        exact lt_of_not xs ys h hn'
theorem asc_of : ∀ (x : Str) (l : List Str), risingS x l = true → (x :: l).Nodup → asc (x :: l) = true
  | x, [], _, _ => rfl
  | x, y :: r, h, hn => by
    have h1 : (!ltCps y.cps.toList x.cps.toList && risingS y r) = true := h
    rw [Bool.and_eq_true] at h1
    obtain ⟨h2, h3⟩ := h1
    obtain ⟨n1, n2⟩ := List.nodup_cons.mp hn
    have ih := asc_of y r h3 n2
    have hne : x.cps.toList ≠ y.cps.toList := by
      intro e
      have e2 : x = y := by
        cases x with
        | mk a => cases y with
          | mk b =>
            congr 1
            exact Array.toList_inj.mp e
      exact n1 (by rw [e2]; exact List.mem_cons_self)
    have hlt := lt_of_not _ _ (by simpa using h2) hne
    rw [← lt_meets] at hlt
    show (decide (x.cps.toList < y.cps.toList) && asc (y :: r)) = true
    rw [hlt, ih]
    rfl
theorem asc_sorted {ys : List Str} (h : sortedS ys = true) (n : ys.Nodup) : asc ys = true := by
  cases ys with
  | nil => rfl
  | cons x r => exact asc_of x r h n
/-- a def whose binding is its own, called with plain arguments -/
theorem pe_callR {X : Cx} {CX : CXT} {k : Nat} {f : Addr} {sp : Sp} {E : XK} {x : Str} {e : Expr} {es : List Expr} {t : TA} {p pos : Pos} (F : FnR X.prog X.w X.K X.mg X.base CX k f sp) (hr : Room k X.A) (hg : Gl X x) (hm : X.mg x = some (.ref f)) (hk : PySem.W.keepIn X.K (.ref f) = true)
    (hx : Passes CX X E) (ha : PA X (e :: es) t) (hdb : (x == ("__debug__" : Str)) = false := by decide) (he : starEach (e :: es) X.env = (false, eval e X.env) :: starEach es X.env := by rfl) (hpl : (backTo pos (starEach es X.env)).any (·.1) = false := by rfl) :
    PE X (.Call (.Name x p) (e :: es) [] pos) (fun σ H Q => t σ H fun vs H1 => sp vs H1 Q E) := by
  refine ⟨fun pins s σ H Q I h => wpAny_Call_Name_kw (ld_glob I hg hm ?_ hdb)⟩
  refine PySem.W.callWith_K (h₀ := X.base) I.ok.mod.kin hk (thn (ha.run pos pins s σ H _ I h) fun us s1 ⟨vs, H1, I1, r, q⟩ => ?_) he hpl
  exact ⟨I1.kIn, wpAny_call (run_fnR F hr hx I1 r q)⟩
theorem pe_callR0 {X : Cx} {CX : CXT} {k : Nat} {f : Addr} {sp : Sp} {E : XK} {x : Str} {p pos : Pos} (F : FnR X.prog X.w X.K X.mg X.base CX k f sp) (hr : Room k X.A) (hg : Gl X x) (hm : X.mg x = some (.ref f)) (hk : PySem.W.keepIn X.K (.ref f) = true)
    (hx : Passes CX X E) (hdb : (x == ("__debug__" : Str)) = false := by decide) : PE X (.Call (.Name x p) [] [] pos) (fun σ H Q => sp [] H Q E) := by
  refine ⟨fun pins s σ H Q I h => wpAny_Call_Name_kw (ld_glob I hg hm ?_ hdb)⟩
  exact PySem.W.callWith_K0 I.kIn hk (wpAny_call (run_fnR (us := []) F hr hx I .nil h))
theorem nvs_all {H : Hp} : ∀ {xs : List V} {bs : List Bool}, Nvs H xs bs → bs.all id = true → ∃ l : List Str, xs = l.map V.str ∧ ∀ z ∈ l, Nm z = true
  | [], _, _, _ => ⟨[], rfl, fun _ h => nomatch h⟩
  | x :: xs, [], h, _ => nomatch h.1
  | x :: xs, b :: bs, h, hb => by
    obtain ⟨h1, h2⟩ := Bool.and_eq_true_iff.mp (show (b && bs.all id) = true from hb)
    obtain ⟨l, e, hl⟩ := nvs_all (xs := xs) (bs := bs) ⟨Nat.succ.inj h.1, fun i y c u v => h.2 (i + 1) y c u v⟩ h2
    rcases h.2 0 x b rfl rfl with ⟨z, rfl, _, e1⟩ | ⟨_, _, _, e1⟩
    · refine ⟨z :: l, by rw [e]; rfl, fun y hy => ?_⟩
      rcases List.mem_cons.mp hy with rfl | hy
      · rw [← e1, h1]
      · exact hl y hy
    · rw [e1] at h1
      cases h1
theorem setTxtTK {X : Cx} (K : PySem.W.Frag) (P : Program) (w : World) (hc : X.calm = true) (h1 : X.K = K := by rfl) (h2 : X.prog = P := by rfl) (h3 : X.w = w := by rfl) : CallR X (.type "set") (rSetTxtT K P w) := by
  subst h1 h2 h3
  exact cr_setTxtT hc
section
variable {P : Program} {w : World} {K : PySem.W.Frag} {mg : Str → Option Value} {base : Heap}
theorem scMakeLetters : FnScope ["names", "name", "letters"] ["names"] (defScope sMakeLetters) := ⟨rfl, rfl, rfl, by decide +kernel, rfl, by decide +kernel, by decide +kernel⟩
def spMk (C : Addr) : Sp := fun vs H Q E => ∃ (p : Addr) (xs : List V) (bs : List Bool), vs = [.ref p] ∧ H p = some (.tup xs) ∧ xs.length ≤ 60 ∧ Nvs H xs bs ∧
  (bs.all id = false → ∀ H', Same H H' → E (.ref C) none H') ∧
  (∀ l : List Str, xs = l.map V.str → bs.all id = true → ∀ ys, ys.Perm (difs l) → sortedS ys = true → if 1 ≤ ys.length ∧ ys.length ≤ 4 then ∀ H' t, Same H H' → H t = none → Tp H' t ys → Q (.ref t) H' else ∀ H', Same H H' → E (.ref C) none H')
theorem ok_makeLetters0 {f C : Addr} {fd : FuncData} {k : Nat} (F : Fun K "make_letters" "make_letters" sMakeLetters f fd) (B : Bn mg) (R : Er K mg "InvalidLetters" C) (C1 : Cal P w K mg base k "is_name" ["value"] spIsNameV) (C2 : CalX P w K mg base k "check_letters" ["value"] (spCheckLettersV C)) :
    FnR P w K mg base (L2.CX P w) (k + 1) f (fun vs H Q E => ∃ ws rest, vs = ws ++ rest ∧ ws.length = ([] : List Str).length ∧ rest.length ≤ sizeLine ∧ ∀ p, H p = none → spMk C (ws ++ [V.ref p]) (upd H p (.tup rest)) Q E) := by
  obtain ⟨f1, fd1, G1, g1, kp1, b1⟩ := C1
  obtain ⟨f2, fd2, G2, g2, kp2, b2⟩ := C2
  obtain ⟨oc, od, kV, doc, pm, an, cdv, ct, osl, rfl, lk, hcd⟩ := F.ex
  refine StX.fn_star (ps := []) (pv := "names") (sp := spMk C) lk hcd scMakeLetters StX.cxUp (fun us rest h => ?_) (fun A outer s H vs Q E hr h => ?_)
  · cases us with
    | cons a us => exact nomatch h
    | nil => cases rest with
      | nil => rfl
      | cons r rs => rfl
  · obtain ⟨p, xs, bs, rfl, hp, hx, hn, hE, hQ⟩ := h
    refine ⟨_, pss_cons (ps_for (passes_of rfl) rfl (pi_tup (pv 0)) (pg_name (i := 1) scMakeLetters.nd rfl (.inl rfl))
        (pss_one (ps_if (pt_not (pt_val (pe_call G1 hr (by rfl) g1 kp1 b1 .nil pass0 (pa_cons (pv 1) pa_nil)))) (pss_one (ps_raise rfl (takes_of rfl rfl rfl rfl) (pmk_own PySem.F.excBase_ValueError R.e R.g R.k (raises_own R.b R.t) (by exact rfl)))) pss_nil)))
      (pss_cons (ps_set (i := 2) scMakeLetters.nd rfl (.inl rfl) (pe_callTy call_tuple_of (by rfl) B.tuple (by decide +kernel) (pa_cons (pe_callB (cr_sortedTxt rfl) (by rfl) B.sorted (by decide +kernel) (pa_cons
        (pe_callTy (setTxtTK K P w rfl) (by rfl) B.set (by decide +kernel) (pa_cons (pv 0) pa_nil)) pa_nil)) pa_nil)))
      (pss_cons (ps_expr (pe_call G2 hr (by rfl) g2 kp2 b2 .nil (passes_call (takes_of rfl rfl rfl rfl) fun _ _ _ _ z => z) (pa_cons (pv 2) pa_nil)))
      (pss_one (ps_ret (pv 2))))), ?_⟩
    refine ⟨.ref p, rfl, p, rfl, ⟨_, sqt hp⟩, ?_⟩
    refine for_tup (xs := xs) (fun i σ H3 => ∃ y, σ = [some (.ref p), y, none] ∧ Same H H3 ∧ (bs.take i).all id = true) ⟨none, rfl, Same.refl H, rfl⟩ ?_ ?_ ?_
    · rintro i σ H3 hi ⟨y, rfl, s3, _⟩
      exact sqt (s3 _ _ hp)
    · rintro i x σ H3 hx3 ⟨y, rfl, s3, hb⟩
      have hi : i < bs.length := by
        rw [hn.1]
        exact get_lt hx3
      have hbi := List.getElem?_eq_getElem hi
      generalize bs[i] = b at hbi
      refine ⟨_, rfl, x, b, rfl, (hn.2 i x b hx3 hbi).same s3, _, rfl, ?_⟩
      cases b with
      | false =>
        refine iteT (hE ?_ H3 s3)
        exact List.all_eq_false.mpr ⟨false, List.mem_of_getElem? hbi, by decide⟩
      | true =>
        refine iteF ⟨_, rfl, s3, ?_⟩
        rw [List.take_add_one, hbi, List.all_append, hb]
        rfl
    · rintro σ H3 ⟨y, rfl, s3, hb⟩
      rw [← hn.1, List.take_length] at hb
      obtain ⟨l, rfl, nm⟩ := nvs_all hn hb
      rw [List.length_map] at hx
      have hdl := difs_len l
      refine ⟨.ref p, rfl, p, l, rfl, sqt (s3 _ _ hp), by omega, fun p1 np1 => ?_⟩
      have s1 := same_upd (o := TxtO P w p1 (difs l)) np1
      refine ⟨p1, difs l, rfl, upd_same, by omega, fun ys p2 pm so np2 => ?_⟩
      have s2 := same_upd (o := .lst (ys.map V.str)) np2
      refine ⟨p2, _, rfl, .inl ⟨sql upd_same, fun t nt => ?_⟩⟩
      have s4 := same_upd (o := .tup (ys.map V.str)) nt
      have all := ((s3.trans s1).trans s2).trans s4
      have q := hQ l rfl hb ys pm so
      have ylen := pm.length_eq
      have yn : ∀ z ∈ ys, Nm z = true := fun z hz => nm z (difs_mem.mp (pm.mem_iff.mp hz))
      refine ⟨.ref t, rfl, .ref t, rfl, .inr ⟨t, _, _, rfl, upd_same, by rw [List.length_map]; omega, nvs_strs (fun z hz => nm_line (yn z hz)), ?_⟩⟩
      by_cases c : 1 ≤ ys.length ∧ ys.length ≤ 4
      · rw [if_pos c] at q
        refine .inr ⟨ys, rfl, c.1, c.2, all_nm yn, fun H' s5 => ?_⟩
        rw [asc_sorted so (pm.nodup_iff.mpr (difs_nd l))]
        refine iteT ⟨.ref t, rfl, q H' t (all.trans s5) (back_none ((s3.trans s1).trans s2) nt) (s5 _ _ upd_same)⟩
      · rw [if_neg c] at q
        refine .inl ⟨fun h => absurd (by rw [List.length_map] at h; exact h) c, fun H' s5 => q H' (all.trans s5)⟩
end
end Sfl
/- _law_made (law k01) -/
namespace Sfl
open PySem PySem.Spec PyProof.Rows L2
theorem run_fnRS {X : Cx} {CX : CXT} {k : Nat} {f : Addr} {sp : Sp} {E : L2.St → XK} {pins : List (Addr × Obj)} {σ : L2.St} {H : Hp} {s : Shared} {Q : VK} {us : List Value} {vs : List V} (F : FnR X.prog X.w X.K X.mg X.base CX k f sp) (hr : Room k X.A) (hx : PassesAt CX X σ (E σ))
    (I : L2.Inv X pins σ H s) (r : Vals vs us) (h : sp vs H Q (E σ)) : wpAny (model X.prog X.w) X.A (call (.ref f) us) (EP X pins σ Q) X.xe s := by
  refine wpAny_call (codeAny_mono (F X.A X.stack s H us vs Q (E σ) hr I.env0 r h) fun out s' hq => ?_)
  rcases out with e | fl
  · exact hx pins H s e s' I hq
  · rcases fl with _ | _ | _ | u
    all_goals first | exact I.after hq | exact False.elim hq
def CalR (P : Program) (w : World) (K : PySem.W.Frag) (mg : Str → Option Value) (base : Heap) (k : Nat) (x : Str) (sp : Sp) : Prop :=
  ∃ f : Addr, FnR P w K mg base (L2.CX P w) k f sp ∧ mg x = some (.ref f) ∧ PySem.W.keepIn K (.ref f) = true
theorem CalR.mono {P : Program} {w : World} {K : PySem.W.Frag} {mg : Str → Option Value} {base : Heap} {j k : Nat} {x : Str} {sp : Sp} (C : CalR P w K mg base j x sp) (h : j ≤ k) : CalR P w K mg base k x sp := by
  obtain ⟨f, F, g, kp⟩ := C
  exact ⟨f, F.mono h, g, kp⟩
theorem pe_callRS {X : Cx} {CX : CXT} {k : Nat} {f : Addr} {sp : Sp} {E : L2.St → XK} {x : Str} {e : Expr} {es : List Expr} {t : TA} {p pos : Pos} (F : FnR X.prog X.w X.K X.mg X.base CX k f sp) (hr : Room k X.A) (hg : Gl X x) (hm : X.mg x = some (.ref f)) (hk : PySem.W.keepIn X.K (.ref f) = true)
    (hx : ∀ σ, PassesAt CX X σ (E σ)) (ha : PA X (e :: es) t) (hdb : (x == ("__debug__" : Str)) = false := by decide) (he : starEach (e :: es) X.env = (false, eval e X.env) :: starEach es X.env := by rfl) (hpl : (backTo pos (starEach es X.env)).any (·.1) = false := by rfl) :
    PE X (.Call (.Name x p) (e :: es) [] pos) (fun σ H Q => t σ H fun vs H1 => sp vs H1 Q (E σ)) := by
  refine ⟨fun pins s σ H Q I h => wpAny_Call_Name_kw (ld_glob I hg hm ?_ hdb)⟩
  refine PySem.W.callWith_K (h₀ := X.base) I.ok.mod.kin hk (thn (ha.run pos pins s σ H _ I h) fun us s1 ⟨vs, H1, I1, r, q⟩ => ?_) he hpl
  exact ⟨I1.kIn, run_fnRS F hr (hx σ) I1 r q⟩
theorem pe_callRS0 {X : Cx} {CX : CXT} {k : Nat} {f : Addr} {sp : Sp} {E : L2.St → XK} {x : Str} {p pos : Pos} (F : FnR X.prog X.w X.K X.mg X.base CX k f sp) (hr : Room k X.A) (hg : Gl X x) (hm : X.mg x = some (.ref f)) (hk : PySem.W.keepIn X.K (.ref f) = true)
    (hx : ∀ σ, PassesAt CX X σ (E σ)) (hdb : (x == ("__debug__" : Str)) = false := by decide) : PE X (.Call (.Name x p) [] [] pos) (fun σ H Q => sp [] H Q (E σ)) := by
  refine ⟨fun pins s σ H Q I h => wpAny_Call_Name_kw (ld_glob I hg hm ?_ hdb)⟩
  exact PySem.W.callWith_K0 I.kIn hk (run_fnRS (us := []) F hr (hx σ) I .nil h)
/-- isinstance of the error that the suite holds -/
theorem call_isE2 {X : Cx} {a D : Addr} {cls : Value} {d : Option Addr} {oe : Obj} {pn : List (Addr × Obj)} {K : PySem.W.Frag} (C : ExcC K D) (hz : Zc cls d oe) (hf : ∃ vs, oe.data = .fields vs) (hK : X.K = K := by rfl) :
    CallR (X.suite a ((a, oe) :: pn)) (.builtin "isinstance") (fun xs H Q => cls = .ref D ∧ d = none ∧ rIsE K D a xs H Q) := by
  subst hK
  rintro pins s σ H xs us Q I r ⟨rfl, rfl, h⟩
  exact call_isE C hz hf pins s σ H xs us Q I r h
/-- make_letters as it is called -/
def spMkN (C : Addr) : Sp := fun xs H Q E => ∃ bs : List Bool, xs.length ≤ 60 ∧ Nvs H xs bs ∧ (bs.all id = false → ∀ H', Same H H' → E (.ref C) none H') ∧
  (∀ l : List Str, xs = l.map V.str → bs.all id = true → ∀ ys, ys.Perm (difs l) → sortedS ys = true → if 1 ≤ ys.length ∧ ys.length ≤ 4 then ∀ H' t, Same H H' → H t = none → Tp H' t ys → Q (.ref t) H' else ∀ H', Same H H' → E (.ref C) none H')
section
variable {P : Program} {w : World} {K : PySem.W.Frag} {mg : Str → Option Value} {base : Heap}
theorem ok_makeLetters {f C : Addr} {fd : FuncData} {k : Nat} (F : Fun K "make_letters" "make_letters" sMakeLetters f fd) (B : Bn mg) (R : Er K mg "InvalidLetters" C) (C1 : Cal P w K mg base k "is_name" ["value"] spIsNameV) (C2 : CalX P w K mg base k "check_letters" ["value"] (spCheckLettersV C)) :
    FnR P w K mg base (L2.CX P w) (k + 1) f (spMkN C) := by
  refine (ok_makeLetters0 F B R C1 C2).imp fun xs H Q E h => ?_
  obtain ⟨bs, hl, hn, hE, hQ⟩ := h
  refine ⟨[], xs, rfl, rfl, Nat.le_trans hl (by decide), fun p np => ?_⟩
  have sm := same_upd (o := .tup xs) np
  refine ⟨p, xs, bs, rfl, upd_same, hl, hn.same sm, fun hb H' s2 => hE hb H' (sm.trans s2), fun l e hb ys pm so => ?_⟩
  have q := hQ l e hb ys pm so
  by_cases c : 1 ≤ ys.length ∧ ys.length ≤ 4
  · rw [if_pos c] at q ⊢
    exact fun H' t s2 nt ht => q H' t (sm.trans s2) (back_none sm nt) ht
  · rw [if_neg c] at q ⊢
    exact fun H' s2 => q H' (sm.trans s2)
/-- the facts of InvalidLetters as a caught error -/
structure ErT (K : PySem.W.Frag) (mg : Str → Option Value) (C CF : Addr) : Prop where
  ec : ExcC K C
  ex : PySem.W.exmOne K (.ref C) (.ref C) = some true
  gF : mg "FlipError" = some (.ref CF)
  iF : PySem.W.kitOne K (.ref C) (.ref CF) = some true
  gV : mg "ValueError" = none
  iV : PySem.W.kitOne K (.ref C) (.type "ValueError") = some true
/-- the letters that are due, or None -/
def fits4 (ys : List Str) : Bool := decide (1 ≤ ys.length) && decide (ys.length ≤ 4)
def dueD (ys : List Str) : PyData := if fits4 ys = true then lgD ys else .none
def DueV (H : Hp) (v : V) (ys : List Str) : Prop := if fits4 ys = true then ∃ t, v = .ref t ∧ Tp H t ys else v = .non
theorem fits_iff {ys : List Str} : fits4 ys = true ↔ 1 ≤ ys.length ∧ ys.length ≤ 4 := by
  unfold fits4
  rw [Bool.and_eq_true, decide_eq_true_eq, decide_eq_true_eq]
theorem scMadeL : FnScope ["names", "e"] ["names"] (defScope sMadeL) := ⟨rfl, rfl, rfl, by decide +kernel, rfl, by decide +kernel, by decide +kernel⟩
def spMade : Sp := fun vs H Q _ => ∃ (l : Addr) (xs : List V) (bs : List Bool), vs = [.ref l] ∧ H l = some (.lst xs) ∧ xs.length ≤ 6 ∧ Nvs H xs bs ∧ (bs.all id = false → ∀ H', Same H H' → Q .non H') ∧
  (∀ z : List Str, xs = z.map V.str → bs.all id = true → ∀ ys, ys.Perm (difs z) → sortedS ys = true → ∀ v H', Same H H' → DueV H' v ys → Q v H')
theorem ok_made {f C CF : Addr} {fd : FuncData} {k : Nat} (F : Fun K "_law_made" "_law_made" sMadeL f fd) (B : Bn mg) (R : Er K mg "InvalidLetters" C) (T : ErT K mg C CF) (C1 : CalR P w K mg base k "make_letters" (spMkN C)) :
    FnOk P w K mg base CX0 (k + 1) f fd ["names"] spMade := by
  obtain ⟨f1, G1, g1, kp1⟩ := C1
  refine F.ok scMadeL (fun vs H Q E h => ?_) (fun cdv A outer s H vs Q E hr h => ?_)
  · obtain ⟨l, xs, bs, rfl, _⟩ := h
    rfl
  · obtain ⟨l, xs, bs, rfl, hl, h6, hn, hE, hQ⟩ := h
    refine ⟨_, pss_one (ps_try_as (i := 1) (c := .ref C) (Wout := fun _ _ _ _ => False) rfl rfl scMadeL.nd rfl rfl ⟨rfl, by decide, .inl R.g⟩ takes0
      (fun W pn xe tk _ =>
        pss_cons (ps_if (pt_cmpR op_eq (pe_callB (lenQ K) (by rfl) B.len PySem.boot_len (pa_cons (pv 0) pa_nil)) pe_int (nomark _)) (pss_one (ps_ret (pe_callRS0 G1 hr (by rfl) g1 kp1 (fun σ => passAt tk σ)))) pss_nil)
        (pss_cons (ps_if (pt_cmpR op_eq (pe_callB (lenQ K) (by rfl) B.len PySem.boot_len (pa_cons (pv 0) pa_nil)) pe_int (nomark _)) (pss_one (ps_ret (pe_callRS G1 hr (by rfl) g1 kp1 (fun σ => passAt tk σ)
          (pa_cons (pe_ix (ixLK K) (pv 0) pe_int (fun _ _ => rfl)) pa_nil)))) pss_nil)
        (pss_cons (ps_if (pt_cmpR op_eq (pe_callB (lenQ K) (by rfl) B.len PySem.boot_len (pa_cons (pv 0) pa_nil)) pe_int (nomark _)) (pss_one (ps_ret (pe_callRS G1 hr (by rfl) g1 kp1 (fun σ => passAt tk σ)
          (pa_cons (pe_ix (ixLK K) (pv 0) pe_int (fun _ _ => rfl)) (pa_cons (pe_ix (ixLK K) (pv 0) pe_int (fun _ _ => rfl)) pa_nil))))) pss_nil)
        (pss_cons (ps_if (pt_cmpR op_eq (pe_callB (lenQ K) (by rfl) B.len PySem.boot_len (pa_cons (pv 0) pa_nil)) pe_int (nomark _)) (pss_one (ps_ret (pe_callRS G1 hr (by rfl) g1 kp1 (fun σ => passAt tk σ)
          (pa_cons (pe_ix (ixLK K) (pv 0) pe_int (fun _ _ => rfl)) (pa_cons (pe_ix (ixLK K) (pv 0) pe_int (fun _ _ => rfl)) (pa_cons (pe_ix (ixLK K) (pv 0) pe_int (fun _ _ => rfl)) pa_nil)))))) pss_nil)
        (pss_cons (ps_if (pt_cmpR op_eq (pe_callB (lenQ K) (by rfl) B.len PySem.boot_len (pa_cons (pv 0) pa_nil)) pe_int (nomark _)) (pss_one (ps_ret (pe_callRS G1 hr (by rfl) g1 kp1 (fun σ => passAt tk σ)
          (pa_cons (pe_ix (ixLK K) (pv 0) pe_int (fun _ _ => rfl)) (pa_cons (pe_ix (ixLK K) (pv 0) pe_int (fun _ _ => rfl)) (pa_cons (pe_ix (ixLK K) (pv 0) pe_int (fun _ _ => rfl)) (pa_cons (pe_ix (ixLK K) (pv 0) pe_int (fun _ _ => rfl)) pa_nil))))))) pss_nil)
        (pss_cons (ps_if (pt_cmpR op_eq (pe_callB (lenQ K) (by rfl) B.len PySem.boot_len (pa_cons (pv 0) pa_nil)) pe_int (nomark _)) (pss_one (ps_ret (pe_callRS G1 hr (by rfl) g1 kp1 (fun σ => passAt tk σ)
          (pa_cons (pe_ix (ixLK K) (pv 0) pe_int (fun _ _ => rfl)) (pa_cons (pe_ix (ixLK K) (pv 0) pe_int (fun _ _ => rfl)) (pa_cons (pe_ix (ixLK K) (pv 0) pe_int (fun _ _ => rfl)) (pa_cons (pe_ix (ixLK K) (pv 0) pe_int (fun _ _ => rfl)) (pa_cons (pe_ix (ixLK K) (pv 0) pe_int (fun _ _ => rfl)) pa_nil)))))))) pss_nil)
        (pss_one (ps_ret (pe_callRS G1 hr (by rfl) g1 kp1 (fun σ => passAt tk σ)
          (pa_cons (pe_ix (ixLK K) (pv 0) pe_int (fun _ _ => rfl)) (pa_cons (pe_ix (ixLK K) (pv 0) pe_int (fun _ _ => rfl)) (pa_cons (pe_ix (ixLK K) (pv 0) pe_int (fun _ _ => rfl)) (pa_cons (pe_ix (ixLK K) (pv 0) pe_int (fun _ _ => rfl)) (pa_cons (pe_ix (ixLK K) (pv 0) pe_int (fun _ _ => rfl)) (pa_cons (pe_ix (ixLK K) (pv 0) pe_int (fun _ _ => rfl)) pa_nil)))))))))))))))
      (fun a oe cls d pn hz hf => pss_one (ps_ret (pe_ifExp (PW.pt (pw_and (pt_val (pe_callB (call_isE2 T.ec hz hf) (by rfl) B.isi (by decide +kernel) (pa_cons (pv 1) (pa_cons (pe_glob (v := .ref CF) rfl T.gF rfl) pa_nil))))
        (pw_and1 (pt_val (pe_callB (call_isE2 T.ec hz hf) (by rfl) B.isi (by decide +kernel) (pa_cons (pv 1) (pa_cons (pe_bltn (v := .ty "ValueError") (by rfl) T.gV (by decide +kernel) rfl) pa_nil))))))) pe_non pe_str)))), ?_⟩
    have key : ∀ Er : XK, (∀ H', Same H H' → Q .non H' → Er (.ref C) none H') → spMkN C xs H Q Er := fun Er hq => by
      refine ⟨bs, by omega, hn, fun hb H' sm => hq H' sm (hE hb H' sm), fun z e hb ys pm so => ?_⟩
      have q := hQ z e hb ys pm so
      by_cases c : 1 ≤ ys.length ∧ ys.length ≤ 4
      · rw [if_pos c]
        refine fun H' t sm _ et => q (.ref t) H' sm ?_
        unfold DueV
        rw [if_pos (fits_iff.mpr c)]
        exact ⟨t, rfl, et⟩
      · rw [if_neg c]
        refine fun H' sm => hq H' sm (q .non H' sm ?_)
        unfold DueV
        rw [if_neg (fun z => c (fits_iff.mp z))]
    refine ⟨.ref l, rfl, l, xs, rfl, .inl (sql hl), rfl, _, rfl, ?_⟩
    rcases xs with _ | ⟨x0, xs⟩
    · exact iteT (key _ (fun H' sm q => ⟨true, T.ex, fun _ a na => ⟨.ref a, rfl, rfl, rfl, .ref CF, .ref CF, true, rfl, fun u h => h, T.iF, true, rfl, iteT ⟨.ref a, rfl, rfl, rfl, .ty "ValueError", .type "ValueError", true, rfl, fun u h => h, T.iV, true, rfl, iteT q⟩⟩, fun z => nomatch z⟩))
    refine iteF ⟨.ref l, rfl, l, _, rfl, .inl (sql hl), rfl, _, rfl, ?_⟩
    rcases xs with _ | ⟨x1, xs⟩
    · exact iteT (⟨.ref l, rfl, l, _, _, _, rfl, rfl, sql hl, rfl, key _ (fun H' sm q => ⟨true, T.ex, fun _ a na => ⟨.ref a, rfl, rfl, rfl, .ref CF, .ref CF, true, rfl, fun u h => h, T.iF, true, rfl, iteT ⟨.ref a, rfl, rfl, rfl, .ty "ValueError", .type "ValueError", true, rfl, fun u h => h, T.iV, true, rfl, iteT q⟩⟩, fun z => nomatch z⟩)⟩)
    refine iteF ⟨.ref l, rfl, l, _, rfl, .inl (sql hl), rfl, _, rfl, ?_⟩
    rcases xs with _ | ⟨x2, xs⟩
    · exact iteT (⟨.ref l, rfl, l, _, _, _, rfl, rfl, sql hl, rfl, ⟨.ref l, rfl, l, _, _, _, rfl, rfl, sql hl, rfl, key _ (fun H' sm q => ⟨true, T.ex, fun _ a na => ⟨.ref a, rfl, rfl, rfl, .ref CF, .ref CF, true, rfl, fun u h => h, T.iF, true, rfl, iteT ⟨.ref a, rfl, rfl, rfl, .ty "ValueError", .type "ValueError", true, rfl, fun u h => h, T.iV, true, rfl, iteT q⟩⟩, fun z => nomatch z⟩)⟩⟩)
    refine iteF ⟨.ref l, rfl, l, _, rfl, .inl (sql hl), rfl, _, rfl, ?_⟩
    rcases xs with _ | ⟨x3, xs⟩
    · exact iteT (⟨.ref l, rfl, l, _, _, _, rfl, rfl, sql hl, rfl, ⟨.ref l, rfl, l, _, _, _, rfl, rfl, sql hl, rfl, ⟨.ref l, rfl, l, _, _, _, rfl, rfl, sql hl, rfl, key _ (fun H' sm q => ⟨true, T.ex, fun _ a na => ⟨.ref a, rfl, rfl, rfl, .ref CF, .ref CF, true, rfl, fun u h => h, T.iF, true, rfl, iteT ⟨.ref a, rfl, rfl, rfl, .ty "ValueError", .type "ValueError", true, rfl, fun u h => h, T.iV, true, rfl, iteT q⟩⟩, fun z => nomatch z⟩)⟩⟩⟩)
    refine iteF ⟨.ref l, rfl, l, _, rfl, .inl (sql hl), rfl, _, rfl, ?_⟩
    rcases xs with _ | ⟨x4, xs⟩
    · exact iteT (⟨.ref l, rfl, l, _, _, _, rfl, rfl, sql hl, rfl, ⟨.ref l, rfl, l, _, _, _, rfl, rfl, sql hl, rfl, ⟨.ref l, rfl, l, _, _, _, rfl, rfl, sql hl, rfl, ⟨.ref l, rfl, l, _, _, _, rfl, rfl, sql hl, rfl, key _ (fun H' sm q => ⟨true, T.ex, fun _ a na => ⟨.ref a, rfl, rfl, rfl, .ref CF, .ref CF, true, rfl, fun u h => h, T.iF, true, rfl, iteT ⟨.ref a, rfl, rfl, rfl, .ty "ValueError", .type "ValueError", true, rfl, fun u h => h, T.iV, true, rfl, iteT q⟩⟩, fun z => nomatch z⟩)⟩⟩⟩⟩)
    refine iteF ⟨.ref l, rfl, l, _, rfl, .inl (sql hl), rfl, _, rfl, ?_⟩
    rcases xs with _ | ⟨x5, xs⟩
    · exact iteT (⟨.ref l, rfl, l, _, _, _, rfl, rfl, sql hl, rfl, ⟨.ref l, rfl, l, _, _, _, rfl, rfl, sql hl, rfl, ⟨.ref l, rfl, l, _, _, _, rfl, rfl, sql hl, rfl, ⟨.ref l, rfl, l, _, _, _, rfl, rfl, sql hl, rfl, ⟨.ref l, rfl, l, _, _, _, rfl, rfl, sql hl, rfl, key _ (fun H' sm q => ⟨true, T.ex, fun _ a na => ⟨.ref a, rfl, rfl, rfl, .ref CF, .ref CF, true, rfl, fun u h => h, T.iF, true, rfl, iteT ⟨.ref a, rfl, rfl, rfl, .ty "ValueError", .type "ValueError", true, rfl, fun u h => h, T.iV, true, rfl, iteT q⟩⟩, fun z => nomatch z⟩)⟩⟩⟩⟩⟩)
    rcases xs with _ | ⟨x6, xs⟩
    · exact iteF (⟨.ref l, rfl, l, _, _, _, rfl, rfl, sql hl, rfl, ⟨.ref l, rfl, l, _, _, _, rfl, rfl, sql hl, rfl, ⟨.ref l, rfl, l, _, _, _, rfl, rfl, sql hl, rfl, ⟨.ref l, rfl, l, _, _, _, rfl, rfl, sql hl, rfl, ⟨.ref l, rfl, l, _, _, _, rfl, rfl, sql hl, rfl, ⟨.ref l, rfl, l, _, _, _, rfl, rfl, sql hl, rfl, key _ (fun H' sm q => ⟨true, T.ex, fun _ a na => ⟨.ref a, rfl, rfl, rfl, .ref CF, .ref CF, true, rfl, fun u h => h, T.iF, true, rfl, iteT ⟨.ref a, rfl, rfl, rfl, .ty "ValueError", .type "ValueError", true, rfl, fun u h => h, T.iV, true, rfl, iteT q⟩⟩, fun z => nomatch z⟩)⟩⟩⟩⟩⟩⟩)
    · simp only [List.length_cons] at h6
      omega
end
end Sfl
set_option maxHeartbeats 1600000
/- _law_names_right (law k01) -/
namespace Sfl
open PySem PySem.Spec PyProof.Rows L2
/-! ### names, sorted -/
theorem asc_tail {x : Str} {l : List Str} (h : asc (x :: l) = true) : asc l = true := by
  cases l with
  | nil => rfl
  | cons y r =>
    have h' : (decide (x.cps.toList < y.cps.toList) && asc (y :: r)) = true := h
    exact (Bool.and_eq_true_iff.mp h').2
theorem asc_pw1 : ∀ {l : List Str}, asc l = true → l.Pairwise fun x y => x.cps.toList < y.cps.toList
  | [], _ => .nil
  | [x], _ => List.pairwise_singleton _ _
  | x :: y :: r, h => by
    have h' : (decide (x.cps.toList < y.cps.toList) && asc (y :: r)) = true := h
    obtain ⟨h1, h2⟩ := Bool.and_eq_true_iff.mp h'
    have ih := asc_pw1 h2
    refine List.pairwise_cons.mpr ⟨fun z hz => ?_, ih⟩
    rcases List.mem_cons.mp hz with rfl | hz
    · exact of_decide_eq_true h1
    · exact List.lt_trans (of_decide_eq_true h1) ((List.pairwise_cons.mp ih).1 z hz)
theorem asc_nd {l : List Str} (h : asc l = true) : l.Nodup := (asc_pw1 h).imp fun h e => by
  rw [e] at h
  exact List.lt_irrefl _ h
theorem asc_one {l m : List Str} (hl : asc l = true) (hm : asc m = true) (e : ∀ z, z ∈ l ↔ z ∈ m) : l = m := by
  have p : l.Perm m := (List.perm_ext_iff_of_nodup (asc_nd hl) (asc_nd hm)).mpr e
  exact p.eq_of_pairwise (fun a b _ _ h1 h2 => absurd (List.lt_trans h1 h2) (List.lt_irrefl _)) (asc_pw1 hl) (asc_pw1 hm)
/-- letters as their names ascending are what the names are -/
theorem asc_iff {l ys : List Str} (pm : ys.Perm (difs l)) (so : sortedS ys = true) : asc l = true ↔ l = ys := by
  have ha := asc_sorted so (pm.nodup_iff.mpr (difs_nd l))
  refine ⟨fun h => asc_one h ha fun z => ?_, fun h => by rw [h]; exact ha⟩
  rw [pm.mem_iff, difs_mem]
theorem cut_six (xs : List V) : cutV xs (some (-(6 : Int))) none = xs.drop (xs.length - 6) := by
  have e0 : HT.sIx xs.length 0 (some (-(6 : Int))) = xs.length - 6 := by
    show (if (-(6 : Int)) < 0 then ((-(6 : Int)) + (xs.length : Int)).toNat else min (-(6 : Int)).toNat xs.length) = _
    rw [if_pos (by decide)]
    omega
  unfold cutV
  rw [e0]
  show (xs.drop (xs.length - 6)).take (xs.length - (xs.length - 6)) = _
  refine List.take_of_length_le ?_
  rw [List.length_drop]
  exact Nat.le_refl _
theorem setTxtK {X : Cx} (K : PySem.W.Frag) (P : Program) (w : World) (hc : X.calm = true) (h1 : X.K = K := by rfl) (h2 : X.prog = P := by rfl) (h3 : X.w = w := by rfl) : CallR X (.type "set") (rSetTxt K P w) := by
  subst h1 h2 h3
  exact cr_setTxt hc
theorem sortedTxtK {X : Cx} (P : Program) (w : World) (hc : X.calm = true) (h2 : X.prog = P := by rfl) (h3 : X.w = w := by rfl) : CallR X (.builtin "sorted") (rSortedTxt P w) := by
  subst h2 h3
  exact cr_sortedTxt hc
theorem tif_k {tt : TT} {ta tb : TE} {σ : L2.St} {H : Hp} {Q : VK} (b : Bool) (Pf : V → Hp → Prop) (hc : ∀ R : Bool → Hp → Prop, R b H → tt σ H R) (ha : b = true → ∀ Q' : VK, (∀ v H', Pf v H' → Q' v H') → ta σ H Q')
    (hb : b = false → ∀ Q' : VK, (∀ v H', Pf v H' → Q' v H') → tb σ H Q') (hq : ∀ v H', Pf v H' → Q v H') : tIf tt ta tb σ H Q := hc _ (by
  cases b with
  | true => exact iteT (ha rfl _ hq)
  | false => exact iteF (hb rfl _ hq))
theorem and_pass {c : Bool} {tt : TT} {σ : L2.St} {H : Hp} {R : Bool → Hp → Prop} (h1 : c = true → ∀ R' : Bool → Hp → Prop, (∀ H', Same H H' → R' false H') → tt σ H R') (h2 : ∀ H', Same H H' → R false H') : if c = true then tt σ H R else R false H := by
  cases c with
  | true => exact iteT (h1 rfl R h2)
  | false => exact iteF (h2 H (Same.refl H))
theorem isl_names {H : Hp} {p : Addr} {l : List Str} {Q : VK} {E : XK} (hp : Tp H p l) (nm : ∀ z ∈ l, Nm z = true) (hl : l.length ≤ 1000) (h : ∀ H', Same H H' → Q (.bl (fits4 l && asc l)) H') : spIsLettersV [.ref p] H Q E := by
  refine ⟨.ref p, rfl, .inr ⟨p, _, _, rfl, hp, by rw [List.length_map]; exact hl, nvs_strs (fun z hz => nm_line (nm z hz)), ?_⟩⟩
  cases c : fits4 l with
  | true =>
    have c3 := fits_iff.mp c
    rw [c] at h
    exact .inr ⟨l, rfl, c3.1, c3.2, all_nm nm, h⟩
  | false =>
    rw [c] at h
    refine .inl ⟨fun z => ?_, h⟩
    rw [List.length_map] at z
    rw [fits_iff.mpr z] at c
    cases c
theorem Nvs.drop {H : Hp} {xs : List V} {bs : List Bool} (h : Nvs H xs bs) (k : Nat) : Nvs H (xs.drop k) (bs.drop k) := by
  refine ⟨by rw [List.length_drop, List.length_drop, h.1], fun i x b e f => ?_⟩
  rw [List.getElem?_drop] at e f
  exact h.2 _ x b e f
theorem Nvs.snoc {H : Hp} {xs : List V} {bs : List Bool} {x : V} {b : Bool} (h : Nvs H xs bs) (n : Nv H x b) : Nvs H (xs ++ [x]) (bs ++ [b]) := by
  refine ⟨by rw [List.length_append, List.length_append, h.1]; rfl, fun i y c e f => ?_⟩
  rcases Nat.lt_or_ge i xs.length with lt | ge
  · rw [List.getElem?_append_left lt] at e
    rw [List.getElem?_append_left (by rw [h.1]; exact lt)] at f
    exact h.2 i y c e f
  · rw [List.getElem?_append_right ge] at e
    rw [List.getElem?_append_right (by rw [h.1]; exact ge), h.1] at f
    obtain ⟨j, hj⟩ : ∃ j, i - xs.length = j := ⟨_, rfl⟩
    rw [hj] at e f
    cases j with
    | zero =>
      cases Option.some.inj e
      cases Option.some.inj f
      exact n
    | succ j => exact nomatch e
theorem drop_false {bs : List Bool} {k : Nat} (h : k ≤ bs.length) : ((bs ++ [false]).drop k).all id = false := by
  rw [List.drop_append_of_le_length h, List.all_append]
  exact Bool.and_false _
theorem isl_odd {a : Addr} {H : Hp} {v : V} {Q : VK} {E : XK} (h : Od a H v) (q : ∀ H', Same H H' → Q (.bl false) H') : spIsLettersV [v] H Q E := by
  obtain ⟨_, _, r⟩ := h
  refine ⟨v, rfl, ?_⟩
  rcases r with ⟨t, k, e⟩ | ⟨p, xs, bs, rfl, hp, l2, hn, hb, _⟩
  · exact .inl ⟨t, k, e, q H (Same.refl H)⟩
  · exact .inr ⟨p, xs, bs, rfl, hp, by omega, hn, .inl ⟨fun _ => hb, q⟩⟩
theorem eqv_lgD {l m : List Str} (hl : Lay l) (hm : Lay m) : PyData.eqv (lgD l) (lgD m) = decide (l = m) := by
  have h1 : hdy (lgD l) = true := hdy_strs l hl
  have h2 : hdy (lgD m) = true := hdy_strs m hm
  have i := hdy_iff h1 h2
  by_cases e : l = m
  · rw [decide_eq_true e]
    exact i.mpr (by rw [e])
  · rw [decide_eq_false e]
    cases c : PyData.eqv (lgD l) (lgD m) with
    | false => rfl
    | true =>
      refine absurd ?_ e
      have q := PyData.tuple.inj (i.mp c)
      exact toks_strs (by rw [q])
theorem sh_lgD {l : List Str} (h : Lay l) : SeqAt.shaped (lgD l) = true := shT (flat_strs l h)
theorem DueV.dp {K : PySem.W.Frag} {H : Hp} {v : V} {ys : List Str} (h : DueV H v ys) : Dp K H v (dueD ys) := by
  unfold DueV at h
  unfold dueD
  split at h
  · rename_i c
    obtain ⟨t, rfl, e⟩ := h
    rw [if_pos c]
    exact dp_tp e
  · rename_i c
    subst h
    rw [if_neg c]
    exact .non
theorem DueV.same {H H' : Hp} {v : V} {ys : List Str} (h : DueV H v ys) (s : Same H H') : DueV H' v ys := by
  unfold DueV at *
  split at h
  · rename_i c
    rw [if_pos c]
    obtain ⟨t, rfl, e⟩ := h
    exact ⟨t, rfl, s _ _ e⟩
  · rename_i c
    rw [if_neg c]
    exact h
theorem sh_dueD {ys : List Str} (h : Lay ys) : SeqAt.shaped (dueD ys) = true := by
  unfold dueD
  split
  · exact sh_lgD h
  · rfl
theorem eqv_due {ys : List Str} (h : Lay ys) : PyData.eqv (dueD ys) (dueD ys) = true := by
  unfold dueD
  split
  · rw [eqv_lgD h h]
    exact decide_eq_true rfl
  · rfl
/-- what is_letters says of the names, and what == says -/
theorem due_two {l ys : List Str} (hl : Lay l) (hy : Lay ys) (pm : ys.Perm (difs l)) (so : sortedS ys = true) : PyData.eqv (lgD l) (dueD ys) = (fits4 l && asc l) := by
  have i := asc_iff pm so
  by_cases e : l = ys
  · subst e
    rw [i.mpr rfl, Bool.and_true]
    unfold dueD
    cases c : fits4 l with
    | true =>
      rw [if_pos rfl, eqv_lgD hl hl]
      exact decide_eq_true rfl
    | false => rfl
  · have na : asc l = false := by
      cases c : asc l with
      | false => rfl
      | true => exact absurd (i.mp c) e
    rw [na, Bool.and_false]
    unfold dueD
    cases c : fits4 ys with
    | true =>
      rw [if_pos rfl, eqv_lgD hl hy]
      exact decide_eq_false e
    | false => rfl
section
variable {P : Program} {w : World} {K : PySem.W.Frag} {mg : Str → Option Value} {base : Heap}
def nNm : List Str := ["dice", "pool", "names", "different", "due", "spoilt", "turn"]
theorem scNames : FnScope nNm ["dice"] (defScope sNames) := ⟨rfl, rfl, rfl, by decide +kernel, rfl, by decide +kernel, by decide +kernel⟩
def spNames : Sp := fun vs H Q _ => ∃ (a : Addr) (m : Nat), vs = [.ref a] ∧ Dc H a m ∧ m + 20 ≤ mmax ∧ ∀ H', Kp a H H' → Dc H' a (m + 20) → Q (.bl true) H'
theorem ok_names {f : Addr} {fd : FuncData} {k : Nat} (F : Fun K "_law_names_right" "_law_names_right" sNames f fd) (B : Bn mg) (C1 : Cal P w K mg base k "_law_pick" ["dice", "items"] spPick) (C2 : Cal P w K mg base k "_law_roll" ["dice", "size"] spRoll)
    (C3 : Cal P w K mg base k "_law_made" ["names"] spMade) (C4 : Cal P w K mg base k "is_letters" ["value"] spIsLettersV) (C5 : Cal P w K mg base k "_law_odd" ["dice"] spOdd) :
    FnOk P w K mg base CX0 (k + 1) f fd ["dice"] spNames := by
  obtain ⟨f1, fd1, G1, g1, kp1, b1⟩ := C1
  obtain ⟨f2, fd2, G2, g2, kp2, b2⟩ := C2
  obtain ⟨f3, fd3, G3, g3, kp3, b3⟩ := C3
  obtain ⟨f4, fd4, G4, g4, kp4, b4⟩ := C4
  obtain ⟨f5, fd5, G5, g5, kp5, b5⟩ := C5
  refine F.ok scNames (fun vs H Q E h => ?_) (fun cdv A outer s H vs Q E hr h => ?_)
  · obtain ⟨a, m, rfl, _⟩ := h
    rfl
  · obtain ⟨a, m, rfl, hd, hm, q⟩ := h
    have hmm : mmax = 1000000 := rfl
    refine ⟨_, pss_cons (ps_set (i := 1) scNames.nd rfl (.inr rfl) (pe_call G1 hr (by rfl) g1 kp1 b1 .nil pass0 (pa_cons (pv 0) (pa_cons (pe_lst (pa_cons (pe_lst (pa_cons pe_str (pa_cons pe_str (pa_cons pe_str pa_nil)))) (pa_cons (pe_lst (pa_cons pe_str (pa_cons pe_str (pa_cons pe_str pa_nil))))
        (pa_cons (pe_lst (pa_cons pe_str (pa_cons pe_str (pa_cons pe_str (pa_cons pe_str (pa_cons pe_str pa_nil)))))) (pa_cons (pe_lst (pa_cons pe_str (pa_cons pe_str (pa_cons pe_str pa_nil)))) pa_nil))))) pa_nil))))
      (pss_cons (ps_setLc (i := 2) (own := [("turn", 6)]) (g := gName 6) (tt := tYes) rfl scNames.nd rfl rfl (sw_true rfl rfl rfl (by decide +kernel)) (pi_range1 rfl B.range (pa_cons (pe_call G2 hr (by rfl) g2 kp2 b2 .nil pass0 (pa_cons (pv 0) (pa_cons pe_int pa_nil))) pa_nil))
          (blkOk_by (own := [("turn", 6)]) (N := nNm) (sc := defScope sNames) (by decide +kernel))
          (fun _ _ _ _ _ => pg_name (i := 6) scNames.nd rfl (Or.inl rfl)) (fun _ _ _ _ _ => pts_nil) (fun _ _ _ _ _ => pe_call G1 hr (by rfl) g1 kp1 b1 .nil pass0 (pa_cons (pv 0) (pa_cons (pv 1) pa_nil))))
      (pss_cons (ps_set (i := 3) scNames.nd rfl (.inl rfl) (pe_callB (sortedTxtK P w rfl) (by rfl) B.sorted (by decide +kernel) (pa_cons (pe_callTy (setTxtK K P w rfl) (by rfl) B.set (by decide +kernel) (pa_cons (pv 2) pa_nil)) pa_nil)))
      (pss_cons (ps_set (i := 4) scNames.nd rfl (.inl rfl) (pe_ifExp (pt_chain op_le op_le pe_int (pe_callB call_len_seq (by rfl) B.len PySem.boot_len (pa_cons (pv 3) pa_nil)) pe_int) (pe_callTy call_tuple_of (by rfl) B.tuple (by decide +kernel) (pa_cons (pv 3) pa_nil)) pe_non))
      (pss_cons (ps_if (PW.pt (pw_or (pt_cmpR (op_neD hr.units) (pe_call G3 hr (by rfl) g3 kp3 b3 .nil pass0 (pa_cons (pv 2) pa_nil)) (pv 4) (nomark _))
          (pw_or1 (PW.pt (pw_and (pt_cmpR op_notN (pv 4) pe_non (nomark _)) (pw_and1 (pt_cmpR op_notBl (pe_call G4 hr (by rfl) g4 kp4 b4 .nil pass0 (pa_cons (pv 4) pa_nil)) pe_bl (nomark _)))))))) (pss_one (ps_ret pe_bl)) pss_nil)
      (pss_cons (ps_if (PW.pt (pw_and (pt_cmpR op_gt (pe_callB call_len_seq (by rfl) B.len PySem.boot_len (pa_cons (pv 2) pa_nil)) pe_int (nomark _))
          (pw_and1 (pt_cmpR op_ne (pe_callB call_repr_bl (by rfl) B.repr (by decide +kernel) (pa_cons (pe_call G4 hr (by rfl) g4 kp4 b4 .nil pass0 (pa_cons (pe_callTy call_tuple_of (by rfl) B.tuple (by decide +kernel) (pa_cons (pv 2) pa_nil)) pa_nil)) pa_nil))
            (pe_callB call_repr_bl (by rfl) B.repr (by decide +kernel) (pa_cons (pe_cmpR (op_eqD hr.units) (pe_callTy call_tuple_of (by rfl) B.tuple (by decide +kernel) (pa_cons (pv 2) pa_nil)) (pv 4) (nomark _)) pa_nil)) (nomark _))))) (pss_one (ps_ret pe_bl)) pss_nil)
      (pss_cons (ps_set (i := 5) scNames.nd rfl (.inl rfl) (pe_slice sl_list (pe_op op_cat (pv 2) (pe_lst (pa_cons (pe_call G5 hr (by rfl) g5 kp5 b5 .nil pass0 (pa_cons (pv 0) pa_nil)) pa_nil))) (po_some (pe_un un_neg pe_int)) po_none))
      (pss_cons (ps_if (PW.pt (pw_or (pt_cmpR op_notN (pe_call G3 hr (by rfl) g3 kp3 b3 .nil pass0 (pa_cons (pv 5) pa_nil)) pe_non (nomark _))
          (pw_or1 (pt_cmpR op_notBl (pe_call G4 hr (by rfl) g4 kp4 b4 .nil pass0 (pa_cons (pe_callTy call_tuple_of (by rfl) B.tuple (by decide +kernel) (pa_cons (pv 5) pa_nil)) pa_nil)) pe_bl (nomark _))))) (pss_one (ps_ret pe_bl)) pss_nil)
      (pss_one (ps_ret (pe_and (pe_cmpR op_isBl (pe_call G4 hr (by rfl) g4 kp4 b4 .nil pass0 (pa_cons (pe_call G5 hr (by rfl) g5 kp5 b5 .nil pass0 (pa_cons (pv 0) pa_nil)) pa_nil)) pe_bl (nomark _))
          (pe_one (pe_cmpR op_isBl (pe_call G4 hr (by rfl) g4 kp4 b4 .nil pass0 (pa_cons (pv 2) pa_nil)) pe_bl (nomark _))))))))))))), ?_⟩
    have h3 : 3 ≤ sizeLine := by decide
    refine ⟨.ref a, rfl, h3, fun l1 n1 => ⟨h3, fun l2 n2 => ⟨(show 5 ≤ sizeLine by decide), fun l3 n3 => ⟨h3, fun l4 n4 => ⟨(show 4 ≤ sizeLine by decide), fun L nL => ?_⟩⟩⟩⟩⟩
    have t1 := same_upd (o := .lst [V.str "a", .str "b", .str "ab"]) n1
    have t2 := same_upd (o := .lst [V.str "zzzzzzzz", .str "z", .str "a"]) n2
    have t3 := same_upd (o := .lst [V.str "a", .str "b", .str "c", .str "d", .str "e"]) n3
    have t4 := same_upd (o := .lst [V.str "yes", .str "no", .str "x"]) n4
    have t5 := same_upd (o := .lst [V.ref l1, .ref l2, .ref l3, .ref l4]) nL
    have u4 := t4.trans t5
    have u3 := t3.trans u4
    have u2 := t2.trans u3
    have sall := t1.trans u2
    have m1 := hd.new n1
    have m2 := (hd.same t1).new n2
    have m3 := (hd.same (t1.trans t2)).new n3
    have m4 := (hd.same ((t1.trans t2).trans t3)).new n4
    have mL := (hd.same (((t1.trans t2).trans t3).trans t4)).new nL
    have x1 := u2 _ _ (upd_same (H := H) (a := l1))
    have x2 := u3 _ _ upd_same
    have x3 := u4 _ _ upd_same
    have x4 := t5 _ _ upd_same
    have d0 := hd.same sall
    have pool : ∀ x ∈ [V.ref l1, .ref l2, .ref l3, .ref l4], ∃ (lp : Addr) (zs : List Str), x = .ref lp ∧ upd (upd (upd (upd (upd H l1 (.lst [V.str "a", .str "b", .str "ab"])) l2 (.lst [V.str "zzzzzzzz", .str "z", .str "a"])) l3 (.lst [V.str "a", .str "b", .str "c", .str "d", .str "e"])) l4 (.lst [V.str "yes", .str "no", .str "x"])) L (.lst [V.ref l1, .ref l2, .ref l3, .ref l4]) lp = some (.lst (zs.map V.str)) ∧ lp ≠ a ∧ (∀ z ∈ zs, Nm z = true) ∧ 0 < zs.length ∧ zs.length ≤ 5 := by
      refine List.forall_mem_cons.mpr ⟨⟨l1, ["a", "b", "ab"], rfl, x1, m1, by decide +kernel, by decide, by decide⟩, ?_⟩
      refine List.forall_mem_cons.mpr ⟨⟨l2, ["zzzzzzzz", "z", "a"], rfl, x2, m2, by decide +kernel, by decide, by decide⟩, ?_⟩
      refine List.forall_mem_cons.mpr ⟨⟨l3, ["a", "b", "c", "d", "e"], rfl, x3, m3, by decide +kernel, by decide, by decide⟩, ?_⟩
      refine List.forall_mem_cons.mpr ⟨⟨l4, ["yes", "no", "x"], rfl, x4, m4, by decide +kernel, by decide, by decide⟩, ?_⟩
      exact fun x h => nomatch h
    have eL : upd (upd (upd (upd (upd H l1 (.lst [V.str "a", .str "b", .str "ab"])) l2 (.lst [V.str "zzzzzzzz", .str "z", .str "a"])) l3 (.lst [V.str "a", .str "b", .str "c", .str "d", .str "e"])) l4 (.lst [V.str "yes", .str "no", .str "x"])) L (.lst [V.ref l1, .ref l2, .ref l3, .ref l4]) L = some (.lst [V.ref l1, .ref l2, .ref l3, .ref l4]) := upd_same
    clear x1 x2 x3 x4 u2 u3 u4 t1 t2 t3 t4 t5
    generalize upd (upd (upd (upd (upd H l1 (.lst [V.str "a", .str "b", .str "ab"])) l2 (.lst [V.str "zzzzzzzz", .str "z", .str "a"])) l3 (.lst [V.str "a", .str "b", .str "c", .str "d", .str "e"])) l4 (.lst [V.str "yes", .str "no", .str "x"])) L (.lst [V.ref l1, .ref l2, .ref l3, .ref l4]) = H0 at *
    refine ⟨a, L, [V.ref l1, .ref l2, .ref l3, .ref l4], m, rfl, d0, by omega, .inl eL, mL, (show 0 < 4 by decide), (show 4 ≤ 1000 by decide), fun H1 i x hx k1 d1 => ?_⟩
    obtain ⟨lp, zs, rfl, hz, na, nmz, z1, z2⟩ := pool x (List.mem_of_getElem? hx)
    clear pool hx
    have hz1 := k1 _ _ na hz
    have k01 := (Kp.of sall).trans k1
    clear hz eL k1 sall
    -- names
    refine ⟨.ref a, rfl, a, 7, m + 1, rfl, d1, by omega, by decide, by decide, fun H2 r k2 d2 r0 r7 => ?_⟩
    have hz2 := k2 _ _ na hz1
    have k02 := k01.trans k2
    refine ⟨r, rfl, by omega, by omega, fun D nD => ?_⟩
    have nDa : D ≠ a := d2.new nD
    refine lc_range (lo := 0) (n := r.toNat) (fun i H4 => ∃ l : List Str, H4 D = some (.lst (l.map V.str)) ∧ l.length = i ∧ (∀ z ∈ l, Nm z = true) ∧ Kp a H2 H4 ∧ Dc H4 a (m + 2 + i)) ?_ ?_ ?_
    · exact ⟨[], upd_same, rfl, (fun z hz => by cases hz), Kp.of (same_upd nD), d2.same (same_upd nD)⟩
    · rintro i H4 hi ⟨l, hD, hl, nml, k4, d4⟩
      have hz4 := k4 _ _ na hz2
      refine ⟨rfl, .ref a, rfl, .ref lp, rfl, a, lp, _, m + 2 + i, rfl, d4, by omega, .inl hz4, na, by rw [List.length_map]; exact z1, by rw [List.length_map]; omega, fun H5 j x hx k5 d5 => ?_⟩
      obtain ⟨z, hzj, rfl⟩ := get_map' hx
      have hD5 := k5 _ _ nDa hD
      refine ⟨_, hD5, ?_, l ++ [z], ?_, ?_, ?_, ?_, ?_⟩
      · rw [List.length_map]
        exact small1000 (by omega)
      · rw [upd_same, List.map_append]
        rfl
      · rw [List.length_append, hl]
        rfl
      · intro y hy
        rcases List.mem_append.mp hy with hy | hy
        · exact nml y hy
        · rw [List.mem_singleton.mp hy]
          exact nmz z (List.mem_of_getElem? hzj)
      · intro b o nb e
        rw [upd_ne (ne_of_none e nD)]
        exact k5 _ _ nb (k4 _ _ nb e)
      · obtain ⟨v1, v2, v3, e, v0, v5⟩ := d5
        exact ⟨v1, v2, v3, by rw [upd_ne nDa.symm]; exact e, v0, by omega⟩
    rintro H4 ⟨l, hD, hl, nml, k4, d4⟩
    have l6 : l.length ≤ 6 := by omega
    have d4 : Dc H4 a (m + 8) := d4.mono (by omega)
    have k04 := k02.trans k4
    clear hz1 hz2 k02 k01 k2 k4 d1 d2 m1 m2 m3 m4 mL d0
    clear n1 n2 n3 n4 nL
    have lay : Lay l := fun z hz => nm_ok (nml z hz)
    -- different
    refine ⟨.ref D, rfl, D, l, rfl, sql hD, by omega, fun p1 np1 => ?_⟩
    have s1 := same_upd (o := TxtO P w p1 (difs l)) np1
    have hdl := difs_len l
    refine ⟨p1, difs l, rfl, upd_same, by omega, fun ys p2 pm so np2 => ?_⟩
    have s2 := same_upd (o := .lst (ys.map V.str)) np2
    have e2 : upd (upd H4 p1 (TxtO P w p1 (difs l))) p2 (.lst (ys.map V.str)) p2 = some (.lst (ys.map V.str)) := upd_same
    have s12 := s1.trans s2
    clear s1 s2
    generalize upd (upd H4 p1 (TxtO P w p1 (difs l))) p2 (.lst (ys.map V.str)) = H5 at *
    have hD5 := s12 _ _ hD
    have d5 := d4.same s12
    have k05 := k04.trans (Kp.of s12)
    have nmy : ∀ z ∈ ys, Nm z = true := fun z hz => nml z (difs_mem.mp (pm.mem_iff.mp hz))
    have layy : Lay ys := fun z hz => nm_ok (nmy z hz)
    have yl := pm.length_eq
    clear hD d4 k04 s12
    -- due
    dsimp only [tNext, tSeq, tAsg]
    refine tif_k (fits4 ys) (fun v H6 => Same H5 H6 ∧ DueV H6 v ys) (fun R h => ?_) (fun c Q' h => ?_) (fun c Q' h => ?_) ?_
    · refine ⟨.ref p2, rfl, p2, _, rfl, .inl (sql e2), _, _, rfl, rfl, _, rfl, ?_⟩
      rw [List.length_map]
      unfold fits4 at h
      by_cases c1 : 1 ≤ ys.length
      · rw [decide_eq_true (show (1 : Int) ≤ ((ys.length : Nat) : Int) by omega)]
        refine iteT ⟨_, _, rfl, rfl, _, rfl, ?_⟩
        rw [decide_eq_true c1, Bool.true_and] at h
        have e : decide (((ys.length : Nat) : Int) ≤ 4) = decide (ys.length ≤ 4) := decide_eq_decide.mpr (by omega)
        rw [e]
        exact h
      · rw [decide_eq_false (show ¬ (1 : Int) ≤ ((ys.length : Nat) : Int) by omega)]
        rw [decide_eq_false c1, Bool.false_and] at h
        exact iteF ⟨_, rfl, h⟩
    · refine ⟨.ref p2, rfl, p2, _, rfl, .inl ⟨sql e2, fun t nt => h _ _ ⟨same_upd nt, ?_⟩⟩⟩
      unfold DueV
      rw [if_pos c]
      exact ⟨t, rfl, upd_same⟩
    · refine h _ _ ⟨Same.refl H5, ?_⟩
      unfold DueV
      rw [if_neg (by rw [c]; decide)]
    rintro v H6 ⟨s6, hv6⟩
    have hD6 := s6 _ _ hD5
    have nvs : ∀ {G : Hp}, Nvs G (l.map V.str) (l.map Nm) := nvs_strs fun z hz => nm_line (nml z hz)
    have alln := all_nm nml
    have one : ∀ (z : List Str) (ys' : List Str), l.map V.str = z.map V.str → ys'.Perm (difs z) → sortedS ys' = true → ys' = ys := fun z ys' e pm' so' => by
      have e2 : l = z := List.map_inj_right (fun a b h => V.str.inj h) |>.mp e
      subst e2
      exact asc_one (asc_sorted so' (pm'.nodup_iff.mpr (difs_nd _))) (asc_sorted so (pm.nodup_iff.mpr (difs_nd _))) fun z => by rw [pm'.mem_iff, pm.mem_iff]
    -- _law_made(names)
    refine ⟨.ref D, rfl, D, l.map V.str, l.map Nm, rfl, hD6, by rw [List.length_map]; exact l6, nvs, fun h => absurd (alln.symm.trans h) (by decide), fun z e hb ys' pm' so' => ?_⟩
    rw [one z ys' e pm' so']
    intro v' H7 s7 hv7
    have hv := hv6.same s7
    refine ⟨v, rfl, dueD ys, dueD ys, hv7.dp, hv.dp, sh_dueD layy, sh_dueD layy, _, rfl, ?_⟩
    rw [eqv_due layy]
    refine iteF ⟨v, rfl, rfl, _, rfl, ?_⟩
    have hD7 := s7 _ _ hD6
    have k07 := k05.trans ((Kp.of s6).trans (Kp.of s7))
    have d7 := (d5.same s6).same s7
    clear hD5 d5 k05 hv6 hv7 hD6 e2 s6 s7
    dsimp only
    refine and_pass (fun c R' h => ?_) (fun H8 s8 => ?_)
    · unfold DueV at hv
      cases c2 : fits4 ys with
      | false =>
        rw [c2, if_neg (by decide)] at hv
        subst hv
        cases c
      | true =>
        rw [c2, if_pos rfl] at hv
        obtain ⟨t, rfl, ht⟩ := hv
        have c3 := fits_iff.mp c2
        refine ⟨.ref t, rfl, .ref t, rfl, .inr ⟨t, _, _, rfl, ht, by rw [List.length_map]; omega, nvs_strs (fun z hz => nm_line (nmy z hz)), .inr ⟨ys, rfl, c3.1, c3.2, all_nm nmy, fun H' s9 => ?_⟩⟩⟩
        rw [asc_sorted so (pm.nodup_iff.mpr (difs_nd _))]
        exact ⟨_, _, rfl, rfl, _, rfl, h H' s9⟩
    have hv := hv.same s8
    have hD8 := s8 _ _ hD7
    have k08 := k07.trans (Kp.of s8)
    have d8 := d7.same s8
    clear hD7 k07 d7 s8
    refine iteF ⟨.ref D, rfl, D, _, rfl, .inl (sql hD8), _, _, rfl, rfl, _, rfl, ?_⟩
    dsimp only
    refine and_pass (fun c R' h => ?_) (fun H9 s9 => ?_)
    · refine ⟨.ref D, rfl, D, _, rfl, .inl ⟨sql hD8, fun t1 nt1 => ?_⟩⟩
      have s1 := same_upd (o := .tup (l.map V.str)) nt1
      dsimp only [tNil]
      refine isl_names upd_same nml (by omega) fun H9 s9 => ?_
      have s19 := s1.trans s9
      refine ⟨_, rfl, .ref D, rfl, D, _, rfl, .inl ⟨sql (s19 _ _ hD8), fun t2 nt2 => ?_⟩⟩
      have s2 := same_upd (o := .tup (l.map V.str)) nt2
      refine ⟨v, rfl, lgD l, dueD ys, dp_tp upd_same, (hv.same (s19.trans s2)).dp, sh_lgD lay, sh_dueD layy, ?_⟩
      rw [due_two lay layy pm so]
      refine ⟨_, rfl, rfl, _, rfl, ?_⟩
      rw [decide_eq_true rfl]
      exact h _ (s19.trans s2)
    refine iteF ?_
    have hD9 := s9 _ _ hD8
    have k09 := k08.trans (Kp.of s9)
    have d9 := d8.same s9
    clear hD8 k08 d8 s9 hv
    refine ⟨.ref D, rfl, .ref a, rfl, a, _, rfl, d9, by omega, fun Ha x ka da od => ?_⟩
    have hDa := ka _ _ nDa hD9
    refine ⟨(show 1 ≤ sizeLine by decide), fun L1 nL1 => ?_⟩
    have sL := same_upd (o := .lst [x]) nL1
    refine ⟨D, L1, _, _, rfl, rfl, sL _ _ hDa, upd_same, (by rw [List.length_map]; exact small1000 (show l.length ≤ 1000 by omega)), fun L2 nL2 => ?_⟩
    have sM := same_upd (o := .lst (l.map V.str ++ [x])) nL2
    refine ⟨6, rfl, -6, rfl, L2, _, rfl, sql upd_same, fun L3 nL3 => ?_⟩
    have eC : cutV (l.map V.str ++ [x]) (some (-6)) none = (l.map V.str ++ [x]).drop ((l.map V.str ++ [x]).length - 6) := cut_six _
    rw [eC]
    have sN := same_upd (o := .lst ((l.map V.str ++ [x]).drop ((l.map V.str ++ [x]).length - 6))) nL3
    have sX := (sL.trans sM).trans sN
    have nvx := (nvs (G := Ha)).snoc od.2.1
    have nv5 := (nvx.drop ((l.map V.str ++ [x]).length - 6)).same sX
    have len5 : ((l.map V.str ++ [x]).drop ((l.map V.str ++ [x]).length - 6)).length ≤ 6 := by
      rw [List.length_drop]
      omega
    have b5 : ((l.map Nm ++ [false]).drop ((l.map V.str ++ [x]).length - 6)).all id = false := drop_false (by rw [List.length_append, List.length_map, List.length_map]; show l.length + 1 - 6 ≤ l.length; omega)
    have e5 : upd (upd (upd Ha L1 (.lst [x])) L2 (.lst (l.map V.str ++ [x]))) L3 (.lst ((l.map V.str ++ [x]).drop ((l.map V.str ++ [x]).length - 6))) L3 = some (.lst ((l.map V.str ++ [x]).drop ((l.map V.str ++ [x]).length - 6))) := upd_same
    clear eC sL sM sN nvx nL1 nL2 nL3
    generalize (l.map V.str ++ [x]).drop ((l.map V.str ++ [x]).length - 6) = x5 at *
    generalize (l.map Nm ++ [false]).drop ((l.map V.str ++ [x]).length - 6) = bs5 at *
    generalize upd (upd (upd Ha L1 (.lst [x])) L2 (.lst (l.map V.str ++ [x]))) L3 (.lst x5) = Hb at *
    have hDb := sX _ _ hDa
    have db := da.same sX
    have k0b := k09.trans (ka.trans (Kp.of sX))
    clear hDa hD9 d9 k09 ka da od sX
    refine ⟨.ref L3, rfl, L3, x5, bs5, rfl, e5, len5, nv5, fun _ Hc sc => ?_, fun z e hb => absurd (hb.symm.trans b5) (by decide)⟩
    refine ⟨rfl, _, rfl, iteF ?_⟩
    refine ⟨.ref L3, rfl, L3, _, rfl, .inl ⟨sql (sc _ _ e5), fun t nt => ?_⟩⟩
    have st := same_upd (o := .tup x5) nt
    refine ⟨.ref t, rfl, .inr ⟨t, x5, bs5, rfl, upd_same, by omega, nv5.same (sc.trans st), .inl ⟨fun _ => b5, fun Hd sd => ?_⟩⟩⟩
    have sd' := (sc.trans st).trans sd
    refine ⟨_, _, rfl, rfl, _, rfl, iteF ?_⟩
    refine ⟨.ref a, rfl, a, _, rfl, db.same sd', by omega, fun He y ke de ode => ?_⟩
    dsimp only [tNil]
    refine isl_odd ode fun Hf sf => ?_
    refine ⟨_, _, rfl, rfl, _, rfl, iteT ?_⟩
    have hDf := sf _ _ (ke _ _ nDa (sd' _ _ hDb))
    refine ⟨.ref D, rfl, .ref D, rfl, .inl ⟨"list", .lst hDf, by decide +kernel, _, _, rfl, rfl, ?_⟩⟩
    exact q _ (((k0b.trans (Kp.of sd')).trans ke).trans (Kp.of sf)) ((de.same sf).mono (by omega))
end
end Sfl
set_option maxHeartbeats 4000000
namespace Sfl
open PySem PySem.Spec PyProof.Rows L2
/-! ### tuple * int, of any small int -/
theorem tuple_mul1 (l : Addr) (items : Array Value) (n : Nat) (dd : Option Addr) (sl : Array (Option Value)) (u : Tok) :
    Meets (Builtin.«tuple.__mul__» ⟨[.ref l, .int 1 u], []⟩) (fun _ R s => s.heap.get? l = some { cls := .type "tuple", dict := dd, data := .seq items n, slots := sl } ∧ R (.ok (.ret (Value.ref l))) s) :=
  .of_wp fun prog w A R s h => by
    obtain ⟨hp, g, d, tk, os⟩ := s
    obtain ⟨hl, h⟩ := h
    have f1 := AutoSeq1.idx_int
    have c1 : (items.isEmpty || (1 : Int) == 1) = true := by
      rw [show ((1 : Int) == 1) = true from rfl, Bool.or_true]
    wp_walk using wpAny_loadPart' hl
    repeat (first
      | (refine wpAny_ite_true (decide_eq_true c1) ?_; wp_walk using wpAny_loadPart' hl))
    exact ⟨_, rfl, h⟩
theorem tuple_mul0 (l : Addr) (items : Array Value) (n : Nat) (dd : Option Addr) (sl : Array (Option Value)) (u : Tok) (he : items.isEmpty = false) :
    Meets (Builtin.«tuple.__mul__» ⟨[.ref l, .int 0 u], []⟩) (fun _ R s => s.heap.get? l = some { cls := .type "tuple", dict := dd, data := .seq items n, slots := sl } ∧
      R (.ok (.ret (Value.ref s.heap.objs.size))) { s with heap := s.heap.push { cls := Value.type "tuple", data := Data.seq #[] }, toks := s.toks }) :=
  .of_wp fun prog w A R s h => by
    obtain ⟨hp, g, d, tk, os⟩ := s
    obtain ⟨hl, h⟩ := h
    have f1 := AutoSeq1.idx_int
    have c1 : (items.isEmpty || (0 : Int) == 1) = false := by
      rw [he]
      rfl
    wp_walk using wpAny_loadPart' hl
    repeat (first
      | (refine wpAny_ite_false (decide_eq_false (by rw [c1]; exact Bool.false_ne_true)) ?_; wp_walk using wpAny_loadPart' hl))
    exact ⟨_, rfl, h⟩
def rRepS : R2 := fun x y H Q => ∃ (l : Addr) (k : Int) (xs : List V), x = .ref l ∧ y = .int k ∧ H l = some (.tup xs) ∧ xs ≠ [] ∧ 0 ≤ k ∧ k ≤ 1000 ∧ xs.length ≤ 1000 ∧ ∀ p H', Same H H' → H' p = some (.tup (List.replicate k.toNat xs).flatten) → Q (.ref p) H'
theorem op_repS {X : Cx} : OpR X (binaryOp .Mult) rRepS := by
  intro pins s σ H x y v u Q I rx ry h
  obtain ⟨l, k, xs, rfl, rfl, hT, hne, h1, h2, hz, q⟩ := h
  by_cases k2 : 2 ≤ k
  · exact op_repT pins s σ H _ _ v u Q I rx ry ⟨l, k, xs, rfl, rfl, sqt hT, hne, k2, h2, hz, fun p np => q p _ (same_upd np) upd_same⟩
  · cases rx
    obtain ⟨t, rfl⟩ := ry
    obtain ⟨its, r, ⟨⟨cls, dd, data, sl⟩, ho, hc, n, hd⟩, hs⟩ := I.tuple (sqt hT)
    simp only at hc hd
    subst hc hd
    have hle : its.length = xs.length := r.length.symm
    have hn : its ≠ [] := fun e => hne (by
      rw [e] at hle
      exact List.eq_nil_of_length_eq_zero hle.symm)
    have hi : its.toArray.isEmpty = false := by
      cases its with
      | nil => exact absurd rfl hn
      | cons a b => rfl
    by_cases e1 : k = 1
    · subst e1
      refine wpAny_binaryOp_repeat_ref (T := "tuple") (U := "int") (by decide) ⟨_, ho, rfl⟩ (fun s' => typeIs_int s' 1 t) noFill_tuple_mul F.fills_int_mul F.slot_int_rmul repeat_tuple F.slot_int_index.lookup
        (call_meets F.slot_int_rmul (typeIs_int s 1 t) F.entry_int_rmul (F.args_int_rmul_2 _ _) (int_rmul_tuple 1 t l its.toArray n dd sl)
          ⟨ho, rfl, ⟨_, ho, rfl⟩, call_meets F.slot_tuple_mul ⟨_, ho, rfl⟩ F.entry_tuple_mul (F.args_tuple_mul_2 _ _) (tuple_mul1 l its.toArray n dd sl t) ⟨ho, ?_⟩⟩)
      refine ⟨.ref l, H, I, rfl, q l H (Same.refl H) ?_⟩
      rw [hT]
      simp
    · have e0 : k = 0 := by omega
      subst e0
      refine wpAny_binaryOp_repeat_ref (T := "tuple") (U := "int") (by decide) ⟨_, ho, rfl⟩ (fun s' => typeIs_int s' 0 t) noFill_tuple_mul F.fills_int_mul F.slot_int_rmul repeat_tuple F.slot_int_index.lookup
        (call_meets F.slot_int_rmul (typeIs_int s 0 t) F.entry_int_rmul (F.args_int_rmul_2 _ _) (int_rmul_tuple 0 t l its.toArray n dd sl)
          ⟨ho, rfl, ⟨_, ho, rfl⟩, call_meets F.slot_tuple_mul ⟨_, ho, rfl⟩ F.entry_tuple_mul (F.args_tuple_mul_2 _ _) (tuple_mul0 l its.toArray n dd sl t hi) ⟨ho, ?_⟩⟩)
      refine ⟨.ref s.heap.objs.size, _, I.laid (t' := s.toks) (o := .tup []) (fun b ob q => Heap.get?_push_of_some _ q) (Nat.le_refl _) ⟨Nat.zero_le _, [], .nil, IsTup.new _ _⟩, rfl, ?_⟩
      exact q _ _ (same_upd (I.hok.fresh (Nat.le_refl _))) upd_same
/-! ### a written tuple whose object is known -/
def tTupF (ta : TA) : TE := fun σ H Q => ta σ H fun xs H1 => xs.length ≤ sizeLine ∧ ∀ p, ∀ ob : Obj, H1 p = none → ob.dict = none → ob.cls = .type "tuple" → Q (.ref p) (upd H1 p (.frz ob (.tup xs)))
theorem pe_tupF {X : Cx} {es : List Expr} {t : TA} {x1 : Nat} {pos : Pos} (h : PA X es t) : PE X (.Tuple es x1 pos) (tTupF t) := by
  refine ⟨fun pins s σ H Q I hq => ?_⟩
  refine wpAny_Tuple_spliced (thn (h.run pos pins s σ H _ I hq) fun us s1 ⟨xs, H1, I1, r, z, q⟩ => ⟨by rw [← r.length]; exact z, ?_⟩)
  have hf : H1 s1.heap.objs.size = none := I1.hok.fresh (Nat.le_refl _)
  have I2 : Inv X pins σ (upd H1 s1.heap.objs.size (.frz { cls := .type "tuple", data := .seq us.toArray } (.tup xs))) { s1 with heap := s1.heap.push { cls := .type "tuple", data := .seq us.toArray } } :=
    I1.laid (t' := s1.toks) (fun b o e => Heap.get?_push_of_some _ e) (Nat.le_refl _) (show ObjOk X.prog X.w _ _ _ (.frz _ (.tup xs)) from ⟨Heap.get?_push_size _ rfl, z, us, r, IsTup.new _ _⟩)
  exact ⟨.ref s1.heap.objs.size, _, I2, rfl, q _ _ hf rfl rfl⟩
end Sfl
set_option maxHeartbeats 3200000
/- _law_logs_right (law k01) -/
namespace Sfl
open PySem PySem.Spec PyProof.Rows L2
theorem setDK {X : Cx} (K : PySem.W.Frag) (P : Program) (w : World) (hc : X.calm = true) (hu : X.A.units + 64 < cLine) (h1 : X.K = K := by rfl) (h2 : X.prog = P := by rfl) (h3 : X.w = w := by rfl) : CallR X (.type "set") (rSetD K P w) := by
  subst h1 h2 h3
  exact cr_setD hc hu
theorem notInQ {X : Cx} (K : PySem.W.Frag) (h : X.K = K := by rfl) : OpR X (compareOp .NotIn) (rIn K true) := by
  subst h
  exact op_notIn_seq
/-- logs in the heap -/
def AtL (H : Hp) (rs : List Addr) (gs : List (List Str)) : Prop := rs.length = gs.length ∧ ∀ (i : Nat) (r : Addr) (l : List Str), rs[i]? = some r → gs[i]? = some l → Tp H r l
theorem AtL.keep {H H' : Hp} {rs : List Addr} {gs : List (List Str)} (h : AtL H rs gs) (k : ∀ b xs, H b = some (.tup xs) → H' b = some (.tup xs)) : AtL H' rs gs := ⟨h.1, fun i r l e f => k _ _ (h.2 i r l e f)⟩
theorem AtL.same {H H' : Hp} {rs : List Addr} {gs : List (List Str)} (h : AtL H rs gs) (s : Same H H') : AtL H' rs gs := h.keep fun b xs e => s _ _ e
theorem AtL.snoc {H : Hp} {rs : List Addr} {gs : List (List Str)} {r : Addr} {l : List Str} (h : AtL H rs gs) (t : Tp H r l) : AtL H (rs ++ [r]) (gs ++ [l]) := by
  refine ⟨by rw [List.length_append, List.length_append, h.1]; rfl, fun i b x e f => ?_⟩
  rcases Nat.lt_or_ge i rs.length with lt | ge
  · rw [List.getElem?_append_left lt] at e
    rw [List.getElem?_append_left (by rw [← h.1]; exact lt)] at f
    exact h.2 i b x e f
  · rw [List.getElem?_append_right ge] at e
    rw [List.getElem?_append_right (by rw [← h.1]; exact ge), ← h.1] at f
    obtain ⟨j, hj⟩ : ∃ j, i - rs.length = j := ⟨_, rfl⟩
    rw [hj] at e f
    cases j with
    | zero =>
      cases Option.some.inj e
      cases Option.some.inj f
      exact t
    | succ j => exact nomatch e
theorem keep_upd {H : Hp} {S : Addr} {ys : List V} {o : HO} (e : H S = some (.lst ys)) : ∀ b xs, H b = some (.tup xs) → (upd H S o) b = some (.tup xs) := fun b xs h => by
  rw [upd_ne]
  · exact h
  · rintro rfl
    rw [e] at h
    exact nomatch h
theorem AtL.lgs {H : Hp} {p : Addr} {rs : List Addr} {gs : List (List Str)} (h : AtL H rs gs) (e : H p = some (.tup (rs.map V.ref))) : Lgs H p rs gs := ⟨e, h.1, h.2⟩
theorem all_lgs {K : PySem.W.Frag} {H : Hp} : ∀ {rs : List Addr} {gs : List (List Str)}, AtL H rs gs → DpAll K H (rs.map V.ref) (gs.map lgD)
  | [], [], _ => .nil
  | [], _ :: _, h => nomatch h.1
  | _ :: _, [], h => nomatch h.1
  | r :: rs, l :: gs, h => .cons (dp_tp (h.2 0 r l rfl rfl)) (all_lgs ⟨Nat.succ.inj h.1, fun i b x e f => h.2 (i + 1) b x e f⟩)
theorem lay_lgs : ∀ {gs : List (List Str)}, (∀ l ∈ gs, Lay l) → PyData.canLayAll0 (gs.map lgD) = true ∧ PyData.depthAll (gs.map lgD) ≤ 1
  | [], _ => ⟨rfl, Nat.zero_le _⟩
  | l :: gs, h => by
    obtain ⟨h1, h2⟩ := lay_lgs (gs := gs) fun m hm => h m (List.mem_cons_of_mem _ hm)
    obtain ⟨h3, h4⟩ := flat_strs l (h l List.mem_cons_self)
    constructor
    · show (PyData.canLay0 (lgD l) && PyData.canLayAll0 (gs.map lgD)) = true
      rw [h1, Bool.and_true]
      exact h3
    · show max (PyData.depth (lgD l)) (PyData.depthAll (gs.map lgD)) ≤ 1
      have : PyData.depth (lgD l) = 1 := by
        show PyData.depthAll (l.map PyData.str) + 1 = 1
        rw [h4]
      omega
theorem sh_lgs {gs : List (List Str)} (h : ∀ l ∈ gs, Lay l) : SeqAt.shaped (.tuple (gs.map lgD)) = true ∧ SeqAt.shaped (.list (gs.map lgD)) = true := by
  obtain ⟨h1, h2⟩ := lay_lgs h
  refine ⟨shaped_of (n := PyData.depthAll (gs.map lgD) + 1) h1 rfl (by omega), shaped_of (n := PyData.depthAll (gs.map lgD) + 1) h1 rfl (by omega)⟩
theorem eqv_lgs {gs : List (List Str)} (h : ∀ l ∈ gs, Lay l) : PyData.eqv (.tuple (gs.map lgD)) (.tuple (gs.map lgD)) = true := SeqAt.eqv_refl _ (SeqAt.canLay_of_shaped (sh_lgs h).1)
theorem eqv_none (ds : List PyData) : PyData.eqv (.list ds) (.list []) = ds.isEmpty := by
  cases ds <;> rfl
theorem Prs.made {H : Hp} {ps L : List El} {rs : List Addr} {gs : List (List Str)} (e : EachP H ps rs gs) (m : Made ps L) : Prs H gs L := by
  have hd := e.data
  refine ⟨fun p hp => ?_, fun d => ?_, ?_⟩
  · obtain ⟨i, hi⟩ := List.getElem?_of_mem (m.1 p hp)
    obtain ⟨r, l, _, hl, pe⟩ := e.at hi
    exact ⟨l, r, List.mem_of_getElem? hl, pe⟩
  · rw [m.2.1 d, hd]
  · rw [e.len.2]
    exact m.2.2
theorem EachP.snoc {H : Hp} : ∀ {ps : List El} {rs : List Addr} {gs : List (List Str)} {p : El} {r : Addr} {l : List Str}, EachP H ps rs gs → PairEl H p l r → EachP H (ps ++ [p]) (rs ++ [r]) (gs ++ [l])
  | [], [], [], _, _, _, _, q => ⟨q, trivial⟩
  | _ :: _, _ :: _, _ :: _, _, _, _, h, q => ⟨h.1, EachP.snoc h.2 q⟩
theorem EachP.keep {H H' : Hp} : ∀ {ps : List El} {rs : List Addr} {gs : List (List Str)}, EachP H ps rs gs → (∀ b xs, H b = some (.tup xs) → H' b = some (.tup xs)) → EachP H' ps rs gs
  | [], [], [], _, _ => trivial
  | _ :: _, _ :: _, _ :: _, h, k => ⟨h.1.keep k, h.2.keep k⟩
theorem EachP.elh {K : PySem.W.Frag} {H : Hp} {ps : List El} {rs : List Addr} {gs : List (List Str)} (h : EachP H ps rs gs) : ElH K H ps := fun p hp => by
  obtain ⟨i, hi⟩ := List.getElem?_of_mem hp
  obtain ⟨r, l, _, _, pe⟩ := h.at hi
  exact pe.dp
theorem EachP.hd {H : Hp} {ps : List El} {rs : List Addr} {gs : List (List Str)} (h : EachP H ps rs gs) (lay : ∀ l ∈ gs, Lay l) : ∀ p ∈ ps, hdy p.2 = true ∧ p.2.depth ≤ 8 := fun p hp => by
  obtain ⟨i, hi⟩ := List.getElem?_of_mem hp
  obtain ⟨r, l, _, hl, pe⟩ := h.at hi
  rw [pe.2.2]
  exact ⟨hdy_pd (lay l (List.mem_of_getElem? hl)), depth_pd l⟩
theorem tif_s {tt : TT} {ta tb : TE} {σ : L2.St} {H : Hp} {Q : VK} (b : Bool) (Pf : V → Hp → Prop) (hc : ∀ R : Bool → Hp → Prop, (∀ H', Same H H' → R b H') → tt σ H R) (ha : b = true → ∀ H', Same H H' → ∀ Q' : VK, (∀ v H'', Pf v H'' → Q' v H'') → ta σ H' Q')
    (hb : b = false → ∀ H', Same H H' → ∀ Q' : VK, (∀ v H'', Pf v H'' → Q' v H'') → tb σ H' Q') (hq : ∀ v H', Pf v H' → Q v H') : tIf tt ta tb σ H Q := hc _ fun H' s => (by
  cases b with
  | true => exact iteT (ha rfl H' s _ hq)
  | false => exact iteF (hb rfl H' s _ hq))
theorem isg {H : Hp} {L p : Addr} {ls l : List Str} {Q : VK} {E : XK} (hL : Tp H L ls) (Ll : Ls ls) (hp : Tp H p l) (nm : ∀ z ∈ l, Nm z = true) (h200 : l.length ≤ 200) (h : ∀ H', Same H H' → Q (.bl (l.all fun z => decide (z ∈ ls))) H') : spIsLogV [.ref L, .ref p] H Q E :=
  ⟨L, ls, .ref p, rfl, hL, Ll, .inr ⟨p, _, _, rfl, hp, by rw [List.length_map]; omega, nvs_strs (fun z hz => nm_line (nm z hz)), .inr ⟨l, rfl, h200, all_nm nm, h⟩⟩⟩
theorem isg_no {H : Hp} {L p : Addr} {ls : List Str} {xs : List V} {bs : List Bool} {Q : VK} {E : XK} (hL : Tp H L ls) (Ll : Ls ls) (hp : H p = some (.tup xs)) (hx : xs.length ≤ 1000) (hn : Nvs H xs bs) (hb : (decide (xs.length ≤ 200) && bs.all id) = false) (h : ∀ H', Same H H' → Q (.bl false) H') : spIsLogV [.ref L, .ref p] H Q E :=
  ⟨L, ls, .ref p, rfl, hL, Ll, .inr ⟨p, xs, bs, rfl, hp, hx, hn, .inl ⟨hb, h⟩⟩⟩
theorem isg_lst {H : Hp} {L p : Addr} {ls : List Str} {xs : List V} {Q : VK} {E : XK} (hL : Tp H L ls) (Ll : Ls ls) (hp : H p = some (.lst xs)) (h : ∀ H', Same H H' → Q (.bl false) H') : spIsLogV [.ref L, .ref p] H Q E :=
  ⟨L, ls, .ref p, rfl, hL, Ll, .inl ⟨"list", .lst hp, by decide +kernel, h⟩⟩
theorem Nvs.take {H : Hp} {xs : List V} {bs : List Bool} (h : Nvs H xs bs) (k : Nat) : Nvs H (xs.take k) (bs.take k) := by
  refine ⟨by rw [List.length_take, List.length_take, h.1], fun i x b e f => ?_⟩
  have hi := get_lt e
  rw [List.length_take] at hi
  rw [List.getElem?_take_of_lt (by omega)] at e f
  exact h.2 i x b e f
theorem Nvs.app {H : Hp} {xs ys : List V} {bs cs : List Bool} (h : Nvs H xs bs) (h' : Nvs H ys cs) : Nvs H (xs ++ ys) (bs ++ cs) := by
  refine ⟨by rw [List.length_append, List.length_append, h.1, h'.1], fun i y c e f => ?_⟩
  rcases Nat.lt_or_ge i xs.length with lt | ge
  · rw [List.getElem?_append_left lt] at e
    rw [List.getElem?_append_left (by rw [h.1]; exact lt)] at f
    exact h.2 i y c e f
  · rw [List.getElem?_append_right ge] at e
    rw [List.getElem?_append_right (by rw [h.1]; exact ge), h.1] at f
    exact h'.2 _ y c e f
theorem not_first {z0 : Str} {r : List Str} (h : asc (z0 :: r) = true) : (z0 :: r).filter (fun z => !decide (z = z0)) = r := by
  have nd := List.nodup_cons.mp (asc_nd h)
  rw [List.filter_cons_of_neg (by rw [decide_eq_true rfl]; decide)]
  exact List.filter_eq_self.mpr fun z hz => by
    rw [decide_eq_false (fun (e : z = z0) => nd.1 (e ▸ hz))]
    rfl
theorem Ls.tail {z0 : Str} {r : List Str} (h : Ls (z0 :: r)) (hr : r ≠ []) : Ls r := by
  have h4 := h.four
  rw [List.length_cons] at h4
  exact ⟨List.length_pos_iff.mpr hr, by omega, fun z hz => h.nm z (List.mem_cons_of_mem _ hz), asc_tail h.up⟩
theorem rest_in {z0 : Str} {r l : List Str} (h : Ls (z0 :: r)) (hl : ∀ z ∈ l, z ∈ z0 :: r) : (l.all fun z => decide (z ∈ r)) = !decide (z0 ∈ l) := by
  have nd := List.nodup_cons.mp (asc_nd h.up)
  by_cases c : z0 ∈ l
  · rw [decide_eq_true c]
    exact List.all_eq_false.mpr ⟨z0, c, by rw [decide_eq_false nd.1]; decide⟩
  · rw [decide_eq_false c]
    refine List.all_eq_true.mpr fun z hz => decide_eq_true ?_
    rcases List.mem_cons.mp (hl z hz) with rfl | h
    · exact absurd hz c
    · exact h
theorem nn_if {b : Bool} {X Y : Prop} (h1 : b = true → X) (h2 : b = false → Y) : if b = true then X else Y := by
  cases b with
  | true => exact iteT (h1 rfl)
  | false => exact iteF (h2 rfl)
theorem flat_rep {α : Type} (x : α) : ∀ n : Nat, (List.replicate n [x]).flatten = List.replicate n x
  | 0 => rfl
  | n + 1 => by rw [List.replicate_succ, List.replicate_succ, List.flatten_cons, flat_rep x n]; rfl
theorem fil_yes {z z0 : Str} (c : (!decide (z = z0)) = true) : [z].filter (fun z => !decide (z = z0)) = [z] := List.filter_cons_of_pos (p := fun z => !decide (z = z0)) c
theorem fil_no {z z0 : Str} (c : (!decide (z = z0)) = false) : [z].filter (fun z => !decide (z = z0)) = [] := List.filter_cons_of_neg (p := fun z => !decide (z = z0)) (by rw [c]; decide)
theorem Lt.ls {ls : List Str} {top : Nat} (h : Lt ls top) : Ls ls := ⟨h.pos, h.le4, h.nm, asc_sorted h.so h.nd⟩
section
variable {P : Program} {w : World} {K : PySem.W.Frag} {mg : Str → Option Value} {base : Heap}
def nLg : List Str := ["dice", "letters", "some", "handed", "log", "keys", "spot", "fewer", "turn", "many", "letter"]
theorem scLogs : FnScope nLg ["dice"] (defScope sLogs) := ⟨rfl, rfl, rfl, by decide +kernel, rfl, by decide +kernel, by decide +kernel⟩
def spLogs : Sp := fun vs H Q _ => ∃ (a : Addr) (m : Nat), vs = [.ref a] ∧ Dc H a m ∧ m + 100 ≤ mmax ∧ ∀ H', Kp a H H' → Dc H' a (m + 100) → Q (.bl true) H'
theorem ok_logs {f : Addr} {fd : FuncData} {k : Nat} (F : Fun K "_law_logs_right" "_law_logs_right" sLogs f fd) (B : Bn mg) (C1 : Cal P w K mg base k "_law_letters" ["dice", "top"] spLetters) (C2 : Cal P w K mg base k "_law_log" ["dice", "letters", "top"] spLog)
    (C3 : Cal P w K mg base k "_law_roll" ["dice", "size"] spRoll) (C4 : Cal P w K mg base k "_law_pick" ["dice", "items"] spPick) (C5 : Cal P w K mg base k "sorted_logs" ["logs"] spSortedLogs) (C6 : Cal P w K mg base k "is_log" ["letters", "value"] spIsLogV)
    (C7 : Cal P w K mg base k "_law_odd" ["dice"] spOdd) : FnOk P w K mg base CX0 (k + 1) f fd ["dice"] spLogs := by
  obtain ⟨f1, fd1, G1, g1, kp1, b1⟩ := C1
  obtain ⟨f2, fd2, G2, g2, kp2, b2⟩ := C2
  obtain ⟨f3, fd3, G3, g3, kp3, b3⟩ := C3
  obtain ⟨f4, fd4, G4, g4, kp4, b4⟩ := C4
  obtain ⟨f5, fd5, G5, g5, kp5, b5⟩ := C5
  obtain ⟨f6, fd6, G6, g6, kp6, b6⟩ := C6
  obtain ⟨f7, fd7, G7, g7, kp7, b7⟩ := C7
  refine F.ok scLogs (fun vs H Q E h => ?_) (fun cdv A outer s H vs Q E hr h => ?_)
  · obtain ⟨a, m, rfl, _⟩ := h
    rfl
  · obtain ⟨a, m, rfl, hd, hm, q⟩ := h
    have hmm : mmax = 1000000 := rfl
    refine ⟨_, pss_cons (ps_set (i := 1) scLogs.nd rfl (.inr rfl) (pe_call G1 hr (by rfl) g1 kp1 b1 .nil pass0 (pa_cons (pv 0) (pa_cons pe_int pa_nil))))
      (pss_cons (ps_setLc (i := 2) (own := [("turn", 8)]) (g := gName 8) (tt := tYes) rfl scLogs.nd rfl rfl (sw_true rfl rfl rfl (by decide +kernel)) (pi_range1 rfl B.range (pa_cons (pe_call G3 hr (by rfl) g3 kp3 b3 .nil pass0 (pa_cons (pv 0) (pa_cons pe_int pa_nil))) pa_nil))
          (blkOk_by (own := [("turn", 8)]) (N := nLg) (sc := defScope sLogs) (by decide +kernel))
          (fun _ _ _ _ _ => pg_name (i := 8) scLogs.nd rfl (Or.inl rfl)) (fun _ _ _ _ _ => pts_nil) (fun _ _ _ _ _ => pe_call G2 hr (by rfl) g2 kp2 b2 .nil pass0 (pa_cons (pv 0) (pa_cons (pv 1) (pa_cons pe_int pa_nil)))))
      (pss_cons (ps_set (i := 3) scLogs.nd rfl (.inl rfl) (pe_callTy call_tuple_of (by rfl) B.tuple (by decide +kernel) (pa_cons (pe_ifExp (pt_cmpR (op_neD hr.units) (pv 2) (pe_lst pa_nil) (nomark _))
          (pe_op op_cat (pv 2) (pe_lst (pa_cons (pe_call G4 hr (by rfl) g4 kp4 b4 .nil pass0 (pa_cons (pv 0) (pa_cons (pv 2) pa_nil))) pa_nil))) (pv 2)) pa_nil)))
      (pss_cons (ps_set (i := 5) scLogs.nd rfl (.inl rfl) (pe_callB (sortedDK K P w rfl hr.units) (by rfl) B.sorted (by decide +kernel) (pa_cons (pe_callTy (setDK K P w rfl hr.units) (by rfl) B.set (by decide +kernel) (pa_cons
          (pe_lc (own := [("log", 4)]) (g := gName 4) (tt := tYes) rfl scLogs.nd (pi_list (pv 2)) (blkOk_by (own := [("log", 4)]) (N := nLg) (sc := defScope sLogs) (by decide +kernel))
            (fun _ _ _ _ _ => pg_name (i := 4) scLogs.nd rfl (Or.inl rfl)) (fun _ _ _ _ _ => pts_nil) (fun _ _ _ _ _ => pe_tup (pa_cons (pe_callB (lenQ K) (by rfl) B.len PySem.boot_len (pa_cons (pv 4) pa_nil)) (pa_cons (pv 4) pa_nil)))) pa_nil)) pa_nil)))
      (pss_cons (ps_if (pt_cmpR (op_neD hr.units) (pe_call G5 hr (by rfl) g5 kp5 b5 .nil pass0 (pa_cons (pv 3) pa_nil)) (pe_callTy call_tuple_of (by rfl) B.tuple (by decide +kernel) (pa_cons
          (pe_lc (own := [("many", 9), ("log", 4)]) (tt := tYes) rfl scLogs.nd (pi_list (pv 5)) (blkOk_by (own := [("many", 9), ("log", 4)]) (N := nLg) (sc := defScope sLogs) (by decide +kernel))
            (fun _ _ _ _ _ => pgTupQ K 2 rfl (pgs_cons (pg_name (i := 9) scLogs.nd rfl (Or.inl rfl)) (pgs_cons (pg_name (i := 4) scLogs.nd rfl (Or.inl rfl)) pgs_nil))) (fun _ _ _ _ _ => pts_nil)
            (fun _ _ _ _ _ => pv 4)) pa_nil)) (nomark _)) (pss_one (ps_ret pe_bl)) pss_nil)
      (pss_cons (ps_set (i := 4) scLogs.nd rfl (.inl rfl) (pe_call G2 hr (by rfl) g2 kp2 b2 .nil pass0 (pa_cons (pv 0) (pa_cons (pv 1) (pa_cons pe_int pa_nil)))))
      (pss_cons (ps_if (PW.pt (pw_or (pt_cmpR op_notBl (pe_call G6 hr (by rfl) g6 kp6 b6 .nil pass0 (pa_cons (pv 1) (pa_cons (pv 4) pa_nil))) pe_bl (nomark _))
          (pw_or1 (pt_cmpR op_notBl (pe_call G6 hr (by rfl) g6 kp6 b6 .nil pass0 (pa_cons (pv 1) (pa_cons (pe_callTy call_list_of (by rfl) B.list (by decide +kernel) (pa_cons (pv 4) pa_nil)) pa_nil))) pe_bl (nomark _))))) (pss_one (ps_ret pe_bl)) pss_nil)
      (pss_cons (ps_set (i := 6) scLogs.nd rfl (.inl rfl) (pe_call G3 hr (by rfl) g3 kp3 b3 .nil pass0 (pa_cons (pv 0) (pa_cons (pe_op op_add (pe_callB call_len_seq (by rfl) B.len PySem.boot_len (pa_cons (pv 4) pa_nil)) pe_int) pa_nil))))
      (pss_cons (ps_if (pt_cmpR op_notBl (pe_call G6 hr (by rfl) g6 kp6 b6 .nil pass0 (pa_cons (pv 1) (pa_cons (pe_op op_catS (pe_op op_catS (pe_slice sl_tupS (pv 4) po_none (po_some (pv 6)))
          (pe_tup (pa_cons (pe_call G7 hr (by rfl) g7 kp7 b7 .nil pass0 (pa_cons (pv 0) pa_nil)) pa_nil))) (pe_slice sl_tupS (pv 4) (po_some (pv 6)) po_none)) pa_nil))) pe_bl (nomark _)) (pss_one (ps_ret pe_bl)) pss_nil)
      (pss_cons (ps_set (i := 7) scLogs.nd rfl (.inl rfl) (pe_callTy call_tuple_of (by rfl) B.tuple (by decide +kernel) (pa_cons
          (pe_lc (own := [("letter", 10)]) (g := gName 10) rfl scLogs.nd (pi_tup (pv 1)) (blkOk_by (own := [("letter", 10)]) (N := nLg) (sc := defScope sLogs) (by decide +kernel))
            (fun _ _ _ _ _ => pg_name (i := 10) scLogs.nd rfl (Or.inl rfl)) (fun _ _ _ _ _ => pts_one (pt_cmpR op_ne (pv 10) (pe_ix (ixTK K) (pv 1) pe_int (fun _ _ => rfl)) (nomark _))) (fun _ _ _ _ _ => pv 10)) pa_nil)))
      (pss_cons (ps_if (PW.pt (pw_and (pt_cmpR (op_neD hr.units) (pv 7) (pe_tup pa_nil) (nomark _)) (pw_and1 (pt_cmpR op_ne (pe_callB call_repr_bl (by rfl) B.repr (by decide +kernel) (pa_cons (pe_call G6 hr (by rfl) g6 kp6 b6 .nil pass0 (pa_cons (pv 7) (pa_cons (pv 4) pa_nil))) pa_nil))
          (pe_callB call_repr_bl (by rfl) B.repr (by decide +kernel) (pa_cons (pe_cmpR (notInQ K) (pe_ix (ixTK K) (pv 1) pe_int (fun _ _ => rfl)) (pv 4) (by rfl)) pa_nil)) (nomark _))))) (pss_one (ps_ret pe_bl)) pss_nil)
      (pss_one (ps_ret (pe_and (pe_cmpR op_isBl (pe_call G6 hr (by rfl) g6 kp6 b6 .nil pass0 (pa_cons (pv 1) (pa_cons (pe_op op_repS (pe_tup (pa_cons (pe_ix (ixTK K) (pv 1) (pe_un un_neg pe_int) (fun _ _ => rfl)) pa_nil)) pe_int) pa_nil))) pe_bl (nomark _))
          (pe_one (pe_cmpR op_isBl (pe_call G6 hr (by rfl) g6 kp6 b6 .nil pass0 (pa_cons (pv 1) (pa_cons (pe_op op_repS (pe_tup (pa_cons (pe_ix (ixTK K) (pv 1) (pe_un un_neg pe_int) (fun _ _ => rfl)) pa_nil)) pe_int) pa_nil))) pe_bl (nomark _)))))))))))))))), ?_⟩
    refine ⟨.ref a, rfl, a, 4, m, rfl, hd, by omega, by decide, by decide, fun H1 L ls hlt k1 d1 n1 hL => ?_⟩
    have Ll := hlt.ls
    have l4 := Ll.four
    refine ⟨.ref a, rfl, a, 7, m + 6, rfl, d1, by omega, by decide, by decide, fun H2 r k2 d2 r0 r7 => ?_⟩
    have hL2 := k2.tup d1 hL
    refine ⟨r, rfl, by omega, by omega, fun S nS => ?_⟩
    have nSa : S ≠ a := d2.new nS
    refine lc_range (lo := 0) (n := r.toNat) (fun i H4 => ∃ (rs : List Addr) (gs : List (List Str)), H4 S = some (.lst (rs.map V.ref)) ∧ rs.length = i ∧ AtL H4 rs gs ∧ (∀ l ∈ gs, l.length ≤ 4 ∧ ∀ z ∈ l, z ∈ ls) ∧ Kp a H2 H4 ∧ Dc H4 a (m + 7 + 5 * i)) ?_ ?_ ?_
    · exact ⟨[], [], upd_same, rfl, ⟨rfl, fun i r l e => nomatch e⟩, (fun l hl => nomatch hl), Kp.of (same_upd nS), d2.same (same_upd nS)⟩
    · rintro i H4 hi ⟨rs, gs, hS, hl, at4, hgs, k4, d4⟩
      have hL4 := k4.tup d2 hL2
      refine ⟨rfl, .ref a, rfl, .ref L, rfl, a, L, ls, 4, _, rfl, d4, by omega, hL4, Ll.one, by omega, by decide, fun H5 p l ll lz k5 d5 np hp => ?_⟩
      have hS5 := k5 _ _ nSa hS
      have at5 : AtL H5 rs gs := at4.keep fun b xs e => k5.tup d4 e
      refine ⟨_, hS5, ?_, rs ++ [p], gs ++ [l], ?_, ?_, ?_, ?_, ?_, ?_⟩
      · rw [List.length_map]
        exact small1000 (by omega)
      · rw [upd_same, List.map_append]
        rfl
      · rw [List.length_append, hl]
        rfl
      · exact (at5.snoc hp).keep (keep_upd hS5)
      · intro x hx
        rcases List.mem_append.mp hx with hx | hx
        · exact hgs x hx
        · rw [List.mem_singleton.mp hx]
          exact ⟨ll, lz⟩
      · intro b o nb e
        rw [upd_ne (ne_of_none e nS)]
        exact k5 _ _ nb (k4 _ _ nb e)
      · obtain ⟨v1, v2, v3, e, v0, v5⟩ := d5
        exact ⟨v1, v2, v3, by rw [upd_ne nSa.symm]; exact e, v0, by omega⟩
    rintro H4 ⟨rs, gs, hS, hl, at4, hgs, k4, d4⟩
    have l6 : rs.length ≤ 6 := by omega
    have d4 : Dc H4 a (m + 40) := d4.mono (by omega)
    have hL4 := k4.tup d2 hL2
    have k04 := (k1.trans k2).trans k4
    clear hL hL2 k1 k2 k4 d1 d2
    have lay : ∀ l ∈ gs, Lay l := fun l hl z hz => nm_ok (Ll.nm z ((hgs l hl).2 z hz))
    have lg : ∀ l ∈ gs, Lg l := fun l hl => ⟨Nat.le_trans (hgs l hl).1 (by decide), fun z hz => Ll.nm z ((hgs l hl).2 z hz)⟩
    -- handed
    dsimp only [gName, tSeq, tAsg, tCB, tCons, tNil]
    refine tif_s (!decide (gs = [])) (fun v H5 => ∃ (l5 : Addr) (rs5 : List Addr) (gs5 : List (List Str)), v = .ref l5 ∧ H5 l5 = some (.lst (rs5.map V.ref)) ∧ AtL H5 rs5 gs5 ∧ (∀ l, l ∈ gs5 ↔ l ∈ gs) ∧ rs5.length ≤ 7 ∧ Kp a H4 H5 ∧ Dc H5 a (m + 41)) (fun R h => ?_) (fun c H5 s5 Q' h => ?_) (fun c H5 s5 Q' h => ?_) ?_
    · refine ⟨.ref S, rfl, Nat.zero_le _, fun e ne => ?_⟩
      have se := same_upd (o := .lst []) ne
      refine ⟨_, _, .lst (sql (se _ _ hS)) (all_lgs (at4.same se)), .lst (sql upd_same) .nil, (sh_lgs lay).2, rfl, _, rfl, ?_⟩
      have z := h _ se
      have e1 : (PyData.list (gs.map lgD)).eqv (PyData.list []) = decide (gs = []) := by
        rw [eqv_none]
        cases gs <;> rfl
      rw [e1]
      exact z
    · have hne : gs ≠ [] := fun e => by
        rw [decide_eq_true e] at c
        cases c
      have h0 : 0 < rs.length := by
        rw [at4.1]
        exact List.length_pos_iff.mpr hne
      refine ⟨.ref S, rfl, .ref a, rfl, .ref S, rfl, a, S, _, m + 40, rfl, d4.same s5, by omega, .inl (s5 _ _ hS), nSa, by rw [List.length_map]; exact h0, by rw [List.length_map]; omega, fun H6 i x hx k6 d6 => ⟨(show 1 ≤ sizeLine by decide), fun e2 ne2 => ?_⟩⟩
      obtain ⟨r1, hr1, rfl⟩ := get_map' hx
      have hi : i < gs.length := by
        rw [← at4.1]
        exact get_lt hr1
      have hli := List.getElem?_eq_getElem hi
      generalize gs[i] = l at hli
      have at6 : AtL H6 rs gs := (at4.same s5).keep fun b xs e => k6.tup (d4.same s5) e
      have s6 := same_upd (o := .lst [V.ref r1]) ne2
      refine ⟨S, e2, _, _, rfl, rfl, s6 _ _ (k6 _ _ nSa (s5 _ _ hS)), upd_same, by rw [List.length_map]; exact small1000 (show rs.length ≤ 1000 by omega), fun L7 n7 => ?_⟩
      have s7 := same_upd (o := .lst (rs.map V.ref ++ [V.ref r1])) n7
      have s67 := s6.trans s7
      refine h _ _ ⟨L7, rs ++ [r1], gs ++ [l], rfl, by rw [List.map_append]; exact upd_same, (at6.snoc (at6.2 i r1 l hr1 hli)).same s67, fun y => ?_, by rw [List.length_append]; show rs.length + 1 ≤ 7; omega, ((Kp.of s5).trans k6).trans (Kp.of s67), d6.same s67⟩
      rw [List.mem_append, List.mem_singleton]
      exact ⟨fun z => z.elim id fun z => z ▸ List.mem_of_getElem? hli, .inl⟩
    · refine ⟨.ref S, rfl, h _ _ ⟨S, rs, gs, rfl, s5 _ _ hS, at4.same s5, fun _ => .rfl, by omega, Kp.of s5, (d4.same s5).mono (by omega)⟩⟩
    rintro v H5 ⟨S5, rs5, gs5, rfl, hS5, at5, mem5, l7, k5, d5⟩
    refine ⟨S5, _, rfl, .inl ⟨sql hS5, fun t5 nt5 => ?_⟩⟩
    have s5 := same_upd (o := .tup (rs5.map V.ref)) nt5
    have hS' := s5 _ _ (k5 _ _ nSa hS)
    have at' : AtL (upd H5 t5 (.tup (rs5.map V.ref))) rs gs := (at4.keep fun b xs e => k5.tup d4 e).same s5
    have hh : Lgs (upd H5 t5 (.tup (rs5.map V.ref))) t5 rs5 gs5 := (at5.same s5).lgs upd_same
    have d6 := d5.same s5
    have hL6 := s5 _ _ (k5.tup d4 hL4)
    have k06 := (k04.trans k5).trans (Kp.of s5)
    have lg5 : ∀ l ∈ gs5, Lg l := fun l hl => lg l ((mem5 l).mp hl)
    have n63 : gs5.length < 63 := by
      have := at5.1
      omega
    clear hS hS5 at5 nt5 s5 k5 d5 hL4 k04 d4 nS n1
    generalize upd H5 t5 (.tup (rs5.map V.ref)) = H6 at *
    -- keys
    refine ⟨.ref S, rfl, S, rfl, ⟨_, sql hS'⟩, fun D nD => ?_⟩
    refine lc_list (xs := rs.map V.ref) (fun i H7 => Same H6 H7 ∧ ∃ ps, H7 D = some (.lst (ps.map fun p => V.ref p.1)) ∧ EachP H7 ps (rs.take i) (gs.take i)) ⟨same_upd nD, [], upd_same, trivial⟩ ?_ ?_ ?_
    · rintro i H7 hi ⟨s7, _⟩
      exact sql (s7 _ _ hS')
    · rintro i x H7 hx ⟨s7, ps, hD, ep⟩
      obtain ⟨r1, hr1, rfl⟩ := get_map' hx
      have hi : i < gs.length := by
        rw [← at'.1]
        exact get_lt hr1
      have hli := List.getElem?_eq_getElem hi
      generalize gs[i] = l at hli
      have tr : Tp H7 r1 l := s7 _ _ (at'.2 i r1 l hr1 hli)
      refine ⟨rfl, .ref r1, rfl, r1, _, rfl, .inr (sqt tr), .ref r1, rfl, (show 2 ≤ sizeLine by decide), fun t nt => ?_⟩
      rw [List.length_map]
      have st := same_upd (o := .tup [V.int (l.length : Nat), .ref r1]) nt
      have pe : PairEl (upd H7 t (.tup [V.int (l.length : Nat), .ref r1])) (t, pd l) l r1 := ⟨upd_same, st _ _ tr, rfl⟩
      have hD8 := st _ _ hD
      refine ⟨_, hD8, ?_, ?_, ps ++ [(t, pd l)], ?_, ?_⟩
      · rw [List.length_map, ← ep.len.1, List.length_take]
        exact small1000 (by omega)
      · intro b o e
        rw [upd_ne (ne_of_none e nD)]
        exact st _ _ (s7 _ _ e)
      · rw [upd_same, List.map_append]
        rfl
      · rw [List.take_add_one, List.take_add_one, hr1, hli]
        exact ((ep.keep fun b xs e => st _ _ e).snoc pe).keep (keep_upd hD8)
    rintro H7 ⟨s7, ps, hD, ep⟩
    rw [List.length_map, List.take_length, at'.1, List.take_length] at ep
    have pl := ep.len.2
    have al := at'.1
    refine ⟨D, ps, rfl, sql hD, by omega, ep.elh, ep.hd lay, fun p8 L8 n8 made nd8 => ?_⟩
    have s8 := same_upd (o := DSO P w p8 L8) n8
    have prs : Prs (upd H7 p8 (DSO P w p8 L8)) gs L8 := Prs.made (ep.keep fun b xs e => s8 _ _ e) made
    refine ⟨p8, L8, rfl, upd_same, prs.elh, prs.can, fun M t9 pm ndM asM n9 => ?_⟩
    have s9 := same_upd (o := .lst (M.map fun q => V.ref q.1)) n9
    obtain ⟨rsm, ms, es⟩ := each_p (H := upd H7 p8 (DSO P w p8 L8)) (M := M) fun x hx => by
      obtain ⟨l, r, _, e⟩ := prs.1 x (pm.mem_iff.mp hx)
      exact ⟨l, r, e⟩
    have srt := srt_of prs pm ndM asM es
    have s79 := (s7.trans s8).trans s9
    have es9 := es.keep (H' := upd (upd H7 p8 (DSO P w p8 L8)) t9 (.lst (M.map fun q => V.ref q.1))) fun b xs e => s9 _ _ e
    have e9 : upd (upd H7 p8 (DSO P w p8 L8)) t9 (.lst (M.map fun q => V.ref q.1)) t9 = some (.lst (M.map fun q => V.ref q.1)) := upd_same
    have hM : M.length ≤ 6 := by
      have := prs.2.2
      have := pm.length_eq
      omega
    clear prs es pm ndM asM s7 s8 s9 ep hD n8 n9 made nd8
    generalize upd (upd H7 p8 (DSO P w p8 L8)) t9 (.lst (M.map fun q => V.ref q.1)) = H9 at *
    refine ⟨.ref t5, rfl, t5, rs5, gs5, rfl, hh.same s79, n63, lg5, fun Ha t6 rs6 ms6 sa n6 hms srt6 => ?_⟩
    have e9a := sa _ _ e9
    have esa := es9.keep fun b xs e => sa _ _ e
    refine ⟨.ref t9, rfl, t9, rfl, ⟨_, sql e9a⟩, fun D2 nD2 => ?_⟩
    refine lc_list (xs := M.map fun q => V.ref q.1) (fun i Hb => Same Ha Hb ∧ Hb D2 = some (.lst ((rsm.take i).map V.ref))) ⟨same_upd nD2, by rw [upd_same]; rfl⟩ ?_ ?_ ?_
    · rintro i Hb hi ⟨sb, _⟩
      exact sql (sb _ _ e9a)
    · rintro i x Hb hx ⟨sb, hDb⟩
      obtain ⟨e, he, rfl⟩ := get_map' hx
      obtain ⟨r, l, hr2, hl2, pe⟩ := esa.at he
      refine ⟨e.1, _, rfl, sqt (sb _ _ pe.1), rfl, _, _, rfl, _, _, rfl, rfl, rfl, .ref r, rfl, _, hDb, ?_, ?_, ?_⟩
      · rw [List.length_map, List.length_take]
        have := esa.len.1
        exact small1000 (by omega)
      · intro b o e
        rw [upd_ne (ne_of_none e nD2)]
        exact sb _ _ e
      · rw [upd_same, List.take_add_one, hr2, List.map_append]
        rfl
    rintro Hb ⟨sb, hDb⟩
    rw [List.length_map, ← esa.len.1, List.take_length] at hDb
    refine ⟨D2, _, rfl, .inl ⟨sql hDb, fun t7 n7 => ?_⟩⟩
    have sc := same_upd (o := .tup (rsm.map V.ref)) n7
    have eqm : ms6 = ms := srt6.one srt mem5
    subst eqm
    have atm : AtL (upd Hb t7 (.tup (rsm.map V.ref))) rsm ms6 := ⟨by rw [esa.len.1, esa.len.2], fun i r l a b => sc _ _ (sb _ _ (esa.tp a b))⟩
    have layM : ∀ l ∈ ms6, Lay l := fun l hl => lay l ((srt.2.2 l).mp hl)
    have hmc := (hms.same sb).same sc
    refine ⟨_, _, .tup (sqt hmc.1) (all_lgs ⟨hmc.2.1, hmc.2.2⟩), .tup (sqt upd_same) (all_lgs atm), (sh_lgs layM).1, (sh_lgs layM).1, _, rfl, ?_⟩
    rw [eqv_lgs layM]
    refine iteF ?_
    have sall := (sa.trans sb).trans sc
    have dd := (d6.same s79).same sall
    have hLd := sall _ _ (s79 _ _ hL6)
    have k0d := k06.trans (Kp.of (s79.trans sall))
    clear sa sb sc s79 sall hmc atm esa es9 e9 e9a hms srt6 srt hDb nD2 n7 n6 hh d6 hL6 k06
    generalize upd Hb t7 (.tup (rsm.map V.ref)) = Hd at *
    -- log
    refine ⟨.ref a, rfl, .ref L, rfl, a, L, ls, 5, _, rfl, dd, by omega, hLd, Ll.one, by omega, by decide, fun He p l ll lz ke de np hp => ?_⟩
    have hLe := ke.tup dd hLd
    have k0e := k0d.trans ke
    have nml : ∀ z ∈ l, Nm z = true := fun z hz => Ll.nm z (lz z hz)
    have hall : (l.all fun z => decide (z ∈ ls)) = true := List.all_eq_true.mpr fun z hz => decide_eq_true (lz z hz)
    clear hLd dd k0d ke np
    refine ⟨.ref L, rfl, .ref p, rfl, ?_⟩
    dsimp only [tNil]
    refine isg hLe Ll hp nml (by omega) fun Hf sf => ?_
    rw [hall]
    refine ⟨true, true, rfl, rfl, _, rfl, iteF ?_⟩
    refine ⟨.ref L, rfl, .ref p, rfl, p, _, rfl, .inr (sqt (sf _ _ hp)), fun q1 nq1 => ?_⟩
    have s1 := same_upd (o := .lst (l.map V.str)) nq1
    dsimp only [tNil]
    refine isg_lst ((sf.trans s1) _ _ hLe) Ll upd_same fun Hg sg => ?_
    refine ⟨false, false, rfl, rfl, _, rfl, iteF ?_⟩
    have sall := (sf.trans s1).trans sg
    have hLg := sall _ _ hLe
    have hpg := sall _ _ hp
    have dg := de.same sall
    have k0g := k0e.trans (Kp.of sall)
    clear hLe hp de k0e sf s1 sg sall nq1
    -- spot
    refine ⟨.ref a, rfl, .ref p, rfl, p, _, rfl, .inr (sqt hpg), _, _, rfl, rfl, a, _, _, rfl, dg, by omega, by omega, by rw [List.length_map]; omega, fun Hh r kh dh r0 r1 => ?_⟩
    rw [List.length_map] at r1
    obtain ⟨k, rfl⟩ : ∃ k : Nat, r = (k : Int) := ⟨r.toNat, by omega⟩
    have hk : k ≤ l.length := by omega
    have hLh := kh.tup dg hLg
    have hph := kh.tup dg hpg
    have k0h := k0g.trans kh
    clear hLg hpg k0g kh dg r0 r1
    refine ⟨.ref L, rfl, .ref p, rfl, .int (k : Nat), rfl, (k : Nat), rfl, p, _, rfl, hph, fun p1 H1 s1 e1 => ?_⟩
    rw [cut_take _ k (by rw [List.length_map]; exact hk)] at e1
    refine ⟨.ref a, rfl, a, _, rfl, dh.same s1, by omega, fun Hi y ki di od => ⟨(show 1 ≤ sizeLine by decide), fun t nt => ?_⟩⟩
    have st := same_upd (o := .tup [y]) nt
    have hpi := st _ _ (ki.tup (dh.same s1) (s1 _ _ hph))
    have hLi := st _ _ (ki.tup (dh.same s1) (s1 _ _ hLh))
    have e1i := st _ _ (ki.tup (dh.same s1) e1)
    have di' := di.same st
    have k0i := k0h.trans (((Kp.of s1).trans ki).trans (Kp.of st))
    have oy := od.same st
    have h1000 : ∀ n, n ≤ 1000 → n ≤ sizeLine := fun n hn => Nat.le_of_lt (small1000 hn)
    refine ⟨p1, t, _, _, rfl, rfl, e1i, upd_same, h1000 _ (by rw [List.length_take, List.length_map]; show _ + 1 ≤ 1000; omega), fun p2 H2 s2 e2 => ?_⟩
    refine ⟨.ref p, rfl, .int (k : Nat), rfl, (k : Nat), rfl, p, _, rfl, s2 _ _ hpi, fun p3 H3 s3 e3 => ?_⟩
    rw [cut_drop _ k (by rw [List.length_map]; exact hk)] at e3
    refine ⟨p2, p3, _, _, rfl, rfl, s3 _ _ e2, e3, h1000 _ (by rw [List.length_append, List.length_take, List.length_drop, List.length_map]; show _ + 1 + _ ≤ 1000; omega), fun p4 H4 s4 e4 => ?_⟩
    have s24 := (s2.trans s3).trans s4
    have nv0 : Nvs H4 (l.map V.str) (l.map Nm) := nvs_strs fun z hz => nm_line (nml z hz)
    have nvy : Nvs H4 [y] [false] := ⟨rfl, fun i x b e f => by
      match i, e, f with
      | 0, e, f =>
        cases Option.some.inj e
        cases Option.some.inj f
        exact (oy.same s24).2.1⟩
    dsimp only [tNil]
    refine isg_no (s24 _ _ hLi) Ll e4 (by rw [List.length_append, List.length_append, List.length_take, List.length_drop, List.length_map]; show _ + 1 + _ ≤ 1000; omega) (((nv0.take k).app nvy).app (nv0.drop k)) ?_ fun Hj sj => ?_
    · rw [List.all_append, List.all_append]
      simp
    refine ⟨false, false, rfl, rfl, _, rfl, iteF ?_⟩
    have s2j := s24.trans sj
    have hLj := s2j _ _ hLi
    have hpj := s2j _ _ hpi
    have dj := di'.same s2j
    have k0j := k0i.trans (Kp.of s2j)
    clear hLi hpi di' k0i s2 s3 s4 sj s24 nv0 nvy e1 e2 e3 e4 e1i oy od st nt s1 ki di dh hLh hph k0h s2j
    obtain ⟨z0, zr, rfl⟩ : ∃ z0 zr, ls = z0 :: zr := by
      cases ls with
      | nil => exact absurd Ll.one (by decide)
      | cons x y => exact ⟨x, y, rfl⟩
    -- fewer
    refine ⟨.ref L, rfl, L, rfl, ⟨_, sqt hLj⟩, fun D3 nD3 => ?_⟩
    refine lc_tup (xs := (z0 :: zr).map V.str) (fun i H4 => Same Hj H4 ∧ H4 D3 = some (.lst ((((z0 :: zr).take i).filter fun z => !decide (z = z0)).map V.str))) ⟨same_upd nD3, by rw [upd_same]; rfl⟩ ?_ ?_ ?_
    · rintro i H4 hi ⟨s4, _⟩
      exact sqt (s4 _ _ hLj)
    · rintro i x H4 hx ⟨s4, hD4⟩
      obtain ⟨z, hz, rfl⟩ := get_map' hx
      have et : ((z0 :: zr).take (i + 1)).filter (fun z => !decide (z = z0)) = ((z0 :: zr).take i).filter (fun z => !decide (z = z0)) ++ [z].filter (fun z => !decide (z = z0)) := by
        rw [List.take_add_one, hz, List.filter_append]
        rfl
      have ed : (!decide (V.str z = V.str z0)) = !decide (z = z0) := by
        congr 1
        exact decide_eq_decide.mpr ⟨V.str.inj, congrArg _⟩
      refine ⟨rfl, .str z, rfl, .ref L, rfl, L, _, _, .str z0, rfl, rfl, sqt (s4 _ _ hLj), atI_nat (j := 0) rfl, rfl, _, rfl, ?_⟩
      rw [ed]
      refine nn_if (fun c => ⟨.str z, rfl, _, hD4, ?_, ?_, ?_⟩) (fun c => ⟨s4, ?_⟩)
      · rw [List.length_map]
        have := List.length_filter_le (fun z => !decide (z = z0)) ((z0 :: zr).take i)
        rw [List.length_take] at this
        exact small1000 (by omega)
      · intro b o e
        rw [upd_ne (ne_of_none e nD3)]
        exact s4 _ _ e
      · rw [upd_same, et, fil_yes c, List.map_append]
        rfl
      · rw [et, fil_no c, List.append_nil]
        exact hD4
    rintro H4 ⟨s4, hD4⟩
    rw [List.length_map, List.take_length, not_first Ll.up] at hD4
    refine ⟨D3, _, rfl, .inl ⟨sql hD4, fun tf ntf => ?_⟩⟩
    have s5 := same_upd (o := .tup (zr.map V.str)) ntf
    have s45 := s4.trans s5
    have etf : Tp (upd H4 tf (.tup (zr.map V.str))) tf zr := upd_same
    have hLk := s45 _ _ hLj
    have hpk := s45 _ _ hpj
    have dk := dj.same s45
    have k0k := k0j.trans (Kp.of s45)
    clear hLj hpj dj k0j s4 s5 s45 hD4 ntf
    generalize upd H4 tf (.tup (zr.map V.str)) = Hk at *
    have layR : Lay zr := fun z hz => nm_ok (Ll.nm z (List.mem_cons_of_mem _ hz))
    refine ⟨.ref tf, rfl, Nat.zero_le _, fun t nt => ?_⟩
    have s6 := same_upd (o := .tup []) nt
    have e0 : Tp (upd Hk t (.tup [])) t [] := upd_same
    refine ⟨_, _, dp_tp (s6 _ _ etf), dp_tp e0, sh_lgD layR, sh_lgD (l := []) (fun z hz => nomatch hz), _, rfl, ?_⟩
    rw [show PyData.eqv (.tuple (zr.map PyData.str)) (.tuple (([] : List Str).map PyData.str)) = decide (zr = []) from eqv_lgD layR (fun z hz => nomatch hz)]
    refine and_pass (fun c R' h => ?_) (fun Hl sl => ?_)
    · have hne : zr ≠ [] := fun e => by
        rw [decide_eq_true e] at c
        cases c
      refine ⟨.ref tf, rfl, .ref p, rfl, ?_⟩
      dsimp only [tNil]
      refine isg (s6 _ _ etf) (Ll.tail hne) (s6 _ _ hpk) nml (by omega) fun Hl sl => ?_
      have s6l := s6.trans sl
      refine ⟨_, rfl, .ref L, rfl, L, _, _, .str z0, rfl, rfl, sqt (s6l _ _ hLk), atI_nat (j := 0) rfl, .ref p, rfl, p, _, rfl, .inr (sqt (s6l _ _ hpk)), rfl, flatV_strs l, ?_⟩
      rw [if_pos rfl, inV_strs, rest_in Ll lz]
      refine ⟨_, rfl, rfl, _, rfl, ?_⟩
      rw [decide_eq_true rfl]
      exact h _ sl
    refine iteF ?_
    have s6l := s6.trans sl
    have hLl := s6l _ _ hLk
    have dl := dk.same s6l
    have k0l := k0k.trans (Kp.of s6l)
    clear hLk dk k0k s6l s6 sl etf e0 hpk
    -- long ones
    obtain ⟨init, zl, el⟩ : ∃ (init : List Str) (zl : Str), z0 :: zr = init ++ [zl] := ⟨_, _, (List.dropLast_concat_getLast (List.cons_ne_nil z0 zr)).symm⟩
    have mz : zl ∈ z0 :: zr := by
      rw [el]
      exact List.mem_append_right _ (List.mem_singleton.mpr rfl)
    have at1 : atI ((z0 :: zr).map V.str) (-1) = some (V.str zl) := by
      rw [el, List.map_append]
      exact atI_last _ _
    have rep : ∀ n : Nat, (List.replicate n [V.str zl]).flatten = (List.replicate n zl).map V.str := fun n => by rw [flat_rep, List.map_replicate]
    have nmr : ∀ n : Nat, ∀ z ∈ List.replicate n zl, Nm z = true := fun n z hz => by
      rw [List.eq_of_mem_replicate hz]
      exact Ll.nm zl mz
    refine ⟨.ref L, rfl, .ref L, rfl, 1, rfl, L, _, -1, .str zl, rfl, rfl, sqt hLl, at1, (show 1 ≤ sizeLine by decide), fun t nt => ?_⟩
    have st := same_upd (o := .tup [V.str zl]) nt
    refine ⟨t, 200, [.str zl], rfl, rfl, upd_same, by simp, by decide, by decide, (show 1 ≤ 1000 by decide), fun pm H1 s1 e1 => ?_⟩
    rw [show ((200 : Int).toNat) = 200 from rfl, rep] at e1
    have s01 := st.trans s1
    dsimp only [tNil]
    refine isg (s01 _ _ hLl) Ll e1 (nmr 200) (by rw [List.length_replicate]; decide) fun H2 s2 => ?_
    rw [show ((List.replicate 200 zl).all fun z => decide (z ∈ z0 :: zr)) = true from List.all_eq_true.mpr fun z hz => decide_eq_true (by rw [List.eq_of_mem_replicate hz]; exact mz)]
    have s02 := s01.trans s2
    refine ⟨true, true, rfl, rfl, _, rfl, iteT ?_⟩
    refine ⟨.ref L, rfl, .ref L, rfl, 1, rfl, L, _, -1, .str zl, rfl, rfl, sqt (s02 _ _ hLl), at1, (show 1 ≤ sizeLine by decide), fun t5 nt5 => ?_⟩
    have s3 := same_upd (o := .tup [V.str zl]) nt5
    refine ⟨t5, 201, [.str zl], rfl, rfl, upd_same, by simp, by decide, by decide, (show 1 ≤ 1000 by decide), fun pn H3 s4 e4 => ?_⟩
    rw [show ((201 : Int).toNat) = 201 from rfl, rep] at e4
    have s04 := (s02.trans s3).trans s4
    dsimp only [tNil]
    refine isg_no (s04 _ _ hLl) Ll e4 (by rw [List.length_map, List.length_replicate]; decide) (nvs_strs fun z hz => nm_line (nmr 201 z hz)) (by rw [List.length_map, List.length_replicate]; rfl) fun H5 s5 => ?_
    refine ⟨false, false, rfl, rfl, ?_⟩
    have s05 := s04.trans s5
    exact q _ (k0l.trans (Kp.of s05)) ((dl.same s05).mono (by omega))
end
end Sfl
/- law (law k01) -/
namespace Sfl
open PySem PySem.Spec PyProof.Rows L2
theorem Kp.same_new {a : Addr} {H H1 H2 : Hp} (s : Same H H1) (k : Kp a H1 H2) (h : H a = none) : Same H H2 := fun b o e => k b o (ne_of_none e h) (s b o e)
def six : List (List Str) := [["b"], ["a", "a"], [], ["ab"], ["a"], ["b"]]
def five : List (List Str) := [[], ["a"], ["ab"], ["b"], ["a", "a"]]
theorem srt_six : SrtL six five := by
  refine ⟨by decide +kernel, by decide +kernel, fun l => ⟨?_, ?_⟩⟩
  · exact (by decide +kernel : ∀ l ∈ five, l ∈ six) l
  · exact (by decide +kernel : ∀ l ∈ six, l ∈ five) l
theorem lg_six : ∀ l ∈ six, Lg l := fun l hl => ⟨(by decide +kernel : ∀ l ∈ six, l.length ≤ 200) l hl, (by decide +kernel : ∀ l ∈ six, ∀ z ∈ l, Nm z = true) l hl⟩
theorem lg_five : ∀ l ∈ five, Lg l := fun l hl => lg_six l ((srt_six.2.2 l).mp hl)
section
variable {P : Program} {w : World} {K : PySem.W.Frag} {mg : Str → Option Value} {base : Heap}
theorem scLaw : FnScope ["script", "spot", "dice", "found"] ["script"] (defScope sLaw) := ⟨rfl, rfl, rfl, by decide +kernel, rfl, by decide +kernel, by decide +kernel⟩
def spLaw (K : PySem.W.Frag) : Sp := fun vs H Q _ => ∃ (a : Addr) (ns : List Int), vs = [.ref a] ∧ SqL K H a (ns.map V.int) ∧ ns.length ≤ 63 ∧ ∀ H', Q (.bl true) H'
theorem ok_law {f : Addr} {fd : FuncData} {k : Nat} (F : Fun K "law" "law" sLaw f fd) (B : Bn mg) (A1 : Cal P w K mg base k "_law_dice" ["script", "spot"] (spDice K)) (A2 : Cal P w K mg base k "_law_names_right" ["dice"] spNames)
    (A3 : Cal P w K mg base k "_law_logs_right" ["dice"] spLogs) (A4 : Cal P w K mg base k "sorted_logs" ["logs"] spSortedLogs) : FnOk P w K mg base CX0 (k + 1) f fd ["script"] (spLaw K) := by
  obtain ⟨f1, fd1, G1, g1, kp1, b1⟩ := A1
  obtain ⟨f2, fd2, G2, g2, kp2, b2⟩ := A2
  obtain ⟨f3, fd3, G3, g3, kp3, b3⟩ := A3
  obtain ⟨f4, fd4, G4, g4, kp4, b4⟩ := A4
  obtain ⟨tE, gE⟩ := B.events
  refine F.ok scLaw (fun vs H Q E h => ?_) (fun cdv A outer s H vs Q E hr h => ?_)
  · obtain ⟨a, ns, rfl, _⟩ := h
    rfl
  · obtain ⟨sc, ns, rfl, hs, hns, q⟩ := h
    refine ⟨_, pss_cons (ps_for PassesOwn.never rfl (pi_range1 rfl B.range (pa_cons (pe_callB (call_max2 rfl) (by rfl) B.max (by decide +kernel) (pa_cons pe_int (pa_cons (pe_callB (call_min2 rfl) (by rfl) B.min (by decide +kernel) (pa_cons pe_int (pa_cons (pe_callB call_len_seq (by rfl) B.len PySem.boot_len (pa_cons (pv 0) pa_nil)) pa_nil))) pa_nil))) pa_nil)) (pg_name (i := 1) scLaw.nd rfl (Or.inl rfl))
        (pss_cons (ps_set (i := 2) scLaw.nd rfl (.inl rfl) (pe_call G1 hr (by rfl) g1 kp1 b1 .nil pass0 (pa_cons (pv 0) (pa_cons (pv 1) pa_nil))))
        (pss_one (ps_if (PW.pt (pw_or (pt_not (pt_val (pe_call G2 hr (by rfl) g2 kp2 b2 .nil pass0 (pa_cons (pv 2) pa_nil)))) (pw_or1 (pt_not (pt_val (pe_call G3 hr (by rfl) g3 kp3 b3 .nil pass0 (pa_cons (pv 2) pa_nil))))))) (pss_one (ps_ret pe_bl)) pss_nil))))
      (pss_cons (ps_set (i := 3) scLaw.nd rfl (.inl rfl) (pe_call G4 hr (by rfl) g4 kp4 b4 .nil pass0 (pa_cons (pe_tup (pa_cons (pe_tup (pa_cons pe_str pa_nil)) (pa_cons (pe_tup (pa_cons pe_str (pa_cons pe_str pa_nil))) (pa_cons (pe_tup pa_nil)
        (pa_cons (pe_tup (pa_cons pe_str pa_nil)) (pa_cons (pe_tup (pa_cons pe_str pa_nil)) (pa_cons (pe_tup (pa_cons pe_str pa_nil)) pa_nil))))))) pa_nil)))
      (pss_one (ps_ret (pe_and (pe_cmpR op_eq (pe_glob (v := .int 200) rfl gE ⟨_, rfl⟩) pe_int (nomark _)) (pe_and (pe_cmpR (op_eqD hr.units) (pv 3) (pe_tup (pa_cons (pe_tup pa_nil) (pa_cons (pe_tup (pa_cons pe_str pa_nil)) (pa_cons (pe_tup (pa_cons pe_str pa_nil))
        (pa_cons (pe_tup (pa_cons pe_str pa_nil)) (pa_cons (pe_tup (pa_cons pe_str (pa_cons pe_str pa_nil))) pa_nil)))))) (nomark _))
        (pe_one (pe_cmpR (op_eqD hr.units) (pe_call G4 hr (by rfl) g4 kp4 b4 .nil pass0 (pa_cons (pe_tup pa_nil) pa_nil)) (pe_tup pa_nil) (nomark _)))))))), ?_⟩
    refine ⟨_, rfl, sc, _, rfl, .inl hs, _, _, rfl, _, _, rfl, _, rfl, ?_, ?_, ?_⟩
    · rw [List.length_map]
      split <;> (try split) <;> omega
    · rw [List.length_map]
      split <;> (try split) <;> omega
    have hX : (if (if ((ns.map V.int).length : Int) < 8 then ((ns.map V.int).length : Int) else 8) > 1 then (if ((ns.map V.int).length : Int) < 8 then ((ns.map V.int).length : Int) else 8) else 1).toNat ≤ 100 := by
      rw [List.length_map]
      split <;> (try split) <;> omega
    generalize (if (if ((ns.map V.int).length : Int) < 8 then ((ns.map V.int).length : Int) else 8) > 1 then (if ((ns.map V.int).length : Int) < 8 then ((ns.map V.int).length : Int) else 8) else 1).toNat = n0 at hX ⊢
    refine for_range (lo := 0) (n := n0) (fun i σ H3 => ∃ y1 y2 y3, σ = [some (.ref sc), y1, y2, y3] ∧ Same H H3) ⟨_, _, _, rfl, Same.refl H⟩ ?_ ?_
    · rintro i σ H3 hi ⟨y1, y2, y3, rfl, s3⟩
      rw [show (0 : Int) + ((i : Nat) : Int) = ((i : Nat) : Int) by omega]
      refine ⟨_, rfl, _, rfl, sc, ns, i, rfl, s3.seq hs, by omega, fun H4 a s4 na d4 => ?_⟩
      have hmm : mmax = 1000000 := rfl
      refine ⟨.ref a, rfl, a, 0, rfl, d4, by omega, fun H5 k5 d5 => ⟨_, rfl, iteF ?_⟩⟩
      refine ⟨.ref a, rfl, a, _, rfl, d5, by omega, fun H6 k6 d6 => ⟨_, rfl, iteF ?_⟩⟩
      exact ⟨_, _, _, rfl, s3.trans (Kp.same_new s4 (k5.trans k6) na)⟩
    · rintro σ H3 ⟨y1, y2, y3, rfl, s3⟩
      have l1 : 1 ≤ sizeLine := by decide
      have l2 : 2 ≤ sizeLine := by decide
      refine ⟨l1, fun t1 n1 => ⟨l2, fun t2 n2 => ⟨Nat.zero_le _, fun t3 n3 => ⟨l1, fun t4 n4 => ⟨l1, fun t5 n5 => ⟨l1, fun t6 n6 => ⟨(show 6 ≤ sizeLine by decide), fun t nt => ?_⟩⟩⟩⟩⟩⟩⟩
      have s1 := same_upd (o := .tup [V.str "b"]) n1
      have s2 := same_upd (o := .tup [V.str "a", .str "a"]) n2
      have s3' := same_upd (o := .tup []) n3
      have s4 := same_upd (o := .tup [V.str "ab"]) n4
      have s5 := same_upd (o := .tup [V.str "a"]) n5
      have s6 := same_upd (o := .tup [V.str "b"]) n6
      have st := same_upd (o := .tup [V.ref t1, .ref t2, .ref t3, .ref t4, .ref t5, .ref t6]) nt
      have u6 := st
      have u5 := s6.trans u6
      have u4 := s5.trans u5
      have u3 := s4.trans u4
      have u2 := s3'.trans u3
      have u1 := s2.trans u2
      have hl : Lgs (upd (upd (upd (upd (upd (upd (upd H3 t1 (.tup [V.str "b"])) t2 (.tup [V.str "a", .str "a"])) t3 (.tup [])) t4 (.tup [V.str "ab"])) t5 (.tup [V.str "a"])) t6 (.tup [V.str "b"])) t (.tup [V.ref t1, .ref t2, .ref t3, .ref t4, .ref t5, .ref t6])) t [t1, t2, t3, t4, t5, t6] six := by
        refine ⟨upd_same, rfl, fun i r l e f => ?_⟩
        match i, e, f with
        | 0, e, f => cases Option.some.inj e; cases Option.some.inj f; exact u1 _ _ (upd_same (H := H3))
        | 1, e, f => cases Option.some.inj e; cases Option.some.inj f; exact u2 _ _ upd_same
        | 2, e, f => cases Option.some.inj e; cases Option.some.inj f; exact u3 _ _ upd_same
        | 3, e, f => cases Option.some.inj e; cases Option.some.inj f; exact u4 _ _ upd_same
        | 4, e, f => cases Option.some.inj e; cases Option.some.inj f; exact u5 _ _ upd_same
        | 5, e, f => cases Option.some.inj e; cases Option.some.inj f; exact u6 _ _ upd_same
      clear u1 u2 u3 u4 u5 u6 s1 s2 s3' s4 s5 s6 st
      generalize upd (upd (upd (upd (upd (upd (upd H3 t1 (.tup [V.str "b"])) t2 (.tup [V.str "a", .str "a"])) t3 (.tup [])) t4 (.tup [V.str "ab"])) t5 (.tup [V.str "a"])) t6 (.tup [V.str "b"])) t (.tup [V.ref t1, .ref t2, .ref t3, .ref t4, .ref t5, .ref t6]) = H4 at *
      refine ⟨t, [t1, t2, t3, t4, t5, t6], six, rfl, hl, by decide, lg_six, fun H5 p rs ms s5 np hms srt => ?_⟩
      have em : ms = five := srt.one srt_six fun _ => .rfl
      subst em
      refine ⟨rfl, _, rfl, iteT ?_⟩
      refine ⟨.ref p, rfl, Nat.zero_le _, fun a1 m1 => ⟨l1, fun a2 m2 => ⟨l1, fun a3 m3 => ⟨l1, fun a4 m4 => ⟨l2, fun a5 m5 => ⟨(show 5 ≤ sizeLine by decide), fun b mb => ?_⟩⟩⟩⟩⟩⟩
      have s1 := same_upd (o := .tup []) m1
      have s2 := same_upd (o := .tup [V.str "a"]) m2
      have s3' := same_upd (o := .tup [V.str "ab"]) m3
      have s4 := same_upd (o := .tup [V.str "b"]) m4
      have s6 := same_upd (o := .tup [V.str "a", .str "a"]) m5
      have st := same_upd (o := .tup [V.ref a1, .ref a2, .ref a3, .ref a4, .ref a5]) mb
      have u5 := st
      have u4 := s6.trans u5
      have u3 := s4.trans u4
      have u2 := s3'.trans u3
      have u1 := s2.trans u2
      have sall := s1.trans u1
      have at5 : AtL (upd (upd (upd (upd (upd (upd H5 a1 (.tup [])) a2 (.tup [V.str "a"])) a3 (.tup [V.str "ab"])) a4 (.tup [V.str "b"])) a5 (.tup [V.str "a", .str "a"])) b (.tup [V.ref a1, .ref a2, .ref a3, .ref a4, .ref a5])) [a1, a2, a3, a4, a5] five := by
        refine ⟨rfl, fun i r l e f => ?_⟩
        match i, e, f with
        | 0, e, f => cases Option.some.inj e; cases Option.some.inj f; exact u1 _ _ (upd_same (H := H5))
        | 1, e, f => cases Option.some.inj e; cases Option.some.inj f; exact u2 _ _ upd_same
        | 2, e, f => cases Option.some.inj e; cases Option.some.inj f; exact u3 _ _ upd_same
        | 3, e, f => cases Option.some.inj e; cases Option.some.inj f; exact u4 _ _ upd_same
        | 4, e, f => cases Option.some.inj e; cases Option.some.inj f; exact u5 _ _ upd_same
      have lay5 : ∀ l ∈ five, Lay l := fun l hl => (lg_five l hl).lay
      have hm5 := hms.same sall
      have eb : upd (upd (upd (upd (upd (upd H5 a1 (.tup [])) a2 (.tup [V.str "a"])) a3 (.tup [V.str "ab"])) a4 (.tup [V.str "b"])) a5 (.tup [V.str "a", .str "a"])) b (.tup [V.ref a1, .ref a2, .ref a3, .ref a4, .ref a5]) b = some (.tup ([a1, a2, a3, a4, a5].map V.ref)) := upd_same
      clear u1 u2 u3 u4 u5 s1 s2 s3' s4 s6 st
      generalize upd (upd (upd (upd (upd (upd H5 a1 (.tup [])) a2 (.tup [V.str "a"])) a3 (.tup [V.str "ab"])) a4 (.tup [V.str "b"])) a5 (.tup [V.str "a", .str "a"])) b (.tup [V.ref a1, .ref a2, .ref a3, .ref a4, .ref a5]) = H6 at *
      refine ⟨_, _, .tup (sqt hm5.1) (all_lgs ⟨hm5.2.1, hm5.2.2⟩), .tup (sqt eb) (all_lgs at5), (sh_lgs lay5).1, (sh_lgs lay5).1, ?_⟩
      rw [eqv_lgs lay5]
      refine ⟨_, rfl, iteT ?_⟩
      refine ⟨Nat.zero_le _, fun e1 ne1 => ?_⟩
      refine ⟨e1, [], [], rfl, ⟨upd_same, rfl, fun i r l e f => nomatch e⟩, by decide, (fun l hl => nomatch hl), fun H7 p7 rs7 ms7 s7 np7 hms7 srt7 => ?_⟩
      have e7 : ms7 = [] := List.eq_nil_iff_forall_not_mem.mpr fun l hl => nomatch (srt7.2.2 l).mp hl
      subst e7
      refine ⟨Nat.zero_le _, fun e2 ne2 => ?_⟩
      have s8 := same_upd (o := .tup []) ne2
      have hm8 := hms7.same s8
      refine ⟨_, _, .tup (sqt hm8.1) (all_lgs ⟨hm8.2.1, hm8.2.2⟩), .tup (sqt upd_same) .nil, rfl, rfl, ?_⟩
      exact q _
end
end Sfl
/- all defs of law k01 together -/
namespace Sfl
open PySem PySem.Spec PyProof.Rows L2
theorem kit_own {K : PySem.W.Frag} {C CF : Addr} (h1 : PySem.W.isClsIn K CF = true) (h2 : PySem.W.typeIn K (.ref CF) = some (.type "type")) (h3 : PySem.W.subIn K (.ref C) (.ref CF) = some true) : PySem.W.kitOne K (.ref C) (.ref CF) = some true := by
  have e1 : (PySem.W.clsIn K CF).isSome = true := h1
  unfold PySem.W.kitOne
  split
  · rfl
  · show (if ((PySem.W.clsIn K CF).isSome && PySem.W.typeIn K (.ref CF) == some (.type "type")) = true then PySem.W.subIn K (.ref C) (.ref CF) else none) = some true
    rw [if_pos (by rw [e1, h2] <;> rfl)]
    exact h3
theorem kit_val {K : PySem.W.Frag} {C : Addr} (h : PySem.W.subIn K (.ref C) (.type "ValueError") = some true) : PySem.W.kitOne K (.ref C) (.type "ValueError") = some true := by
  unfold PySem.W.kitOne
  split
  · rfl
  · show (if PySem.W.kitMeta "ValueError" = true then PySem.W.subIn K (.ref C) (.type "ValueError") else none) = some true
    rw [if_pos (by decide +kernel)]
    exact h
set_option maxHeartbeats 0 in
theorem all_mk {l : PySem.W.OpenLaw} {w : World} {K : PySem.W.Frag} {h : Heap} {mg : Str → Option Value} {fa C CF fa0 fa1 fa2 fa3 fa4 fa5 fa6 fa7 fa8 fa9 fa10 fa11 fa12 fa13 fa14 fa15 fa16 fa17 fa18 fa19 fa20 fa21 : Addr} (X : K.In h) (G : h.Ns mainGlobals mg) (hfa : mg "law" = some (.ref fa))
    {oda0 ana0 oda1 ana1 oda2 ana2 oda3 ana3 oda4 ana4 oda5 ana5 oda6 ana6 oda7 ana7 oda8 ana8 oda9 ana9 oda10 ana10 oda11 ana11 oda12 ana12 oda13 ana13 oda14 ana14 oda15 ana15 oda16 ana16 oda17 ana17 oda18 ana18 oda19 ana19 oda20 ana20 oda21 ana21 : Option Addr} {sla0 sla1 sla2 sla3 sla4 sla5 sla6 sla7 sla8 sla9 sla10 sla11 sla12 sla13 sla14 sla15 sla16 sla17 sla18 sla19 sla20 sla21 : Array (Option Value)} {oca0 kVa0 dca0 pma0 cda0 cta0 oca1 kVa1 dca1 pma1 cda1 cta1 oca2 kVa2 dca2 pma2 cda2 cta2 oca3 kVa3 dca3 pma3 cda3 cta3 oca4 kVa4 dca4 pma4 cda4 cta4 oca5 kVa5 dca5 pma5 cda5 cta5 oca6 kVa6 dca6 pma6 cda6 cta6 oca7 kVa7 dca7 pma7 cda7 cta7 oca8 kVa8 dca8 pma8 cda8 cta8 oca9 kVa9 dca9 pma9 cda9 cta9 oca10 kVa10 dca10 pma10 cda10 cta10 oca11 kVa11 dca11 pma11 cda11 cta11 oca12 kVa12 dca12 pma12 cda12 cta12 oca13 kVa13 dca13 pma13 cda13 cta13 oca14 kVa14 dca14 pma14 cda14 cta14 oca15 kVa15 dca15 pma15 cda15 cta15 oca16 kVa16 dca16 pma16 cda16 cta16 oca17 kVa17 dca17 pma17 cda17 cta17 oca18 kVa18 dca18 pma18 cda18 cta18 oca19 kVa19 dca19 pma19 cda19 cta19 oca20 kVa20 dca20 pma20 cda20 cta20 oca21 kVa21 dca21 pma21 cda21 cta21 : Value}
    (aC : PySem.W.nsIn K mainGlobals "InvalidLetters" = some (some (.ref C))) (aF : PySem.W.nsIn K mainGlobals "FlipError" = some (some (.ref CF)))
    (na0 : PySem.W.nsIn K mainGlobals "is_name" = some (some (.ref fa0))) (la0 : K.lookup fa0 = some ⟨oca0, oda0, .func (PySem.W.fnOf "is_name" "is_name" (defArgs sIsName) (defBody sIsName) (defScope sIsName) .none kVa0 dca0 pma0 ana0 cda0 cta0), sla0⟩) (ca0 : PySem.W.codeIn K cda0 "is_name" = true) (ka0 : PySem.W.keepIn K (.ref fa0) = true)
    (na1 : PySem.W.nsIn K mainGlobals "is_ascending" = some (some (.ref fa1))) (la1 : K.lookup fa1 = some ⟨oca1, oda1, .func (PySem.W.fnOf "is_ascending" "is_ascending" (defArgs sIsAscending) (defBody sIsAscending) (defScope sIsAscending) .none kVa1 dca1 pma1 ana1 cda1 cta1), sla1⟩) (ca1 : PySem.W.codeIn K cda1 "is_ascending" = true) (ka1 : PySem.W.keepIn K (.ref fa1) = true)
    (na2 : PySem.W.nsIn K mainGlobals "in_order" = some (some (.ref fa2))) (la2 : K.lookup fa2 = some ⟨oca2, oda2, .func (PySem.W.fnOf "in_order" "in_order" (defArgs sInOrder) (defBody sInOrder) (defScope sInOrder) .none kVa2 dca2 pma2 ana2 cda2 cta2), sla2⟩) (ca2 : PySem.W.codeIn K cda2 "in_order" = true) (ka2 : PySem.W.keepIn K (.ref fa2) = true)
    (na3 : PySem.W.nsIn K mainGlobals "is_any_log" = some (some (.ref fa3))) (la3 : K.lookup fa3 = some ⟨oca3, oda3, .func (PySem.W.fnOf "is_any_log" "is_any_log" (defArgs sIsAnyLog) (defBody sIsAnyLog) (defScope sIsAnyLog) .none kVa3 dca3 pma3 ana3 cda3 cta3), sla3⟩) (ca3 : PySem.W.codeIn K cda3 "is_any_log" = true) (ka3 : PySem.W.keepIn K (.ref fa3) = true)
    (na4 : PySem.W.nsIn K mainGlobals "check_letters" = some (some (.ref fa4))) (la4 : K.lookup fa4 = some ⟨oca4, oda4, .func (PySem.W.fnOf "check_letters" "check_letters" (defArgs sCheckLetters) (defBody sCheckLetters) (defScope sCheckLetters) .none kVa4 dca4 pma4 ana4 cda4 cta4), sla4⟩) (ca4 : PySem.W.codeIn K cda4 "check_letters" = true) (ka4 : PySem.W.keepIn K (.ref fa4) = true)
    (na5 : PySem.W.nsIn K mainGlobals "check_log" = some (some (.ref fa5))) (la5 : K.lookup fa5 = some ⟨oca5, oda5, .func (PySem.W.fnOf "check_log" "check_log" (defArgs sCheckLog) (defBody sCheckLog) (defScope sCheckLog) .none kVa5 dca5 pma5 ana5 cda5 cta5), sla5⟩) (ca5 : PySem.W.codeIn K cda5 "check_log" = true) (ka5 : PySem.W.keepIn K (.ref fa5) = true)
    (na6 : PySem.W.nsIn K mainGlobals "check_logs" = some (some (.ref fa6))) (la6 : K.lookup fa6 = some ⟨oca6, oda6, .func (PySem.W.fnOf "check_logs" "check_logs" (defArgs sCheckLogs) (defBody sCheckLogs) (defScope sCheckLogs) .none kVa6 dca6 pma6 ana6 cda6 cta6), sla6⟩) (ca6 : PySem.W.codeIn K cda6 "check_logs" = true) (ka6 : PySem.W.keepIn K (.ref fa6) = true)
    (na7 : PySem.W.nsIn K mainGlobals "is_letters" = some (some (.ref fa7))) (la7 : K.lookup fa7 = some ⟨oca7, oda7, .func (PySem.W.fnOf "is_letters" "is_letters" (defArgs sIsLetters) (defBody sIsLetters) (defScope sIsLetters) .none kVa7 dca7 pma7 ana7 cda7 cta7), sla7⟩) (ca7 : PySem.W.codeIn K cda7 "is_letters" = true) (ka7 : PySem.W.keepIn K (.ref fa7) = true)
    (na8 : PySem.W.nsIn K mainGlobals "make_letters" = some (some (.ref fa8))) (la8 : K.lookup fa8 = some ⟨oca8, oda8, .func (PySem.W.fnOf "make_letters" "make_letters" (defArgs sMakeLetters) (defBody sMakeLetters) (defScope sMakeLetters) .none kVa8 dca8 pma8 ana8 cda8 cta8), sla8⟩) (ca8 : PySem.W.codeIn K cda8 "make_letters" = true) (ka8 : PySem.W.keepIn K (.ref fa8) = true)
    (na9 : PySem.W.nsIn K mainGlobals "is_log" = some (some (.ref fa9))) (la9 : K.lookup fa9 = some ⟨oca9, oda9, .func (PySem.W.fnOf "is_log" "is_log" (defArgs sIsLog) (defBody sIsLog) (defScope sIsLog) .none kVa9 dca9 pma9 ana9 cda9 cta9), sla9⟩) (ca9 : PySem.W.codeIn K cda9 "is_log" = true) (ka9 : PySem.W.keepIn K (.ref fa9) = true)
    (na10 : PySem.W.nsIn K mainGlobals "sorted_logs" = some (some (.ref fa10))) (la10 : K.lookup fa10 = some ⟨oca10, oda10, .func (PySem.W.fnOf "sorted_logs" "sorted_logs" (defArgs sSortedLogs) (defBody sSortedLogs) (defScope sSortedLogs) .none kVa10 dca10 pma10 ana10 cda10 cta10), sla10⟩) (ca10 : PySem.W.codeIn K cda10 "sorted_logs" = true) (ka10 : PySem.W.keepIn K (.ref fa10) = true)
    (na11 : PySem.W.nsIn K mainGlobals "_law_dice" = some (some (.ref fa11))) (la11 : K.lookup fa11 = some ⟨oca11, oda11, .func (PySem.W.fnOf "_law_dice" "_law_dice" (defArgs sDice) (defBody sDice) (defScope sDice) .none kVa11 dca11 pma11 ana11 cda11 cta11), sla11⟩) (ca11 : PySem.W.codeIn K cda11 "_law_dice" = true) (ka11 : PySem.W.keepIn K (.ref fa11) = true)
    (na12 : PySem.W.nsIn K mainGlobals "_law_roll" = some (some (.ref fa12))) (la12 : K.lookup fa12 = some ⟨oca12, oda12, .func (PySem.W.fnOf "_law_roll" "_law_roll" (defArgs sRoll) (defBody sRoll) (defScope sRoll) .none kVa12 dca12 pma12 ana12 cda12 cta12), sla12⟩) (ca12 : PySem.W.codeIn K cda12 "_law_roll" = true) (ka12 : PySem.W.keepIn K (.ref fa12) = true)
    (na13 : PySem.W.nsIn K mainGlobals "_law_pick" = some (some (.ref fa13))) (la13 : K.lookup fa13 = some ⟨oca13, oda13, .func (PySem.W.fnOf "_law_pick" "_law_pick" (defArgs sPick) (defBody sPick) (defScope sPick) .none kVa13 dca13 pma13 ana13 cda13 cta13), sla13⟩) (ca13 : PySem.W.codeIn K cda13 "_law_pick" = true) (ka13 : PySem.W.keepIn K (.ref fa13) = true)
    (na14 : PySem.W.nsIn K mainGlobals "_law_mixed" = some (some (.ref fa14))) (la14 : K.lookup fa14 = some ⟨oca14, oda14, .func (PySem.W.fnOf "_law_mixed" "_law_mixed" (defArgs sMixed) (defBody sMixed) (defScope sMixed) .none kVa14 dca14 pma14 ana14 cda14 cta14), sla14⟩) (ca14 : PySem.W.codeIn K cda14 "_law_mixed" = true) (ka14 : PySem.W.keepIn K (.ref fa14) = true)
    (na15 : PySem.W.nsIn K mainGlobals "_law_letters" = some (some (.ref fa15))) (la15 : K.lookup fa15 = some ⟨oca15, oda15, .func (PySem.W.fnOf "_law_letters" "_law_letters" (defArgs sLetters) (defBody sLetters) (defScope sLetters) .none kVa15 dca15 pma15 ana15 cda15 cta15), sla15⟩) (ca15 : PySem.W.codeIn K cda15 "_law_letters" = true) (ka15 : PySem.W.keepIn K (.ref fa15) = true)
    (na16 : PySem.W.nsIn K mainGlobals "_law_log" = some (some (.ref fa16))) (la16 : K.lookup fa16 = some ⟨oca16, oda16, .func (PySem.W.fnOf "_law_log" "_law_log" (defArgs sLog) (defBody sLog) (defScope sLog) .none kVa16 dca16 pma16 ana16 cda16 cta16), sla16⟩) (ca16 : PySem.W.codeIn K cda16 "_law_log" = true) (ka16 : PySem.W.keepIn K (.ref fa16) = true)
    (na17 : PySem.W.nsIn K mainGlobals "_law_odd" = some (some (.ref fa17))) (la17 : K.lookup fa17 = some ⟨oca17, oda17, .func (PySem.W.fnOf "_law_odd" "_law_odd" (defArgs sOdd) (defBody sOdd) (defScope sOdd) .none kVa17 dca17 pma17 ana17 cda17 cta17), sla17⟩) (ca17 : PySem.W.codeIn K cda17 "_law_odd" = true) (ka17 : PySem.W.keepIn K (.ref fa17) = true)
    (na18 : PySem.W.nsIn K mainGlobals "_law_made" = some (some (.ref fa18))) (la18 : K.lookup fa18 = some ⟨oca18, oda18, .func (PySem.W.fnOf "_law_made" "_law_made" (defArgs sMadeL) (defBody sMadeL) (defScope sMadeL) .none kVa18 dca18 pma18 ana18 cda18 cta18), sla18⟩) (ca18 : PySem.W.codeIn K cda18 "_law_made" = true) (ka18 : PySem.W.keepIn K (.ref fa18) = true)
    (na19 : PySem.W.nsIn K mainGlobals "_law_names_right" = some (some (.ref fa19))) (la19 : K.lookup fa19 = some ⟨oca19, oda19, .func (PySem.W.fnOf "_law_names_right" "_law_names_right" (defArgs sNames) (defBody sNames) (defScope sNames) .none kVa19 dca19 pma19 ana19 cda19 cta19), sla19⟩) (ca19 : PySem.W.codeIn K cda19 "_law_names_right" = true) (ka19 : PySem.W.keepIn K (.ref fa19) = true)
    (na20 : PySem.W.nsIn K mainGlobals "_law_logs_right" = some (some (.ref fa20))) (la20 : K.lookup fa20 = some ⟨oca20, oda20, .func (PySem.W.fnOf "_law_logs_right" "_law_logs_right" (defArgs sLogs) (defBody sLogs) (defScope sLogs) .none kVa20 dca20 pma20 ana20 cda20 cta20), sla20⟩) (ca20 : PySem.W.codeIn K cda20 "_law_logs_right" = true) (ka20 : PySem.W.keepIn K (.ref fa20) = true)
    (na21 : PySem.W.nsIn K mainGlobals "law" = some (some (.ref fa21))) (la21 : K.lookup fa21 = some ⟨oca21, oda21, .func (PySem.W.fnOf "law" "law" (defArgs sLaw) (defBody sLaw) (defScope sLaw) .none kVa21 dca21 pma21 ana21 cda21 cta21), sla21⟩) (ca21 : PySem.W.codeIn K cda21 "law" = true) (ka21 : PySem.W.keepIn K (.ref fa21) = true)
    (xC : PySem.W.excIn K C [.type "ValueError", .type "Exception", .type "BaseException", .type "object"] "ValueError.__new__" = true) (kC : PySem.W.keepIn K (.ref C) = true) (bC : PySem.W.subIn K (.ref C) (.type "BaseException") = some true) (tC : PySem.W.typeIn K (.ref C) = some (.type "type")) (gC : PySem.W.findIn K (.ref C) "__getattribute__" = some (some (.builtin "BaseException.__getattribute__"))) (hC : PySem.W.findIn K (.ref C) "__getattr__" = some none) (dC : PySem.W.hasDictIn K C = true) (qC : PySem.W.findIn K (.ref C) "__class__" = some (some (.builtin "object.__class__"))) (uC : PySem.W.specialIn K (.builtin "object.__class__") "__get__" = some (some (.builtin "getset_descriptor.__get__"))) (vC : PySem.W.takesIn K (.builtin "object.__class__") = some true) (mC : PySem.W.mroIn K C (.type "object") = some true) (sC : PySem.W.subIn K (.ref C) (.ref C) = some true) (iF : PySem.W.isClsIn K CF = true) (tF : PySem.W.typeIn K (.ref CF) = some (.type "type")) (sF : PySem.W.subIn K (.ref C) (.ref CF) = some true) (sV : PySem.W.subIn K (.ref C) (.type "ValueError") = some true)
    (z_len : PySem.W.nsIn K mainGlobals "len" = some none)
    (z_enumerate : PySem.W.nsIn K mainGlobals "enumerate" = some none)
    (z_tuple : PySem.W.nsIn K mainGlobals "tuple" = some none)
    (z_isinstance : PySem.W.nsIn K mainGlobals "isinstance" = some none)
    (z_str : PySem.W.nsIn K mainGlobals "str" = some none)
    (z_all : PySem.W.nsIn K mainGlobals "all" = some none)
    (z_range : PySem.W.nsIn K mainGlobals "range" = some none)
    (z_min : PySem.W.nsIn K mainGlobals "min" = some none)
    (z_max : PySem.W.nsIn K mainGlobals "max" = some none)
    (z_list : PySem.W.nsIn K mainGlobals "list" = some none)
    (z_sorted : PySem.W.nsIn K mainGlobals "sorted" = some none)
    (z_abs : PySem.W.nsIn K mainGlobals "abs" = some none)
    (z_int : PySem.W.nsIn K mainGlobals "int" = some none)
    (z_repr : PySem.W.nsIn K mainGlobals "repr" = some none)
    (z_set : PySem.W.nsIn K mainGlobals "set" = some none)
    (z_zip : PySem.W.nsIn K mainGlobals "zip" = some none)
    (z_ValueError : PySem.W.nsIn K mainGlobals "ValueError" = some none)
    {tS tE tL : Tok} (zS : PySem.W.nsIn K mainGlobals "MAX_SIGNS" = some (some (.int 8 tS))) (zL : PySem.W.nsIn K mainGlobals "MAX_LETTERS" = some (some (.int 4 tL))) (zE : PySem.W.nsIn K mainGlobals "MAX_EVENTS" = some (some (.int 200 tE))) :
    ∃ fd : FuncData, (∀ (s : Shared) (v : Value), BindsTo s fd ⟨[v], []⟩ [("script", v)]) ∧ ∀ base : Heap, K.In base → base.Ns mainGlobals mg → FnOk l.prog w K mg base CX0 7 fa fd ["script"] (spLaw K) := by
  have e := hfa.symm.trans (PySem.W.mg_of X G na21)
  cases e
  have B : Bn mg := ⟨PySem.W.mg_none_of X G z_len, PySem.W.mg_none_of X G z_enumerate, PySem.W.mg_none_of X G z_tuple, PySem.W.mg_none_of X G z_isinstance, PySem.W.mg_none_of X G z_str, PySem.W.mg_none_of X G z_all, PySem.W.mg_none_of X G z_range, PySem.W.mg_none_of X G z_min, PySem.W.mg_none_of X G z_max, PySem.W.mg_none_of X G z_list, PySem.W.mg_none_of X G z_sorted, PySem.W.mg_none_of X G z_abs, PySem.W.mg_none_of X G z_int, PySem.W.mg_none_of X G z_repr, PySem.W.mg_none_of X G z_set, PySem.W.mg_none_of X G z_zip, ⟨_, PySem.W.mg_of X G zS⟩, ⟨_, PySem.W.mg_of X G zL⟩, ⟨_, PySem.W.mg_of X G zE⟩⟩
  have R : Er K mg "InvalidLetters" C := ⟨PySem.W.mg_of X G aC, xC, kC, bC, tC⟩
  have T : ErT K mg C CF := ⟨⟨gC, hC, bC, dC, qC, uC, vC, mC⟩, PySem.W.exm_ref bC dC tC sC, PySem.W.mg_of X G aF, kit_own iF tF sF, PySem.W.mg_none_of X G z_ValueError, kit_val sV⟩
  have Fa0 := fun_mk (st := sIsName) la0 ca0 ka0
  have Ba0 := Fa0.binds (ps := ["value"]) fun _ _ _ _ _ _ us hl => match us, hl with | [_], _ => rfl
  have Fa1 := fun_mk (st := sIsAscending) la1 ca1 ka1
  have Ba1 := Fa1.binds (ps := ["row"]) fun _ _ _ _ _ _ us hl => match us, hl with | [_], _ => rfl
  have Fa2 := fun_mk (st := sInOrder) la2 ca2 ka2
  have Ba2 := Fa2.binds (ps := ["logs"]) fun _ _ _ _ _ _ us hl => match us, hl with | [_], _ => rfl
  have Fa3 := fun_mk (st := sIsAnyLog) la3 ca3 ka3
  have Ba3 := Fa3.binds (ps := ["value"]) fun _ _ _ _ _ _ us hl => match us, hl with | [_], _ => rfl
  have Fa4 := fun_mk (st := sCheckLetters) la4 ca4 ka4
  have Ba4 := Fa4.binds (ps := ["value"]) fun _ _ _ _ _ _ us hl => match us, hl with | [_], _ => rfl
  have Fa5 := fun_mk (st := sCheckLog) la5 ca5 ka5
  have Ba5 := Fa5.binds (ps := ["value"]) fun _ _ _ _ _ _ us hl => match us, hl with | [_], _ => rfl
  have Fa6 := fun_mk (st := sCheckLogs) la6 ca6 ka6
  have Ba6 := Fa6.binds (ps := ["value"]) fun _ _ _ _ _ _ us hl => match us, hl with | [_], _ => rfl
  have Fa7 := fun_mk (st := sIsLetters) la7 ca7 ka7
  have Ba7 := Fa7.binds (ps := ["value"]) fun _ _ _ _ _ _ us hl => match us, hl with | [_], _ => rfl
  have Fa8 := fun_mk (st := sMakeLetters) la8 ca8 ka8
  have Fa9 := fun_mk (st := sIsLog) la9 ca9 ka9
  have Ba9 := Fa9.binds (ps := ["letters", "value"]) fun _ _ _ _ _ _ us hl => match us, hl with | [_, _], _ => rfl
  have Fa10 := fun_mk (st := sSortedLogs) la10 ca10 ka10
  have Ba10 := Fa10.binds (ps := ["logs"]) fun _ _ _ _ _ _ us hl => match us, hl with | [_], _ => rfl
  have Fa11 := fun_mk (st := sDice) la11 ca11 ka11
  have Ba11 := Fa11.binds (ps := ["script", "spot"]) fun _ _ _ _ _ _ us hl => match us, hl with | [_, _], _ => rfl
  have Fa12 := fun_mk (st := sRoll) la12 ca12 ka12
  have Ba12 := Fa12.binds (ps := ["dice", "size"]) fun _ _ _ _ _ _ us hl => match us, hl with | [_, _], _ => rfl
  have Fa13 := fun_mk (st := sPick) la13 ca13 ka13
  have Ba13 := Fa13.binds (ps := ["dice", "items"]) fun _ _ _ _ _ _ us hl => match us, hl with | [_, _], _ => rfl
  have Fa14 := fun_mk (st := sMixed) la14 ca14 ka14
  have Ba14 := Fa14.binds (ps := ["dice", "items"]) fun _ _ _ _ _ _ us hl => match us, hl with | [_, _], _ => rfl
  have Fa15 := fun_mk (st := sLetters) la15 ca15 ka15
  have Ba15 := Fa15.binds (ps := ["dice", "top"]) fun _ _ _ _ _ _ us hl => match us, hl with | [_, _], _ => rfl
  have Fa16 := fun_mk (st := sLog) la16 ca16 ka16
  have Ba16 := Fa16.binds (ps := ["dice", "letters", "top"]) fun _ _ _ _ _ _ us hl => match us, hl with | [_, _, _], _ => rfl
  have Fa17 := fun_mk (st := sOdd) la17 ca17 ka17
  have Ba17 := Fa17.binds (ps := ["dice"]) fun _ _ _ _ _ _ us hl => match us, hl with | [_], _ => rfl
  have Fa18 := fun_mk (st := sMadeL) la18 ca18 ka18
  have Ba18 := Fa18.binds (ps := ["names"]) fun _ _ _ _ _ _ us hl => match us, hl with | [_], _ => rfl
  have Fa19 := fun_mk (st := sNames) la19 ca19 ka19
  have Ba19 := Fa19.binds (ps := ["dice"]) fun _ _ _ _ _ _ us hl => match us, hl with | [_], _ => rfl
  have Fa20 := fun_mk (st := sLogs) la20 ca20 ka20
  have Ba20 := Fa20.binds (ps := ["dice"]) fun _ _ _ _ _ _ us hl => match us, hl with | [_], _ => rfl
  have Fa21 := fun_mk (st := sLaw) la21 ca21 ka21
  refine ⟨PySem.W.fnOf "law" "law" (defArgs sLaw) (defBody sLaw) (defScope sLaw) .none kVa21 dca21 pma21 ana21 cda21 cta21, fun s v => .of_eq rfl, fun base _ _ => ?_⟩
  have A_name : Cal l.prog w K mg base 1 "is_name" ["value"] spIsName := ⟨_, _, ok_isName (k := 0) Fa0 B , PySem.W.mg_of X G na0, ka0, Ba0⟩
  have A_nameV : Cal l.prog w K mg base 1 "is_name" ["value"] spIsNameV := ⟨_, _, ok_isNameV (k := 0) Fa0 B , PySem.W.mg_of X G na0, ka0, Ba0⟩
  have A_asc : Cal l.prog w K mg base 1 "is_ascending" ["row"] spIsAsc := ⟨_, _, ok_isAsc (k := 0) Fa1 B , PySem.W.mg_of X G na1, ka1, Ba1⟩
  have A_order : Cal l.prog w K mg base 1 "in_order" ["logs"] spInOrder := ⟨_, _, ok_inOrder (k := 0) Fa2 B , PySem.W.mg_of X G na2, ka2, Ba2⟩
  have A_log : Cal l.prog w K mg base 2 "is_any_log" ["value"] spIsAnyLog := ⟨_, _, ok_isAnyLog (k := 1) Fa3 B A_name, PySem.W.mg_of X G na3, ka3, Ba3⟩
  have A_logV : Cal l.prog w K mg base 2 "is_any_log" ["value"] spIsAnyLogV := ⟨_, _, ok_isAnyLogV (k := 1) Fa3 B A_nameV, PySem.W.mg_of X G na3, ka3, Ba3⟩
  have A_clog : Cal l.prog w K mg base 3 "check_log" ["value"] spCheckLog := ⟨_, _, ok_checkLog (k := 2) Fa5 A_log, PySem.W.mg_of X G na5, ka5, Ba5⟩
  have A_clogs : Cal l.prog w K mg base 4 "check_logs" ["value"] spCheckLogs0 := ⟨_, _, ok_checkLogs0 (k := 3) Fa6 B A_clog, PySem.W.mg_of X G na6, ka6, Ba6⟩
  have A_letV : Cal l.prog w K mg base 2 "is_letters" ["value"] spIsLettersV := ⟨_, _, ok_isLettersV (k := 1) Fa7 B A_nameV A_asc, PySem.W.mg_of X G na7, ka7, Ba7⟩
  have A_cletX : CalX l.prog w K mg base 3 "check_letters" ["value"] (spCheckLettersV C) := ⟨_, _, ok_checkLettersV (k := 2) Fa4 R A_letV, PySem.W.mg_of X G na4, ka4, Ba4⟩
  have A_clet : Cal l.prog w K mg base 3 "check_letters" ["value"] spCheckLetters0 := ⟨_, _, ok_checkLetters0 (k := 2) Fa4 A_letV, PySem.W.mg_of X G na4, ka4, Ba4⟩
  have A_make : CalR l.prog w K mg base 4 "make_letters" (spMkN C) := ⟨_, ok_makeLetters (k := 3) Fa8 B R (A_nameV.mono (by decide)) A_cletX, PySem.W.mg_of X G na8, ka8⟩
  have A_islog : Cal l.prog w K mg base 4 "is_log" ["letters", "value"] spIsLogV := ⟨_, _, ok_isLogV (k := 3) Fa9 B A_clet (A_logV.mono (by decide)), PySem.W.mg_of X G na9, ka9, Ba9⟩
  have A_sorted : Cal l.prog w K mg base 5 "sorted_logs" ["logs"] spSortedLogs := ⟨_, _, ok_sortedLogs (k := 4) Fa10 A_clogs (A_order.mono (by decide)), PySem.W.mg_of X G na10, ka10, Ba10⟩
  have A_dice : Cal l.prog w K mg base 1 "_law_dice" ["script", "spot"] (spDice K) := ⟨_, _, ok_dice (k := 0) Fa11 B , PySem.W.mg_of X G na11, ka11, Ba11⟩
  have A_roll : Cal l.prog w K mg base 1 "_law_roll" ["dice", "size"] spRoll := ⟨_, _, ok_roll (k := 0) Fa12 B , PySem.W.mg_of X G na12, ka12, Ba12⟩
  have A_pick : Cal l.prog w K mg base 2 "_law_pick" ["dice", "items"] spPick := ⟨_, _, ok_pick (k := 1) Fa13 B A_roll, PySem.W.mg_of X G na13, ka13, Ba13⟩
  have A_mixed : Cal l.prog w K mg base 2 "_law_mixed" ["dice", "items"] spMixed := ⟨_, _, ok_mixed (k := 1) Fa14 B A_roll, PySem.W.mg_of X G na14, ka14, Ba14⟩
  have A_letters : Cal l.prog w K mg base 3 "_law_letters" ["dice", "top"] spLetters := ⟨_, _, ok_letters (k := 2) Fa15 B A_pick A_mixed, PySem.W.mg_of X G na15, ka15, Ba15⟩
  have A_lawlog : Cal l.prog w K mg base 3 "_law_log" ["dice", "letters", "top"] spLog := ⟨_, _, ok_log (k := 2) Fa16 B A_pick (A_roll.mono (by decide)), PySem.W.mg_of X G na16, ka16, Ba16⟩
  have A_odd : Cal l.prog w K mg base 3 "_law_odd" ["dice"] spOdd := ⟨_, _, ok_odd (k := 2) Fa17 B A_pick, PySem.W.mg_of X G na17, ka17, Ba17⟩
  have A_made : Cal l.prog w K mg base 5 "_law_made" ["names"] spMade := ⟨_, _, ok_made (k := 4) Fa18 B R T A_make, PySem.W.mg_of X G na18, ka18, Ba18⟩
  have A_names : Cal l.prog w K mg base 6 "_law_names_right" ["dice"] spNames := ⟨_, _, ok_names (k := 5) Fa19 B (A_pick.mono (by decide)) (A_roll.mono (by decide)) A_made (A_letV.mono (by decide)) (A_odd.mono (by decide)), PySem.W.mg_of X G na19, ka19, Ba19⟩
  have A_logs : Cal l.prog w K mg base 6 "_law_logs_right" ["dice"] spLogs := ⟨_, _, ok_logs (k := 5) Fa20 B (A_letters.mono (by decide)) (A_lawlog.mono (by decide)) (A_roll.mono (by decide)) (A_pick.mono (by decide)) A_sorted (A_islog.mono (by decide)) (A_odd.mono (by decide)), PySem.W.mg_of X G na20, ka20, Ba20⟩
  exact ok_law (k := 6) Fa21 B (A_dice.mono (by decide)) A_names A_logs (A_sorted.mono (by decide))
end Sfl
open PySem PySem.W PyProof.Rows in
set_option maxHeartbeats 0 in
theorem PySem.Challenge.cw_seldomflip_k01_letters_and_logs_holds : PySem.Challenge.rw_seldomflip_k01_letters_and_logs.Holds := by
  w_on; o_law; k_head; (case hw => w_witness2)
  k_fill
  refine L2.walk_of (l := PySem.Challenge.rw_seldomflip_k01_letters_and_logs) (n := 63) (k := 7) (x := "script") (CX := fun _ => L2.CX0) (sp := fun w => Sfl.spLaw _) rfl (by decide) rfl ⟨rfl, by decide, by decide⟩ (fun w h Y => PySem.W.kIn_of Y) ?F (fun _ _ a ns hl _ hS => ⟨a, ns, rfl, hS, hl, fun _ => rfl⟩) (fun _ _ _ _ _ h => h)
  case F =>
    intro w mg fa h KX G hmg
    refine' Sfl.all_mk KX G hmg ?aC ?aF ?na0 ?la0 ?ca0 ?ka0 ?na1 ?la1 ?ca1 ?ka1 ?na2 ?la2 ?ca2 ?ka2 ?na3 ?la3 ?ca3 ?ka3 ?na4 ?la4 ?ca4 ?ka4 ?na5 ?la5 ?ca5 ?ka5 ?na6 ?la6 ?ca6 ?ka6 ?na7 ?la7 ?ca7 ?ka7 ?na8 ?la8 ?ca8 ?ka8 ?na9 ?la9 ?ca9 ?ka9 ?na10 ?la10 ?ca10 ?ka10 ?na11 ?la11 ?ca11 ?ka11 ?na12 ?la12 ?ca12 ?ka12 ?na13 ?la13 ?ca13 ?ka13 ?na14 ?la14 ?ca14 ?ka14 ?na15 ?la15 ?ca15 ?ka15 ?na16 ?la16 ?ca16 ?ka16 ?na17 ?la17 ?ca17 ?ka17 ?na18 ?la18 ?ca18 ?ka18 ?na19 ?la19 ?ca19 ?ka19 ?na20 ?la20 ?ca20 ?ka20 ?na21 ?la21 ?ca21 ?ka21 ?xC ?kC ?bC ?tC ?gC ?hC ?dC ?qC ?uC ?vC ?mC ?sC ?iF ?tF ?sF ?sV ?z_len ?z_enumerate ?z_tuple ?z_isinstance ?z_str ?z_all ?z_range ?z_min ?z_max ?z_list ?z_sorted ?z_abs ?z_int ?z_repr ?z_set ?z_zip ?z_ValueError ?zS ?zL ?zE
    (case aC => k_is)
    (case aF => k_is)
    (case na0 => k_is)
    (case la0 => k_is)
    (case ca0 => k_is)
    (case ka0 => k_is)
    (case na1 => k_is)
    (case la1 => k_is)
    (case ca1 => k_is)
    (case ka1 => k_is)
    (case na2 => k_is)
    (case la2 => k_is)
    (case ca2 => k_is)
    (case ka2 => k_is)
    (case na3 => k_is)
    (case la3 => k_is)
    (case ca3 => k_is)
    (case ka3 => k_is)
    (case na4 => k_is)
    (case la4 => k_is)
    (case ca4 => k_is)
    (case ka4 => k_is)
    (case na5 => k_is)
    (case la5 => k_is)
    (case ca5 => k_is)
    (case ka5 => k_is)
    (case na6 => k_is)
    (case la6 => k_is)
    (case ca6 => k_is)
    (case ka6 => k_is)
    (case na7 => k_is)
    (case la7 => k_is)
    (case ca7 => k_is)
    (case ka7 => k_is)
    (case na8 => k_is)
    (case la8 => k_is)
    (case ca8 => k_is)
    (case ka8 => k_is)
    (case na9 => k_is)
    (case la9 => k_is)
    (case ca9 => k_is)
    (case ka9 => k_is)
    (case na10 => k_is)
    (case la10 => k_is)
    (case ca10 => k_is)
    (case ka10 => k_is)
    (case na11 => k_is)
    (case la11 => k_is)
    (case ca11 => k_is)
    (case ka11 => k_is)
    (case na12 => k_is)
    (case la12 => k_is)
    (case ca12 => k_is)
    (case ka12 => k_is)
    (case na13 => k_is)
    (case la13 => k_is)
    (case ca13 => k_is)
    (case ka13 => k_is)
    (case na14 => k_is)
    (case la14 => k_is)
    (case ca14 => k_is)
    (case ka14 => k_is)
    (case na15 => k_is)
    (case la15 => k_is)
    (case ca15 => k_is)
    (case ka15 => k_is)
    (case na16 => k_is)
    (case la16 => k_is)
    (case ca16 => k_is)
    (case ka16 => k_is)
    (case na17 => k_is)
    (case la17 => k_is)
    (case ca17 => k_is)
    (case ka17 => k_is)
    (case na18 => k_is)
    (case la18 => k_is)
    (case ca18 => k_is)
    (case ka18 => k_is)
    (case na19 => k_is)
    (case la19 => k_is)
    (case ca19 => k_is)
    (case ka19 => k_is)
    (case na20 => k_is)
    (case la20 => k_is)
    (case ca20 => k_is)
    (case ka20 => k_is)
    (case na21 => k_is)
    (case la21 => k_is)
    (case ca21 => k_is)
    (case ka21 => k_is)
    (case xC => k_exc)
    (case kC => k_is)
    (case bC => k_is)
    (case tC => k_is)
    (case gC => k_is)
    (case hC => k_is)
    (case dC => k_is)
    (case qC => k_is)
    (case uC => k_is)
    (case vC => k_is)
    (case mC => k_is)
    (case sC => k_is)
    (case iF => k_is)
    (case tF => k_is)
    (case sF => k_is)
    (case sV => k_is)
    (case z_len => k_is)
    (case z_enumerate => k_is)
    (case z_tuple => k_is)
    (case z_isinstance => k_is)
    (case z_str => k_is)
    (case z_all => k_is)
    (case z_range => k_is)
    (case z_min => k_is)
    (case z_max => k_is)
    (case z_list => k_is)
    (case z_sorted => k_is)
    (case z_abs => k_is)
    (case z_int => k_is)
    (case z_repr => k_is)
    (case z_set => k_is)
    (case z_zip => k_is)
    (case z_ValueError => k_is)
    (case zS => k_is)
    (case zL => k_is)
    (case zE => k_is)
#print axioms PySem.Challenge.cw_seldomflip_k01_letters_and_logs_holds
