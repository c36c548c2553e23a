import PyProof.Rows.All
import Wide.All
import OpenK.AllK
import Wide.FinOn
import HandS.ForMost
import HandS.IsInst
import HandS.TupAny
import HandS.Style
import HandS.Wide
import HandS.Walk
import HandS.WordsExc
import KE.GoesEnum
import PyProof.ReprRoads
import HandS.Evl
import KE.Datum
import HandS.ForExc
import HandS.ExcInit
import HandS.ExcField
import KE.KExcIs
import HandS.Conv
import PySem.Challenge.RW_betweencoats_k02_tables_doubled_and_even
set_option Elab.async false
set_option linter.all false
set_option maxRecDepth 100000
namespace Bw
open PySem PySem.Spec PyProof.Rows L2

/-! ### a def that is called by its name -/
structure Cal (P : Program) (w : World) (K : PySem.W.Frag) (mg : Str → Option Value) (base : Heap) (CX : CXT) (k : Nat) (x : Str) (ps : List Str) (st : Stmt) (sp : Sp) : Prop where
  ex : ∃ (f : Addr) (fd : FuncData), FnOk P w K mg base CX k f fd ps sp ∧ Fun K x x st f fd ∧ mg x = some (.ref f) ∧ Binds K fd ps []
section
variable {X : Cx} {CX : CXT} {k : Nat} {x : Str} {ps ks : List Str} {st : Stmt} {sp : Sp} {E : XK} {p pos : Pos} {e : Expr} {es : List Expr} {kws : List Keyword} {t tk : TA}
theorem pe_cal (c : Cal X.prog X.w X.K X.mg X.base CX k x ps st sp) (hr : Room k X.A) (hx : Passes CX X E) (ha : PA X (e :: es) t) (hg : Gl X x := by rfl) (hdb : (x == ("__debug__" : Str)) = false := by decide)
    (he : starEach (e :: es) X.env = (false, eval e X.env) :: starEach es X.env := by rfl) (hpl : (backTo pos (starEach es X.env)).any (·.1) = false := by rfl) : PE X (.Call (.Name x p) (e :: es) [] pos) (tCall sp [] E t) := by
  obtain ⟨f, fd, G, F, hm, hb⟩ := c.ex
  exact pe_call G hr hg hm F.kp hb .nil hx ha hdb he hpl
theorem pe_cal0 (c : Cal X.prog X.w X.K X.mg X.base CX k x ps st sp) (hr : Room k X.A) (hx : Passes CX X E) (hg : Gl X x := by rfl) (hdb : (x == ("__debug__" : Str)) = false := by decide) : PE X (.Call (.Name x p) [] [] pos) (tCall sp [] E tNil) := by
  obtain ⟨f, fd, G, F, hm, hb⟩ := c.ex
  exact pe_call0 G hr hg hm F.kp hb .nil hx hdb
/-- how a call with keywords binds, whatever the function object -/
structure KwB (x : Str) (st : Stmt) (ps ks : List Str) (g : List Value → List Value → List Value) (gV : List V → List V → List V) : Prop where
  to : ∀ (kV doc pm : Value) (an : Option Addr) (cdv ct : Value) (us ws : List Value), (g us ws).length = ps.length →
    bindArgs (PySem.W.fnOf x x (defArgs st) (defBody st) (defScope st) .none kV doc pm an cdv ct) ⟨us, ks.zip ws⟩ = pure (ps.zip (g us ws))
  rel : ∀ {vs : List V} {us : List Value} {zs : List V} {ws : List Value}, Vals vs us → Vals zs ws → Vals (gV vs zs) (g us ws)
variable {g : List Value → List Value → List Value} {gV : List V → List V → List V}
theorem KwB.binds {K : PySem.W.Frag} {f : Addr} {fd : FuncData} (B : KwB x st ps ks g gV) (F : Fun K x x st f fd) : KBinds K fd ps ks g gV := by
  obtain ⟨oc, od, kV, doc, pm, an, cdv, ct, osl, rfl, lk, hcd⟩ := F.ex
  exact ⟨fun s us ws _ hl => .of_eq (B.to kV doc pm an cdv ct us ws hl), fun r rz => B.rel r rz⟩
theorem pe_calK (c : Cal X.prog X.w X.K X.mg X.base CX k x ps st sp) (B : KwB x st ps ks g gV) (hr : Room k X.A) (hx : Passes CX X E) (ha : PA X (e :: es) t) (hkw : PK X kws tk) (hg : Gl X x := by rfl)
    (hall : (backToKw pos (keywordEach kws X.env)).all (·.1.isSome) = true := by rfl) (hks : (backToKw pos (keywordEach kws X.env)).filterMap (·.1) = ks := by rfl)
    (hdb : (x == ("__debug__" : Str)) = false := by decide) (he : starEach (e :: es) X.env = (false, eval e X.env) :: starEach es X.env := by rfl)
    (hpl : ((backTo pos (starEach (e :: es) X.env)).any (·.1) || (backToKw pos (keywordEach kws X.env)).any (·.1.isNone)) = false := by rfl) :
    PE X (.Call (.Name x p) (e :: es) kws pos) (tCallK sp gV E t tk) := by
  obtain ⟨f, fd, G, F, hm, hb⟩ := c.ex
  exact pe_callK G hr hg hm F.kp (B.binds F) hx ha hkw hall hks hdb he hpl
/-- keywords alone -/
theorem pe_calK0 (c : Cal X.prog X.w X.K X.mg X.base CX k x ps st sp) (B : KwB x st ps ks g gV) (hr : Room k X.A) (hx : Passes CX X E) (hkw : PK X kws tk) (hg : Gl X x := by rfl)
    (hall : (backToKw pos (keywordEach kws X.env)).all (·.1.isSome) = true := by rfl) (hks : (backToKw pos (keywordEach kws X.env)).filterMap (·.1) = ks := by rfl)
    (hdb : (x == ("__debug__" : Str)) = false := by decide)
    (hpl : ((backTo pos (starEach [] X.env)).any (·.1) || (backToKw pos (keywordEach kws X.env)).any (·.1.isNone)) = false := by rfl) :
    PE X (.Call (.Name x p) [] kws pos) (tCallK sp gV E tNil tk) := by
  obtain ⟨f, fd, G, F, hm, hb⟩ := c.ex
  refine ⟨fun pins s σ H Q I h => ?_⟩
  refine wpAny_Call_Name_kw (ld_glob I hg hm ?_ hdb)
  refine PySem.W.callWith_KW0 (h₀ := X.base) I.ok.mod.kin F.kp hall (thn (hkw.run pos pins s σ H _ I h) fun ws s2 ⟨zs, H2, I2, rz, q2⟩ => ⟨I2.kIn, ?_⟩) hpl
  rw [hks]
  exact run_fnk (us := []) (vs := []) G hr (B.binds F) hx I2 .nil rz q2
end

/-! ### enumerate of a tuple -/
def IteT (K : PySem.W.Frag) (a : Addr) : It :=
  ⟨fun i H => ∃ (xs : List V) (x : V), SqT K H a xs ∧ xs[i]? = some x, fun i H v H' => ∃ T x, v = .ref T ∧ H T = none ∧ H' = upd H T (.tup [.int (i : Nat), x]) ∧ ∀ xs, SqT K H a xs → xs[i]? = some x, fun i H => ∃ xs : List V, SqT K H a xs ∧ i = xs.length⟩
set_option maxHeartbeats 1000000 in
theorem meets_enum_tup {v : Value} {o : Obj} {H : Heap → Prop} (B : Begins v o H) :
    Meets (Builtin.«enumerate.__new__» ⟨[.type "enumerate", v], []⟩) (fun _ R s => H s.heap ∧
      R (.ok (.ret (.ref (s.heap.push o).objs.size))) { s with heap := (s.heap.push o).push { cls := .type "enumerate", data := .fields #[.none, .bool false, .ref s.heap.objs.size, rawInt 0, .none, .none] } }) :=
  .of_wp fun prog w A R s h => by
    obtain ⟨hp, g, d, tk, os⟩ := s; obtain ⟨h1, h⟩ := h
    have hsub := sub_enumerate
    have q1 : ∀ {A' : Around} {E : Value → Shared → Prop} {Q : Value → Shared → Prop}, Q (.ref hp.objs.size) ⟨hp.push o, g, d, tk, os⟩ → wpAny (model prog w) A' (pyIter v) Q E ⟨hp, g, d, tk, os⟩ :=
      fun q => B.iter prog w _ _ ⟨hp, g, d, tk, os⟩ _ h1 q
    wp_walk using q1
    refine wpAny_stack_any fun st => wpAny_pure ?_
    split
    · rename_i c _ _ _ _ _
      cases (c == Value.type "enumerate")
      · wp_walk using q1
        exact ⟨_, rfl, h⟩
      · wp_walk using q1
        exact ⟨_, rfl, h⟩
    · wp_walk using q1
      exact ⟨_, rfl, h⟩
end Bw

namespace HT
open PySem PySem.Spec PyProof.Rows
section
variable {prog : Program} {w : World} {A : Around} {E : Value → Shared → Prop} {s : Shared}
theorem sliceApplied_rev {sl : Addr} {vk : Value} {n : Nat} {Q : Int × Int × Nat → Shared → Prop} (hs : s.heap.IsSliceOf sl .none .none vk) (pk : IsPart vk (some (-1)))
    (h : Q ((n : Int) - 1, -1, n) s) : wpAny (model prog w) A (Builtin.Slice.sliceApplied (.ref sl) (pure (n : Int))) Q E s := by
  obtain ⟨os, hos, hcs, hds⟩ := id hs
  unfold Builtin.Slice.sliceApplied Builtin.Slice.sliceFields
  refine wpAny_bind (wpAny_bind (wpAny_field hos hds (x := .none) rfl (wpAny_bind (wpAny_field hos hds (x := .none) rfl (wpAny_bind (wpAny_field hos hds (x := vk) rfl (wpAny_pure ?_)))))))
  refine wpAny_bind (slicePart_ pk ?_)
  show wpAny _ _ (if ((-1 : Int) == 0) = true then _ else _) _ _ s
  rw [if_neg (by decide)]
  refine wpAny_bind (slicePart_ .none (wpAny_bind (slicePart_ .none (wpAny_bind (wpAny_pure ?_)))))
  show wpAny _ _ (pure ((n : Int) - 1, (-1 : Int), Builtin.Slice.slicePlaces ((n : Int) - 1) (-1) (-1))) _ _ s
  have e : Builtin.Slice.slicePlaces ((n : Int) - 1) (-1) (-1) = n := by
    unfold Builtin.Slice.slicePlaces
    rw [if_neg (by decide)]
    by_cases h0 : n = 0
    · subst h0; decide
    · rw [if_pos (show (n : Int) - 1 > -1 by omega), show (- -1 : Int) = 1 by decide, Int.ediv_one]
      omega
  rw [e]
  exact wpAny_pure h
theorem pick_rev (xs : Array Value) : ((List.range xs.size).filterMap fun (m : Nat) => xs[(((xs.size : Int) - 1) + (m : Int) * (-1)).toNat]?).toArray = xs.toList.reverse.toArray := by
  have e : (List.range xs.size).filterMap (fun (m : Nat) => xs[(((xs.size : Int) - 1) + (m : Int) * (-1)).toNat]?) = xs.toList.reverse := by
    apply List.ext_getElem?
    intro i
    have gen : ∀ l : List Nat, (∀ m ∈ l, m < xs.size) → l.filterMap (fun (m : Nat) => xs[(((xs.size : Int) - 1) + (m : Int) * (-1)).toNat]?) = l.map (fun m => xs[xs.size - 1 - m]?.getD .none) := by
      intro l
      induction l with
      | nil => intro _; rfl
      | cons m l ih =>
        intro hl
        have hm := hl m List.mem_cons_self
        have e2 : (((xs.size : Int) - 1) + (m : Int) * (-1)).toNat = xs.size - 1 - m := by omega
        have e3 : xs[xs.size - 1 - m]? = some (xs[xs.size - 1 - m]'(by omega)) := Array.getElem?_eq_getElem (by omega)
        rw [List.map_cons, ← ih fun k hk => hl k (List.mem_cons_of_mem _ hk)]
        simp only [List.filterMap_cons, e2, e3, Option.getD_some]
    have e1 := gen (List.range xs.size) fun m hm => List.mem_range.mp hm
    rw [e1]
    by_cases hi : i < xs.size
    · rw [List.getElem?_map, List.getElem?_range hi, List.getElem?_reverse (by simpa using hi)]
      simp only [Option.map_some, Array.length_toList, Array.getElem?_toList]
      rw [Array.getElem?_eq_getElem (by omega)]
      rfl
    · rw [List.getElem?_eq_none (by simpa using hi), List.getElem?_eq_none (by simpa using hi)]
  rw [e]
theorem getItem_tuple_rev {t sl : Addr} {items : Array Value} {vk : Value} {Q : Value → Shared → Prop} (ht : IsTup s.heap t items) (hs : s.heap.IsSliceOf sl .none .none vk) (pk : IsPart vk (some (-1)))
    (h : Q (.ref s.heap.objs.size) { s with heap := s.heap.push { cls := .type "tuple", data := .seq items.toList.reverse.toArray } })
    (hsz : items.size ≤ sizeLine) : wpAny (model prog w) A (getItem (.ref t) (.ref sl)) Q E s := by
  have htake : sizeOk (.seq items.toList.reverse.toArray) := by
    show items.toList.reverse.toArray.size ≤ sizeLine
    rw [List.size_toArray, List.length_reverse, Array.length_toList]
    exact hsz
  obtain ⟨os, hos, hcs, hds⟩ := id hs
  have hTs : s.TypeIs (.ref sl) "slice" := ⟨os, hos, hcs⟩
  unfold getItem
  try with_reducible refine wpAny_holding ?_
  first | refine wpAny_bind (wpAny_pure ?_) | skip
  refine wpAny_bind (wpAny_sequenceKey ht.typeIs (by decide) ?_)
  refine wpAny_bind (wpAny_callSpecial?_slot (name := Str.ofString "__getitem__") ht.typeIs PyProof.Rows.slot_tuple_getitem
    (wpAny_call_entry PyProof.Rows.slot_tuple_getitem ht.typeIs entry_tuple_getitem ?_ (args_tuple_getitem _ _)))
  show wpAny _ _ (Builtin.Tuple.tupleItemsOf (.ref t) >>= _) _ _ s
  refine wpAny_bind (tupleItemsOf_ ht ?_)
  refine wpAny_bind (wpAny_typeOf hTs ?_)
  rw [if_pos (by decide)]
  refine wpAny_bind (sliceApplied_rev hs pk ?_)
  have hno : ¬ (((((items.size : Int) - 1)) == 0 && (-1 : Int) == 1 && items.size == items.size) = true) := by
    intro q
    rw [Bool.and_eq_true, Bool.and_eq_true] at q
    exact absurd q.1.2 (by decide)
  show wpAny _ _ (if (((items.size : Int) - 1) == 0 && (-1 : Int) == 1 && items.size == items.size) = true then _ else _) _ _ s
  rw [if_neg hno, pick_rev]
  first
    | exact wpAny_bind (m := Builtin.Tuple.tupleExact _) (wpAny_newObj_type (wpAny_pure ⟨_, rfl, wpAny_pure h⟩) htake)
    | exact wpAny_bind (m := Builtin.Tuple.tupleExact _) (wpAny_newObj_type (wpAny_bind (wpAny_pure (wpAny_pure ⟨_, rfl, wpAny_pure h⟩))) htake)
    | exact wpAny_bind (wpAny_bind (m := Builtin.Tuple.tupleExact _) (wpAny_newObj_type (wpAny_pure (wpAny_pure ⟨_, rfl, wpAny_pure h⟩)) htake))
    | exact wpAny_bind (wpAny_bind (m := Builtin.Tuple.tupleExact _) (wpAny_newObj_type (wpAny_pure ⟨_, rfl, wpAny_pure h⟩) htake))
end
end HT
namespace Bw
open PySem PySem.Spec PyProof.Rows L2
/-! ### t[::-1] -/
def tRevT (K : PySem.W.Frag) (te : TE) : TE := fun σ H Q => te σ H fun x H1 => ∃ a xs, x = .ref a ∧ SqT K H1 a xs ∧ ∀ p, H1 p = none → Q (.ref p) (upd H1 p (.tup xs.reverse))
theorem pe_revT {X : Cx} {e : Expr} {te : TE} {k : Nat} {p1 p2 p3 pos : Pos} (he : PE X e te) : PE X (.Subscript e (.Slice none none (some (.UnaryOp .USub (.Constant (.int 1) k p1) p2)) p3) pos) (tRevT X.K te) := by
  refine ⟨fun pins s σ H Q I h => ?_⟩
  refine Subscript_ (thn (he.run pins s σ H _ I h) fun v s1 ⟨x, H1, I1, r1, q1⟩ => ?_)
  obtain ⟨a, xs, ex, hx, q⟩ := q1
  subst ex
  cases r1
  have hst : PO X (some (.UnaryOp .USub (.Constant (.int 1) k p1) p2)) (tPart (tUn (rU fun i => .int (-i)) (tC (.int 1)))) := po_some (pe_un un_neg pe_int)
  refine wpAny_Slice (thn (po_none.run pins s1 σ H1 (fun o H2 => o = none ∧ H2 = H1) I1 ⟨rfl, rfl⟩) fun vl s2 ⟨l, H2, I2, pl, el, e2⟩ => ?_)
  subst el e2
  refine thn (po_none.run pins s2 σ H2 (fun o H3 => o = none ∧ H3 = H2) I2 ⟨rfl, rfl⟩) fun vu s3 ⟨u, H3, I3, pu, eu, e3⟩ => ?_
  subst eu e3
  refine thn (hst.run pins s3 σ H3 (fun o H4 => o = some (-1) ∧ H4 = H3) I3 ⟨1, rfl, -1, rfl, rfl, rfl⟩) fun vs s4 ⟨o, H4, I4, ps, eo, e4⟩ => ?_
  subst eo e4
  cases pl
  cases pu
  have I5 : Inv X pins σ H4 { s4 with heap := s4.heap.push { cls := .type "slice", data := .fields #[.none, .none, vs] } } := I4.kept (t' := s4.toks) fun b ob q => Heap.get?_push_of_some _ q
  obtain ⟨its, r, ht, hz⟩ := I5.tuple hx
  have hlen := r.length
  show wpAny (model X.prog X.w) X.A (subscriptTail e (.Slice none none (some (.UnaryOp .USub (.Constant (.int 1) k p1) p2)) p3) (.ref a) (.ref s4.heap.objs.size)) (EP X pins σ Q) X.xe { s4 with heap := s4.heap.push { cls := .type "slice", data := .fields #[.none, .none, vs] } }
  refine tail_any (ops := [.ref a, .ref s4.heap.objs.size]) ht.typeIs (PyProof.Rows.slot_tuple_getitem.lookup) ?_ (by with_unfolding_all rfl)
  refine HT.getItem_tuple_rev ht (Heap.IsSliceOf.new _ .none .none vs) ps ?_ (by rw [List.size_toArray]; omega)
  refine ⟨.ref _, _, I5.laid (t' := s4.toks) (o := .tup xs.reverse) (fun b ob q => Heap.get?_push_of_some _ q) (Nat.le_refl _) ?_, rfl, q _ (I5.hok.fresh (Nat.le_refl _))⟩
  exact ⟨by rw [List.length_reverse]; exact hz, _, r.reverse, IsTup.new _ _⟩
/-! ### enumerate of a tuple -/
theorem turn_enumT {P : Program} {w : World} {K : PySem.W.Frag} {elts : List Expr} {kk : Nat} {tpos : Pos} (a e it : Addr) (hai : a ≠ it) (hea : e ≠ a) :
    Turn P w K (.Tuple elts kk tpos) (IteT K a) [e, it] e (fun i h => (∃ old, IsEnum h e it ((i : Nat) : Int) old) ∧ h.IsTupleIter it a i ∧ e ≠ it) where
  mem := by simp
  obj := fun i h st b hb => by
    obtain ⟨⟨old, he⟩, ⟨o, ho, hc, hd⟩, _⟩ := st
    have e' : b = e ∨ b = it := by simpa using hb
    rcases e' with z | z
    · rw [z]; exact ⟨_, he, fun v q => nomatch q⟩
    · rw [z]; exact ⟨o, ho, fun v q => by rw [hd] at q; cases q⟩
  keep := fun i h h' st k => let ⟨⟨old, he⟩, hi, hne⟩ := st; ⟨⟨old, k e (by simp) _ he⟩, hi.at fun o q => k it (by simp) o q, hne⟩
  item := by
    intro X hP hw hK hc i pins s σ H E I hf st hg
    subst hP hw hK
    obtain ⟨⟨old, he⟩, hit, hne⟩ := st
    obtain ⟨xs, x, hq, hx⟩ := hg
    obtain ⟨its, rv, p, hz⟩ := I.tuple hq
    obtain ⟨u, hu, ru⟩ := rv.get hx
    have hel : e < s.heap.objs.size := Heap.lt_size he
    have hil : it < s.heap.objs.size := by obtain ⟨_, q, _⟩ := hit; exact Heap.lt_size q
    have hD := Draws.tuple (prog := X.prog) (w := X.w) (A := X.A.in1) (show X.A.in1.handled = none from I.ok.hd hc) it a hai its.toArray
    have hlt : i < its.toArray.size := by
      have := (List.getElem?_eq_some_iff.mp hu).1
      simpa using this
    refine wpAny_pyNext_enum_itemD hD he ⟨hit, p⟩ hlt hne (by simp [hne, hea]) fun x' h' tk hx' ho hst' hT hsz hk => ?_
    have ex' : x' = u := by
      have := hx'.symm.trans (show its.toArray[i]? = some u by simpa using hu)
      exact Option.some.inj this
    subst ex'
    refine ⟨_, rfl, wpAny_letOwnedTupleGo_enum (s := { s with heap := h', toks := tk + 1 }) ho fun h'' he' sb => ?_⟩
    have hT2 : h''.get? s.heap.objs.size = some { cls := .type "tuple", data := .seq #[.int i tk, x'] } := (sb.2 _ (Nat.ne_of_gt hel)).trans hT
    have new : ObjOk X.prog X.w (upd H s.heap.objs.size (.tup [.int (i : Nat), x])) h'' s.heap.objs.size (.tup [.int (i : Nat), x]) :=
      ⟨by show 2 ≤ sizeLine; decide, [.int i tk, x'], .cons ⟨_, rfl⟩ (.cons ru .nil), ⟨_, hT2, rfl, _, rfl⟩⟩
    have I1 : Inv X pins σ (upd H s.heap.objs.size (.tup [.int (i : Nat), x])) { s with heap := h'', toks := tk + 1 } :=
      I.turnedNew (ch := [e, it]) (fun b ob hb q => (sb.2 b (fun z => hb (by simp [z]))).trans (hk b ob (fun z => hb (by simp [z])) (fun z => hb (by simp [z])) q)) hf (Nat.le_refl _) new
    refine ⟨.ref s.heap.objs.size, _, I1, rfl, ⟨_, x, rfl, I.hok.fresh (Nat.le_refl _), rfl, fun ys hy => by rw [I.tuple_inj hy hq]; exact hx⟩, ⟨⟨x', ?_⟩, hst'.1.at fun o q => (sb.2 it (Ne.symm hne)).trans q, hne⟩, fun b hb => ?_⟩
    · have e1 : ((i + 1 : Nat) : Int) = (i : Int) + 1 := by omega
      rw [e1]; exact he'
    · have hb' : b < s.heap.objs.size := by
        have e' : b = e ∨ b = it := by simpa using hb
        rcases e' with z | z
        · rw [z]; exact hel
        · rw [z]; exact hil
      rw [upd_ne (Nat.ne_of_lt hb')]
      exact (hf b hb).1
  done := by
    intro X hP hw hK hc i pins s σ H E I hf st hg
    subst hP hw hK
    obtain ⟨⟨old, he⟩, hit, hne⟩ := st
    obtain ⟨xs, hq, hx⟩ := hg
    obtain ⟨its, rv, p, hz⟩ := I.tuple hq
    obtain ⟨f0, f1, f2, f3, f4, f5⟩ := hf it (by simp)
    have hl := rv.length
    have hD := Draws.tuple (prog := X.prog) (w := X.w) (A := X.A.in1) (show X.A.in1.handled = none from I.ok.hd hc) it a hai its.toArray
    have hi : i = its.toArray.size := by rw [List.size_toArray]; omega
    subst hi
    exact wpAny_pyNext_enum_endD hD he ⟨hit, p⟩ fun h' eb => ⟨rfl, I.turned (t' := s.toks) (fun b o hb q => eb b o hb q) f0 f1 f3 f4 f5⟩
  self := fun A i s Q E st h => let ⟨⟨_, he⟩, _⟩ := st; wpAny_pyIter_enum he h
def iEnumT (K : PySem.W.Frag) (ta : TA) : TI := fun σ H R => ta σ H fun vs H1 => ∃ a xs, vs = [.ref a] ∧ SqT K H1 a xs ∧ R (IteT K a) H1
theorem pi_enumT {X : Cx} {e : Expr} {ta : TA} {p pos tpos : Pos} {elts : List Expr} {kk : Nat} (hg : Gl X "enumerate") (hm : X.mg "enumerate" = none) (ha : PA X [e] ta) (hs : starEach [e] X.env = [(false, eval e X.env)] := by rfl) :
    PI X (.Tuple elts kk tpos) (.Call (.Name "enumerate" p) [e] [] pos) (iEnumT X.K ta) := by
  refine ⟨fun pins s σ H R I h => ?_⟩
  refine Call_ (ld_blt I hg hm boot_enumerate (PyProof.Rows.callWith_type1 (thn (ha.run pos pins s σ H _ I h) fun us s1 ⟨vs, H1, I1, r1, q1⟩ => ?_) hs rfl))
  obtain ⟨a, xs, ex, hq, q⟩ := q1
  subst ex
  cases r1 with
  | cons r rr =>
    cases rr
    cases r
    obtain ⟨its, rv, p', hz⟩ := I1.tuple hq
    have hla : a < s1.heap.objs.size := by obtain ⟨o, ho, _⟩ := p'; exact Heap.lt_size ho
    refine callType_new F.called_enumerate (by decide) (F.typeCall_enumerate_1 _) (F.newCall_enumerate_1 _) (fun obj => F.args_object_init_2 obj _) F.entry_enumerate_new
      (meets_enum_tup (begins_tuple a its.toArray)) ⟨p', ?_⟩
    have hz1 : (s1.heap.push { cls := .type "tuple_iterator", data := .fields #[.ref a, .int 0 0] }).objs.size = s1.heap.objs.size + 1 := Heap.size_push ..
    have he : IsEnum ((s1.heap.push { cls := .type "tuple_iterator", data := .fields #[.ref a, .int 0 0] }).push
        { cls := .type "enumerate", data := .fields #[.none, .bool false, .ref s1.heap.objs.size, rawInt 0, .none, .none] }) (s1.heap.objs.size + 1) s1.heap.objs.size 0 .none := by
      have := Heap.get?_push_size (s1.heap.push { cls := .type "tuple_iterator", data := .fields #[.ref a, .int 0 0] })
        (o := { cls := .type "enumerate", data := .fields #[.none, .bool false, .ref s1.heap.objs.size, rawInt 0, .none, .none] }) rfl
      rw [hz1] at this; exact this
    have hit : ((s1.heap.push { cls := .type "tuple_iterator", data := .fields #[.ref a, .int 0 0] }).push
        { cls := .type "enumerate", data := .fields #[.none, .bool false, .ref s1.heap.objs.size, rawInt 0, .none, .none] }).IsTupleIter s1.heap.objs.size a 0 := ⟨_, Heap.get?_push_of_some _ (Heap.get?_push_size _ rfl), rfl, rfl⟩
    show _ ∧ _
    rw [hz1]
    refine ⟨⟨_, he, rfl⟩, wpAny_pyIter_enum he ?_⟩
    have I2 : Inv X pins σ H1 { s1 with heap := (s1.heap.push { cls := .type "tuple_iterator", data := .fields #[.ref a, .int 0 0] }).push { cls := .type "enumerate", data := .fields #[.none, .bool false, .ref s1.heap.objs.size, rawInt 0, .none, .none] } } :=
      I1.kept (t' := s1.toks) fun b o x => Heap.get?_push_of_some _ (Heap.get?_push_of_some _ x)
    refine ⟨s1.heap.objs.size + 1, [s1.heap.objs.size + 1, s1.heap.objs.size], _, _, H1, rfl, I2, turn_enumT a (s1.heap.objs.size + 1) s1.heap.objs.size (Nat.ne_of_lt hla) (Nat.ne_of_gt (Nat.lt_succ_of_lt hla)), ⟨⟨.none, he⟩, hit, Nat.succ_ne_self _⟩, fun b hb => ?_, q⟩
    have e' : b = s1.heap.objs.size + 1 ∨ b = s1.heap.objs.size := by simpa using hb
    have hle : s1.heap.objs.size ≤ b := by
      rcases e' with z | z
      · rw [z]; exact Nat.le_add_right _ _
      · rw [z]; exact Nat.le_refl _
    exact I1.fpOk hle (I1.hok.fresh hle)
theorem walk_enumT {K : PySem.W.Frag} {a : Addr} {xs : List V} : Walk (IteT K a) xs.length (fun H => SqT K H a xs) (YPair (fun i => some (.int (i : Nat))) (fun i => xs[i]?)) := by
  refine ⟨fun i _ hi q => ⟨xs, xs[i], q, by simp [hi]⟩, fun _ q => ⟨xs, q, rfl⟩, fun i H v H' _ q y => ?_⟩
  obtain ⟨T, x, h1, h2, h3, h4⟩ := y
  exact ⟨T, .int (i : Nat), x, h1, h2, h3, rfl, h4 xs q⟩
/-! ### repr of data -/
theorem call_reprD {X : Cx} (hg : X.A.guards = some []) (hu : X.A.units + 80 < cLine) : CallR X (.builtin "repr") (fun xs H Q => ∃ a d, xs = [.ref a] ∧ Dp X.K H (.ref a) d ∧ d.showable = true ∧ d.hasDict = false ∧ d.depth < 64 ∧ d.shown.length ≤ sizeLine ∧ Q (.str d.shown) H) := by
  intro pins s σ H xs us Q I r h
  obtain ⟨a, d, rfl, hd, hs, hn, hp, hz, q⟩ := h
  obtain ⟨u, rfl, ru⟩ := vals1 r
  obtain ⟨as, hr⟩ := Dp.reads I d _ _ hd ru
  cases ru
  exact repr_of_reads' hr hs (PyData.noDict_hsm hn) hg (by omega) (fun _ _ e => e) (fun h' u tk hk => ⟨.str _, H, I.kept (t' := tk) hk, ⟨_, rfl⟩, q⟩) hz
end Bw

namespace Bw
open PySem PySem.Spec PyProof.Rows L2
/-! ### the drawn source and what a def leaves -/
def Src (H : Hp) (p : Addr) : Prop := ∃ a b : Int, H p = some (.lst [.int a, .int b]) ∧ 0 ≤ a ∧ 0 ≤ b ∧ b < 2147483647
/-- all that was tracked but at p is as it was -/
def Exb (p : Addr) (H H' : Hp) : Prop := ∀ b o, b ≠ p → H b = some o → H' b = some o
section
variable {p q a : Addr} {H H1 H2 : Hp} {K : PySem.W.Frag} {xs : List V} {o : HO}
theorem Exb.refl : Exb p H H := fun _ _ _ h => h
theorem Exb.trans (e : Exb p H H1) (f : Exb p H1 H2) : Exb p H H2 := fun b o n h => f b o n (e b o n h)
theorem Exb.of (e : Same H H1) : Exb p H H1 := fun b o _ h => e b o h
theorem Exb.new (h : H q = none) : Exb p H (upd H q o) := fun b u _ e => by
  rw [upd_ne (ne_of_none e h)]
  exact e
theorem _root_.L2.Same.new (h : H q = none) : Same H (upd H q o) := fun b u e => by
  rw [upd_ne (ne_of_none e h)]
  exact e
theorem Exb.at : Exb p H (upd H p o) := fun b u n e => by
  rw [upd_ne n]
  exact e
theorem Exb.put (e : Exb p H H1) : Exb p H (upd H1 p o) := fun b u n h => by
  rw [upd_ne n]
  exact e b u n h
/-- an object that H did not know may change -/
theorem _root_.L2.Same.mut (e : Same H H1) (h : H q = none) : Same H (upd H1 q o) := fun b u hb => by
  rw [upd_ne (ne_of_none hb h)]
  exact e b u hb
theorem Exb.mut (e : Exb p H H1) (h : H q = none) : Exb p H (upd H1 q o) := fun b u n hb => by
  rw [upd_ne (ne_of_none hb h)]
  exact e b u n hb
theorem _root_.L2.Same.tup (e : Same H H1) (h : SqT K H a xs) : SqT K H1 a xs := by
  rcases h with (h | ⟨o, h⟩) | h
  · exact .inl (.inl (e _ _ h))
  · exact .inl (.inr ⟨o, e _ _ h⟩)
  · exact .inr h
theorem Exb.tup (e : Exb p H H1) (s : Src H p) (h : SqT K H a xs) : SqT K H1 a xs := by
  obtain ⟨x, y, hp, _⟩ := s
  rcases h with (h | ⟨o, h⟩) | h
  · exact .inl (.inl (e _ _ (fun z => by rw [z, hp] at h; cases h) h))
  · exact .inl (.inr ⟨o, e _ _ (fun z => by rw [z, hp] at h; cases h) h⟩)
  · exact .inr h
theorem Exb.lst (e : Exb p H H1) (n : q ≠ p) (h : H q = some (.lst xs)) : H1 q = some (.lst xs) := e _ _ n h
theorem _root_.L2.Same.src (e : Same H H1) (s : Src H p) : Src H1 p := by
  obtain ⟨x, y, hp, h⟩ := s
  exact ⟨x, y, e _ _ hp, h⟩
theorem Src.ne (s : Src H p) (h : H q = none) : q ≠ p := fun z => by
  obtain ⟨x, y, hp, _⟩ := s
  rw [z, hp] at h
  cases h
theorem Src.put (s : Src H p) (n : q ≠ p) : Src (upd H q o) p := by
  obtain ⟨x, y, hp, h⟩ := s
  exact ⟨x, y, by rw [upd_ne n.symm]; exact hp, h⟩
theorem Exb.fresh (e : Exb p H H1) (n : q ≠ p) (h : H1 q = none) : H q = none := by
  cases z : H q with
  | none => rfl
  | some o => rw [e q o n z] at h; cases h
end
theorem atI0 {x : V} {r : List V} : atI (x :: r) 0 = some x := atI_nat (j := 0) rfl
theorem atI1 {x y : V} {r : List V} : atI (x :: y :: r) 1 = some y := atI_nat (j := 1) rfl
theorem ixN_nat {n : Nat} {i : Int} {j : Nat} (e : i = (j : Int)) (h : j < n) : ixN n i = some j := by
  subst e
  unfold ixN
  rw [if_pos (by omega), if_pos (by omega)]; simp
theorem ixN_neg {n : Nat} {i : Int} {j : Nat} (e : i = (j : Int) - (n : Int)) (h : j < n) : ixN n i = some j := by
  subst e
  unfold ixN
  rw [if_neg (by omega), if_pos (by omega)]
  congr 1
  omega
theorem atN {α : Type} {xs : List α} {i : Int} {j : Nat} {v : α} (h : xs[j]? = some v) (e : i = (j : Int)) : atI xs i = some v := by
  subst e
  exact atI_nat h
theorem atNeg {α : Type} {xs : List α} {i : Int} {j : Nat} {v : α} (h : xs[j]? = some v) (e : i = (j : Int) - (xs.length : Int)) : atI xs i = some v := by
  unfold atI
  rw [ixN_neg e (List.getElem?_eq_some_iff.mp h).1]
  exact h
theorem num_map (i : Nat) (ns : List Int) (x : V) (h : (ns.map V.int)[i]? = some x) : ∃ (hi : i < ns.length), x = .int ns[i] := by
  rw [List.getElem?_map] at h
  cases e : ns[i]? with
  | none => rw [e] at h; cases h
  | some z =>
    obtain ⟨h1, h2⟩ := List.getElem?_eq_some_iff.mp e
    rw [e] at h
    exact ⟨h1, by rw [h2]; exact (Option.some.inj h).symm⟩
theorem itT {c : Bool} {A B : Prop} (hc : c = true) (h : A) : if c = true then A else B := by
  rw [if_pos hc]
  exact h
theorem itF {c : Bool} {A B : Prop} (hc : c = false) (h : B) : if c = true then A else B := by
  rw [hc, if_neg Bool.false_ne_true]
  exact h
theorem pe_gint {X : Cx} {x : Str} {pos : Pos} {i : Int} (hg : Gl X x) (h : ∃ t, X.mg x = some (.int i t)) (hd : (x == ("__debug__" : Str)) = false := by decide) : PE X (.Name x pos) (tC (.int i)) := by
  obtain ⟨t, y⟩ := h
  exact pe_glob hg y ⟨t, rfl⟩ hd
theorem pe_ty {X : Cx} {x : Str} {pos : Pos} {T : String} (hg : Gl X x) (hm : X.mg x = none) (hv : bootBuiltins x = some (.type T)) (hn : x ≠ "__name__" := by decide) (hd : (x == ("__debug__" : Str)) = false := by decide) : PE X (.Name x pos) (tC (.ty T)) :=
  pe_bltn hg hm hv rfl hn hd
theorem small {n : Nat} (h : n ≤ 1000000) : n ≤ sizeLine := Nat.le_trans h (by decide)
theorem smallLt {n : Nat} (h : n < 1000000) : n < sizeLine := Nat.lt_of_lt_of_le h (by decide)

/-! ### the layer's rules with the written part told -/
section
variable {X : Cx}
abbrev tNoP : TO := fun _ H Q => Q none H
theorem poN : PO X none tNoP := po_none
theorem ixL (K : PySem.W.Frag) (h : X.K = K := by rfl) : IxR X (rIxL K) := h ▸ ix_list
theorem ixT (K : PySem.W.Frag) (h : X.K = K := by rfl) : IxR X (rIxT K) := h ▸ ix_tup
theorem slT (K : PySem.W.Frag) (h : X.K = K := by rfl) : SlR X (rSlA K) := h ▸ sl_tupA
theorem slL (K : PySem.W.Frag) (h : X.K = K := by rfl) : SlR X (rSlL K) := h ▸ sl_list
theorem lenS (K : PySem.W.Frag) (h : X.K = K := by rfl) : CallR X (.builtin "len") (Evl.rLenS K) := by subst h; exact call_len_seq
def rTupOf (K : PySem.W.Frag) : List V → Hp → VK → Prop := fun xs H Q => ∃ p ys, xs = [.ref p] ∧ ((SqL K H p ys ∧ ∀ l, H l = none → Q (.ref l) (upd H l (.tup ys))) ∨ (SqT K H p ys ∧ Q (.ref p) H))
theorem tupOf (K : PySem.W.Frag) (h : X.K = K := by rfl) : CallR X (.type "tuple") (rTupOf K) := by subst h; exact call_tuple_of
def rListOf (K : PySem.W.Frag) : List V → Hp → VK → Prop := fun xs H Q => ∃ p ys, xs = [.ref p] ∧ (SqL K H p ys ∨ SqT K H p ys) ∧ ∀ l, H l = none → Q (.ref l) (upd H l (.lst ys))
theorem listOf (K : PySem.W.Frag) (h : X.K = K := by rfl) : CallR X (.type "list") (rListOf K) := by subst h; exact call_list_of
theorem catA (K : PySem.W.Frag) (h : X.K = K := by rfl) : OpR X (binaryOp .Add) (rCatA K) := h ▸ op_catA
theorem eqD (K : PySem.W.Frag) (hu : X.A.units + 64 < cLine) (h : X.K = K := by rfl) : OpR X (compareOp .Eq) (rEqD K) := h ▸ op_eqD hu
theorem neD (K : PySem.W.Frag) (hu : X.A.units + 64 < cLine) (h : X.K = K := by rfl) : OpR X (compareOp .NotEq) (rNeD K) := h ▸ op_neD hu
theorem inS (K : PySem.W.Frag) (h : X.K = K := by rfl) : OpR X (compareOp .In) (rIn K false) := h ▸ op_in_seq
theorem ninS (K : PySem.W.Frag) (h : X.K = K := by rfl) : OpR X (compareOp .NotIn) (rIn K true) := h ▸ op_notIn_seq
theorem isI (K : PySem.W.Frag) (h : X.K = K := by rfl) : CallR X (.builtin "isinstance") (rIsi K) := h ▸ call_isi
theorem maxL (K : PySem.W.Frag) (hc : X.calm = true) (h : X.K = K := by rfl) : CallR X (.builtin "max") (rMax K) := h ▸ cr_max hc
theorem minL (K : PySem.W.Frag) (hc : X.calm = true) (h : X.K = K := by rfl) : CallR X (.builtin "min") (rMin K) := h ▸ cr_min hc
theorem sortL (K : PySem.W.Frag) (h : X.K = K := by rfl) : CallR X (.builtin "sorted") (rSorted K) := h ▸ cr_sorted
theorem piL (K : PySem.W.Frag) {tg l : Expr} {tl : TE} (hl : PE X l tl) (h : X.K = K := by rfl) : PI X tg l (iList K tl) := h ▸ pi_list hl
theorem piT (K : PySem.W.Frag) {tg l : Expr} {tl : TE} (hl : PE X l tl) (h : X.K = K := by rfl) : PI X tg l (iTup K tl) := h ▸ pi_tup hl
end
/-! ### data in the heap -/
theorem dpAllI {K : PySem.W.Frag} {H : Hp} : ∀ ns : List Int, DpAll K H (ns.map V.int) (ns.map PyData.int)
  | [] => .nil
  | n :: ns => .cons (.int n) (dpAllI ns)
theorem dpT {K : PySem.W.Frag} {H : Hp} {a : Addr} {ns : List Int} (h : SqT K H a (ns.map V.int)) : Dp K H (.ref a) (.tuple (ns.map PyData.int)) := .tup h (dpAllI ns)
theorem dpL {K : PySem.W.Frag} {H : Hp} {a : Addr} {ns : List Int} (h : SqL K H a (ns.map V.int)) : Dp K H (.ref a) (.list (ns.map PyData.int)) := .lst h (dpAllI ns)

theorem shAll : ∀ ns : List Int, PyData.canLayAll0 (ns.map PyData.int) = true
  | [] => rfl
  | n :: ns => by rw [List.map_cons, PyData.canLayAll0, shAll ns]; rfl
theorem dpAll0 : ∀ ns : List Int, PyData.depthAll (ns.map PyData.int) = 0
  | [] => rfl
  | n :: ns => by rw [List.map_cons, PyData.depthAll, dpAll0 ns]; rfl
theorem shT (ns : List Int) : SeqAt.shaped (.tuple (ns.map PyData.int)) = true := by
  unfold SeqAt.shaped
  rw [PyData.canLay0, shAll, PyData.depth, dpAll0]
  rfl
theorem shL (ns : List Int) : SeqAt.shaped (.list (ns.map PyData.int)) = true := by
  unfold SeqAt.shaped
  rw [PyData.canLay0, shAll, PyData.depth, dpAll0]
  rfl
theorem eqvI : ∀ ns ms : List Int, PyData.eqvAll (ns.map PyData.int) (ms.map PyData.int) = decide (ns = ms)
  | [], [] => by simp only [List.map_nil, PyData.eqvAll, decide_true]
  | [], _ :: _ => by simp [PyData.eqvAll]
  | _ :: _, [] => by simp [PyData.eqvAll]
  | x :: xs, y :: ys => by
    rw [List.map_cons, List.map_cons, PyData.eqvAll, eqvI xs ys, PyData.eqv]
    have e : (x == y) = decide (x = y) := by rw [Bool.eq_iff_iff, beq_iff_eq, decide_eq_true_eq]
    rw [e, ← Bool.decide_and]
    exact decide_eq_decide.mpr (by rw [List.cons.injEq])
section
variable {K : PySem.W.Frag} {H : Hp} {a b : Addr} {ns ms : List Int} {Q : VK}
theorem eqT (ha : SqT K H a (ns.map V.int)) (hb : SqT K H b (ms.map V.int)) (q : Q (.bl (decide (ns = ms))) H) : rEqD K (.ref a) (.ref b) H Q :=
  ⟨_, _, dpT ha, dpT hb, shT _, shT _, by rw [PyData.eqv, eqvI]; exact q⟩
theorem neT (ha : SqT K H a (ns.map V.int)) (hb : SqT K H b (ms.map V.int)) (q : Q (.bl (!decide (ns = ms))) H) : rNeD K (.ref a) (.ref b) H Q :=
  ⟨_, _, dpT ha, dpT hb, shT _, shT _, by rw [PyData.eqv, eqvI]; exact q⟩
theorem eqL (ha : SqL K H a (ns.map V.int)) (hb : SqL K H b (ms.map V.int)) (q : Q (.bl (decide (ns = ms))) H) : rEqD K (.ref a) (.ref b) H Q :=
  ⟨_, _, dpL ha, dpL hb, shL _, shL _, by rw [PyData.eqv, eqvI]; exact q⟩
theorem neL (ha : SqL K H a (ns.map V.int)) (hb : SqL K H b (ms.map V.int)) (q : Q (.bl (!decide (ns = ms))) H) : rNeD K (.ref a) (.ref b) H Q :=
  ⟨_, _, dpL ha, dpL hb, shL _, shL _, by rw [PyData.eqv, eqvI]; exact q⟩
theorem tyT {xs : List V} (h : SqT K H a xs) : TyX K H (.ref a) (.type "tuple") := by
  rcases h with (h | ⟨o, h⟩) | ⟨o, its, n, h, c, _⟩
  · exact .base (.tup h)
  · exact .fTuple h
  · exact .kTuple h c
/-- isinstance(t, tuple) of a tuple -/
theorem isTup {xs : List V} (h : SqT K H a xs) (q : Q (.bl true) H) : rIsi K [.ref a, .ty "tuple"] H Q := ⟨.ref a, .ty "tuple", .type "tuple", .type "tuple", true, rfl, .ty _, tyT h, kit_ty (by decide +kernel), q⟩
end
theorem call_reprB {X : Cx} : CallR X (.builtin "repr") (fun xs H Q => ∃ b : Bool, xs = [.bl b] ∧ Q (.str (if b then "True" else "False")) H) := by
  intro pins s σ H xs us Q I r h
  obtain ⟨b, rfl, q⟩ := h
  obtain ⟨u, rfl, ru⟩ := vals1 r
  cases (show u = Value.bool b from ru)
  exact PySem.P.repr_of_bool ⟨.str _, H, I.tok _, ⟨_, rfl⟩, q⟩

/-! ### a comprehension whose test and element only read -/
open Evl in
theorem lc_pure {J : It} {n : Nat} {G : Hp → Prop} {Y : Nat → Hp → V → Hp → Prop} (u : Nat → V) (w : Walk J n G Y) (hY : ∀ i H x H', Y i H x H' → i < n → H' = H ∧ x = u i) {j : Nat} {vs : List Nat} {σ : L2.St} {H1 : Hp} {D : Addr} {tt : TT} {te : TE} {Qd : Hp → Prop} (f : Nat → Bool) (v : Nat → V)
    (hD : H1 D = none) (hn : n < 50000) (hG : ∀ H', Same H1 H' → G H') (hw : ∀ x, wipe ((wipe σ vs).set j (some x)) vs = wipe σ vs)
    (ht : ∀ i, i < n → EvT tt ((wipe σ vs).set j (some (u i))) H1 (f i)) (he : ∀ i, i < n → f i = true → Ev te ((wipe σ vs).set j (some (u i))) H1 (v i)) (hd : ∀ H', Same H1 H' → H' D = some (.lst (given n f v)) → Qd H') :
    ∃ W : Nat → Nat → Hp → Prop, (∃ m, W 0 m (upd H1 D (.lst []))) ∧ ∀ i m H, W i m H →
      (J.stop i H ∧ Qd H) ∨ (J.go i H ∧ ∃ Nx : Hp → Prop, (∀ H', Nx H' → ∃ m', m' < m ∧ W (i + 1) m' H') ∧ ∀ x H', J.yld i H x H' → gName j x (wipe σ vs) H' fun σ2 H2 => wipe σ2 vs = wipe σ vs ∧ tt σ2 H2 fun b H3 =>
        if b = true then te σ2 H3 fun y H4 => ∃ acc, H4 D = some (.lst acc) ∧ acc.length < sizeLine ∧ Nx (upd H4 D (.lst (acc ++ [y]))) else Nx H3) := by
  refine lc_it w (fun i H' => Cw H1 f v D i H') ⟨hD, Ex.new hD, upd_same⟩ (fun i H' _ p => hG H' p.2.1) (fun i x H H' hi p y => ?_) (fun H' p => hd H' p.2.1 p.2.2)
  obtain ⟨rfl, rfl⟩ := hY i H x H' y hi
  exact ⟨hw _, cw_turn p (by omega) (ht i hi) (he i hi)⟩
theorem b01 (c : Prop) [Decidable c] : (-(2 ^ 64) : Int) < (if c then 1 else 0) ∧ (if c then (1 : Int) else 0) < 2 ^ 64 := by
  split <;> decide
theorem b0 (c : Prop) [Decidable c] : (0 : Int) ≤ (if c then 1 else 0) := by
  split <;> decide
theorem mixB {x y j : Int} (h : 0 ≤ y ∧ y ≤ 7919000 * 1000) (h0 : 0 ≤ j) (h1 : j < 1000) : -(2 ^ 64) < x % 2147483629 + y + 31 * j + 17 ∧ x % 2147483629 + y + 31 * j + 17 < 2 ^ 64 := by
  omega
/-! ### slices and sums of tuples, whichever object they are -/
section
variable {K : PySem.W.Frag} {H : Hp} {a b : Addr} {xs ys : List V} {lo hi : Option Int} {Q : VK}
theorem cutV_whole (h : HT.sIx xs.length 0 lo = 0 ∧ HT.sIx xs.length xs.length hi = xs.length) : cutV xs lo hi = xs := by
  unfold cutV
  rw [h.1, h.2]
  exact List.take_length
theorem slA (h : SqT K H a xs) (q : ∀ p H', Same H H' → SqT K H' p (cutV xs lo hi) → Q (.ref p) H') : rSlA K (.ref a) lo hi H Q :=
  ⟨a, xs, rfl, h, fun hw => q a H (Same.refl H) (by rw [cutV_whole hw]; exact h), fun _ p np => q p _ (Same.new np) (SqT.of upd_same)⟩
theorem ctA (ha : SqT K H a xs) (hb : SqT K H b ys) (hz : xs.length + ys.length ≤ 1000000) (q : ∀ p H', Same H H' → SqT K H' p (xs ++ ys) → Q (.ref p) H') : rCatA K (.ref a) (.ref b) H Q := by
  refine ⟨a, b, xs, ys, rfl, rfl, ha, hb, small hz, fun e => ?_, fun _ e => ?_, fun _ _ p np => q p _ (Same.new np) (SqT.of upd_same)⟩
  · subst e
    exact q b H (Same.refl H) hb
  · subst e
    exact q a H (Same.refl H) (by rw [List.append_nil]; exact ha)
theorem cutV_from (i : Nat) : cutV xs (some (i : Int)) none = xs.drop i := by
  unfold cutV
  rw [HT.sIx_nat, HT.sIx_none]
  by_cases h : i ≤ xs.length
  · rw [Nat.min_eq_left h]
    exact List.take_of_length_le (by rw [List.length_drop]; omega)
  · rw [Nat.min_eq_right (by omega), List.drop_eq_nil_of_le (by omega), List.drop_eq_nil_of_le (by omega)]
    exact List.take_nil
theorem cutV_to (i : Nat) : cutV xs none (some (i : Int)) = xs.take i := by
  unfold cutV
  rw [HT.sIx_nat, HT.sIx_none, List.drop_zero, Nat.sub_zero]
  by_cases h : i ≤ xs.length
  · rw [Nat.min_eq_left h]
  · rw [Nat.min_eq_right (by omega), List.take_length, List.take_of_length_le (by omega)]
end
theorem maxB (x : Int) (h : 0 ≤ x) : 1 ≤ (if (if 3 < x then 3 else x) > 1 then (if 3 < x then 3 else x) else 1) ∧ (if (if 3 < x then 3 else x) > 1 then (if 3 < x then 3 else x) else 1) ≤ 3 := by
  split <;> split <;> omega
/-- a new source is used and left behind -/
theorem Same.used {p : Addr} {H H1 H2 H3 : Hp} (a : Same H H1) (np : H1 p = none) (b : Same H1 H2) (c : Exb p H2 H3) : Same H H3 := fun x o h =>
  c x o (fun z => by rw [z, a.free np] at h; cases h) (b x o (a x o h))
theorem atLastI {ns : List Int} {c : Int} (h : ns.getLast? = some c) : atI (ns.map V.int) (-1) = some (.int c) := by
  rcases List.eq_nil_or_concat ns with rfl | ⟨m, x, rfl⟩
  · cases h
  · rw [List.concat_eq_append] at *
    rw [List.getLast?_concat] at h
    cases Option.some.inj h
    rw [List.map_append]
    exact atI_last _ _
theorem atHeadI {ns : List Int} {c : Int} (h : ns.head? = some c) : atI (ns.map V.int) 0 = some (.int c) := by
  cases ns with
  | nil => cases h
  | cons x r =>
    cases Option.some.inj h
    exact atI0
theorem cutV_last {xs : List V} (h : 0 < xs.length) : cutV xs (some (-1)) none = xs.drop (xs.length - 1) := by
  unfold cutV
  rw [HT.sIx_none]
  have e : HT.sIx xs.length 0 (some (-1)) = xs.length - 1 := by
    show (if (-1 : Int) < 0 then (-1 + (xs.length : Int)).toNat else min (-1 : Int).toNat xs.length) = xs.length - 1
    rw [if_pos (by decide)]
    omega
  rw [e]
  exact List.take_of_length_le (by rw [List.length_drop]; omega)
theorem cutV_inn {xs : List V} (h : 2 ≤ xs.length) : cutV xs (some 1) (some (-1)) = xs.tail.dropLast := by
  unfold cutV
  have e1 : HT.sIx xs.length 0 (some 1) = 1 := by
    rw [show (1 : Int) = ((1 : Nat) : Int) from rfl, HT.sIx_nat]
    omega
  have e2 : HT.sIx xs.length xs.length (some (-1)) = xs.length - 1 := by
    show (if (-1 : Int) < 0 then (-1 + (xs.length : Int)).toNat else min (-1 : Int).toNat xs.length) = xs.length - 1
    rw [if_pos (by decide)]
    omega
  rw [e1, e2, List.drop_one, List.dropLast_eq_take, List.length_tail]
/-- a tuple is not where a list stands -/
theorem tup_upd {K : PySem.W.Frag} {H : Hp} {a q : Addr} {xs ys : List V} {o : HO} (h : SqT K H a xs) (hq : H q = some (.lst ys)) : SqT K (upd H q o) a xs := by
  rcases h with (h | ⟨f, h⟩) | h
  · exact .inl (.inl (by rw [upd_ne (fun z => by rw [z, hq] at h; cases h)]; exact h))
  · exact .inl (.inr ⟨f, by rw [upd_ne (fun z => by rw [z, hq] at h; cases h)]; exact h⟩)
  · exact .inr h
end Bw

namespace Bw
open PySem PySem.Spec PyProof.Rows L2
open PySem.W (Datum Tup)
/-! ### data by its Lean type -/
class Lay (α : Type) [DecidableEq α] [Datum α] : Prop where
  lay : ∀ a : α, (Datum.toD a).canLay0 = true
theorem layAll {α : Type} [DecidableEq α] [Datum α] [Lay α] : ∀ xs : List α, PyData.canLayAll0 (xs.map Datum.toD) = true
  | [] => rfl
  | x :: xs => by rw [List.map_cons, PyData.canLayAll0, Lay.lay x, layAll xs]; rfl
instance : Lay Int := ⟨fun _ => rfl⟩
instance : Lay Bool := ⟨fun _ => rfl⟩
instance {α : Type} [DecidableEq α] [Datum α] [Lay α] : Lay (Tup α) := ⟨fun t => by
  show PyData.canLay0 (.tuple (t.items.map Datum.toD)) = true
  rw [PyData.canLay0]
  exact layAll t.items⟩
instance {α : Type} [DecidableEq α] [Datum α] [Lay α] : Lay (List α) := ⟨fun t => by
  show PyData.canLay0 (.list (t.map Datum.toD)) = true
  rw [PyData.canLay0]
  exact layAll t⟩
instance {α β : Type} [DecidableEq α] [Datum α] [Lay α] [DecidableEq β] [Datum β] [Lay β] : Lay (α × β) := ⟨fun p => by
  show PyData.canLay0 (.tuple [Datum.toD p.1, Datum.toD p.2]) = true
  rw [PyData.canLay0, PyData.canLayAll0, PyData.canLayAll0, PyData.canLayAll0, Lay.lay, Lay.lay]
  rfl⟩
/-- v holds the datum a -/
def Hd {α : Type} [DecidableEq α] [Datum α] (K : PySem.W.Frag) (H : Hp) (v : V) (a : α) : Prop := Dp K H v (Datum.toD a)
section
variable {α β : Type} [DecidableEq α] [Datum α] [Lay α] [DecidableEq β] [Datum β] [Lay β] {K : PySem.W.Frag} {H : Hp} {x y : V} {a b : α} {Q : VK}
theorem shaped_of (a : α) (h : Datum.depth α ≤ 64) : SeqAt.shaped (Datum.toD a) = true := by
  unfold SeqAt.shaped
  rw [Lay.lay a, decide_eq_true (Nat.le_trans (Datum.depth_le a) h)]
  rfl
theorem eqH (ha : Hd K H x a) (hb : Hd K H y b) (q : Q (.bl (decide (a = b))) H) (hd : Datum.depth α ≤ 64 := by decide) : rEqD K x y H Q :=
  ⟨_, _, ha, hb, shaped_of a hd, shaped_of b hd, by rw [Datum.eqv]; exact q⟩
theorem neH (ha : Hd K H x a) (hb : Hd K H y b) (q : Q (.bl (!decide (a = b))) H) (hd : Datum.depth α ≤ 64 := by decide) : rNeD K x y H Q :=
  ⟨_, _, ha, hb, shaped_of a hd, shaped_of b hd, by rw [Datum.eqv]; exact q⟩
theorem hdI (i : Int) : Hd K H (.int i) i := .int i
theorem hdB (i : Bool) : Hd K H (.bl i) i := .bl i
theorem hdT {p : Addr} {ns : List Int} (h : SqT K H p (ns.map V.int)) : Hd K H (.ref p) (Tup.mk ns) := dpT h
theorem hdL {p : Addr} {ns : List Int} (h : SqL K H p (ns.map V.int)) : Hd K H (.ref p) ns := dpL h
theorem hdP {p : Addr} {c : β} (h : SqT K H p [x, y]) (ha : Hd K H x a) (hb : Hd K H y c) : Hd K H (.ref p) (a, c) := .tup h (.cons ha (.cons hb .nil))
end
/-! ### what stays under a change elsewhere -/
mutual
theorem dp_same {K : PySem.W.Frag} {H H1 : Hp} (e : Same H H1) : ∀ (d : PyData) (v : V), Dp K H v d → Dp K H1 v d
  | .none, _, h => by cases h; exact .non
  | .bool _, _, h => by cases h; exact .bl _
  | .int _, _, h => by cases h; exact .int _
  | .str _, _, h => by cases h; exact .str _
  | .list ds, _, h => by
    cases h with
    | lst hs ha => exact .lst (e.seq hs) (dp_sameAll e ds _ ha)
  | .tuple ds, _, h => by
    cases h with
    | tup hs ha => exact .tup (e.tup hs) (dp_sameAll e ds _ ha)
  | .dict _, _, h => by cases h
theorem dp_sameAll {K : PySem.W.Frag} {H H1 : Hp} (e : Same H H1) : ∀ (ds : List PyData) (vs : List V), DpAll K H vs ds → DpAll K H1 vs ds
  | [], _, h => by cases h; exact .nil
  | d :: ds, _, h => by
    cases h with
    | cons a b => exact .cons (dp_same e d _ a) (dp_sameAll e ds _ b)
end
theorem Hd.same {α : Type} [DecidableEq α] [Datum α] {K : PySem.W.Frag} {H H1 : Hp} {v : V} {a : α} (e : Same H H1) (h : Hd K H v a) : Hd K H1 v a := dp_same e _ _ h
/-! ### a list of draws -/
/-- what an expression that draws below t from the source at p gives -/
def Dr (te : TE) (σ : L2.St) (p : Addr) (t : Int) : Prop := ∀ (H : Hp) (Q : VK), Src H p → (∀ r H', 0 ≤ r → r < t → Src H' p → Exb p H H' → Q (.int r) H') → te σ H Q
theorem tYes_i {σ : L2.St} {H : Hp} {Q : Bool → Hp → Prop} (h : Q true H) : tYes σ H Q := h
theorem lc_draw {n j : Nat} {vs : List Nat} {σ : L2.St} {H1 : Hp} {D : Addr} {te : TE} {Qd : Hp → Prop} (t : Int) (p : Addr) (hD : H1 D = none) (s : Src H1 p) (hn : n < 100000) (hw : ∀ x, wipe ((wipe σ vs).set j (some x)) vs = wipe σ vs)
    (hd : ∀ i : Nat, i < n → Dr te ((wipe σ vs).set j (some (.int (0 + (i : Int))))) p t)
    (fin : ∀ (ns : List Int) H', ns.length = n → (∀ c ∈ ns, 0 ≤ c ∧ c < t) → D ≠ p → H' D = some (.lst (ns.map V.int)) → Src H' p → Exb p H1 H' → Qd H') :
    ∃ W : Nat → Nat → Hp → Prop, (∃ m, W 0 m (upd H1 D (.lst []))) ∧ ∀ i m H, W i m H →
      ((Itr 0 n).stop i H ∧ Qd H) ∨ ((Itr 0 n).go i H ∧ ∃ Nx : Hp → Prop, (∀ H', Nx H' → ∃ m', m' < m ∧ W (i + 1) m' H') ∧ ∀ x H', (Itr 0 n).yld i H x H' → gName j x (wipe σ vs) H' fun σ2 H2 => wipe σ2 vs = wipe σ vs ∧ tYes σ2 H2 fun b H3 =>
        if b = true then te σ2 H3 fun y H4 => ∃ acc, H4 D = some (.lst acc) ∧ acc.length < sizeLine ∧ Nx (upd H4 D (.lst (acc ++ [y]))) else Nx H3) := by
  have nDp := s.ne hD
  refine lc_it walk_range (fun i H' => ∃ ns : List Int, H' D = some (.lst (ns.map V.int)) ∧ ns.length = i ∧ (∀ c ∈ ns, 0 ≤ c ∧ c < t) ∧ Src H' p ∧ Exb p H1 H') ⟨[], upd_same, rfl, (fun c hc => by cases hc), s.put nDp, Exb.new hD⟩ (fun _ _ _ _ => trivial) (fun i x H2 H3 hi h y => ?_) (fun H' h => ?_)
  · obtain ⟨ns, h1, h2, h3, h4, h5⟩ := h
    obtain ⟨rfl, rfl⟩ := y
    refine ⟨hw _, ?_⟩
    refine tYes_i ?_
    refine iteT ?_
    refine hd i hi H3 _ h4 fun r H4 r0 r1 s4 e4 => ⟨_, e4.lst nDp h1, smallLt (by rw [List.length_map]; omega), ns ++ [r], by rw [upd_same, List.map_append]; rfl, by rw [List.length_append, h2]; rfl, fun c hc => ?_, s4.put nDp, (h5.trans e4).mut hD⟩
    rcases List.mem_append.mp hc with h | h
    · exact h3 c h
    · rw [List.mem_singleton.mp h]; exact ⟨r0, r1⟩
  · obtain ⟨ns, h1, h2, h3, h4, h5⟩ := h
    exact fin ns H' h2 h3 nDp h1 h4 h5
end Bw

set_option maxHeartbeats 1000000
namespace Bw
open PySem PySem.Spec PyProof.Rows L2
/-! ### defs that are run where no repr is under way -/
structure FnG (P : Program) (w : World) (K : PySem.W.Frag) (mg : Str → Option Value) (base : Heap) (CX : CXT) (k : Nat) (f : Addr) (fd : FuncData) (ps : List Str) (sp : Sp) : Prop where
  len : ∀ vs H Q E, sp vs H Q E → vs.length = ps.length
  go : ∀ (A : Around) (outer : List Env) (s : Shared) (H : Hp) (args : Args) (us : List Value) (vs : List V) (Q : VK) (E : XK), A.guards = some [] → Room k A → Env0 P w K mg base A outer s H → BindsTo s fd args (ps.zip us) → Vals vs us → sp vs H Q E →
    codeAny (model P w) A (.call (.ref f) args) (CR CX outer P w H s Q E) s
theorem FnG.of {P : Program} {w : World} {K : PySem.W.Frag} {mg : Str → Option Value} {base : Heap} {CX : CXT} {k : Nat} {f : Addr} {fd : FuncData} {ps : List Str} {sp : Sp} (F : FnOk P w K mg base CX k f fd ps sp) : FnG P w K mg base CX k f fd ps sp :=
  ⟨F.len, fun A outer s H args us vs Q E _ hr => F.run A outer s H args us vs Q E hr⟩
/-- a def by its body, as Fun.ok and Fun.okX, where no repr is under way -/
theorem fnG_of {CX : CXT} {P : Program} {w : World} {K : PySem.W.Frag} {mg : Str → Option Value} {base : Heap} {k : Nat} {x qual : Str} {st : Stmt} {f : Addr} {fd : FuncData} {N ps : List Str} {sp : Sp} (F : Fun K x qual st f fd) (S : FnScope N ps (defScope st))
    (len : ∀ vs H Q E, sp vs H Q E → vs.length = ps.length)
    (hbody : ∀ (cdv : Value) (A : Around) (outer : List Env) (s : Shared) (H : Hp) (vs : List V) (Q : VK) (E : XK), (A.deeper (envOfC qual (defScope st) s.heap.objs.size f cdv)).guards = some [] → Room k (A.deeper (envOfC qual (defScope st) s.heap.objs.size f cdv)) → sp vs H Q E →
      ∃ t, PSs (cxOf CX P w K mg base N qual (defScope st) f cdv A outer s H E) (defBody st) t ∧ t { nx := fun _ H' => Q .non H', rt := Q } (start N vs) H) : FnG P w K mg base CX (k + 1) f fd ps sp := by
  obtain ⟨oc, od, kV, doc, pm, an, cdv, ct, osl, rfl, lk, hcd⟩ := F.ex
  refine ⟨len, fun A outer s H args us vs Q E hg hr e0 hb r hsp => ?_⟩
  have stays : ∀ (b : Addr) (o : Obj), base.get? b = some o → s.heap.get? b = some o := fun b o z => (e0.bs b o z).1
  have inK : K.In s.heap := e0.mod.kin.keeps stays
  have pars : ∀ y ∈ ps.zip us, (defScope st).names.lookup y.1 = some .local ∨ ((defScope st).names.lookup y.1 = some .cell ∧ ((cellsFrom (s.heap.objs.size + 1) (defScope st).names []).lookup y.1).isSome = true) := by
    intro y hy
    rcases S.par y.1 (List.of_mem_zip (a := y.1) (b := y.2) hy).1 with z | z
    · exact .inl z
    · exact .inr ⟨z, PySem.W.cellsFrom_some _ _ _ (.inl z)⟩
  refine codeAny_call_function hr.depth (inK _ _ lk) rfl S.co S.gen rfl (PySem.W.codeRec_of inK hcd) (hb _ _ _ _ ?_)
  refine wpAny_newFunctionEnv_cells S.kind pars fun env he s1 x => ?_
  subst he
  refine ⟨(e0.mod.nolimit.keeps stays).keeps x.toInCall.keep, codeAny_func ?_⟩
  obtain ⟨t, ht, hq⟩ := hbody cdv A outer s H vs Q E hg (hr.deeper _) hsp
  have I := inv_start (CX := CX) (E := E) S hr.hd e0 (len _ _ _ _ hsp) r x
  refine wpAny_mono (ht.run [] s1 (start N vs) H _ I hq) ?_ (fun _ _ z => z)
  intro fl s' hs
  cases fl with
  | next =>
    obtain ⟨σ', H', J, z⟩ := hs
    exact ⟨.non, H', J.os, J.bare, J.base, J.hok, rfl, z⟩
  | ret u =>
    obtain ⟨v, σ', H', J, rv, z⟩ := hs
    exact ⟨v, H', J.os, J.bare, J.base, J.hok, rv, z⟩
  | brk => exact hs.elim fun _ h => h.elim fun _ h => h.2.elim
  | cont => exact hs.elim fun _ h => h.elim fun _ h => h.2.elim
/-- such a def, called by its name -/
structure CalG (P : Program) (w : World) (K : PySem.W.Frag) (mg : Str → Option Value) (base : Heap) (CX : CXT) (k : Nat) (x : Str) (ps : List Str) (st : Stmt) (sp : Sp) : Prop where
  ex : ∃ (f : Addr) (fd : FuncData), FnG P w K mg base CX k f fd ps sp ∧ Fun K x x st f fd ∧ mg x = some (.ref f) ∧ Binds K fd ps []
section
variable {X : Cx} {CX : CXT} {k : Nat} {x : Str} {ps : List Str} {st : Stmt} {sp : Sp} {E : XK} {p pos : Pos} {e : Expr} {es : List Expr} {t : TA}
theorem pe_calG (c : CalG X.prog X.w X.K X.mg X.base CX k x ps st sp) (hG : X.A.guards = some []) (hr : Room k X.A) (hx : Passes CX X E) (ha : PA X (e :: es) t) (hg : Gl X x := by rfl) (hdb : (x == ("__debug__" : Str)) = false := by decide)
    (he : starEach (e :: es) X.env = (false, eval e X.env) :: starEach es X.env := by rfl) (hpl : (backTo pos (starEach es X.env)).any (·.1) = false := by rfl) : PE X (.Call (.Name x p) (e :: es) [] pos) (tCall sp [] E t) := by
  obtain ⟨f, fd, G, F, hm, hb⟩ := c.ex
  refine ⟨fun pins s σ H Q I h => ?_⟩
  refine wpAny_Call_Name_kw (ld_glob I hg hm ?_ hdb)
  refine PySem.W.callWith_K (h₀ := X.base) I.ok.mod.kin F.kp (thn (ha.run pos pins s σ H _ I h) fun us s1 z => ?_) he hpl
  obtain ⟨vs, H1, I1, r, q⟩ := z
  refine ⟨I1.kIn, ?_⟩
  have r2 : Vals (vs ++ []) us := by rw [List.append_nil]; exact r
  have hl : us.length = ps.length := by rw [← r2.length]; exact G.len _ _ _ _ q
  have hb2 := hb s1 us I1.kIn (by rw [List.append_nil]; exact hl)
  rw [List.append_nil] at hb2
  refine wpAny_call (codeAny_mono (G.go X.A X.stack s1 H1 ⟨us, []⟩ us (vs ++ []) Q E hG hr I1.env0 hb2 r2 q) fun r' s' hq => ?_)
  match r', hq with
  | .error e, hq => exact hx pins σ H1 s1 e s' I1 hq
  | .ok (.ret u), hq => exact I1.after hq
  | .ok .next, hq => exact False.elim hq
  | .ok .brk, hq => exact False.elim hq
  | .ok .cont, hq => exact False.elim hq
end
end Bw

set_option maxHeartbeats 1000000
namespace Bw
open PySem PySem.Spec PyProof.Rows L2
/-- the heap that a law meets: nothing is tracked but the script -/
theorem first_heap {P : Program} {w : World} {K : PySem.W.Frag} {h : Heap} {a : Addr} {vs : List Value} {ns : List Int} (KX : K.In h) (ha : h.get? a = some { cls := .type "list", data := .seq vs.toArray }) (hi : IntsAre vs ns) (hl : ns.length ≤ sizeLine) :
    ∃ H : Hp, Only H ∧ SqL K H a (ns.map V.int) ∧ HOk P w H h ∧ (∀ b u, H b = some u → b = a ∧ K.lookup b = none) := by
  have rv := vals_ints hi
  by_cases hk : K.lookup a = none
  · let u : HO := .frz { cls := .type "list", data := .seq vs.toArray } (.lst (ns.map V.int))
    have ev : ∀ b z, (if b = a then some u else none) = some z → b = a ∧ z = u := fun b z e => by
      by_cases hb : b = a
      · rw [if_pos hb] at e
        exact ⟨hb, (Option.some.inj e).symm⟩
      · rw [if_neg hb] at e
        cases e
    refine ⟨fun b => if b = a then some u else none, fun b => ?_, .inl (.inr ⟨_, if_pos rfl⟩), fun b z e => ?_, fun b z e => ?_⟩
    · by_cases hb : b = a
      · exact .inr ⟨_, _, if_pos hb⟩
      · exact .inl (if_neg hb)
    · obtain ⟨rfl, rfl⟩ := ev b z e
      exact ⟨ha, by rw [List.length_map]; exact hl, vs, _, rv, ha⟩
    · obtain ⟨rfl, rfl⟩ := ev b z e
      exact ⟨rfl, hk⟩
  · obtain ⟨o, ho⟩ := Option.ne_none_iff_exists'.mp hk
    have e := KX a o ho
    rw [ha] at e
    cases e
    exact ⟨fun _ => none, fun _ => .inl rfl, .inr ⟨_, vs.toArray, _, ho, rfl, rfl, rfl, by rw [List.size_toArray, hi.length]; exact hl, by simpa using rv⟩, fun _ _ z => (by cases z), fun _ _ z => (by cases z)⟩
theorem law_callG {P : Program} {w : World} {K : PySem.W.Frag} {mg mb : Str → Option Value} {CX : CXT} {k : Nat} {fa a : Addr} {fd : FuncData} {x : Str} {sp : Sp} {s₁ : Shared} {vs : List Value} {ns : List Int}
    (KX : K.In s₁.heap) (hns : s₁.heap.Ns mainGlobals mg) (hb : s₁.heap.Ns builtinsNs mb) (hbb : ∀ x : Str, x ≠ "__name__" → mb x = bootBuiltins x) (hlim : s₁.heap.NoLimit) (hg : s₁.gens = #[])
    (ha : s₁.heap.get? a = some { cls := .type "list", data := .seq vs.toArray }) (hi : IntsAre vs ns) (hl : ns.length ≤ sizeLine) (hr : Room k callerA)
    (F : ∀ base : Heap, K.In base → base.Ns mainGlobals mg → FnG P w K mg base CX k fa fd [x] sp) (hbind : ∀ (s : Shared) (u : Value), BindsTo s fd ⟨[u], []⟩ [(x, u)])
    (hsp : ∀ H : Hp, SqL K H a (ns.map V.int) → sp [.ref a] H (fun v _ => v = .bl true) fun _ _ _ => False)
    (hCX : ∀ H e s', CX [] H s₁ (fun _ _ _ => False) e s' → False) :
    codeAny (model P w) callerA (.call (.ref fa) ⟨[.ref a], []⟩) (fun r s' => r = .ok (.ret (.bool true)) ∧ OldK s₁.heap s'.heap ∧ s'.os = s₁.os ∧ AllBare s'.gens) s₁ := by
  obtain ⟨H, hO, hS, hok, hA⟩ := first_heap (P := P) (w := w) KX ha hi hl
  let B := hidT s₁.heap H
  have inB : ∀ {b : Addr} {o : Obj}, s₁.heap.get? b = some o → (∀ u, H b ≠ some u) → B.get? b = some o := fun {b o} e n => hidT_get e (by
    cases q : H b with
    | none => rfl
    | some u => exact absurd q (n u))
  have nsB : ∀ {b : Addr} {m : Str → Option Value}, s₁.heap.Ns b m → B.Ns b m := fun {b m} hm => by
    obtain ⟨o, es, ep, e, dt, r⟩ := hm
    refine ⟨o, es, ep, inB e fun u q => ?_, dt, r⟩
    obtain ⟨rfl, _⟩ := hA b u q
    rw [ha] at e
    cases e
    cases dt
  have kB : K.In B := fun b o e => inB (KX b o e) fun u q => by
    rw [(hA b u q).2] at e
    cases e
  have limB : B.NoLimit := by
    obtain ⟨mc, h1, h2⟩ := hlim
    exact ⟨mc, nsB h1, h2⟩
  have e0 : Env0 P w K mg B callerA [] s₁ H := ⟨rfl, ⟨kB, nsB hns, ⟨mb, nsB hb, hbb⟩, limB⟩, fun b o e => of_hidT e, Nat.le_of_eq (hidT_size _ _), trivial, fun b hb => absurd (show b ∈ ([] : List Addr) from hb) (by simp), hok, .of_eq hg⟩
  have run := (F B kB (nsB hns)).go callerA [] s₁ H ⟨[.ref a], []⟩ [.ref a] [.ref a] _ _ rfl hr e0 (hbind s₁ (.ref a)) (.cons rfl .nil) (hsp H hS)
  refine codeAny_mono run fun r s' h => ?_
  match r, h with
  | .error e, h => exact (hCX H e s' h).elim
  | .ok .next, h => exact False.elim h
  | .ok .brk, h => exact False.elim h
  | .ok .cont, h => exact False.elim h
  | .ok (.ret u), h =>
    obtain ⟨v, H', os, bare, un, hok', r', q⟩ := h
    have q' : v = .bl true := q
    subst q'
    obtain rfl : u = Value.bool true := r'
    refine ⟨rfl, OldK.of_keep fun b o e => ?_, os, bare⟩
    rcases hO b with z | ⟨ob, xs, z⟩
    · exact un.keep b o e z (fun w => absurd (show b ∈ ([] : List Addr) from w) (by simp)) (by simp)
    · have z1 := (hok b _ z).1
      have z2 := (hok' b _ (un.frzs b ob _ z)).1
      rw [e] at z1
      cases z1
      exact z2
theorem walk_ofG {l : PySem.W.OpenLaw} {n k : Nat} {q : Program} {loose : List Str} {XP : (Str → Option Value) → Heap → Prop} {YP : World → Heap → Prop} {d : DefRec} {K : Params → PySem.W.Frag} {CX : World → CXT} {sp : World → Sp} {x : Str}
    (hn : l.most = some n) (hn2 : n ≤ sizeLine) (hdf : d.params.defaults = []) (hr : Room k callerA) (hY : ∀ (w : World) (h : Heap), YP w h → (K w.params).In h)
    (F : ∀ (w : World) (mg : Str → Option Value) (fa : Addr) (h : Heap), (K w.params).In h → h.Ns mainGlobals mg → mg d.name = some (.ref fa) →
      ∃ fd : FuncData, (∀ (s : Shared) (u : Value), BindsTo s fd ⟨[u], []⟩ [(x, u)]) ∧ ∀ base : Heap, (K w.params).In base → base.Ns mainGlobals mg → FnG l.prog w (K w.params) mg base (CX w) k fa fd [x] (sp w))
    (hsp : ∀ (w : World) (H : Hp) (a : Addr) (ns : List Int), ns.length ≤ n → SqL (K w.params) H a (ns.map V.int) → sp w [.ref a] H (fun v _ => v = .bl true) fun _ _ _ => False)
    (hCX : ∀ (w : World) (H : Hp) (s : Shared) (e : Value) (s' : Shared), CX w [] H s (fun _ _ _ => False) e s' → False) :
    PySem.W.WalkO q loose XP YP l.row.toRowW d [] (fun f vs => PySem.call f vs) := by
  refine Att.attach_call hn hdf fun w s₀ s₁ mg mb fa o pm cd doc a vs ns G Y ho hd hcd hmg hobj hints hlen hg => ?_
  obtain ⟨fd, hb, hF⟩ := F w mg fa _ (hY w _ Y) G.T.g hmg
  exact law_callG (hY w _ Y) G.T.g G.T.b G.T.builtins G.T.nolimit hg hobj hints (Nat.le_trans hlen hn2) hr hF hb (fun H hS => hsp w H a ns hlen hS) fun H e s' => hCX w H s₁ e s'
end Bw

set_option maxHeartbeats 1000000
namespace Bw
open PySem PySem.Spec PyProof.Rows L2
/-! ### the errors of the program: classes under Refused, which keep one thing in what -/
structure XC (K : PySem.W.Frag) (C : Addr) : Prop where
  oex : OexC K C
  noW : PySem.W.findIn K (.ref C) "what" = some none
  xf : XfC K C
  hcl : (PySem.W.clsIn K C).isSome = true
  ha : PySem.W.findIn K (.ref C) "__class__" = some (some (.builtin "object.__class__"))
  hn : PySem.W.specialIn K (.builtin "object.__class__") "__get__" = some (some (.builtin "getset_descriptor.__get__"))
  ht : PySem.W.takesIn K (.builtin "object.__class__") = some true
  hm : PySem.W.mroIn K C (.type "object") = some true
/-- the promise of their __init__ -/
def sp_init (K : PySem.W.Frag) : Sp := fun vs H Q _ => ∃ (a C : Addr) (v : V), vs = [.ref a, v] ∧ OexC K C ∧ PySem.W.findIn K (.ref C) "what" = some none ∧ H a = some (exo a C none) ∧
  ∀ d, H d = none → d ≠ a → Q .non (upd (upd H d (exd d [("what", v)])) a (exo a C (some d)))
/-- an error's class and its __init__ -/
structure XM (P : Program) (w : World) (K : PySem.W.Frag) (mg : Str → Option Value) (base : Heap) (x : Str) (C : Addr) : Prop where
  gm : mg x = some (.ref C)
  c : XC K C
  init : ∃ (f : Addr) (fd : FuncData), PySem.W.findIn K (.ref C) "__init__" = some (some (.ref f)) ∧ PySem.W.typeIn K (.ref f) = some (.type "function") ∧ FnOk P w K mg base CX0 1 f fd ["self", "what"] (sp_init K) ∧ Binds K fd ["self", "what"] []
/-- what making such an error wants behind its argument -/
theorem made_what {K : PySem.W.Frag} {C : Addr} {v : V} {H : Hp} {Q : XK} (T : XC K C) (q : ∀ d, H d = none → Q (.ref C) (some d) (upd H d (.xd [("what", v)]))) :
    [v].length ≤ 1000 ∧ ∀ a, H a = none → sp_init K (.ref a :: ([v] ++ [])) (upd H a (exo a C none))
      (fun u H2 => u = .non ∧ ∃ (d : Addr) (fs : List (Str × V)), H2 a = some (exo a C (some d)) ∧ H2 d = some (exd d fs) ∧ H d = none ∧ Q (.ref C) (some d) (upd (del H2 a) d (.xd fs))) (fun _ _ _ => False) := by
  refine ⟨by show 1 ≤ 1000; decide, fun a na => ⟨a, C, v, rfl, T.oex, T.noW, upd_same, fun d nd nda => ⟨rfl, d, [("what", v)], upd_same, by rw [upd_ne nda, upd_same], by rw [upd_ne nda] at nd; exact nd, ?_⟩⟩⟩
  rw [upd_ne nda] at nd
  have e : upd (del (upd (upd (upd H a (exo a C none)) d (exd d [("what", v)])) a (exo a C (some d))) a) d (.xd [("what", v)]) = upd H d (.xd [("what", v)]) := by
    funext b
    by_cases hd : b = d
    · rw [hd, upd_same, upd_same]
    · rw [upd_ne hd, upd_ne hd]
      by_cases ha : b = a
      · rw [ha, del_same, na]
      · rw [del_ne ha, upd_ne ha, upd_ne hd, upd_ne ha]
  rw [e]
  exact q d nd
section
variable {X : Cx} {x : Str} {C : Addr} {e : Expr} {ta : TA} {p pos pos2 : Pos} {E : XK} {W : WX}
/-- raise X(e) -/
theorem ps_raiseW (hc : X.calm = true) (T : XM X.prog X.w X.K X.mg X.base x C) (hr : Room 2 X.A) (tk : Takes X W) (ha : PA X [e] ta) (hg : Gl X x := by rfl) (hdb : (x == ("__debug__" : Str)) = false := by decide)
    (he : starEach [e] X.env = (false, eval e X.env) :: starEach [] X.env := by rfl) (hpl : (backTo pos (starEach [] X.env)).any (·.1) = false := by rfl) :
    PS X (.Raise (some (.Call (.Name x p) [e] [] pos)) none pos2) (fun _ σ H => tMkO C (sp_init X.K) [] ta σ H fun cls d H' => W cls d σ H') := by
  obtain ⟨f, fd, hi, ht, F, b⟩ := T.init
  exact ps_raise hc tk (pmk_oex T.c.oex hi ht F hr b .nil pass0 hg T.gm ha hdb he hpl)
/-- isinstance(e, c), e the error that the suite holds -/
def rIsX (K : PySem.W.Frag) (a : Addr) (cls : Value) (d : Option Addr) : List V → Hp → VK → Prop := fun xs H Q => ∃ (D : Addr) (c : V) (cv : Value) (b : Bool) (dd : Addr) (fs : List (Str × V)),
  xs = [.ref a, c] ∧ cls = .ref D ∧ XC K D ∧ (∀ u, RelV c u → u = cv) ∧ PySem.W.kitOne K (.ref D) cv = some b ∧ d = some dd ∧ H dd = some (.xd fs) ∧ Q (.bl b) H
theorem call_isX {a : Addr} {oe : Obj} {cls : Value} {d : Option Addr} {pn : List (Addr × Obj)} (hz : Zc cls d oe) (hf : ∃ vs, oe.data = .fields vs) : CallR (X.suite a ((a, oe) :: pn)) (.builtin "isinstance") (rIsX X.K a cls d) := by
  intro pins s σ H xs us Q I r h
  obtain ⟨D, c, cv, b, dd, fs, rfl, rfl, T, hcv, hk, rfl, hx, q⟩ := h
  obtain ⟨u1, u2, rfl, r1, r2⟩ := vals2 r
  cases (show u1 = Value.ref a from r1)
  cases hcv _ r2
  obtain ⟨vs, hv⟩ := hf
  obtain ⟨ha, _⟩ := I.pin (a, oe) (List.mem_append_left _ List.mem_cons_self)
  have hxo : ObjOk X.prog X.w H s.heap dd (.xd fs) := I.hok dd _ hx
  obtain ⟨mA, hns, _⟩ := hxo
  obtain ⟨od, ho, _⟩ := lookIn_ns hns
  have J : PySem.W.InstAt s.heap a oe D (some od) := ⟨ha, hz.1, by unfold PySem.W.notCls; rw [hv] <;> rfl, by rw [hz.2]; exact ho⟩
  exact PySem.W.kia_one (PySem.W.kitx_exc T.hcl T.xf.ga T.xf.gg T.xf.exC T.ha T.hn T.ht T.hm) I.kIn J hk (fun z => nomatch z) fun tk => ⟨.bl b, H, I.kept (t' := tk) fun _ _ z => z, rfl, q⟩
/-- e.what, e the error that the suite holds -/
def tWhat (K : PySem.W.Frag) (a : Addr) (cls : Value) (d : Option Addr) (te : TE) : TE := fun σ H Q => te σ H fun x H1 => x = .ref a ∧ ∃ (D dd : Addr) (v : V), cls = .ref D ∧ XC K D ∧ d = some dd ∧ H1 dd = some (.xd [("what", v)]) ∧ Q v H1
theorem pe_what {a : Addr} {oe : Obj} {cls : Value} {d : Option Addr} {pn : List (Addr × Obj)} {te : TE} (hz : Zc cls d oe) (hf : ∃ vs, oe.data = .fields vs) (he : PE (X.suite a ((a, oe) :: pn)) e te)
    (hb : attributeBase e "what" X.env (eval e X.env) = eval e X.env := by rfl) : PE (X.suite a ((a, oe) :: pn)) (.Attribute e "what" pos) (tWhat X.K a cls d te) := by
  refine ⟨fun pins s σ H Q I h => ?_⟩
  refine attr_of hb (thn (he.run pins s σ H _ I h) fun u s1 z => ?_)
  obtain ⟨x, H1, I1, rx, rfl, D, dd, v, rfl, T, rfl, ea, q⟩ := z
  cases (show u = Value.ref a from rx)
  obtain ⟨ha, _⟩ := I1.pin (a, oe) (List.mem_append_left _ List.mem_cons_self)
  obtain ⟨vs, hd⟩ := hf
  have hx : ObjOk X.prog X.w H1 s1.heap dd (.xd [("what", v)]) := I1.hok dd _ ea
  obtain ⟨mA, hns, hr⟩ := hx
  obtain ⟨od, ho, hl⟩ := lookIn_ns hns
  obtain ⟨u, hu, ru⟩ := RelO.some_of (v := v) (o := mA "what") (by
    have := hr "what"
    simpa [List.lookup] using this)
  have J : PySem.W.InstAt s1.heap a oe D (some od) := ⟨ha, hz.1, by unfold PySem.W.notCls; rw [hd] <;> rfl, by rw [hz.2]; exact ho⟩
  exact HandSPX.exc_get I1.kIn J T.xf.ga T.xf.gg T.xf.exC (PySem.W.findObj_own T.xf.hdC T.noW rfl (by rw [hl, hu])) (handed_of ru) ⟨v, H1, I1.tok _, ru, q⟩
end
end Bw

set_option maxHeartbeats 1000000
namespace Bw
open PySem PySem.Spec PyProof.Rows L2
/-! ### a class of the program, made by its __init__ -/
structure CalC (P : Program) (w : World) (K : PySem.W.Frag) (mg : Str → Option Value) (base : Heap) (k : Nat) (x : Str) (C : Addr) (ps : List Str) (sp : Sp) : Prop where
  ex : ∃ (f : Addr) (fd : FuncData), Mk K C f ∧ FnOk P w K mg base CX0 k f fd ps sp ∧ mg x = some (.ref C) ∧ Binds K fd ps []
section
variable {X : Cx} {CX : CXT} {k : Nat} {x f : Str} {C : Addr} {ps ks : List Str} {st : Stmt} {sp : Sp} {E : XK} {p pos : Pos} {e : Expr} {es : List Expr} {kws : List Keyword} {t tk : TA} {ta : TE} {W : WX}
theorem pe_mk (c : CalC X.prog X.w X.K X.mg X.base k x C ps sp) (hr : Room (k + 1) X.A) (ha : PA X (e :: es) t) (hg : Gl X x := by rfl) (hdb : (x == ("__debug__" : Str)) = false := by decide)
    (he : starEach (e :: es) X.env = (false, eval e X.env) :: starEach es X.env := by rfl) (hpl : (backTo pos (starEach es X.env)).any (·.1) = false := by rfl) : PE X (.Call (.Name x p) (e :: es) [] pos) (tMake C sp [] E0 t) := by
  obtain ⟨f, fd, M, F, hm, hb⟩ := c.ex
  exact pe_make M F hr hg hm hb .nil pass0 ha hdb he hpl
/-- o.f, the written part told -/
theorem peF (K : PySem.W.Frag) (he : PE X e ta) (h : X.K = K := by rfl) (hb : attributeBase e f X.env (eval e X.env) = eval e X.env := by rfl) : PE X (.Attribute e f pos) (tFld K ta f) := h ▸ pe_fld he hb
/-- in a try's body: a call that may raise -/
theorem pe_calS (c : Cal X.prog X.w X.K X.mg X.base (L2.CX X.prog X.w) k x ps st sp) (hr : Room k X.A) (tk : Takes X W) (ha : PA X (e :: es) t) (hg : Gl X x := by rfl) (hdb : (x == ("__debug__" : Str)) = false := by decide)
    (he : starEach (e :: es) X.env = (false, eval e X.env) :: starEach es X.env := by rfl) (hpl : (backTo pos (starEach es X.env)).any (·.1) = false := by rfl) : PE X (.Call (.Name x p) (e :: es) [] pos) (tCallS sp (WE W) t) := by
  obtain ⟨f, fd, G, F, hm, hb⟩ := c.ex
  exact pe_callS G hr hg hm F.kp hb (fun σ => passAt tk σ) ha hdb he hpl
def tCallKS (sp : Sp) (gV : List V → List V → List V) (E : L2.St → XK) (tk : TA) : TE := fun σ H Q => tk σ H fun zs H2 => sp (gV [] zs) H2 Q (E σ)
theorem pe_calKS0 {g : List Value → List Value → List Value} {gV : List V → List V → List V} (c : Cal X.prog X.w X.K X.mg X.base (L2.CX X.prog X.w) k x ps st sp) (B : KwB x st ps ks g gV) (hr : Room k X.A) (tkW : Takes X W) (hkw : PK X kws tk) (hg : Gl X x := by rfl)
    (hall : (backToKw pos (keywordEach kws X.env)).all (·.1.isSome) = true := by rfl) (hks : (backToKw pos (keywordEach kws X.env)).filterMap (·.1) = ks := by rfl)
    (hdb : (x == ("__debug__" : Str)) = false := by decide)
    (hpl : ((backTo pos (starEach [] X.env)).any (·.1) || (backToKw pos (keywordEach kws X.env)).any (·.1.isNone)) = false := by rfl) :
    PE X (.Call (.Name x p) [] kws pos) (tCallKS sp gV (WE W) tk) := by
  obtain ⟨f, fd, G, F, hm, hb⟩ := c.ex
  refine ⟨fun pins s σ H Q I h => ?_⟩
  refine wpAny_Call_Name_kw (ld_glob I hg hm ?_ hdb)
  refine PySem.W.callWith_KW0 (h₀ := X.base) I.ok.mod.kin F.kp hall (thn (hkw.run pos pins s σ H _ I h) fun ws s2 z => ?_) hpl
  obtain ⟨zs, H2, I2, rz, q2⟩ := z
  refine ⟨I2.kIn, ?_⟩
  rw [hks]
  have kb := B.binds F
  have r2 := kb.rel (vs := []) (us := []) .nil rz
  have hl : (g [] ws).length = ps.length := by rw [← r2.length]; exact G.len _ _ _ _ q2
  refine wpAny_call (codeAny_mono (G.run X.A X.stack s2 H2 ⟨[], ks.zip ws⟩ (g [] ws) (gV [] zs) Q (WE W σ) hr I2.env0 (kb.to s2 [] ws I2.kIn hl) r2 q2) fun r' s' hq => ?_)
  match r', hq with
  | .error e, hq => exact passAt tkW σ pins H2 s2 e s' I2 hq
  | .ok (.ret u), hq => exact I2.after hq
  | .ok .next, hq => exact False.elim hq
  | .ok .brk, hq => exact False.elim hq
  | .ok .cont, hq => exact False.elim hq
theorem isX (K : PySem.W.Frag) {a : Addr} {oe : Obj} {cls : Value} {d : Option Addr} {pn : List (Addr × Obj)} (hz : Zc cls d oe) (hf : ∃ vs, oe.data = .fields vs) (h : X.K = K := by rfl) : CallR (X.suite a ((a, oe) :: pn)) (.builtin "isinstance") (rIsX K a cls d) := h ▸ call_isX hz hf
theorem whatX (K : PySem.W.Frag) {a : Addr} {oe : Obj} {cls : Value} {d : Option Addr} {pn : List (Addr × Obj)} {te : TE} (hz : Zc cls d oe) (hf : ∃ vs, oe.data = .fields vs) (he : PE (X.suite a ((a, oe) :: pn)) e te) (h : X.K = K := by rfl)
    (hb : attributeBase e "what" X.env (eval e X.env) = eval e X.env := by rfl) : PE (X.suite a ((a, oe) :: pn)) (.Attribute e "what" pos) (tWhat K a cls d te) := h ▸ pe_what hz hf he hb
def rReprD (K : PySem.W.Frag) : List V → Hp → VK → Prop := fun xs H Q => ∃ a d, xs = [.ref a] ∧ Dp K H (.ref a) d ∧ d.showable = true ∧ d.hasDict = false ∧ d.depth < 64 ∧ d.shown.length ≤ sizeLine ∧ Q (.str d.shown) H
theorem reprD (K : PySem.W.Frag) (hG : X.A.guards = some []) {j : Nat} (hr : Room j X.A) (h : X.K = K := by rfl) : CallR X (.builtin "repr") (rReprD K) := h ▸ call_reprD hG (by have := hr.un; omega)
end
/-! ### tuples of tuples of ints -/
def rowD (r : List Int) : PyData := .tuple (r.map .int)
def TT (K : PySem.W.Frag) (H : Hp) (a : Addr) (rows : List (List Int)) : Prop := Dp K H (.ref a) (.tuple (rows.map rowD))
theorem dpAll_int {K : PySem.W.Frag} {H : Hp} : ∀ {vs : List V} {ns : List Int}, DpAll K H vs (ns.map PyData.int) → vs = ns.map V.int
  | [], [], _ => rfl
  | [], _ :: _, h => by cases h
  | _ :: _, [], h => by cases h
  | v :: vs, n :: ns, h => by
    cases h with
    | cons a b =>
      cases a
      rw [dpAll_int b]
      rfl
theorem dp_row {K : PySem.W.Frag} {H : Hp} {v : V} {r : List Int} (h : Dp K H v (rowD r)) : ∃ b, v = .ref b ∧ SqT K H b (r.map V.int) := by
  cases h with
  | tup hs ha =>
    cases dpAll_int ha
    exact ⟨_, rfl, hs⟩
theorem row_dp {K : PySem.W.Frag} {H : Hp} {b : Addr} {r : List Int} (h : SqT K H b (r.map V.int)) : Dp K H (.ref b) (rowD r) := dpT h
theorem dpAll_get {K : PySem.W.Frag} {H : Hp} : ∀ {vs : List V} {ds : List PyData}, DpAll K H vs ds → ∀ {i : Nat} {d : PyData}, ds[i]? = some d → ∃ v, vs[i]? = some v ∧ Dp K H v d
  | [], [], _, i, d, h => by simp at h
  | [], _ :: _, h, _, _, _ => by cases h
  | _ :: _, [], h, _, _, _ => by cases h
  | v :: vs, e :: ds, h, i, d, hi => by
    cases h with
    | cons a b =>
      cases i with
      | zero => cases Option.some.inj hi; exact ⟨v, rfl, a⟩
      | succ i => exact dpAll_get b (i := i) hi
theorem dpAll_len {K : PySem.W.Frag} {H : Hp} : ∀ {vs : List V} {ds : List PyData}, DpAll K H vs ds → vs.length = ds.length
  | [], [], _ => rfl
  | [], _ :: _, h => by cases h
  | _ :: _, [], h => by cases h
  | v :: vs, e :: ds, h => by
    cases h with
    | cons a b => rw [List.length_cons, List.length_cons, dpAll_len b]
theorem dpAll_app {K : PySem.W.Frag} {H : Hp} : ∀ {vs ws : List V} {ds es : List PyData}, DpAll K H vs ds → DpAll K H ws es → DpAll K H (vs ++ ws) (ds ++ es)
  | [], _, [], _, _, h => h
  | [], _, _ :: _, _, h, _ => by cases h
  | _ :: _, _, [], _, h, _ => by cases h
  | _ :: vs, _, _ :: ds, _, h, k => by
    cases h with
    | cons a b => exact .cons a (dpAll_app b k)
theorem TT.seq {K : PySem.W.Frag} {H : Hp} {a : Addr} {rows : List (List Int)} (h : TT K H a rows) : ∃ vs, SqT K H a vs ∧ vs.length = rows.length ∧ ∀ (i : Nat) (r : List Int), rows[i]? = some r → ∃ b, vs[i]? = some (.ref b) ∧ SqT K H b (r.map V.int) := by
  cases h with
  | tup hs ha =>
    refine ⟨_, hs, by rw [dpAll_len ha, List.length_map], fun i r hr => ?_⟩
    obtain ⟨v, hv, hd⟩ := dpAll_get ha (i := i) (d := rowD r) (by rw [List.getElem?_map, hr]; rfl)
    obtain ⟨b, rfl, hb⟩ := dp_row hd
    exact ⟨b, hv, hb⟩
theorem TT.same {K : PySem.W.Frag} {H H1 : Hp} {a : Addr} {rows : List (List Int)} (e : Same H H1) (h : TT K H a rows) : TT K H1 a rows := dp_same e _ _ h
end Bw

set_option maxHeartbeats 1000000
namespace Bw
open PySem PySem.Spec PyProof.Rows L2
section
variable {X : Cx}
theorem allL (K : PySem.W.Frag) (hc : X.calm = true) (h : X.K = K := by rfl) : CallR X (.builtin "all") (rAll K) := h ▸ cr_all hc
end
/-! ### a list of what an expression that only reads gives, over any walk; what is new in the heap may stay -/
/-- te gives at σ a value that stands for u, and leaves what stood -/
def Rd (te : TE) (σ : L2.St) (H0 : Hp) (P : V → Hp → Prop) : Prop := ∀ (H : Hp) (Q : VK), Same H0 H → (∀ v H', Same H H' → P v H' → Q v H') → te σ H Q
theorem lc_rd {J : It} {n j : Nat} {G : Hp → Prop} {Y : Nat → Hp → V → Hp → Prop} (u : Nat → V) (w : Walk J n G Y) (hY : ∀ i H x H', Y i H x H' → i < n → H' = H ∧ x = u i) {vs : List Nat} {σ : L2.St} {H1 : Hp} {D : Addr} {te : TE} {Qd : Hp → Prop} (P : Nat → V → Hp → Prop)
    (hD : H1 D = none) (hn : n < 100000) (hw : ∀ x, wipe ((wipe σ vs).set j (some x)) vs = wipe σ vs) (hG : ∀ H', Same H1 H' → G H')
    (hP : ∀ i v H H', Same H H' → P i v H → P i v H')
    (hd : ∀ i : Nat, i < n → Rd te ((wipe σ vs).set j (some (u i))) H1 (P i))
    (fin : ∀ (xs : List V) H', xs.length = n → H' D = some (.lst xs) → Same H1 H' → (∀ i v, xs[i]? = some v → P i v H') → Qd H') (hPm : ∀ i v H (x : List V) y, P i v H → H D = some (.lst x) → P i v (upd H D y)) :
    ∃ W : Nat → Nat → Hp → Prop, (∃ m, W 0 m (upd H1 D (.lst []))) ∧ ∀ i m H, W i m H →
      (J.stop i H ∧ Qd H) ∨ (J.go i H ∧ ∃ Nx : Hp → Prop, (∀ H', Nx H' → ∃ m', m' < m ∧ W (i + 1) m' H') ∧ ∀ x H', J.yld i H x H' → gName j x (wipe σ vs) H' fun σ2 H2 => wipe σ2 vs = wipe σ vs ∧ tYes σ2 H2 fun b H3 =>
        if b = true then te σ2 H3 fun y H4 => ∃ acc, H4 D = some (.lst acc) ∧ acc.length < sizeLine ∧ Nx (upd H4 D (.lst (acc ++ [y]))) else Nx H3) := by
  refine lc_it w (fun i H' => ∃ xs : List V, xs.length = i ∧ H' D = some (.lst xs) ∧ Same H1 H' ∧ ∀ k v, xs[k]? = some v → P k v H') ⟨[], rfl, upd_same, Same.new hD, fun k v e => by simp at e⟩ (fun i H' _ h => hG _ (by obtain ⟨_, _, _, s, _⟩ := h; exact s)) (fun i x H2 H3 hi h y => ?_) (fun H' h => ?_)
  · obtain ⟨xs, h1, h2, h3, h4⟩ := h
    obtain ⟨rfl, rfl⟩ := hY i H2 x H3 y hi
    refine ⟨hw _, ?_⟩
    refine tYes_i ?_
    refine iteT ?_
    refine hd i hi H3 _ h3 fun v H4 s4 p4 => ⟨xs, s4 _ _ h2, smallLt (by omega), xs ++ [v], by rw [List.length_append, h1]; rfl, upd_same, (h3.trans s4).mut hD, fun k v' e => ?_⟩
    rcases Nat.lt_trichotomy k xs.length with hk | hk | hk
    · rw [List.getElem?_append_left hk] at e
      exact hPm _ _ _ _ _ (hP _ _ _ _ s4 (h4 k v' e)) (s4 _ _ h2)
    · subst hk
      rw [List.getElem?_append_right (Nat.le_refl _), Nat.sub_self] at e
      cases Option.some.inj e
      rw [h1]
      exact hPm _ _ _ _ _ p4 (s4 _ _ h2)
    · rw [List.getElem?_eq_none (by rw [List.length_append]; show xs.length + 1 ≤ k; omega)] at e
      cases e
  · obtain ⟨xs, h1, h2, h3, h4⟩ := h
    exact fin xs H' h1 h2 h3 h4
/-! ### tables -/
theorem TT.of {K : PySem.W.Frag} {H : Hp} {a : Addr} {vs : List V} {rows : List (List Int)} (h : SqT K H a vs) (hl : vs.length = rows.length) (hr : ∀ (i : Nat) (v : V) (r : List Int), vs[i]? = some v → rows[i]? = some r → ∃ b, v = .ref b ∧ SqT K H b (r.map V.int)) : TT K H a rows := by
  refine .tup h ?_
  clear h
  induction vs generalizing rows with
  | nil =>
    cases rows with
    | nil => exact .nil
    | cons r rs => cases hl
  | cons v vs ih =>
    cases rows with
    | nil => cases hl
    | cons r rs =>
      obtain ⟨b, rfl, hb⟩ := hr 0 v r rfl rfl
      exact .cons (row_dp hb) (ih (by simpa using hl) fun i v r e1 e2 => hr (i + 1) v r e1 e2)
/-- a table at t, of the class C -/
def TB (K : PySem.W.Frag) (C : Addr) (H : Hp) (t : Addr) (rows : List (List Int)) : Prop := ∃ dx r, H t = some (.ins C dx [("many", .int (rows.length : Nat)), ("beside", .ref r)]) ∧ TT K H r rows
theorem TB.same {K : PySem.W.Frag} {C t : Addr} {H H1 : Hp} {rows : List (List Int)} (e : Same H H1) (h : TB K C H t rows) : TB K C H1 t rows := by
  obtain ⟨dx, r, h1, h2⟩ := h
  exact ⟨dx, r, e _ _ h1, h2.same e⟩
end Bw
namespace Bw
open PySem PySem.Spec PyProof.Rows L2
/-! ### data that may be shown -/
structure Sh (b k : Nat) (d : PyData) : Prop where
  sh : d.showable = true
  nod : d.hasDict = false
  lv : d.leavesShort 64 = true
  dp : d.depth ≤ k
  bk : d.bulk ≤ b
theorem int_shown {n : Int} (h : n.natAbs < 2 ^ 60) : (PyData.shown (.int n)).length ≤ 64 := by
  have e := nat_repr_length_le (n := n.natAbs) (k := 60) (by decide) h
  show (Str.ofString (toString n)).length ≤ 64
  have : (Str.ofString (toString n)).length = (toString n).length := PySem.ofString_length _
  rw [this]
  cases n with
  | ofNat m =>
    have e2 : (Nat.repr m).length ≤ 60 := e
    show (Nat.repr m).length ≤ 64
    omega
  | negSucc m =>
    have e2 : (Nat.repr (m + 1)).length ≤ 60 := e
    show ("-" ++ Nat.repr (m + 1)).length ≤ 64
    rw [String.length_append]
    show 1 + _ ≤ 64
    omega
theorem Sh.int {n : Int} (h : n.natAbs < 2 ^ 60) : Sh 0 0 (.int n) := by
  refine ⟨?_, rfl, ?_, Nat.le_of_eq rfl, Nat.le_of_eq rfl⟩
  · have : n.natAbs.log2 < 1920 := by
      rcases Nat.eq_zero_or_pos n.natAbs with z | z
      · rw [z]; decide
      · have := (Nat.log2_lt (k := 60) (Nat.pos_iff_ne_zero.mp z)).mpr h
        omega
    simp [PyData.showable, this]
  · simp only [PyData.leavesShort, decide_eq_true_eq]
    exact int_shown h
theorem Sh.non : Sh 0 0 .none := ⟨rfl, rfl, rfl, Nat.le_of_eq rfl, Nat.le_of_eq rfl⟩
theorem Sh.bl (b : Bool) : Sh 0 0 (.bool b) := ⟨rfl, rfl, rfl, Nat.le_of_eq rfl, Nat.le_of_eq rfl⟩
theorem Sh.le {b k b' k' : Nat} {d : PyData} (h : Sh b k d) (hb : b ≤ b') (hk : k ≤ k') : Sh b' k' d := ⟨h.sh, h.nod, h.lv, Nat.le_trans h.dp hk, Nat.le_trans h.bk hb⟩
theorem shAll_of {b k : Nat} : ∀ ds : List PyData, (∀ d ∈ ds, Sh b k d) → PyData.showableAll ds = true ∧ PyData.hasDictAll ds = false ∧ PyData.leavesShortAll 64 ds = true ∧ PyData.depthAll ds ≤ k ∧ PyData.bulkAll ds ≤ ds.length * (b + 1)
  | [], _ => ⟨rfl, rfl, rfl, Nat.zero_le _, Nat.zero_le _⟩
  | d :: ds, h => by
    have h1 := h d List.mem_cons_self
    obtain ⟨i1, i2, i3, i4, i5⟩ := shAll_of ds fun x hx => h x (List.mem_cons_of_mem _ hx)
    have g4 := h1.dp
    have g5 := h1.bk
    refine ⟨by rw [PyData.showableAll, h1.sh, i1]; rfl, by rw [PyData.hasDictAll, h1.nod, i2]; rfl, by rw [PyData.leavesShortAll, h1.lv, i3]; rfl, by rw [PyData.depthAll]; omega, ?_⟩
    rw [PyData.bulkAll, List.length_cons, Nat.add_mul, Nat.one_mul]
    omega
theorem Sh.tup {b k m : Nat} {ds : List PyData} (h : ∀ d ∈ ds, Sh b k d) (hm : ds.length ≤ m) : Sh (m * (b + 1)) (k + 1) (.tuple ds) := by
  obtain ⟨i1, i2, i3, i4, i5⟩ := shAll_of ds h
  refine ⟨by rw [PyData.showable]; exact i1, by rw [PyData.hasDict]; exact i2, by rw [PyData.leavesShort]; exact i3, by rw [PyData.depth]; omega, ?_⟩
  rw [PyData.bulk]
  exact Nat.le_trans i5 (Nat.mul_le_mul_right _ hm)
theorem Sh.lst {b k m : Nat} {ds : List PyData} (h : ∀ d ∈ ds, Sh b k d) (hm : ds.length ≤ m) : Sh (m * (b + 1)) (k + 1) (.list ds) := by
  obtain ⟨i1, i2, i3, i4, i5⟩ := shAll_of ds h
  refine ⟨by rw [PyData.showable]; exact i1, by rw [PyData.hasDict]; exact i2, by rw [PyData.leavesShort]; exact i3, by rw [PyData.depth]; omega, ?_⟩
  rw [PyData.bulk]
  exact Nat.le_trans i5 (Nat.mul_le_mul_right _ hm)
theorem Sh.pair {b k : Nat} {x y : PyData} (hx : Sh b k x) (hy : Sh b k y) : Sh (2 * (b + 1)) (k + 1) (.tuple [x, y]) := Sh.tup (fun d hd => by
  rcases List.mem_cons.mp hd with e | e
  · rw [e]; exact hx
  · rw [List.mem_singleton.mp e]; exact hy) (Nat.le_refl _)
theorem Sh.row {r : List Int} {m : Nat} (h : ∀ c ∈ r, c.natAbs < 2 ^ 60) (hm : r.length ≤ m) : Sh m 1 (rowD r) := by
  have := Sh.tup (b := 0) (k := 0) (m := m) (ds := r.map PyData.int) (fun d hd => by
    obtain ⟨c, hc, rfl⟩ := List.mem_map.mp hd
    exact Sh.int (h c hc)) (by rw [List.length_map]; exact hm)
  rw [Nat.zero_add, Nat.mul_one] at this
  exact this
theorem Sh.rows {rows : List (List Int)} {m n : Nat} (h : ∀ r ∈ rows, r.length ≤ m ∧ ∀ c ∈ r, c.natAbs < 2 ^ 60) (hn : rows.length ≤ n) : Sh (n * (m + 1)) 2 (.tuple (rows.map rowD)) :=
  Sh.tup (fun d hd => by
    obtain ⟨r, hr, rfl⟩ := List.mem_map.mp hd
    exact Sh.row (h r hr).2 (h r hr).1) (by rw [List.length_map]; exact hn)
theorem Sh.fits {b k : Nat} {d : PyData} (h : Sh b k d) (hb : b ≤ 200000) : d.shown.length ≤ sizeLine := by
  have e := PyData.shown_le_bulk 64 (by decide) d h.lv
  have := h.bk
  rw [sizeLine_eq]
  omega
theorem Sh.rep {K : PySem.W.Frag} {b k : Nat} {d : PyData} {H : Hp} {a : Addr} {Q : VK} (h : Sh b k d) (hb : b ≤ 200000) (hk : k < 64) (hd : Dp K H (.ref a) d) (q : Q (.str d.shown) H) : rReprD K [.ref a] H Q :=
  ⟨a, d, rfl, hd, h.sh, h.nod, Nat.lt_of_le_of_lt h.dp hk, h.fits hb, q⟩
end Bw

set_option maxHeartbeats 1000000
namespace Bw
open PySem PySem.Spec PyProof.Rows L2
/-! ### comprehensions with two for -/
section
variable {J : It} {n : Nat} {G : Hp → Prop} {Y : Nat → Hp → V → Hp → Prop}
theorem lc2_it (w : Walk J n G Y) {g : TG} {tt : L2.TT} {wi1 : TI} {g1 : TG} {tt1 : L2.TT} {te : TE} {vs vs1 : List Nat} {σ : L2.St} {H1 : Hp} {D : Addr} {Qd : Hp → Prop} (Pv : Nat → Hp → Prop) (h0 : Pv 0 (upd H1 D (.lst []))) (hG : ∀ i H, i ≤ n → Pv i H → G H)
    (hs : ∀ i x H H', i < n → Pv i H → Y i H x H' → g x (wipe σ vs) H' fun σ2 H2 => wipe σ2 vs = wipe σ vs ∧ tt σ2 H2 fun b H3 =>
      if b = true then wi1 σ2 H3 fun J1 H4 => ∃ W1 : Nat → Nat → Hp → Prop, (∃ m, W1 0 m H4) ∧ ∀ j k H, W1 j k H →
        (J1.stop j H ∧ Pv (i + 1) H) ∨ (J1.go j H ∧ ∃ Nx1 : Hp → Prop, (∀ H', Nx1 H' → ∃ k', k' < k ∧ W1 (j + 1) k' H') ∧ ∀ x H', J1.yld j H x H' → g1 x (wipe σ2 vs1) H' fun σ3 H5 => wipe σ3 vs1 = wipe σ2 vs1 ∧ tt1 σ3 H5 fun b H6 =>
          if b = true then te σ3 H6 fun y H7 => ∃ acc, H7 D = some (.lst acc) ∧ acc.length < sizeLine ∧ Nx1 (upd H7 D (.lst (acc ++ [y]))) else Nx1 H6) else Pv (i + 1) H3) (hd : ∀ H, Pv n H → Qd H) :
    ∃ W : Nat → Nat → Hp → Prop, (∃ m, W 0 m (upd H1 D (.lst []))) ∧ ∀ i m H, W i m H →
      (J.stop i H ∧ Qd H) ∨ (J.go i H ∧ ∃ Nx : Hp → Prop, (∀ H', Nx H' → ∃ m', m' < m ∧ W (i + 1) m' H') ∧ ∀ x H', J.yld i H x H' → g x (wipe σ vs) H' fun σ2 H2 => wipe σ2 vs = wipe σ vs ∧ tt σ2 H2 fun b H3 =>
        if b = true then wi1 σ2 H3 fun J1 H4 => ∃ W1 : Nat → Nat → Hp → Prop, (∃ m, W1 0 m H4) ∧ ∀ j k H, W1 j k H →
          (J1.stop j H ∧ Nx H) ∨ (J1.go j H ∧ ∃ Nx1 : Hp → Prop, (∀ H', Nx1 H' → ∃ k', k' < k ∧ W1 (j + 1) k' H') ∧ ∀ x H', J1.yld j H x H' → g1 x (wipe σ2 vs1) H' fun σ3 H5 => wipe σ3 vs1 = wipe σ2 vs1 ∧ tt1 σ3 H5 fun b H6 =>
            if b = true then te σ3 H6 fun y H7 => ∃ acc, H7 D = some (.lst acc) ∧ acc.length < sizeLine ∧ Nx1 (upd H7 D (.lst (acc ++ [y]))) else Nx1 H6) else Nx H3) := by
  refine ⟨fun i m H => m = n - i ∧ i ≤ n ∧ Pv i H, ⟨n, by simp, Nat.zero_le _, h0⟩, ?_⟩
  rintro i m H ⟨rfl, hi, p⟩
  have q := hG i H hi p
  by_cases hlt : i < n
  · exact .inr ⟨w.goes i H hlt q, Pv (i + 1), fun H' p' => ⟨n - (i + 1), by omega, rfl, hlt, p'⟩, fun x H' y => hs i x H H' hlt p (w.yields i H x H' hlt q y)⟩
  · have e : i = n := by omega
    subst e
    exact .inl ⟨w.stops H q, hd H p⟩
/-- the inner for -/
theorem lc2_in (w : Walk J n G Y) {g : TG} {tt : L2.TT} {te : TE} {vs : List Nat} {σ : L2.St} {H1 : Hp} {D : Addr} {Qd : Hp → Prop} (Pv : Nat → Hp → Prop) (h0 : Pv 0 H1) (hG : ∀ i H, i ≤ n → Pv i H → G H)
    (hs : ∀ i x H H', i < n → Pv i H → Y i H x H' → g x (wipe σ vs) H' fun σ2 H2 => wipe σ2 vs = wipe σ vs ∧ tt σ2 H2 fun b H3 =>
      if b = true then te σ2 H3 fun y H4 => ∃ acc, H4 D = some (.lst acc) ∧ acc.length < sizeLine ∧ Pv (i + 1) (upd H4 D (.lst (acc ++ [y]))) else Pv (i + 1) H3) (hd : ∀ H, Pv n H → Qd H) :
    ∃ W : Nat → Nat → Hp → Prop, (∃ m, W 0 m H1) ∧ ∀ i m H, W i m H →
      (J.stop i H ∧ Qd H) ∨ (J.go i H ∧ ∃ Nx : Hp → Prop, (∀ H', Nx H' → ∃ m', m' < m ∧ W (i + 1) m' H') ∧ ∀ x H', J.yld i H x H' → g x (wipe σ vs) H' fun σ2 H2 => wipe σ2 vs = wipe σ vs ∧ tt σ2 H2 fun b H3 =>
        if b = true then te σ2 H3 fun y H4 => ∃ acc, H4 D = some (.lst acc) ∧ acc.length < sizeLine ∧ Nx (upd H4 D (.lst (acc ++ [y]))) else Nx H3) := by
  refine ⟨fun i m H => m = n - i ∧ i ≤ n ∧ Pv i H, ⟨n, by simp, Nat.zero_le _, h0⟩, ?_⟩
  rintro i m H ⟨rfl, hi, p⟩
  have q := hG i H hi p
  by_cases hlt : i < n
  · exact .inr ⟨w.goes i H hlt q, Pv (i + 1), fun H' p' => ⟨n - (i + 1), by omega, rfl, hlt, p'⟩, fun x H' y => hs i x H H' hlt p (w.yields i H x H' hlt q y)⟩
  · have e : i = n := by omega
    subst e
    exact .inl ⟨w.stops H q, hd H p⟩
end
theorem yInt {ns : List Int} : ∀ (i : Nat) (H : Hp) (x : V) (H' : Hp), YAt (ns.map V.int) i H x H' → i < (ns.map V.int).length → H' = H ∧ x = V.int (ns.getD i 0) := by
  rintro i H x H' ⟨h1, h2⟩ hi
  obtain ⟨hi2, rfl⟩ := num_map i ns x h2
  exact ⟨h1, by rw [List.getD_eq_getElem?_getD, List.getElem?_eq_getElem hi2]; rfl⟩
theorem getD_in {ns : List Int} {i : Nat} (h : i < ns.length) : ns.getD i 0 ∈ ns := by
  rw [List.getD_eq_getElem?_getD, List.getElem?_eq_getElem h]
  exact List.getElem_mem h
theorem ints_of {f : Nat → Int} : ∀ {xs : List V} (k : Nat), (∀ (i : Nat) (v : V), xs[i]? = some v → v = .int (f (k + i))) → xs = ((List.range' k xs.length).map f).map V.int
  | [], _, _ => rfl
  | x :: xs, k, h => by
    rw [List.length_cons, List.range'_succ, List.map_cons, List.map_cons, ← ints_of (xs := xs) (k + 1) fun i v e => by rw [show k + 1 + i = k + (i + 1) by omega]; exact h (i + 1) v e, h 0 x rfl]
    rfl
theorem map_getD {α : Type} {ns : List Int} (g : Int → α) : (List.range' 0 ns.length).map (fun i => g (ns.getD i 0)) = ns.map g := by
  refine List.ext_getElem (by simp) fun i h1 h2 => ?_
  simp at h1
  simp [List.getElem_range', h1]
/-- [g(c) for c in the tuple of ints at b] -/
theorem lc_mapI {K : PySem.W.Frag} {b D : Addr} {ns : List Int} {j : Nat} {vs : List Nat} {σ : L2.St} {H1 : Hp} {te : TE} {Qd : Hp → Prop} (g : Int → Int) (hb : SqT K H1 b (ns.map V.int)) (hD : H1 D = none) (hn : ns.length < 100000) (hw : ∀ x, wipe ((wipe σ vs).set j (some x)) vs = wipe σ vs)
    (hd : ∀ c ∈ ns, Rd te ((wipe σ vs).set j (some (.int c))) H1 fun v _ => v = .int (g c)) (fin : ∀ H', H' D = some (.lst ((ns.map g).map V.int)) → Same H1 H' → Qd H') :
    ∃ W : Nat → Nat → Hp → Prop, (∃ m, W 0 m (upd H1 D (.lst []))) ∧ ∀ i m H, W i m H →
      ((Itt K b).stop i H ∧ Qd H) ∨ ((Itt K b).go i H ∧ ∃ Nx : Hp → Prop, (∀ H', Nx H' → ∃ m', m' < m ∧ W (i + 1) m' H') ∧ ∀ x H', (Itt K b).yld i H x H' → gName j x (wipe σ vs) H' fun σ2 H2 => wipe σ2 vs = wipe σ vs ∧ tYes σ2 H2 fun b H3 =>
        if b = true then te σ2 H3 fun y H4 => ∃ acc, H4 D = some (.lst acc) ∧ acc.length < sizeLine ∧ Nx (upd H4 D (.lst (acc ++ [y]))) else Nx H3) := by
  refine lc_rd (fun k => .int (ns.getD k 0)) walk_tup yInt (fun i v _ => v = .int (g (ns.getD i 0))) hD (by rw [List.length_map]; exact hn) hw (fun H' s => s.tup hb) (fun _ _ _ _ _ h => h) (fun i hi => hd _ (getD_in (by rw [List.length_map] at hi; exact hi))) (fun xs H' hl hD' s hv => fin H' ?_ s) (fun _ _ _ _ _ h _ => h)
  rw [hD', ints_of (xs := xs) (f := fun i => g (ns.getD i 0)) 0 fun i v e => by rw [Nat.zero_add]; exact hv i v e, hl, List.length_map, map_getD g]
/-! ### rows of ints in the heap -/
def Rws (K : PySem.W.Frag) (H : Hp) (vs : List V) (rows : List (List Int)) : Prop := DpAll K H vs (rows.map rowD)
section
variable {K : PySem.W.Frag} {H H1 : Hp} {vs : List V} {rows : List (List Int)} {a b : Addr} {r : List Int}
theorem Rws.nil : Rws K H [] [] := DpAll.nil
theorem Rws.snoc (h : Rws K H vs rows) (hb : SqT K H b (r.map V.int)) : Rws K H (vs ++ [.ref b]) (rows ++ [r]) := by
  unfold Rws
  rw [List.map_append]
  exact dpAll_app h (.cons (row_dp hb) .nil)
theorem Rws.same (e : Same H H1) (h : Rws K H vs rows) : Rws K H1 vs rows := dp_sameAll e _ _ h
theorem Rws.len (h : Rws K H vs rows) : vs.length = rows.length := by
  have := dpAll_len h
  rw [List.length_map] at this
  exact this
theorem Rws.upd {D : Addr} {ys : List V} {o : HO} (hD : H D = some (.lst ys)) : ∀ {vs : List V} {rows : List (List Int)}, Rws K H vs rows → Rws K (L2.upd H D o) vs rows
  | [], [], _ => DpAll.nil
  | [], _ :: _, h => by cases h
  | _ :: _, [], h => by cases h
  | v :: vs, r :: rows, h => by
    cases h with
    | cons x y =>
      obtain ⟨b, rfl, hb⟩ := dp_row x
      exact DpAll.cons (row_dp (tup_upd hb hD)) (Rws.upd hD y)
theorem Rws.tt (h : Rws K H vs rows) (ha : SqT K H a vs) : TT K H a rows := .tup ha h
end
end Bw
namespace Bw
open PySem PySem.Spec PyProof.Rows L2
/-- repr of a whole number or of None -/
theorem reprS {X : Cx} : CallR X (.builtin "repr") (fun xs H Q => ∃ v, xs = [v] ∧ ((v = .non ∧ Q (.str "None") H) ∨ ∃ i : Int, v = .int i ∧ i.natAbs.log2 < 1920 ∧ Q (.str (toString i)) H)) := by
  intro pins s σ H xs us Q I r h
  obtain ⟨v, rfl, h⟩ := h
  obtain ⟨u, rfl, ru⟩ := vals1 r
  rcases h with ⟨rfl, q⟩ | ⟨i, rfl, hi, q⟩
  · cases (show u = Value.none from ru)
    exact PySem.P.repr_of_none ⟨.str "None", H, I.tok _, ⟨_, rfl⟩, q⟩
  · obtain ⟨t, rfl⟩ := ru
    exact PySem.P.repr_of_int hi ⟨.str (toString i), H, I.tok _, ⟨_, rfl⟩, q⟩
end Bw

set_option maxHeartbeats 2000000
namespace K
open PySem PySem.Spec PyProof.Rows L2 Bw
open PySem.W (Tup Datum)
/-! ### tables, plainly -/
def okAt (ns : List Int) (m : Int) (i : Nat) : Prop := ∀ c, ns[i]? = some c → (0 ≤ c ∧ c < m) ∧ ∀ d, 0 < i → ns[i - 1]? = some d → d < c
def rowOf (rows : List (List Int)) (p : Nat) : List Int := rows.getD p []
/-- what made_table asks of rows -/
structure GoodT (rows : List (List Int)) : Prop where
  n1 : 1 ≤ rows.length
  n8 : rows.length ≤ 8
  asc : ∀ row ∈ rows, ∀ i, okAt row (rows.length : Nat) i
  sym : ∀ (p : Nat) (row : List Int), rows[p]? = some row → ∀ s ∈ row, ∃ row', rows[s.toNat]? = some row' ∧ ((p : Nat) : Int) ∈ row'
theorem GoodT.lt {rows : List (List Int)} (g : GoodT rows) {row : List Int} (hr : row ∈ rows) {c : Int} (hc : c ∈ row) : 0 ≤ c ∧ c < (rows.length : Nat) := by
  obtain ⟨i, hi, rfl⟩ := List.getElem_of_mem hc
  exact (g.asc row hr i row[i] (List.getElem?_eq_getElem hi)).1
theorem row_of {rows : List (List Int)} {p : Nat} {row : List Int} (h : rows[p]? = some row) : rowOf rows p = row := by
  unfold rowOf
  rw [List.getD_eq_getElem?_getD, h]
  rfl
theorem inV_int {p : Int} : ∀ {ns : List Int}, p ∈ ns → inV (.int p) (ns.map V.int) = true
  | n :: ns, h => by
    show (eqV (.int n) (.int p) || inV (.int p) (ns.map V.int)) = true
    rcases List.mem_cons.mp h with e | e
    · subst e
      have : eqV (.int p) (.int p) = true := by simp [eqV]
      rw [this]; rfl
    · rw [inV_int e, Bool.or_true]
theorem flat_ints : ∀ ns : List Int, (ns.map V.int).all flatV = true
  | [] => rfl
  | n :: ns => by
    rw [List.map_cons, List.all_cons, flat_ints ns]
    rfl
theorem all_true : ∀ n : Nat, (List.replicate n true).all id = true
  | 0 => rfl
  | n + 1 => by rw [List.replicate_succ, List.all_cons, all_true n]; rfl
theorem all_bl {b : Bool} : ∀ {xs : List V}, (∀ (i : Nat) (v : V), xs[i]? = some v → v = .bl b) → xs = (List.replicate xs.length b).map V.bl
  | [], _ => rfl
  | x :: xs, h => by
    rw [List.length_cons, List.replicate_succ, List.map_cons, ← all_bl (xs := xs) fun i v e => h (i + 1) v e, h 0 x rfl]
theorem asc_get {row : List Int} {m : Int} (h : ∀ i, okAt row m i) : ∀ (i : Nat) (c : Int), row[i]? = some c → (i : Int) ≤ c
  | 0, c, e => (h 0 c e).1.1
  | i + 1, c, e => by
    have hi := (List.getElem?_eq_some_iff.mp e).1
    have h1 := asc_get h i (row[i]'(by omega)) (List.getElem?_eq_getElem (by omega))
    have h2 := (h (i + 1) c e).2 (row[i]'(by omega)) (by omega) (List.getElem?_eq_getElem (by omega))
    omega
theorem asc_len {rows : List (List Int)} (g : GoodT rows) {row : List Int} (hr : row ∈ rows) : row.length ≤ 8 := by
  cases h : row.length with
  | zero => omega
  | succ k =>
    have h1 := asc_get (g.asc row hr) k (row[k]'(by omega)) (List.getElem?_eq_getElem (by omega))
    have h2 := (g.asc row hr k (row[k]'(by omega)) (List.getElem?_eq_getElem (by omega))).1.2
    have := g.n8
    omega
def dblRow (row : List Int) (side : Int) : List Int := row.map fun s => 2 * s + 1 - side
def dbl (rows : List (List Int)) : List (List Int) := rows.flatMap fun row => [dblRow row 0, dblRow row 1]
theorem dbl_len : ∀ rows : List (List Int), (dbl rows).length = 2 * rows.length
  | [] => rfl
  | r :: rows => by
    have := dbl_len rows
    unfold dbl at *
    rw [List.flatMap_cons, List.length_append, this]
    show 2 + _ = 2 * (rows.length + 1)
    omega
theorem dbl_take {rows : List (List Int)} {i : Nat} {row : List Int} (h : rows[i]? = some row) : dbl (rows.take (i + 1)) = dbl (rows.take i) ++ [dblRow row 0] ++ [dblRow row 1] := by
  unfold dbl
  rw [List.take_add_one, h, List.flatMap_append, List.append_assoc]
  rfl
/-! ### even steps -/
/-- two steps from p to q -/
def Two (rows : List (List Int)) (p q : Int) : Prop := ∃ s, s ∈ rowOf rows p.toNat ∧ q ∈ rowOf rows s.toNat
inductive RchI (rows : List (List Int)) (q : Int) : Int → Prop
  | refl : RchI rows q q
  | head {p m : Int} : Two rows p m → RchI rows q m → RchI rows q p
/-- even steps lead from p to q -/
def Rch (rows : List (List Int)) (p q : Int) : Prop := RchI rows q p
theorem Rch.refl {rows : List (List Int)} {p : Int} : Rch rows p p := RchI.refl
theorem Rch.step {rows : List (List Int)} {p m q : Int} (h : Rch rows p m) (t : Two rows m q) : Rch rows p q := by
  unfold Rch at *
  induction h with
  | refl => exact .head t .refl
  | head a _ ih => exact .head a ih
theorem Rch.tr {rows : List (List Int)} {p m q : Int} (h : Rch rows p m) (t : Rch rows m q) : Rch rows p q := by
  unfold Rch at *
  induction h with
  | refl => exact t
  | head a _ ih => exact .head a ih
theorem inV_dec {p : Int} : ∀ {ns : List Int}, inV (.int p) (ns.map V.int) = decide (p ∈ ns)
  | [] => by simp [inV]
  | n :: ns => by
    by_cases h : p ∈ n :: ns
    · rw [inV_int h, decide_eq_true h]
    · rw [decide_eq_false h]
      show (eqV (.int n) (.int p) || inV (.int p) (ns.map V.int)) = false
      rw [inV_dec (ns := ns), decide_eq_false (fun z => h (List.mem_cons_of_mem _ z)), Bool.or_false]
      simp only [eqV]
      have : ¬ n = p := fun z => h (by rw [z]; exact List.mem_cons_self)
      simp [this]
theorem nodup_len : ∀ (n : Nat) (es : List Int), es.Nodup → (∀ e ∈ es, 0 ≤ e ∧ e < (n : Nat)) → es.length ≤ n
  | 0, [], _, _ => Nat.le_refl _
  | 0, e :: es, _, h => by have := h e List.mem_cons_self; omega
  | n + 1, es, hn, h => by
    have h1 := nodup_len n (es.erase (n : Nat)) (hn.erase _) fun e he => by
      have := (hn.mem_erase_iff).mp he
      have := h e this.2
      omega
    by_cases hm : ((n : Nat) : Int) ∈ es
    · rw [List.length_erase_of_mem hm] at h1
      omega
    · rw [List.erase_of_not_mem hm] at h1
      omega
def twos (rows : List (List Int)) (row : List Int) : List Int := row.flatMap fun s => rowOf rows s.toNat
theorem mem_twos {rows : List (List Int)} {p q : Int} : q ∈ twos rows (rowOf rows p.toNat) ↔ Two rows p q := by
  unfold twos Two
  rw [List.mem_flatMap]
theorem twos_take {rows : List (List Int)} {row : List Int} {i : Nat} (h : i < row.length) : twos rows (row.take (i + 1)) = twos rows (row.take i) ++ rowOf rows row[i].toNat := by
  unfold twos
  rw [List.take_add_one, List.getElem?_eq_getElem h, List.flatMap_append]
  simp
theorem two_lt {rows : List (List Int)} (g : GoodT rows) {p q : Int} (h : Two rows p q) : 0 ≤ q ∧ q < (rows.length : Nat) := by
  obtain ⟨s, _, hq⟩ := h
  unfold rowOf at hq
  rw [List.getD_eq_getElem?_getD] at hq
  cases e : rows[s.toNat]? with
  | none => rw [e] at hq; cases hq
  | some row =>
    rw [e] at hq
    exact g.lt (List.mem_of_getElem? e) hq
theorem rch_lt {rows : List (List Int)} (g : GoodT rows) {p q : Int} (hp : 0 ≤ p ∧ p < (rows.length : Nat)) (h : Rch rows p q) : 0 ≤ q ∧ q < (rows.length : Nat) := by
  unfold Rch at h
  induction h with
  | refl => exact hp
  | head a _ ih => exact ih (two_lt g a)
theorem closed_rch {rows : List (List Int)} {p : Int} {es : List Int} (hp : p ∈ es) (hc : ∀ e ∈ es, ∀ q, Two rows e q → q ∈ es) {q : Int} (h : Rch rows p q) : q ∈ es := by
  unfold Rch at h
  induction h with
  | refl => exact hp
  | head a _ ih => exact ih (hc _ hp _ a)
theorem twos_len {rows : List (List Int)} (g : GoodT rows) : ∀ row : List Int, (twos rows row).length ≤ 8 * row.length
  | [] => Nat.le_refl _
  | s :: row => by
    have := twos_len g row
    unfold twos at *
    rw [List.flatMap_cons, List.length_append, List.length_cons]
    have h2 : (rowOf rows s.toNat).length ≤ 8 := by
      unfold rowOf
      rw [List.getD_eq_getElem?_getD]
      cases e : rows[s.toNat]? with
      | none => exact Nat.zero_le _
      | some row => exact asc_len g (List.mem_of_getElem? e)
    omega
theorem snocV {xs : List Int} {c : Int} : (xs ++ [c]).map V.int = xs.map V.int ++ [V.int c] := List.map_append
theorem nodup1 {α : Type} (x : α) : [x].Nodup := by simp
/-- the least coat that even steps lead to -/
def Lst (rows : List (List Int)) (p m : Int) : Prop := Rch rows p m ∧ ∀ q, Rch rows p q → m ≤ q
theorem Lst.one {rows : List (List Int)} {p m m' : Int} (h : Lst rows p m) (h' : Lst rows p m') : m = m' := by
  have := h.2 _ h'.1
  have := h'.2 _ h.1
  omega
theorem lots_one {rows : List (List Int)} {ms ms' : List Int} (hl : ms.length = ms'.length) (h : ∀ (i : Nat) m, ms[i]? = some m → Lst rows (i : Nat) m) (h' : ∀ (i : Nat) m, ms'[i]? = some m → Lst rows (i : Nat) m) : ms = ms' :=
  List.ext_getElem hl fun i h1 h2 => (h i _ (List.getElem?_eq_getElem h1)).one (h' i _ (List.getElem?_eq_getElem h2))
theorem ints_ex {P : Nat → Int → Prop} : ∀ {xs : List V} (k : Nat), (∀ (i : Nat) (v : V), xs[i]? = some v → ∃ m, v = .int m ∧ P (k + i) m) → ∃ ms : List Int, xs = ms.map V.int ∧ ∀ (i : Nat) (m : Int), ms[i]? = some m → P (k + i) m
  | [], _, _ => ⟨[], rfl, fun i m e => by simp at e⟩
  | x :: xs, k, h => by
    obtain ⟨ms, e, hm⟩ := ints_ex (xs := xs) (P := P) (k + 1) fun i v e => by
      rw [show k + 1 + i = k + (i + 1) by omega]
      exact h (i + 1) v e
    obtain ⟨m, rfl, hp⟩ := h 0 x rfl
    refine ⟨m :: ms, by rw [e]; rfl, fun i z hz => ?_⟩
    cases i with
    | zero => cases Option.some.inj hz; exact hp
    | succ i =>
      have := hm i z hz
      rw [show k + 1 + i = k + (i + 1) by omega] at this
      exact this
/-! rounds -/
def RN (rows : List (List Int)) : Nat → Int → Int → Prop
  | 0, p, q => p = q
  | k + 1, p, q => RN rows k p q ∨ ∃ r, Two rows p r ∧ RN rows k r q
theorem RN.up {rows : List (List Int)} {p q : Int} : ∀ k, RN rows 0 p q → RN rows k p q
  | 0, h => h
  | k + 1, h => .inl (RN.up k h)
open Classical in
noncomputable def cnt (rows : List (List Int)) (q : Int) (k n : Nat) : Nat := ((List.range n).filter fun (p : Nat) => decide (RN rows k (p : Int) q)).length
open Classical in
theorem filt_le {n : Nat} {f g : Nat → Bool} (h : ∀ p, p < n → f p = true → g p = true) : ((List.range n).filter f).length ≤ ((List.range n).filter g).length ∧ ((∃ p, p < n ∧ g p = true ∧ f p = false) → ((List.range n).filter f).length + 1 ≤ ((List.range n).filter g).length) := by
  induction n with
  | zero => exact ⟨Nat.le_refl _, fun ⟨p, hp, _⟩ => absurd hp (by omega)⟩
  | succ n ih =>
    obtain ⟨i1, i2⟩ := ih fun p hp => h p (by omega)
    have hn := h n (by omega)
    rw [List.range_succ, List.filter_append, List.filter_append, List.length_append, List.length_append]
    have a1 : ([n].filter f).length = if f n = true then 1 else 0 := by
      rw [List.filter_cons]; split <;> rfl
    have a2 : ([n].filter g).length = if g n = true then 1 else 0 := by
      rw [List.filter_cons]; split <;> rfl
    rw [a1, a2]
    refine ⟨?_, fun ⟨p, hp, h1, h2⟩ => ?_⟩
    · by_cases c : f n = true
      · rw [if_pos c, if_pos (hn c)]; omega
      · rw [if_neg c]; omega
    · by_cases e : p = n
      · subst e
        rw [if_pos h1, h2, if_neg (by decide)]; omega
      · have := i2 ⟨p, by omega, h1, h2⟩
        by_cases c : f n = true
        · rw [if_pos c, if_pos (hn c)]; omega
        · rw [if_neg c]; omega
open Classical in
theorem rn_stable {rows : List (List Int)} (g : GoodT rows) {q : Int} (hq : 0 ≤ q ∧ q < (rows.length : Nat)) : ∀ k, (k + 1 ≤ cnt rows q k rows.length) ∨ ∀ p : Int, 0 ≤ p → p < (rows.length : Nat) → RN rows (k + 1) p q → RN rows k p q
  | 0 => by
    left
    have h := (filt_le (n := rows.length) (f := fun _ => false) (g := fun p => decide (RN rows 0 (p : Int) q)) fun p _ z => by cases z).2 ⟨q.toNat, by omega, decide_eq_true (show ((q.toNat : Nat) : Int) = q by omega), rfl⟩
    unfold cnt
    omega
  | k + 1 => by
    rcases rn_stable g hq k with h | h
    · by_cases c : ∀ p : Int, 0 ≤ p → p < (rows.length : Nat) → RN rows (k + 1) p q → RN rows k p q
      · right
        intro p h0 h1 hr
        rcases hr with hr | ⟨r, ht, hr⟩
        · exact hr
        · have := two_lt g ht
          exact .inr ⟨r, ht, c r this.1 this.2 hr⟩
      · left
        obtain ⟨p, hp⟩ := Classical.not_forall.mp c
        have hp1 : 0 ≤ p := Classical.byContradiction fun z => hp fun z2 => absurd z2 z
        have hp2 : p < (rows.length : Nat) := Classical.byContradiction fun z => hp fun _ z2 => absurd z2 z
        have hp3 : RN rows (k + 1) p q := Classical.byContradiction fun z => hp fun _ _ z2 => absurd z2 z
        have hp4 : ¬ RN rows k p q := fun z => hp fun _ _ _ => z
        have e : ((p.toNat : Nat) : Int) = p := by omega
        have h2 := (filt_le (n := rows.length) (f := fun p => decide (RN rows k (p : Int) q)) (g := fun p => decide (RN rows (k + 1) (p : Int) q)) fun p _ z => decide_eq_true (.inl (of_decide_eq_true z))).2 ⟨p.toNat, by omega, decide_eq_true (by rw [e]; exact hp3), decide_eq_false (by rw [e]; exact hp4)⟩
        unfold cnt at *
        omega
    · right
      intro p h0 h1 hr
      rcases hr with hr | ⟨r, ht, hr⟩
      · exact hr
      · have := two_lt g ht
        exact .inr ⟨r, ht, h r this.1 this.2 hr⟩
theorem rch_rn {rows : List (List Int)} (g : GoodT rows) {p q : Int} (hp : 0 ≤ p ∧ p < (rows.length : Nat)) (h : Rch rows p q) : RN rows rows.length p q := by
  have hq := rch_lt g hp h
  have st : ∀ p : Int, 0 ≤ p → p < (rows.length : Nat) → RN rows (rows.length + 1) p q → RN rows rows.length p q := by
    rcases rn_stable g hq rows.length with h | h
    · have : cnt rows q rows.length rows.length ≤ rows.length := by
        unfold cnt
        refine Nat.le_trans (List.length_filter_le ..) ?_
        rw [List.length_range]
        exact Nat.le_refl _
      omega
    · exact h
  unfold Rch at h
  induction h with
  | refl => exact RN.up _ rfl
  | head a _ ih => exact st _ hp.1 hp.2 (.inr ⟨_, a, ih (two_lt g a)⟩)
/-- what stands behind k rounds, in the next one behind p coats and at p behind R -/
structure Rnd (rows : List (List Int)) (k p : Nat) (R : List Int) (F : List Int) : Prop where
  len : F.length = rows.length
  ins : ∀ (i : Nat) m, F[i]? = some m → Rch rows (i : Nat) m
  dn : ∀ (i : Nat) m, F[i]? = some m → ∀ q, RN rows k (i : Nat) q → m ≤ q
  fst : ∀ (i : Nat), i < p → ∀ m, F[i]? = some m → ∀ q, RN rows (k + 1) (i : Nat) q → m ≤ q
  at_ : ∀ r ∈ R, ∀ m, F[p]? = some m → ∀ q, RN rows k r q → m ≤ q
theorem Rnd.upd {rows : List (List Int)} {k p : Nat} {R F : List Int} {x y r : Int} (h : Rnd rows k p R F) (hx : F[p]? = some x) (hy : F[r.toNat]? = some y) (h0 : 0 ≤ r) (ht : Two rows (p : Nat) r) {z : Int} (hz : (z = x ∨ z = y) ∧ z ≤ x ∧ z ≤ y) : Rnd rows k p (R ++ [r]) (F.set p z) := by
  have hp := (List.getElem?_eq_some_iff.mp hx).1
  have hr : ((r.toNat : Nat) : Int) = r := by omega
  have key : ∀ (i : Nat) m, (F.set p z)[i]? = some m → (i = p ∧ m = z) ∨ (i ≠ p ∧ F[i]? = some m) := fun i m e => by
    by_cases c : i = p
    · subst c
      rw [List.getElem?_set_self hp] at e
      exact .inl ⟨rfl, (Option.some.inj e).symm⟩
    · rw [List.getElem?_set_ne (Ne.symm c)] at e
      exact .inr ⟨c, e⟩
  refine ⟨by rw [List.length_set]; exact h.len, fun i m e => ?_, fun i m e q hq => ?_, fun i hi m e q hq => ?_, fun s hs m e q hq => ?_⟩
  · rcases key i m e with ⟨rfl, rfl⟩ | ⟨_, e⟩
    · rcases hz.1 with rfl | rfl
      · exact h.ins _ _ hx
      · have := h.ins _ _ hy
        rw [hr] at this
        exact RchI.head ht this
    · exact h.ins _ _ e
  · rcases key i m e with ⟨rfl, rfl⟩ | ⟨_, e⟩
    · exact Int.le_trans hz.2.1 (h.dn _ _ hx q hq)
    · exact h.dn _ _ e q hq
  · rcases key i m e with ⟨rfl, rfl⟩ | ⟨_, e⟩
    · exact absurd hi (by omega)
    · exact h.fst i hi _ e q hq
  · rcases key p m e with ⟨_, rfl⟩ | ⟨c, _⟩
    · rcases List.mem_append.mp hs with hs | hs
      · exact Int.le_trans hz.2.1 (h.at_ s hs _ hx q hq)
      · rw [List.mem_singleton.mp hs] at hq
        refine Int.le_trans hz.2.2 (h.dn _ _ hy q ?_)
        rw [hr]
        exact hq
    · exact absurd rfl c
theorem Rnd.nextP {rows : List (List Int)} {k p : Nat} {F : List Int} (h : Rnd rows k p (twos rows (rowOf rows p)) F) : Rnd rows k (p + 1) [] F := by
  refine ⟨h.len, h.ins, h.dn, fun i hi m e q hq => ?_, fun r hr => by cases hr⟩
  by_cases c : i < p
  · exact h.fst i c m e q hq
  · obtain rfl : i = p := by omega
    rcases hq with hq | ⟨r, ht, hq⟩
    · exact h.dn _ _ e q hq
    · refine h.at_ r ?_ m e q hq
      have := mem_twos.mpr ht
      rw [Int.toNat_natCast] at this
      exact this
theorem Rnd.nextK {rows : List (List Int)} {k : Nat} {F : List Int} (h : Rnd rows k rows.length [] F) : Rnd rows (k + 1) 0 [] F :=
  ⟨h.len, h.ins, fun i m e q hq => h.fst i (by have := (List.getElem?_eq_some_iff.mp e).1; have := h.len; omega) m e q hq, fun i hi => absurd hi (by omega), fun r hr => by cases hr⟩
theorem Rnd.fin {rows : List (List Int)} (g : GoodT rows) {F : List Int} (h : Rnd rows rows.length 0 [] F) : ∀ (i : Nat) m, F[i]? = some m → Lst rows (i : Nat) m := fun i m e => by
  have hi := (List.getElem?_eq_some_iff.mp e).1
  have := h.len
  exact ⟨h.ins i m e, fun q hq => h.dn i m e q (rch_rn g (by omega) hq)⟩
theorem Rnd.start {rows : List (List Int)} : Rnd rows 0 0 [] ((List.range rows.length).map Int.ofNat) := by
  have key : ∀ (i : Nat) (m : Int), ((List.range rows.length).map Int.ofNat)[i]? = some m → m = (i : Nat) := fun i m e => by
    rw [List.getElem?_map] at e
    cases c : (List.range rows.length)[i]? with
    | none => rw [c] at e; cases e
    | some x =>
      rw [c] at e
      obtain ⟨hi, hx⟩ := List.getElem?_eq_some_iff.mp c
      rw [List.getElem_range] at hx
      cases Option.some.inj e
      rw [← hx]
      rfl
  refine ⟨by rw [List.length_map, List.length_range], fun i m e => ?_, fun i m e q hq => ?_, fun i hi => absurd hi (by omega), fun r hr => by cases hr⟩
  · rw [key i m e]; exact .refl
  · rw [key i m e]
    have : ((i : Nat) : Int) = q := hq
    omega
/-! ### a drawn table -/
def addL (R : Nat → List Int) (i : Nat) (c : Int) : Nat → List Int := fun k => if k = i then R k ++ [c] else R k
structure Dra (many : Nat) (R : Nat → List Int) (p s : Nat) : Prop where
  nd : ∀ i, (R i).Nodup
  lt : ∀ i, ∀ c ∈ R i, 0 ≤ c ∧ c < (many : Nat)
  sym : ∀ i j : Nat, i < many → j < many → ((j : Nat) : Int) ∈ R i → ((i : Nat) : Int) ∈ R j
  old : ∀ i j : Nat, i ≤ j → ((j : Nat) : Int) ∈ R i → i < p ∨ (i = p ∧ j < s)
theorem Dra.skip {many p s : Nat} {R : Nat → List Int} (h : Dra many R p s) : Dra many R p (s + 1) :=
  ⟨h.nd, h.lt, h.sym, fun i j hij hm => by have := h.old i j hij hm; omega⟩
theorem Dra.next {many p s : Nat} {R : Nat → List Int} (h : Dra many R p s) : Dra many R (p + 1) (p + 1) :=
  ⟨h.nd, h.lt, h.sym, fun i j hij hm => by have := h.old i j hij hm; omega⟩
theorem mem_addL {R : Nat → List Int} {i k : Nat} {c d : Int} : d ∈ addL R i c k ↔ d ∈ R k ∨ (k = i ∧ d = c) := by
  unfold addL
  by_cases h : k = i
  · rw [if_pos h, List.mem_append, List.mem_singleton]
    exact ⟨fun z => z.imp id fun e => ⟨h, e⟩, fun z => z.imp id fun e => e.2⟩
  · rw [if_neg h]
    exact ⟨.inl, fun z => z.elim id fun e => absurd e.1 h⟩
theorem nd_addL {R : Nat → List Int} {i : Nat} {c : Int} (h : ∀ k, (R k).Nodup) (hc : c ∉ R i) : ∀ k, (addL R i c k).Nodup := fun k => by
  unfold addL
  by_cases e : k = i
  · rw [if_pos e]
    refine List.nodup_append.mpr ⟨h k, nodup1 _, fun a ha b hb => ?_⟩
    rw [List.mem_singleton.mp hb]
    intro z
    rw [z, e] at ha
    exact hc ha
  · rw [if_neg e]
    exact h k
theorem Dra.self {many p : Nat} {R : Nat → List Int} (h : Dra many R p p) (hp : p < many) : Dra many (addL R p (p : Nat)) p (p + 1) := by
  refine ⟨nd_addL h.nd fun z => ?_, fun i c hc => ?_, fun i j hi hj hm => ?_, fun i j hij hm => ?_⟩
  · have := h.old p p (Nat.le_refl _) z
    omega
  · rcases mem_addL.mp hc with hc | ⟨_, rfl⟩
    · exact h.lt i c hc
    · omega
  · rcases mem_addL.mp hm with hm | ⟨h1, h2⟩
    · exact mem_addL.mpr (.inl (h.sym i j hi hj hm))
    · have : j = p := by omega
      subst h1
      subst this
      exact mem_addL.mpr (.inr ⟨rfl, rfl⟩)
  · rcases mem_addL.mp hm with hm | ⟨h1, h2⟩
    · have := h.old i j hij hm
      omega
    · omega
theorem Dra.two {many p s : Nat} {R : Nat → List Int} (h : Dra many R p s) (hps : p < s) (hs : s < many) : Dra many (addL (addL R p (s : Nat)) s (p : Nat)) p (s + 1) := by
  have n1 : ((s : Nat) : Int) ∉ R p := fun z => by
    have := h.old p s (Nat.le_of_lt hps) z
    omega
  have n2 : ((p : Nat) : Int) ∉ R s := fun z => n1 (h.sym s p hs (by omega) z)
  refine ⟨nd_addL (nd_addL h.nd n1) fun z => ?_, fun i c hc => ?_, fun i j hi hj hm => ?_, fun i j hij hm => ?_⟩
  · rcases mem_addL.mp z with z | ⟨e, _⟩
    · exact n2 z
    · omega
  · rcases mem_addL.mp hc with hc | ⟨_, rfl⟩
    · rcases mem_addL.mp hc with hc | ⟨_, rfl⟩
      · exact h.lt i c hc
      · omega
    · omega
  · rcases mem_addL.mp hm with hm | ⟨h1, h2⟩
    · rcases mem_addL.mp hm with hm | ⟨h1, h2⟩
      · exact mem_addL.mpr (.inl (mem_addL.mpr (.inl (h.sym i j hi hj hm))))
      · have : j = s := by omega
        subst h1
        subst this
        exact mem_addL.mpr (.inr ⟨rfl, rfl⟩)
    · have : j = p := by omega
      subst h1
      subst this
      exact mem_addL.mpr (.inl (mem_addL.mpr (.inr ⟨rfl, rfl⟩)))
  · rcases mem_addL.mp hm with hm | ⟨h1, h2⟩
    · rcases mem_addL.mp hm with hm | ⟨h1, h2⟩
      · have := h.old i j hij hm
        omega
      · omega
    · omega
theorem asc_ok {row : List Int} {m : Int} (hp : row.Pairwise (· ≤ ·)) (hn : row.Nodup) (hl : ∀ c ∈ row, 0 ≤ c ∧ c < m) : ∀ i, okAt row m i := fun i c hc => by
  obtain ⟨hi, rfl⟩ := List.getElem?_eq_some_iff.mp hc
  refine ⟨hl _ (List.getElem_mem hi), fun d h0 hd => ?_⟩
  obtain ⟨hj, rfl⟩ := List.getElem?_eq_some_iff.mp hd
  have h1 := (List.pairwise_iff_getElem.mp hp) (i - 1) i hj hi (by omega)
  have h2 := (List.pairwise_iff_getElem.mp hn) (i - 1) i hj hi (by omega)
  have : ¬ row[i - 1] = row[i] := h2
  have h3 : row[i - 1] ≤ row[i] := h1
  omega
theorem Dra.good {many p s : Nat} {R : Nat → List Int} (h : Dra many R p s) (h1 : 1 ≤ many) (h8 : many ≤ 8) {rows : List (List Int)} (hl : rows.length = many) (hr : ∀ (i : Nat) row, rows[i]? = some row → row.Perm (R i) ∧ row.Pairwise (· ≤ ·)) : GoodT rows := by
  refine ⟨by omega, by omega, fun row hrow => ?_, fun q row hq s hs => ?_⟩
  · obtain ⟨i, hi, rfl⟩ := List.getElem_of_mem hrow
    obtain ⟨hp, hw⟩ := hr i _ (List.getElem?_eq_getElem hi)
    rw [hl]
    exact asc_ok hw (hp.nodup_iff.mpr (h.nd i)) fun c hc => h.lt i c (hp.mem_iff.mp hc)
  · obtain ⟨hp, _⟩ := hr q row hq
    have hs2 := hp.mem_iff.mp hs
    have hlt := h.lt q s hs2
    have hq2 := (List.getElem?_eq_some_iff.mp hq).1
    have e : ((s.toNat : Nat) : Int) = s := by omega
    rw [← e] at hs2
    have := h.sym q s.toNat (by omega) (by omega) hs2
    have hi : s.toNat < rows.length := by omega
    refine ⟨rows[s.toNat], List.getElem?_eq_getElem hi, ?_⟩
    exact (hr s.toNat _ (List.getElem?_eq_getElem hi)).1.mem_iff.mpr this
structure HB (D : Addr) (bs : List Addr) (R : Nat → List Int) (H : Hp) : Prop where
  d : H D = some (.lst (bs.map V.ref))
  at_ : ∀ (i : Nat) b, bs[i]? = some b → H b = some (.lst ((R i).map V.int))
theorem HB.app {D b : Addr} {bs : List Addr} {R : Nat → List Int} {H : Hp} {i : Nat} {c : Int} (h : HB D bs R H) (nd : bs.Nodup) (nD : D ∉ bs) (hi : bs[i]? = some b) : HB D bs (addL R i c) (upd H b (.lst ((R i).map V.int ++ [V.int c]))) := by
  refine ⟨?_, fun j b' hj => ?_⟩
  · have hm := List.mem_of_getElem? hi
    rw [upd_ne (fun z => nD (by rw [z]; exact hm))]
    exact h.d
  · by_cases e : j = i
    · subst e
      rw [hi] at hj
      cases Option.some.inj hj
      rw [upd_same]
      unfold addL
      rw [if_pos rfl, snocV]
    · have ne : b' ≠ b := fun z => by
        subst z
        obtain ⟨h1, h2⟩ := List.getElem?_eq_some_iff.mp hj
        obtain ⟨h3, h4⟩ := List.getElem?_eq_some_iff.mp hi
        rcases Nat.lt_or_gt_of_ne e with q | q
        · exact (List.pairwise_iff_getElem.mp nd) j i h1 h3 q (h2.trans h4.symm)
        · exact (List.pairwise_iff_getElem.mp nd) i j h3 h1 q (h4.trans h2.symm)
      rw [upd_ne ne]
      unfold addL
      rw [if_neg e]
      exact h.at_ j b' hj
theorem HB.exb {D p : Addr} {bs : List Addr} {R : Nat → List Int} {H H1 : Hp} (h : HB D bs R H) (e : Exb p H H1) (hD : D ≠ p) (hb : ∀ b ∈ bs, b ≠ p) : HB D bs R H1 :=
  ⟨e _ _ hD h.d, fun i b hi => e _ _ (hb b (List.mem_of_getElem? hi)) (h.at_ i b hi)⟩
theorem HB.same {D : Addr} {bs : List Addr} {R : Nat → List Int} {H H1 : Hp} (h : HB D bs R H) (e : Same H H1) : HB D bs R H1 :=
  ⟨e _ _ h.d, fun i b hi => e _ _ (h.at_ i b hi)⟩
def toldD (rows : List (List Int)) : PyData := if 2 * rows.length ≤ 8 then .tuple [.int (2 * (rows.length : Nat)), .tuple ((dbl rows).map rowD)] else .tuple [.str "size", .int (2 * (rows.length : Nat))]
theorem dp2 {K : PySem.W.Frag} {H : Hp} {a : Addr} {u v : V} {d e : PyData} (h : SqT K H a [u, v]) (h1 : Dp K H u d) (h2 : Dp K H v e) : Dp K H (.ref a) (.tuple [d, e]) := .tup h (.cons h1 (.cons h2 .nil))
theorem gN {i : Nat} {v : V} {σ : L2.St} {H : Hp} {k : L2.St → Hp → Prop} (h : k (σ.set i (some v)) H) : gName i v σ H k := h
theorem asgK {te : TE} {i : Nat} {u : TS} {D : Ends} {σ : L2.St} {H : Hp} (A : V → Hp → Prop) (h1 : ∀ R : VK, (∀ v H', A v H' → R v H') → te σ H R) (h2 : ∀ v H', A v H' → u D (σ.set i (some v)) H') : tSeq (tAsg te (gName i)) u D σ H := h1 _ h2
theorem GoodT.abs {rows : List (List Int)} (g : GoodT rows) : ∀ r ∈ rows, r.length ≤ 8 ∧ ∀ c ∈ r, c.natAbs < 2 ^ 60 := fun r hr => ⟨asc_len g hr, fun c hc => by
  have := g.lt hr hc
  have := g.n8
  have e : (2 : Nat) ^ 60 = 1152921504606846976 := by decide
  omega⟩
theorem GoodT.shows {rows : List (List Int)} (g : GoodT rows) : Sh 72 2 (.tuple (rows.map rowD)) := (Sh.rows (m := 8) (n := 8) g.abs g.n8).le (by decide) (by decide)
theorem dbl_abs {rows : List (List Int)} (g : GoodT rows) : ∀ r ∈ dbl rows, r.length ≤ 8 ∧ ∀ c ∈ r, c.natAbs < 2 ^ 60 := fun r hr => by
  unfold dbl at hr
  obtain ⟨row, hrow, hr⟩ := List.mem_flatMap.mp hr
  have key : ∀ side : Int, 0 ≤ side → side ≤ 1 → (dblRow row side).length ≤ 8 ∧ ∀ c ∈ dblRow row side, c.natAbs < 2 ^ 60 := fun side h0 h1 => by
    unfold dblRow
    refine ⟨by rw [List.length_map]; exact asc_len g hrow, fun c hc => ?_⟩
    obtain ⟨d, hd, rfl⟩ := List.mem_map.mp hc
    have := g.lt hrow hd
    have := g.n8
    have e : (2 : Nat) ^ 60 = 1152921504606846976 := by decide
    omega
  rcases List.mem_cons.mp hr with rfl | hr
  · exact key 0 (by decide) (by decide)
  · rw [List.mem_singleton.mp hr]
    exact key 1 (by decide) (by decide)
theorem _root_.Bw.Sh.all {b k : Nat} {d : PyData} (h : Sh b k d) (hb : b ≤ 200000) (hk : k < 64) : d.showable = true ∧ d.hasDict = false ∧ d.depth < 64 ∧ d.shown.length ≤ sizeLine := ⟨h.sh, h.nod, Nat.lt_of_le_of_lt h.dp hk, h.fits hb⟩
theorem told_shows {rows : List (List Int)} (g : GoodT rows) : Sh 200 3 (toldD rows) := by
  have n8 := g.n8
  have e : (2 : Nat) ^ 60 = 1152921504606846976 := by decide
  have hi : Sh 72 2 (.int (2 * (rows.length : Nat))) := (Sh.int (by omega)).le (by decide) (by decide)
  unfold toldD
  by_cases c : 2 * rows.length ≤ 8
  · rw [if_pos c]
    exact (Sh.pair hi ((Sh.rows (m := 8) (n := 8) (dbl_abs g) (by rw [dbl_len]; exact c)).le (by decide) (by decide))).le (by decide) (by decide)
  · rw [if_neg c]
    exact (Sh.pair (b := 72) (k := 2) ⟨by decide, by decide, by decide, by decide, by decide⟩ hi).le (by decide) (by decide)
theorem lots_shows {rows : List (List Int)} (g : GoodT rows) {ms : List Int} (hl : ms.length = rows.length) (h : ∀ (i : Nat) m, ms[i]? = some m → Lst rows (i : Nat) m) : Sh 8 1 (rowD ms) := by
  have n8 := g.n8
  refine Sh.row (fun c hc => ?_) (by omega)
  obtain ⟨i, hi, rfl⟩ := List.getElem_of_mem hc
  have := rch_lt g (p := (i : Nat)) (by omega) (h i _ (List.getElem?_eq_getElem hi)).1
  have e : (2 : Nat) ^ 60 = 1152921504606846976 := by decide
  omega
theorem asc_nd {row : List Int} {m : Int} (h : ∀ i, okAt row m i) : row.Nodup := by
  refine List.pairwise_iff_getElem.mpr fun i j hi hj hij => ?_
  have key : ∀ k, (hk : i + k + 1 < row.length) → row[i] < row[i + k + 1] := fun k => by
    induction k with
    | zero => exact fun hk => (h (i + 1) _ (List.getElem?_eq_getElem hk)).2 _ (by omega) (List.getElem?_eq_getElem hi)
    | succ k ih =>
      intro hk
      have h1 := ih (by omega)
      have h2 := (h (i + (k + 1) + 1) _ (List.getElem?_eq_getElem hk)).2 _ (by omega) (List.getElem?_eq_getElem (by omega))
      have e : row[i + (k + 1) + 1 - 1]'(by omega) = row[i + k + 1]'(by omega) := rfl
      rw [e] at h2
      omega
  have := key (j - i - 1) (by omega)
  have e : row[i + (j - i - 1) + 1]'(by omega) = row[j] := by congr 1; omega
  rw [e] at this
  intro z
  have z2 : row[i] = row[j] := z
  omega

def top (i : Nat) : Stmt := PySem.Challenge.pw_betweencoats_k02_tables_doubled_and_even.main.body.getD i (.Pass ⟨0, 0, 0, 0⟩)
def meth (i j : Nat) : Stmt := match top i with
  | .ClassDef (body := b) .. => b.getD j (.Pass ⟨0, 0, 0, 0⟩)
  | _ => .Pass ⟨0, 0, 0, 0⟩
/-- the classes' addresses -/
structure CS where
  no : Unit := ()
  Table : Addr
  Refused : Addr
  BadSize : Addr
/-- what the module's names hold -/
structure Txn (K : PySem.W.Frag) (mg : Str → Option Value) (cs : CS) : Prop where
  n_all : mg "all" = none
  n_enumerate : mg "enumerate" = none
  n_int : mg "int" = none
  n_isinstance : mg "isinstance" = none
  n_len : mg "len" = none
  n_max : mg "max" = none
  n_min : mg "min" = none
  n_range : mg "range" = none
  n_repr : mg "repr" = none
  n_sorted : mg "sorted" = none
  n_tuple : mg "tuple" = none
  g_MOST_COATS : ∃ t, mg "MOST_COATS" = some (.int 8 t)
  gm_Table : mg "Table" = some (.ref cs.Table)
  gm_Refused : mg "Refused" = some (.ref cs.Refused)
  gm_BadSize : mg "BadSize" = some (.ref cs.BadSize)
  cl_Table : Cls K cs.Table
  na_Table_many : NoAttr K cs.Table "many"
  na_Table_beside : NoAttr K cs.Table "beside"
  xc_BadSize : XC K cs.BadSize
  ex_BadSize_Refused : PySem.W.exmOne K (.ref cs.BadSize) (.ref cs.Refused) = some true
  ki_BadSize_BadSize : PySem.W.kitOne K (.ref cs.BadSize) (.ref cs.BadSize) = some true
abbrev s_Refused_init : Stmt := meth 4 0
theorem sc_Refused_init : FnScope ["self", "what"] ["self", "what"] (defScope s_Refused_init) := ⟨rfl, rfl, rfl, by decide +kernel, rfl, by decide +kernel, by decide +kernel⟩
abbrev s_Table_init : Stmt := meth 11 0
theorem sc_Table_init : FnScope ["self", "beside"] ["self", "beside"] (defScope s_Table_init) := ⟨rfl, rfl, rfl, by decide +kernel, rfl, by decide +kernel, by decide +kernel⟩
abbrev s_climb_fault : Stmt := top 8
theorem sc_climb_fault : FnScope ["numbers", "many", "at", "number"] ["numbers", "many"] (defScope s_climb_fault) := ⟨rfl, rfl, rfl, by decide +kernel, rfl, by decide +kernel, by decide +kernel⟩
abbrev s_made_table : Stmt := top 12
theorem sc_made_table : FnScope ["rows", "coat", "roads", "road"] ["rows"] (defScope s_made_table) := ⟨rfl, rfl, rfl, by decide +kernel, rfl, by decide +kernel, by decide +kernel⟩
abbrev s_doubled : Stmt := top 14
theorem sc_doubled : FnScope ["table", "coat", "side", "road"] ["table"] (defScope s_doubled) := ⟨rfl, rfl, rfl, by decide +kernel, rfl, by decide +kernel, by decide +kernel⟩
abbrev s_even_ends : Stmt := top 2
theorem sc_even_ends : FnScope ["table", "start", "ends", "at", "roads", "end", "road", "coat"] ["table", "start"] (defScope s_even_ends) := ⟨rfl, rfl, rfl, by decide +kernel, rfl, by decide +kernel, by decide +kernel⟩
abbrev s_even_lots : Stmt := top 1
theorem sc_even_lots : FnScope ["table", "coat"] ["table"] (defScope s_even_lots) := ⟨rfl, rfl, rfl, by decide +kernel, rfl, by decide +kernel, by decide +kernel⟩
abbrev s__law_pool : Stmt := top 16
theorem sc__law_pool : FnScope ["script", "k", "cell", "big", "mixed"] ["script", "k"] (defScope s__law_pool) := ⟨rfl, rfl, rfl, by decide +kernel, rfl, by decide +kernel, by decide +kernel⟩
abbrev s__law_take : Stmt := top 17
theorem sc__law_take : FnScope ["source", "top", "drawn"] ["source", "top"] (defScope s__law_take) := ⟨rfl, rfl, rfl, by decide +kernel, rfl, by decide +kernel, by decide +kernel⟩
abbrev s__law_one : Stmt := top 18
theorem sc__law_one : FnScope ["source", "things"] ["source", "things"] (defScope s__law_one) := ⟨rfl, rfl, rfl, by decide +kernel, rfl, by decide +kernel, by decide +kernel⟩
abbrev s__law_table : Stmt := top 19
theorem sc__law_table : FnScope ["source", "many", "p", "rows", "most", "s", "row"] ["source", "many"] (defScope s__law_table) := ⟨rfl, rfl, rfl, by decide +kernel, rfl, by decide +kernel, by decide +kernel⟩
abbrev s__law_doubled : Stmt := top 20
theorem sc__law_doubled : FnScope ["rows", "found", "p", "side", "s"] ["rows"] (defScope s__law_doubled) := ⟨rfl, rfl, rfl, by decide +kernel, rfl, by decide +kernel, by decide +kernel⟩
abbrev s__law_lots : Stmt := top 21
theorem sc__law_lots : FnScope ["rows", "p", "found", "turn", "s", "r"] ["rows"] (defScope s__law_lots) := ⟨rfl, rfl, rfl, by decide +kernel, rfl, by decide +kernel, by decide +kernel⟩
abbrev s__law_told : Stmt := top 22
theorem sc__law_told : FnScope ["rows", "table", "e"] ["rows"] (defScope s__law_told) := ⟨rfl, rfl, rfl, by decide +kernel, rfl, by decide +kernel, by decide +kernel⟩
abbrev s_law : Stmt := top 23
theorem sc_law : FnScope ["script", "source", "turn", "rows", "due"] ["script"] (defScope s_law) := ⟨rfl, rfl, rfl, by decide +kernel, rfl, by decide +kernel, by decide +kernel⟩
def kb_doubled_table_g {α : Type} : List α → List α → List α
  | [], [w0] => [w0]
  | _, _ => []
theorem kb_doubled_table : KwB "doubled" s_doubled ["table"] ["table"] kb_doubled_table_g kb_doubled_table_g where
  to := fun _ _ _ _ _ _ us ws h => by
    match us, ws, h with
    | [], [_], _ => rfl
  rel := fun {vs us zs ws} r s => by
    unfold kb_doubled_table_g
    cases r with
    | cons _ _ => exact .nil
    | nil =>
      cases s with
      | nil => exact .nil
      | cons s0 s =>
        cases s with
        | cons _ _ => exact .nil
        | nil =>
          exact (.cons s0 .nil)
def kb_even_lots_table_g {α : Type} : List α → List α → List α
  | [], [w0] => [w0]
  | _, _ => []
theorem kb_even_lots_table : KwB "even_lots" s_even_lots ["table"] ["table"] kb_even_lots_table_g kb_even_lots_table_g where
  to := fun _ _ _ _ _ _ us ws h => by
    match us, ws, h with
    | [], [_], _ => rfl
  rel := fun {vs us zs ws} r s => by
    unfold kb_even_lots_table_g
    cases r with
    | cons _ _ => exact .nil
    | nil =>
      cases s with
      | nil => exact .nil
      | cons s0 s =>
        cases s with
        | cons _ _ => exact .nil
        | nil =>
          exact (.cons s0 .nil)
section
variable {P : Program} {w : World} {K : PySem.W.Frag} {mg : Str → Option Value} {base : Heap} {f : Addr} {fd : FuncData} {cs : CS}
def sp_Refused_init (K : PySem.W.Frag) (_ : CS) : Sp := sp_init K
theorem ok_Refused_init (F : Fun K "__init__" "Refused.__init__" s_Refused_init f fd) (T : Txn K mg cs)  : FnOk P w K mg base CX0 1 f fd ["self", "what"] (sp_Refused_init K cs) := by
  refine F.ok sc_Refused_init (fun vs H Q E h => ?_) (fun cdv A outer s H vs Q E hr h => ?_)
  · obtain ⟨a, C, v, rfl, _⟩ := h
    rfl
  obtain ⟨a, C, v, rfl, hc, hn, ha, q⟩ := h
  refine ⟨_, (pss_one (ps_ost (pv 0) (pv 1))), ?_⟩
  exact ⟨v, rfl, .ref a, rfl, a, C, rfl, hc, hn, .inl ⟨ha, fun dx nd ne => q dx nd ne⟩⟩
def sp_Table_init (K : PySem.W.Frag) (cs : CS) : Sp := fun vs H Q E => ∃ (t dx r : Addr) (xs : List V), vs = [.ref t, .ref r] ∧ H t = some (.ins cs.Table dx []) ∧ SqT K H r xs ∧ ∀ H', H' t = some (.ins cs.Table dx [("many", .int (xs.length : Nat)), ("beside", .ref r)]) → (∀ b, b ≠ t → H' b = H b) → Q .non H'
theorem ok_Table_init (F : Fun K "__init__" "Table.__init__" s_Table_init f fd) (T : Txn K mg cs)  : FnOk P w K mg base CX0 1 f fd ["self", "beside"] (sp_Table_init K cs) := by
  refine F.ok sc_Table_init (fun vs H Q E h => ?_) (fun cdv A outer s H vs Q E hr h => ?_)
  · obtain ⟨t, dx, r, xs, rfl, _⟩ := h
    rfl
  obtain ⟨t, dx, r, xs, rfl, ht, hS, q⟩ := h
  refine ⟨_, (pss_cons (ps_fld (pv 0) (pe_callB (lenS K) (by rfl) T.n_len PySem.boot_len (pa_cons (pv 1) pa_nil)) rfl)
      (pss_one (ps_fld (pv 0) (pv 1) rfl))), ?_⟩
  refine ⟨.ref r, rfl, r, xs, rfl, .inr hS, .ref t, rfl, t, cs.Table, dx, [], rfl, ht, T.cl_Table, T.na_Table_many, by decide, ?_⟩
  refine ⟨.ref r, rfl, .ref t, rfl, t, cs.Table, dx, _, rfl, upd_same, T.cl_Table, T.na_Table_beside, by show 1 < 1000; decide, ?_⟩
  exact q _ upd_same fun b nb => by rw [upd_ne nb, upd_ne nb]
structure Txt (P : Program) (w : World) (K : PySem.W.Frag) (mg : Str → Option Value) (base : Heap) (cs : CS) : Prop extends Txn K mg cs where
  one : True
  t_Table : CalC P w K mg base 1 "Table" cs.Table ["self", "beside"] (sp_Table_init K cs)
  x_BadSize : XM P w K mg base "BadSize" cs.BadSize
theorem mk_tb {H : Hp} {r : Addr} {rows : List (List Int)} {Q : VK} (hr : TT K H r rows) (q : ∀ x H2, Same H H2 → TB K cs.Table H2 x rows → Q (.ref x) H2) : ∀ x dx, H x = none → H dx = none → dx ≠ x →
    sp_Table_init K cs (.ref x :: ([.ref r] ++ [])) (upd (upd H dx (.own x)) x (.ins cs.Table dx [])) (fun v H2 => v = .non ∧ Q (.ref x) H2) E0 := by
  intro x dx nx ndx ne
  obtain ⟨ws, hS, hl, _⟩ := hr.seq
  have s1 : Same H (upd (upd H dx (.own x)) x (.ins cs.Table dx [])) := (Same.new ndx).mut nx
  refine ⟨x, dx, r, ws, rfl, upd_same, s1.tup hS, fun H' h1 h2 => ⟨rfl, ?_⟩⟩
  have s2 : Same H H' := fun b o e => by
    rw [h2 b (ne_of_none e nx)]
    exact s1 b o e
  refine q x H' s2 ⟨dx, r, ?_, hr.same s2⟩
  rw [h1, hl]
def sp_climb_fault (K : PySem.W.Frag) (cs : CS) : Sp := fun vs H Q E => ∃ (a : Addr) (ns : List Int) (m : Int), vs = [.ref a, .int m] ∧ SqT K H a (ns.map V.int) ∧ ((∀ i, okAt ns m i) → ∀ H', Same H H' → Q .non H') ∧ (∀ i : Nat, i < ns.length → ¬ okAt ns m i → (∀ j, j < i → okAt ns m j) → ∀ H', Same H H' → Q (.int (i : Nat)) H')
theorem ok_climb_fault (F : Fun K "climb_fault" "climb_fault" s_climb_fault f fd) (T : Txt P w K mg base cs)  : FnOk P w K mg base CX0 1 f fd ["numbers", "many"] (sp_climb_fault K cs) := by
  refine F.ok sc_climb_fault (fun vs H Q E h => ?_) (fun cdv A outer s H vs Q E hr h => ?_)
  · obtain ⟨a, ns, m, rfl, _⟩ := h
    rfl
  obtain ⟨a, ns, m, rfl, hS, qn, qi⟩ := h
  refine ⟨_, (pss_cons (ps_for PassesOwn.never rfl (pi_enumT (by rfl) T.n_enumerate (pa_cons (pv 0) pa_nil)) (pg_tup rfl (pgs_cons (pg_name (i := 2) sc_climb_fault.nd rfl (Or.inl rfl)) (pgs_cons (pg_name (i := 3) sc_climb_fault.nd rfl (Or.inl rfl)) pgs_nil))) (pss_cons (ps_if (pt_not (pt_chain op_le op_lt pe_int (pv 3) (pv 1))) (pss_one (ps_ret (pv 2))) pss_nil)
      (pss_one (ps_if (PW.pt (pw_and (pt_cmpR op_gt (pv 2) pe_int (nomark _)) (pw_and1 (pt_cmpR op_le (pv 3) (pe_ix (ixT K) (pv 0) (pe_op op_sub (pv 2) pe_int) (fun _ _ => rfl)) (nomark _))))) (pss_one (ps_ret (pv 2))) pss_nil))))
      (pss_one (ps_ret pe_non))), ?_⟩
  refine ⟨.ref a, rfl, a, _, rfl, hS, for_it walk_enumT (fun i σ H' => (∃ y1 y2, σ = [some (.ref a), some (.int m), y1, y2]) ∧ Same H H' ∧ ∀ j, j < i → okAt ns m j) ⟨⟨_, _, rfl⟩, Same.refl _, fun j hj => absurd hj (by omega)⟩ (fun i σ H' _ h => Same.tup h.2.1 hS) ?_ ?_⟩
  · rintro i x σ H1 H2 hi ⟨⟨y1, y2, rfl⟩, sm, ok⟩ ⟨Tt, x1, x2, rfl, nT, rfl, f1, f2⟩
    obtain ⟨hi2, rfl⟩ := num_map i ns x2 f2
    cases Option.some.inj f1
    have sm2 := sm.trans (Same.new (o := .tup [.int (i : Nat), .int ns[i]]) nT)
    refine ⟨Tt, _, rfl, .inl (.inl upd_same), rfl, _, _, rfl, _, _, rfl, rfl, ?_⟩
    by_cases c1 : 0 ≤ ns[i] ∧ ns[i] < m
    · refine ⟨_, rfl, 0, _, rfl, rfl, _, rfl, itT (decide_eq_true c1.1) ⟨_, rfl, _, _, rfl, rfl, _, rfl, ?_⟩⟩
      rw [decide_eq_true c1.2]
      refine iteF ?_
      by_cases c2 : 0 < i
      · refine ⟨_, rfl, _, 0, rfl, rfl, _, rfl, itT (decide_eq_true (by omega)) ?_⟩
        have g : (ns.map V.int)[i - 1]? = some (.int (ns[i - 1]'(by omega))) := by
          rw [List.getElem?_map, List.getElem?_eq_getElem (by omega)]
          rfl
        refine ⟨_, rfl, .ref a, rfl, _, rfl, _, 1, rfl, rfl, a, _, _, _, rfl, rfl, sm2.tup hS, atN (j := i - 1) g (by omega), _, _, rfl, rfl, _, rfl, ?_⟩
        by_cases c3 : ns[i] ≤ ns[i - 1]'(by omega)
        · refine itT (decide_eq_true c3) ?_
          refine ⟨_, rfl, qi i hi2 (fun z => ?_) ok _ sm2⟩
          have := (z ns[i] (List.getElem?_eq_getElem hi2)).2 _ c2 (List.getElem?_eq_getElem (by omega))
          omega
        · refine itF (decide_eq_false c3) ?_
          refine ⟨⟨_, _, rfl⟩, sm2, fun j hj => ?_⟩
          by_cases e : j < i
          · exact ok j e
          · obtain rfl : j = i := by omega
            intro c hc
            rw [List.getElem?_eq_getElem hi2] at hc
            cases Option.some.inj hc
            refine ⟨c1, fun d _ hd => ?_⟩
            rw [List.getElem?_eq_getElem (by omega)] at hd
            cases Option.some.inj hd
            omega
      · refine ⟨_, rfl, _, 0, rfl, rfl, _, rfl, itF (decide_eq_false (by omega)) ?_⟩
        refine iteF ?_
        refine ⟨⟨_, _, rfl⟩, sm2, fun j hj => ?_⟩
        obtain rfl : i = 0 := by omega
        obtain rfl : j = 0 := by omega
        intro c hc
        rw [List.getElem?_eq_getElem hi2] at hc
        cases Option.some.inj hc
        exact ⟨c1, fun d hd => absurd hd (by omega)⟩
    · have bad : ¬ okAt ns m i := fun z => c1 (z ns[i] (List.getElem?_eq_getElem hi2)).1
      by_cases c0 : 0 ≤ ns[i]
      · refine ⟨_, rfl, 0, _, rfl, rfl, _, rfl, itT (decide_eq_true c0) ⟨_, rfl, _, _, rfl, rfl, _, rfl, ?_⟩⟩
        rw [decide_eq_false (fun z => c1 ⟨c0, z⟩)]
        refine iteT ?_
        exact ⟨_, rfl, qi i hi2 bad ok _ sm2⟩
      · refine ⟨_, rfl, 0, _, rfl, rfl, _, rfl, itF (decide_eq_false c0) ?_⟩
        refine ⟨_, rfl, ?_⟩
        refine iteT ?_
        exact ⟨_, rfl, qi i hi2 bad ok _ sm2⟩
  · rintro σ H' ⟨_, sm, ok⟩
    rw [List.length_map] at ok
    exact qn (fun i c hc => by
      have := (List.getElem?_eq_some_iff.mp hc).1
      exact ok i this c hc) _ sm
def sp_made_table (K : PySem.W.Frag) (cs : CS) : Sp := fun vs H Q E => ∃ (r : Addr) (rows : List (List Int)), vs = [.ref r] ∧ TT K H r rows ∧ GoodT rows ∧ ∀ t H', Same H H' → TB K cs.Table H' t rows → Q (.ref t) H'
theorem ok_made_table (F : Fun K "made_table" "made_table" s_made_table f fd) (T : Txt P w K mg base cs) (c_climb_fault : Cal P w K mg base CX0 1 "climb_fault" ["numbers", "many"] s_climb_fault (sp_climb_fault K cs)) : FnOk P w K mg base CX0 3 f fd ["rows"] (sp_made_table K cs) := by
  refine F.ok sc_made_table (fun vs H Q E h => ?_) (fun cdv A outer s H vs Q E hr h => ?_)
  · obtain ⟨r, rows, rfl, _⟩ := h
    rfl
  obtain ⟨r, rows, rfl, hT, gT, q⟩ := h
  obtain ⟨ws, hS, hl, hget⟩ := hT.seq
  have n1 := gT.n1
  have n8 := gT.n8
  obtain ⟨t8, h8⟩ := T.g_MOST_COATS
  refine ⟨_, (pss_cons (ps_if (pt_not (pt_chain op_le op_le pe_int (pe_callB (lenS K) (by rfl) T.n_len PySem.boot_len (pa_cons (pv 0) pa_nil)) (pe_gint rfl T.g_MOST_COATS))) (pss_one ps_never) pss_nil)
      (pss_cons (ps_for PassesOwn.never rfl (pi_enumT (by rfl) T.n_enumerate (pa_cons (pv 0) pa_nil)) (pg_tup rfl (pgs_cons (pg_name (i := 1) sc_made_table.nd rfl (Or.inr rfl)) (pgs_cons (pg_name (i := 2) sc_made_table.nd rfl (Or.inl rfl)) pgs_nil))) (pss_one (ps_if (pt_cmpR op_notN (pe_cal c_climb_fault (hr.mono (by decide)) pass0 (pa_cons (pv 2) (pa_cons (pe_callB (lenS K) (by rfl) T.n_len PySem.boot_len (pa_cons (pv 0) pa_nil)) pa_nil))) pe_non (nomark _)) (pss_one ps_never) pss_nil)))
      (pss_cons (ps_for PassesOwn.never rfl (pi_enumT (by rfl) T.n_enumerate (pa_cons (pv 0) pa_nil)) (pg_tup rfl (pgs_cons (pg_name (i := 1) sc_made_table.nd rfl (Or.inr rfl)) (pgs_cons (pg_name (i := 2) sc_made_table.nd rfl (Or.inl rfl)) pgs_nil))) (pss_one (ps_if (pt_not (pt_val (pe_callB (allL K rfl) (by rfl) T.n_all (by decide +kernel) (pa_cons (pe_lc (own := [("road", 3)]) rfl sc_made_table.nd (piT K (pv 2)) (blkOk_by (own := [("road", 3)]) (N := ["rows", "coat", "roads", "road"]) (sc := defScope s_made_table) (by decide +kernel)) (fun _ _ _ _ _ => (pg_name (i := 3) sc_made_table.nd rfl (Or.inl rfl))) (fun _ _ _ _ _ => pts_nil) (fun _ _ _ _ _ => (pe_cmpR (inS K) (pv 1) (pe_ix (ixT K) (pv 0) (pv 3) (fun _ _ => rfl)) rfl))) pa_nil)))) (pss_one ps_never) pss_nil)))
      (pss_one (ps_ret (pe_mk T.t_Table (hr.mono (by decide)) (pa_cons (pv 0) pa_nil))))))), ?_⟩
  refine ⟨.ref r, rfl, r, _, rfl, .inr hS, _, _, rfl, rfl, _, rfl, itT (decide_eq_true (by omega)) ⟨_, _, rfl, rfl, _, rfl, ?_⟩⟩
  rw [decide_eq_true (show (ws.length : Int) ≤ 8 by omega)]
  refine iteF ?_
  refine ⟨.ref r, rfl, r, _, rfl, hS, for_it walk_enumT (fun i σ H' => (∃ y1 y2, σ = [some (.ref r), y1, y2, none]) ∧ Same H H') ⟨⟨_, _, rfl⟩, Same.refl _⟩ (fun i σ H' _ h => Same.tup h.2 hS) ?_ ?_⟩
  · rintro i x σ H1 H2 hi ⟨⟨y1, y2, rfl⟩, sm⟩ ⟨Tt, x1, x2, rfl, nT, rfl, f1, f2⟩
    have hi2 : i < rows.length := by omega
    obtain ⟨b, hb, hbs⟩ := hget i rows[i] (List.getElem?_eq_getElem hi2)
    cases Option.some.inj (hb.symm.trans f2)
    cases Option.some.inj f1
    have sm2 := sm.trans (Same.new (o := .tup [.int (i : Nat), .ref b]) nT)
    refine ⟨Tt, _, rfl, .inl (.inl upd_same), rfl, _, _, rfl, _, _, rfl, rfl, ?_⟩
    refine ⟨.ref b, rfl, .ref r, rfl, r, _, rfl, .inr (sm2.tup hS), ?_⟩
    refine ⟨b, rows[i], _, rfl, sm2.tup hbs, fun _ H3 s3 => ⟨rfl, _, rfl, iteF ⟨⟨_, _, rfl⟩, sm2.trans s3⟩⟩, fun j hj bad _ _ _ => ?_⟩
    rw [hl] at bad
    exact absurd (gT.asc _ (List.getElem_mem hi2) j) bad
  rintro σ H1 ⟨⟨y1, y2, rfl⟩, sm⟩
  refine ⟨.ref r, rfl, r, _, rfl, sm.tup hS, for_it walk_enumT (fun i σ H' => (∃ y1 y2, σ = [some (.ref r), y1, y2, none]) ∧ Same H H') ⟨⟨_, _, rfl⟩, sm⟩ (fun i σ H' _ h => Same.tup h.2 hS) ?_ ?_⟩
  · rintro i x σ H2 H3 hi ⟨⟨y1, y2, rfl⟩, sm⟩ ⟨Tt, x1, x2, rfl, nT, rfl, f1, f2⟩
    have hi2 : i < rows.length := by omega
    obtain ⟨b, hb, hbs⟩ := hget i rows[i] (List.getElem?_eq_getElem hi2)
    cases Option.some.inj (hb.symm.trans f2)
    cases Option.some.inj f1
    have sm2 := sm.trans (Same.new (o := .tup [.int (i : Nat), .ref b]) nT)
    refine ⟨Tt, _, rfl, .inl (.inl upd_same), rfl, _, _, rfl, _, _, rfl, rfl, ?_⟩
    refine ⟨.ref b, rfl, b, rfl, ⟨_, sm2.tup hbs⟩, fun D nD => ?_⟩
    have hrow : rows[i] ∈ rows := List.getElem_mem hi2
    refine lc_rd (fun k => .int (rows[i].getD k 0)) walk_tup yInt (fun _ v _ => v = .bl true) nD ?_ (fun _ => rfl) (fun H' s => (sm2.trans s).tup hbs) (fun _ _ _ _ _ h => h) (fun k hk H' Q' s h => ?_) (fun xs H' hx hD s hv => ?_) (fun _ _ _ _ _ h _ => h)
    · rw [List.length_map]
      have := asc_len gT hrow
      omega
    · rw [List.length_map] at hk
      have hm := getD_in hk
      obtain ⟨row', hr1, hr2⟩ := gT.sym i rows[i] (List.getElem?_eq_getElem hi2) _ hm
      obtain ⟨b', hb', hbs'⟩ := hget _ row' hr1
      have hc := gT.lt hrow hm
      have sm3 := sm2.trans s
      refine ⟨_, rfl, .ref r, rfl, _, rfl, r, ws, _, .ref b', rfl, rfl, sm3.tup hS, atN hb' (by omega), b', row'.map V.int, rfl, .inr (sm3.tup hbs'), rfl, flat_ints _, ?_⟩
      refine h _ _ (Same.refl _) ?_
      rw [inV_int hr2]
      rfl
    · refine ⟨D, List.replicate xs.length true, rfl, SqL.of (by rw [hD, ← all_bl hv]), true, ?_, iteF ⟨⟨_, _, rfl⟩, sm2.trans s⟩⟩
      rw [all_true]
  · rintro σ H2 ⟨⟨y1, y2, rfl⟩, sm⟩
    exact ⟨.ref r, rfl, mk_tb (hT.same sm) fun x H3 s3 h3 => q x H3 (sm.trans s3) h3⟩
def sp_doubled (K : PySem.W.Frag) (cs : CS) : Sp := fun vs H Q E => ∃ (t : Addr) (rows : List (List Int)), vs = [.ref t] ∧ TB K cs.Table H t rows ∧ GoodT rows ∧ (2 * rows.length ≤ 8 → ∀ x H', Same H H' → TB K cs.Table H' x (dbl rows) → Q (.ref x) H') ∧ (8 < 2 * rows.length → ∀ d, H d = none → E (.ref cs.BadSize) (some d) (upd H d (.xd [("what", .int (2 * (rows.length : Nat)))])))
theorem ok_doubled (F : Fun K "doubled" "doubled" s_doubled f fd) (T : Txt P w K mg base cs)  : FnOk P w K mg base (L2.CX P w) 3 f fd ["table"] (sp_doubled K cs) := by
  refine F.okX sc_doubled (fun vs H Q E h => ?_) (fun cdv A outer s H vs Q E hr h => ?_)
  · obtain ⟨t, rows, rfl, _⟩ := h
    rfl
  obtain ⟨t, rows, rfl, ⟨dx, r, ht, hT⟩, gT, qo, qe⟩ := h
  obtain ⟨ws, hS, hl, hget⟩ := hT.seq
  have n1 := gT.n1
  have n8 := gT.n8
  obtain ⟨t8, h8⟩ := T.g_MOST_COATS
  refine ⟨_, (pss_cons (ps_if (pt_cmpR op_gt (pe_op op_mul pe_int (peF K (pv 0))) (pe_gint rfl T.g_MOST_COATS) (nomark _)) (pss_one (ps_raiseW rfl T.x_BadSize (hr.mono (by decide)) (takes_of rfl rfl rfl rfl) (pa_cons (pe_op op_mul pe_int (peF K (pv 0))) pa_nil))) pss_nil)
      (pss_one (ps_ret (pe_mk T.t_Table (hr.mono (by decide)) (pa_cons (pe_callTy (tupOf K) (by rfl) T.n_tuple (by decide +kernel) (pa_cons (pe_lc2 (own := [("coat", 1), ("side", 2)]) (vs1 := [2]) rfl sc_doubled.nd (pi_range1 (by rfl) T.n_range (pa_cons (peF K (pv 0)) pa_nil)) (blkOk_by (own := [("coat", 1), ("side", 2)]) (N := ["table", "coat", "side", "road"]) (sc := defScope s_doubled) (by decide +kernel)) (by decide) (fun _ _ _ _ _ => (pg_name (i := 1) sc_doubled.nd rfl (Or.inl rfl))) (fun _ _ _ _ _ => pts_nil) (fun _ _ _ _ _ => (pi_range1 (by rfl) T.n_range (pa_cons pe_int pa_nil))) (fun _ _ _ _ _ => (pg_name (i := 2) sc_doubled.nd rfl (Or.inr rfl))) (fun _ _ _ _ _ => pts_nil) (fun _ _ _ _ _ => (pe_callTy (tupOf K) (by rfl) T.n_tuple (by decide +kernel) (pa_cons (pe_lc (own := [("road", 3)]) rfl sc_doubled.nd (piT K (pe_ix (ixT K) (peF K (pv 0)) (pv 1) (fun _ _ => rfl))) (blkOk_by (own := [("road", 3)]) (N := ["table", "coat", "side", "road"]) (sc := ({ kind := PySem.ScopeKind.function, names := [ (PySem.Str.ofString ".0", PySem.NameKind.local), (PySem.Str.ofString "coat", PySem.NameKind.local), (PySem.Str.ofString "side", PySem.NameKind.cell), (PySem.Str.ofString "range", PySem.NameKind.globalImplicit), (PySem.Str.ofString "tuple", PySem.NameKind.globalImplicit), (PySem.Str.ofString "table", PySem.NameKind.cell)], isGenerator := false, isCoroutine := false, more := [] : PySem.Scope })) (by decide +kernel)) (fun _ _ _ _ _ => (pg_name (i := 3) sc_doubled.nd rfl (Or.inl rfl))) (fun _ _ _ _ _ => pts_nil) (fun _ _ _ _ _ => (pe_op op_sub (pe_op op_add (pe_op op_mul pe_int (pv 3)) pe_int) (pv 2)))) pa_nil)))) pa_nil)) pa_nil))))), ?_⟩
  refine ⟨.ref t, rfl, t, _, dx, _, _, rfl, ht, T.cl_Table, T.na_Table_many, rfl, 2, _, rfl, rfl, .inl ⟨by omega, by omega⟩, _, _, rfl, rfl, _, rfl, ?_⟩
  by_cases c : 2 * rows.length ≤ 8
  · refine itF (decide_eq_false (by omega)) ?_
    refine ⟨.ref t, rfl, t, _, dx, _, _, rfl, ht, T.cl_Table, T.na_Table_many, rfl, ?_⟩
    refine ⟨_, rfl, by omega, by omega, fun D nD => ?_⟩
    have e0 : ((rows.length : Nat) : Int).toNat = rows.length := Int.toNat_natCast _
    rw [e0]
    have tl : ∀ i, (rows.take i).length ≤ 8 := fun i => by rw [List.length_take]; omega
    refine lc2_it walk_range (fun i H' => ∃ us, H' D = some (.lst us) ∧ Same H H' ∧ Rws K H' us (dbl (rows.take i))) ⟨[], upd_same, Same.new nD, Rws.nil⟩ (fun _ _ _ _ => trivial) ?_ ?_
    · rintro i x H1 H2 hi ⟨us, hD, sm, hr1⟩ ⟨rfl, rfl⟩
      refine ⟨rfl, ?_⟩
      refine tYes_i (iteT ?_)
      refine ⟨_, rfl, by decide, by decide, ?_⟩
      have hrow : rows[i]? = some rows[i] := List.getElem?_eq_getElem hi
      obtain ⟨b, hb, hbs⟩ := hget i rows[i] hrow
      have hlen := asc_len gT (List.getElem_mem hi)
      refine lc2_in walk_range (fun j H' => ∃ us, H' D = some (.lst us) ∧ Same H H' ∧ Rws K H' us (dbl (rows.take i) ++ [dblRow rows[i] 0, dblRow rows[i] 1].take j)) ⟨us, hD, sm, by rw [List.take_zero, List.append_nil]; exact hr1⟩ (fun _ _ _ _ => trivial) ?_ ?_
      · rintro j x H1 H2 hj ⟨us, hD, sm, hr1⟩ ⟨rfl, rfl⟩
        refine ⟨rfl, ?_⟩
        refine tYes_i (iteT ?_)
        refine ⟨.ref t, rfl, t, _, dx, _, .ref r, rfl, sm _ _ ht, T.cl_Table, T.na_Table_beside, rfl, _, rfl, r, ws, _, .ref b, rfl, rfl, sm.tup hS, atN hb (by omega), b, rfl, ⟨_, sm.tup hbs⟩, fun D2 nD2 => ?_⟩
        refine lc_mapI (fun s => 2 * s + 1 - (0 + (j : Int))) (sm.tup hbs) nD2 (by omega) (fun _ => rfl) (fun c hc H' Q' s h => ?_) (fun H3 hD2 s3 => ?_)
        · have := gT.lt (List.getElem_mem hi) hc
          exact ⟨_, rfl, 2, c, rfl, rfl, .inl ⟨by omega, by omega⟩, _, _, rfl, rfl, _, rfl, _, _, rfl, rfl, h _ _ (Same.refl _) rfl⟩
        · refine ⟨D2, _, rfl, .inl ⟨SqL.of hD2, fun p np => ?_⟩⟩
          have s4 := s3.trans (Same.new (o := .tup ((rows[i].map fun s => 2 * s + 1 - (0 + (j : Int))).map V.int)) np)
          have hr2 := (hr1.same s4).snoc (b := p) (r := rows[i].map fun s => 2 * s + 1 - (0 + (j : Int))) (SqT.of upd_same)
          have hl2 := hr1.len
          refine ⟨us, s4 _ _ hD, smallLt ?_, us ++ [.ref p], upd_same, ?_, ?_⟩
          · rw [hl2, List.length_append, dbl_len, List.length_take, List.length_take]
            have e2 : ([dblRow rows[i] 0, dblRow rows[i] 1] : List (List Int)).length = 2 := rfl
            rw [e2]
            omega
          · intro y o hy
            by_cases e : y = D
            · subst e
              rw [nD] at hy; cases hy
            · rw [upd_ne e]
              exact s4 _ _ (sm _ _ hy)
          · have e : dbl (rows.take i) ++ [dblRow rows[i] 0, dblRow rows[i] 1].take (j + 1) = dbl (rows.take i) ++ [dblRow rows[i] 0, dblRow rows[i] 1].take j ++ [rows[i].map fun s => 2 * s + 1 - (0 + (j : Int))] := by
              rw [List.append_assoc]
              congr 1
              have hj2 : j < 2 := hj
              match j, hj2 with
              | 0, _ => rfl
              | 1, _ => rfl
            rw [e]
            exact hr2.upd (s4 _ _ hD)
      · rintro H' ⟨us, hD, sm, hr1⟩
        refine ⟨us, hD, sm, ?_⟩
        rw [dbl_take hrow, List.append_assoc]
        exact hr1
    · rintro H' ⟨us, hD, sm, hr1⟩
      rw [List.take_length] at hr1
      refine ⟨D, _, rfl, .inl ⟨SqL.of hD, fun p np => ?_⟩⟩
      have s4 : Same H' (upd H' p (.tup us)) := Same.new np
      exact mk_tb ((hr1.same s4).tt (SqT.of upd_same)) fun x H3 s3 h3 => qo c x H3 ((sm.trans s4).trans s3) h3
  · refine itT (decide_eq_true (by omega)) ?_
    refine ⟨.ref t, rfl, t, _, dx, _, _, rfl, ht, T.cl_Table, T.na_Table_many, rfl, 2, _, rfl, rfl, .inl ⟨by omega, by omega⟩, ?_⟩
    exact made_what T.xc_BadSize fun d nd => qe (by omega) d nd
def sp_even_ends (K : PySem.W.Frag) (cs : CS) : Sp := fun vs H Q E => ∃ (t : Addr) (rows : List (List Int)) (p : Nat), vs = [.ref t, .int (p : Nat)] ∧ TB K cs.Table H t rows ∧ GoodT rows ∧ p < rows.length ∧ ∀ (l : Addr) (es : List Int) (H' : Hp), Same H H' → H' l = some (.lst (es.map V.int)) → (∃ e, e ∈ es) → (∀ e ∈ es, Rch rows (p : Nat) e) → (∀ q, Rch rows (p : Nat) q → q ∈ es) → Q (.ref l) H'
theorem ok_even_ends (F : Fun K "even_ends" "even_ends" s_even_ends f fd) (T : Txt P w K mg base cs)  : FnOk P w K mg base CX0 1 f fd ["table", "start"] (sp_even_ends K cs) := by
  refine F.ok sc_even_ends (fun vs H Q E h => ?_) (fun cdv A outer s H vs Q E hr h => ?_)
  · obtain ⟨t, rows, p, rfl, _⟩ := h
    rfl
  obtain ⟨t, rows, p, rfl, ⟨dx, r, ht, hT⟩, gT, hp, q⟩ := h
  obtain ⟨ws, hS, hl, hget⟩ := hT.seq
  have n1 := gT.n1
  have n8 := gT.n8
  have hp0 : (0 : Int) ≤ (p : Nat) ∧ ((p : Nat) : Int) < (rows.length : Nat) := by omega
  refine ⟨_, (pss_cons (ps_set (i := 2) sc_even_ends.nd rfl (Or.inl rfl) (pe_lst (pa_cons (pv 1) pa_nil)))
      (pss_cons (ps_set (i := 3) sc_even_ends.nd rfl (Or.inl rfl) pe_int)
      (pss_cons (ps_while PassesOwn.never (pt_cmpR op_lt (pv 3) (pe_callB (lenS K) (by rfl) T.n_len PySem.boot_len (pa_cons (pv 2) pa_nil)) (nomark _)) (pss_cons (ps_set (i := 4) sc_even_ends.nd rfl (Or.inl rfl) (pe_ix (ixT K) (peF K (pv 0)) (pe_ix (ixL K) (pv 2) (pv 3) (fun _ _ => rfl)) (fun _ _ => rfl)))
      (pss_cons (ps_for PassesOwn.never rfl (piL K (pe_lc2 (own := [("road", 6), ("coat", 7)]) (vs1 := [7]) rfl sc_even_ends.nd (piT K (pv 4)) (blkOk_by (own := [("road", 6), ("coat", 7)]) (N := ["table", "start", "ends", "at", "roads", "end", "road", "coat"]) (sc := defScope s_even_ends) (by decide +kernel)) (by decide) (fun _ _ _ _ _ => (pg_name (i := 6) sc_even_ends.nd rfl (Or.inl rfl))) (fun _ _ _ _ _ => pts_nil) (fun _ _ _ _ _ => (piT K (pe_ix (ixT K) (peF K (pv 0)) (pv 6) (fun _ _ => rfl)))) (fun _ _ _ _ _ => (pg_name (i := 7) sc_even_ends.nd rfl (Or.inl rfl))) (fun _ _ _ _ _ => pts_nil) (fun _ _ _ _ _ => (pv 7)))) (pg_name (i := 5) sc_even_ends.nd rfl (Or.inl rfl)) (pss_one (ps_if (pt_cmpR (ninS K) (pv 5) (pv 2) rfl) (pss_one (ps_expr (pe_bm PySem.F.plainAttrs_list PySem.F.slot_list_append PySem.F.type_list_append mt_append (pv 2) (pa_cons (pv 5) pa_nil)))) pss_nil)))
      (pss_one (ps_aug (i := 3) sc_even_ends.nd rfl (Or.inl rfl) pe_int ip_add)))))
      (pss_one (ps_ret (pv 2)))))), ?_⟩
  refine ⟨_, rfl, by show 1 ≤ sizeLine; decide, fun l nl => ?_⟩
  refine ⟨fun m σ H' => ∃ (es : List Int) (at_ : Nat) (y4 y5 : Option V), σ = [some (.ref t), some (.int (p : Nat)), some (.ref l), some (.int (at_ : Nat)), y4, y5, none, none] ∧ m = rows.length - at_ ∧ Same H H' ∧ H' l = some (.lst (es.map V.int)) ∧ es.Nodup ∧ ((p : Nat) : Int) ∈ es ∧
    (∀ e ∈ es, Rch rows (p : Nat) e) ∧ at_ ≤ es.length ∧ ∀ k e, k < at_ → es[k]? = some e → ∀ q, Two rows e q → q ∈ es,
    ⟨_, [(p : Int)], 0, none, none, rfl, rfl, Same.new nl, upd_same, (nodup1 _), List.mem_singleton_self _, fun e he => by rw [List.mem_singleton.mp he]; exact .refl, Nat.zero_le _, fun k e hk => absurd hk (by omega)⟩, ?_⟩
  rintro m σ H1 ⟨es, a0, y4, y5, rfl, rfl, sm, hl1, nd, hpe, hr1, ha, hc⟩
  have hes : es.length ≤ rows.length := nodup_len _ es nd fun e he => rch_lt gT hp0 (hr1 e he)
  refine ⟨_, rfl, .ref l, rfl, l, _, rfl, .inl (SqL.of hl1), _, _, rfl, rfl, _, rfl, ?_⟩
  by_cases c : a0 < es.length
  · refine itT (decide_eq_true (by rw [List.length_map]; omega)) ?_
    have hr0 := rch_lt gT hp0 (hr1 _ (List.getElem_mem c))
    have hi : es[a0].toNat < rows.length := by omega
    have hrow : rows[es[a0].toNat]? = some rows[es[a0].toNat] := List.getElem?_eq_getElem hi
    obtain ⟨b, hb, hbs⟩ := hget _ _ hrow
    have hrw := row_of hrow
    generalize rows[es[a0].toNat] = row at hrow hbs hrw
    have hlen : row.length ≤ 8 := asc_len gT (List.mem_of_getElem? hrow)
    have g1 : (es.map V.int)[a0]? = some (.int es[a0]) := by rw [List.getElem?_map, List.getElem?_eq_getElem c]; rfl
    refine ⟨fun σ' H' => ∃ m', m' < rows.length - a0 ∧ ∃ (es : List Int) (at_ : Nat) (y4 y5 : Option V), σ' = [some (.ref t), some (.int (p : Nat)), some (.ref l), some (.int (at_ : Nat)), y4, y5, none, none] ∧ m' = rows.length - at_ ∧ Same H H' ∧ H' l = some (.lst (es.map V.int)) ∧ es.Nodup ∧ ((p : Nat) : Int) ∈ es ∧
      (∀ e ∈ es, Rch rows (p : Nat) e) ∧ at_ ≤ es.length ∧ ∀ k e, k < at_ → es[k]? = some e → ∀ q, Two rows e q → q ∈ es, fun σ' H' h => h, ?_⟩
    refine ⟨.ref t, rfl, t, _, dx, _, .ref r, rfl, sm _ _ ht, T.cl_Table, T.na_Table_beside, rfl, .ref l, rfl, _, rfl, l, _, _, _, rfl, rfl, SqL.of hl1, atN g1 rfl, r, ws, _, .ref b, rfl, rfl, sm.tup hS, atN hb (by omega), ?_⟩
    refine ⟨.ref b, rfl, b, rfl, ⟨_, sm.tup hbs⟩, fun D nD => ?_⟩
    refine lc2_it walk_tup (fun i H' => H' D = some (.lst ((twos rows (row.take i)).map V.int)) ∧ Same H1 H') ⟨upd_same, Same.new nD⟩ (fun i H' _ h => (sm.trans h.2).tup hbs) ?_ ?_
    · rintro i x H2 H3 hi2 ⟨hD, s2⟩ ⟨rfl, hx⟩
      obtain ⟨hi3, rfl⟩ := num_map i row x hx
      have hc1 := gT.lt (List.mem_of_getElem? hrow) (List.getElem_mem hi3)
      have hi4 : row[i].toNat < rows.length := by omega
      have hrow2 : rows[row[i].toNat]? = some rows[row[i].toNat] := List.getElem?_eq_getElem hi4
      obtain ⟨b2, hb2, hbs2⟩ := hget _ _ hrow2
      have hrw2 := row_of hrow2
      generalize rows[row[i].toNat] = row2 at hrow2 hbs2 hrw2
      have hlen2 : row2.length ≤ 8 := asc_len gT (List.mem_of_getElem? hrow2)
      have s3 := sm.trans s2
      refine ⟨rfl, ?_⟩
      refine tYes_i (iteT ?_)
      refine ⟨.ref t, rfl, t, _, dx, _, .ref r, rfl, s3 _ _ ht, T.cl_Table, T.na_Table_beside, rfl, _, rfl, r, ws, _, .ref b2, rfl, rfl, s3.tup hS, atN hb2 (by omega), b2, rfl, ⟨_, s3.tup hbs2⟩, ?_⟩
      refine lc2_in walk_tup (fun j H' => H' D = some (.lst ((twos rows (row.take i) ++ row2.take j).map V.int)) ∧ Same H1 H') ⟨by rw [List.take_zero, List.append_nil]; exact hD, s2⟩ (fun j H' _ h => (sm.trans h.2).tup hbs2) ?_ ?_
      · rintro j x H4 H5 hj ⟨hD, s4⟩ ⟨rfl, hx⟩
        obtain ⟨hj3, rfl⟩ := num_map j row2 x hx
        refine ⟨rfl, ?_⟩
        refine tYes_i (iteT ?_)
        refine ⟨_, rfl, _, hD, smallLt ?_, ?_, ?_⟩
        · have := twos_len gT (row.take i)
          rw [List.length_map, List.length_append, List.length_take]
          rw [List.length_take] at this
          omega
        · rw [upd_same, ← snocV, List.take_add_one, List.getElem?_eq_getElem hj3, ← List.append_assoc]
          rfl
        · exact s4.mut nD
      · rintro H' ⟨hD, s4⟩
        rw [List.length_map, List.take_length] at hD
        exact ⟨by rw [twos_take hi3, hrw2]; exact hD, s4⟩
    · rintro H2 ⟨hD, s2⟩
      rw [List.length_map, List.take_length] at hD
      have s3 := sm.trans s2
      refine ⟨D, rfl, ⟨_, SqL.of hD⟩, ?_⟩
      have neD : D ≠ l := fun z => by rw [z, hl1] at nD; cases nD
      refine for_list (fun k σ H' => ∃ (ex : List Int) (y5 : Option V), σ = [some (.ref t), some (.int (p : Nat)), some (.ref l), some (.int (a0 : Nat)), some (.ref b), y5, none, none] ∧ Same H H' ∧ H' l = some (.lst ((es ++ ex).map V.int)) ∧ H' D = some (.lst ((twos rows row).map V.int)) ∧ (es ++ ex).Nodup ∧
        (∀ e ∈ es ++ ex, Rch rows (p : Nat) e) ∧ ∀ j e, j < k → (twos rows row)[j]? = some e → e ∈ es ++ ex) ⟨[], y5, rfl, s3, by rw [List.append_nil]; exact s2 _ _ hl1, hD, by rw [List.append_nil]; exact nd, by rw [List.append_nil]; exact hr1, fun j e hj => absurd hj (by omega)⟩ (fun k σ H' _ h => by
          obtain ⟨_, _, _, _, _, h, _⟩ := h
          exact SqL.of h) ?_ ?_
      · rintro k x σ H3 hk ⟨ex, y5, rfl, s4, hl2, hD2, nd2, hr2, hm⟩
        obtain ⟨hk2, rfl⟩ := num_map k _ x hk
        generalize hz : (twos rows row)[k] = z
        have hz2 : (twos rows row)[k]? = some z := by rw [← hz]; exact List.getElem?_eq_getElem hk2
        have hzT : Two rows es[a0] z := by
          rw [← mem_twos, hrw]
          exact List.mem_of_getElem? hz2
        refine ⟨_, rfl, .ref l, rfl, l, _, rfl, .inl (SqL.of hl2), rfl, flat_ints _, _, rfl, ?_⟩
        by_cases cm : z ∈ es ++ ex
        · refine itF (by rw [inV_dec, decide_eq_true cm]; rfl) ?_
          refine ⟨ex, _, rfl, s4, hl2, hD2, nd2, hr2, fun j e hj he => ?_⟩
          by_cases hjk : j < k
          · exact hm j e hjk he
          · obtain rfl : j = k := by omega
            rw [hz2] at he
            cases Option.some.inj he
            exact cm
        · refine itT (by rw [inV_dec, decide_eq_false cm]; rfl) ?_
          have hr3 : ∀ e ∈ es ++ (ex ++ [z]), Rch rows (p : Nat) e := fun e he => by
            rw [← List.append_assoc] at he
            rcases List.mem_append.mp he with h | h
            · exact hr2 e h
            · rw [List.mem_singleton.mp h]
              exact .step (hr1 _ (List.getElem_mem c)) hzT
          have nd3 : (es ++ (ex ++ [z])).Nodup := by
            rw [← List.append_assoc]
            refine List.nodup_append.mpr ⟨nd2, (nodup1 _), fun a ha b hb => ?_⟩
            rw [List.mem_singleton.mp hb]
            exact fun e => cm (e ▸ ha)
          have hl4 : (es ++ ex).length ≤ rows.length := nodup_len _ _ nd2 fun e he => rch_lt gT hp0 (hr2 e he)
          refine ⟨.ref l, rfl, .inl ⟨rfl, _, SqL.of hl2⟩, _, rfl, l, _, _, rfl, rfl, hl2, smallLt (by rw [List.length_map]; omega), ?_⟩
          refine ⟨ex ++ [z], _, rfl, s4.mut nl, ?_, ?_, nd3, hr3, fun j e hj he => ?_⟩
          · rw [upd_same, ← snocV, ← List.append_assoc]
          · rw [upd_ne neD]
            exact hD2
          · rw [← List.append_assoc]
            by_cases hjk : j < k
            · exact List.mem_append_left _ (hm j e hjk he)
            · obtain rfl : j = k := by omega
              rw [hz2] at he
              cases Option.some.inj he
              exact List.mem_append_right _ (List.mem_singleton_self _)
      · rintro σ H3 ⟨ex, y5, rfl, s4, hl2, hD2, nd2, hr2, hm⟩
        refine ⟨_, rfl, _, _, rfl, rfl, ?_⟩
        refine ⟨rows.length - (a0 + 1), by omega, es ++ ex, a0 + 1, _, _, rfl, rfl, s4, hl2, nd2, List.mem_append_left _ hpe, hr2, by rw [List.length_append]; omega, fun k e hk he q hq => ?_⟩
        have hk2 : k < es.length := by omega
        rw [List.getElem?_append_left hk2] at he
        by_cases hka : k < a0
        · exact List.mem_append_left _ (hc k e hka he q hq)
        · obtain rfl : k = a0 := by omega
          rw [List.getElem?_eq_getElem c] at he
          cases Option.some.inj he
          rw [← mem_twos, hrw] at hq
          obtain ⟨j, hj, rfl⟩ := List.getElem_of_mem hq
          exact hm j _ (by rw [List.length_map]; exact hj) (List.getElem?_eq_getElem hj)
  · refine itF (decide_eq_false (by rw [List.length_map]; omega)) ?_
    refine ⟨.ref l, rfl, q l es H1 sm hl1 ⟨_, hpe⟩ hr1 fun z hz => ?_⟩
    refine closed_rch hpe (fun e he q hq => ?_) hz
    obtain ⟨k, hk, rfl⟩ := List.getElem_of_mem he
    exact hc k _ (by omega) (List.getElem?_eq_getElem hk) q hq
def sp_even_lots (K : PySem.W.Frag) (cs : CS) : Sp := fun vs H Q E => ∃ (t : Addr) (rows : List (List Int)), vs = [.ref t] ∧ TB K cs.Table H t rows ∧ GoodT rows ∧ ∀ (x : Addr) (ms : List Int) (H' : Hp), Same H H' → SqT K H' x (ms.map V.int) → ms.length = rows.length → (∀ (i : Nat) (m : Int), ms[i]? = some m → Lst rows (i : Nat) m) → Q (.ref x) H'
theorem ok_even_lots (F : Fun K "even_lots" "even_lots" s_even_lots f fd) (T : Txt P w K mg base cs) (c_even_ends : Cal P w K mg base CX0 1 "even_ends" ["table", "start"] s_even_ends (sp_even_ends K cs)) : FnOk P w K mg base CX0 2 f fd ["table"] (sp_even_lots K cs) := by
  refine F.ok sc_even_lots (fun vs H Q E h => ?_) (fun cdv A outer s H vs Q E hr h => ?_)
  · obtain ⟨t, rows, rfl, _⟩ := h
    rfl
  obtain ⟨t, rows, rfl, ⟨dx, r, ht, hT⟩, gT, q⟩ := h
  have n1 := gT.n1
  have n8 := gT.n8
  refine ⟨_, (pss_one (ps_ret (pe_callTy (tupOf K) (by rfl) T.n_tuple (by decide +kernel) (pa_cons (pe_lc (own := [("coat", 1)]) rfl sc_even_lots.nd (pi_range1 (by rfl) T.n_range (pa_cons (peF K (pv 0)) pa_nil)) (blkOk_by (own := [("coat", 1)]) (N := ["table", "coat"]) (sc := defScope s_even_lots) (by decide +kernel)) (fun _ _ _ _ _ => (pg_name (i := 1) sc_even_lots.nd rfl (Or.inl rfl))) (fun _ _ _ _ _ => pts_nil) (fun _ _ _ _ _ => (pe_callB (minL K rfl) (by rfl) T.n_min (by decide +kernel) (pa_cons (pe_cal c_even_ends (hr.mono (by decide)) pass0 (pa_cons (pv 0) (pa_cons (pv 1) pa_nil))) pa_nil)))) pa_nil)))), ?_⟩
  refine ⟨.ref t, rfl, t, _, dx, _, _, rfl, ht, T.cl_Table, T.na_Table_many, rfl, _, rfl, by omega, by omega, fun D nD => ?_⟩
  have e0 : ((rows.length : Nat) : Int).toNat = rows.length := Int.toNat_natCast _
  rw [e0]
  refine lc_rd (fun k => .int (0 + (k : Int))) walk_range (fun _ _ _ _ y _ => y) (fun i v _ => ∃ m, v = .int m ∧ Lst rows (i : Nat) m) nD (by omega) (fun _ => rfl) (fun _ _ => trivial) (fun _ _ _ _ _ h => h) (fun k hk H' Q' s h => ?_) (fun xs H' hx hD s hv => ?_) (fun _ _ _ _ _ h _ => h)
  · refine ⟨.ref t, rfl, _, rfl, t, rows, k, by rw [Int.zero_add]; rfl, TB.same s ⟨dx, r, ht, hT⟩, gT, hk, fun l es H2 s2 hl2 hne h1 h2 => ?_⟩
    refine ⟨l, es, rfl, SqL.of hl2, ?_, fun m hm hle => h _ _ s2 ⟨m, rfl, h1 m hm, fun q hq => hle q (h2 q hq)⟩⟩
    obtain ⟨e, he⟩ := hne
    exact List.length_pos_of_mem he
  · obtain ⟨ms, rfl, hms⟩ := ints_ex (xs := xs) (P := fun i m => Lst rows (i : Nat) m) 0 fun i v e => by rw [Nat.zero_add]; exact hv i v e
    refine ⟨D, _, rfl, .inl ⟨SqL.of hD, fun x nx => ?_⟩⟩
    refine q x ms _ (s.trans (Same.new nx)) (SqT.of upd_same) (by rw [List.length_map] at hx; exact hx) fun i m e => ?_
    have := hms i m e
    rw [Nat.zero_add] at this
    exact this
def sp__law_pool (K : PySem.W.Frag) (cs : CS) : Sp := fun vs H Q E => ∃ (a : Addr) (ns : List Int) (k : Int), vs = [.ref a, .int k] ∧ SqL K H a (ns.map V.int) ∧ 0 ≤ k ∧ k < 1000 ∧ ∀ p H', H p = none → Same H H' → Src H' p → Q (.ref p) H'
theorem ok__law_pool (F : Fun K "_law_pool" "_law_pool" s__law_pool f fd) (T : Txt P w K mg base cs)  : FnOk P w K mg base CX0 1 f fd ["script", "k"] (sp__law_pool K cs) := by
  refine F.ok sc__law_pool (fun vs H Q E h => ?_) (fun cdv A outer s H vs Q E hr h => ?_)
  · obtain ⟨a, ns, k, rfl, _⟩ := h
    rfl
  obtain ⟨a, ns, k, rfl, hS, hk, hk2, q⟩ := h
  obtain ⟨j, rfl⟩ : ∃ j : Nat, k = (j : Int) := ⟨k.toNat, by omega⟩
  have hjj : (0 : Int) ≤ 7919 * (j : Int) * (j : Int) ∧ 7919 * (j : Int) * (j : Int) ≤ 7919000 * 1000 := by
    have h1 : (0 : Int) ≤ 7919 * (j : Int) := by omega
    have h2 : 7919 * (j : Int) ≤ 7919000 := by omega
    exact ⟨Int.mul_nonneg h1 hk, Int.mul_le_mul h2 (by omega) hk (by decide)⟩
  refine ⟨_, (pss_cons (ps_set (i := 2) sc__law_pool.nd rfl (Or.inl rfl) pe_int)
      (pss_cons (ps_if (pt_cmpR op_lt (pv 1) (pe_callB (lenS K) (by rfl) T.n_len PySem.boot_len (pa_cons (pv 0) pa_nil)) (nomark _)) (pss_one (ps_set (i := 2) sc__law_pool.nd rfl (Or.inl rfl) (pe_ix (ixL K) (pv 0) (pv 1) (fun _ _ => rfl)))) (pss_one (ps_if (pt_truth (pv 0) (by intro _; rfl)) (pss_one (ps_set (i := 2) sc__law_pool.nd rfl (Or.inl rfl) (pe_ix (ixL K) (pv 0) pe_int (fun _ _ => rfl)))) pss_nil)))
      (pss_cons (ps_set (i := 3) sc__law_pool.nd rfl (Or.inl rfl) (pe_callB (call_max2 rfl) (by rfl) T.n_max (by decide +kernel) (pa_cons (pe_callTy call_int1 (by rfl) T.n_int (by decide +kernel) (pa_cons (pv 2) pa_nil)) (pa_cons (pe_callTy call_int1 (by rfl) T.n_int (by decide +kernel) (pa_cons (pe_op op_sub (pe_un un_neg pe_int) (pv 2)) pa_nil)) pa_nil))))
      (pss_cons (ps_set (i := 4) sc__law_pool.nd rfl (Or.inl rfl) (pe_op op_mod (pe_callTy call_int1 (by rfl) T.n_int (by decide +kernel) (pa_cons (pe_op op_mul (pe_op op_add (pe_op op_add (pe_op op_add (pe_op op_mod (pe_callTy call_int1 (by rfl) T.n_int (by decide +kernel) (pa_cons (pv 3) pa_nil)) pe_int) (pe_op op_mul (pe_op op_mul pe_int (pv 1)) (pv 1))) (pe_op op_mul pe_int (pv 1))) pe_int) pe_int) pa_nil)) pe_int))
      (pss_one (ps_ret (pe_lst (pa_cons (pe_op op_mul (pv 3) (pe_callTy call_int1 (by rfl) T.n_int (by decide +kernel) (pa_cons (pe_cmpR op_ge (pv 3) (pe_op op_pow pe_int pe_int) (nomark _)) pa_nil))) (pa_cons (pv 4) pa_nil))))))))), ?_⟩
  refine ⟨.int j, rfl, .ref a, rfl, a, _, rfl, .inl hS, j, _, rfl, rfl, _, rfl, ite2
    (fun c => ⟨.ref a, rfl, .int j, rfl, a, _, j, .int (ns.getD j 0), rfl, rfl, hS, atI_nat ?_, ?_⟩)
    (fun c => ⟨.ref a, rfl, _, .inl ⟨_, hS, rfl⟩, ite2 (fun c2 => ⟨.ref a, rfl, a, _, 0, .int (ns.getD 0 0), rfl, rfl, hS, atN (j := 0) ?_ rfl, ?_⟩) (fun c2 => ?_)⟩)⟩
  · have h1 : j < ns.length := by
      have z := of_decide_eq_true c
      rw [List.length_map] at z
      omega
    rw [List.getElem?_map, List.getD_eq_getElem?_getD, List.getElem?_eq_getElem h1]
    rfl
  rotate_left
  · cases ns with
    | nil => cases c2
    | cons n ns => rfl
  all_goals
    refine ⟨_, rfl, .inl ⟨_, rfl, 1, rfl, _, rfl, _, _, rfl, rfl, .inl ⟨_, rfl, _, _, rfl, ?_⟩⟩⟩
    refine ⟨_, rfl, .inl ⟨_, rfl, _, 2147483629, rfl, rfl, by show (0 : Int) < 2147483629; decide, _, rfl, _, _, rfl, rfl, .inl ⟨by omega, by omega⟩, _, rfl, _, _, rfl, rfl, .inl ⟨by omega, by omega⟩, _, _, rfl, rfl, _, rfl, _, _, rfl, rfl, .inl ⟨by omega, by omega⟩, _, _, rfl, rfl, _, _, rfl, rfl, _, _, rfl, rfl, .inl ?_, .inl ⟨_, rfl, _, 2147483647, rfl, rfl, by show (0 : Int) < 2147483647; decide, ?_⟩⟩⟩
    · exact mixB hjj hk hk2
    · refine ⟨_, rfl, _, rfl, _, _, rfl, rfl, ⟨by decide, by decide, by decide⟩, _, _, rfl, rfl, .inr ⟨_, rfl, _, _, rfl, rfl, .inr (b01 _), _, rfl, by show 2 ≤ sizeLine; decide, fun p np => ?_⟩⟩
      refine q p _ np (Same.new np) ⟨_, _, upd_same, ?_, Int.emod_nonneg _ (by decide), Int.emod_lt_of_pos _ (by decide)⟩
      refine Int.mul_nonneg ?_ ?_
      · split <;> omega
      · exact b0 _
def sp__law_take (K : PySem.W.Frag) (cs : CS) : Sp := fun vs H Q E => ∃ (p : Addr) (t : Int), vs = [.ref p, .int t] ∧ Src H p ∧ 0 < t ∧ t < 1000000 ∧ ∀ r H', 0 ≤ r → r < t → Src H' p → Exb p H H' → Q (.int r) H'
theorem ok__law_take (F : Fun K "_law_take" "_law_take" s__law_take f fd) (T : Txt P w K mg base cs)  : FnOk P w K mg base CX0 1 f fd ["source", "top"] (sp__law_take K cs) := by
  refine F.ok sc__law_take (fun vs H Q E h => ?_) (fun cdv A outer s H vs Q E hr h => ?_)
  · obtain ⟨p, t, rfl, _⟩ := h
    rfl
  obtain ⟨p, t, rfl, ⟨a, b, hp, ha, hb, hb2⟩, ht, ht2, q⟩ := h
  refine ⟨_, (pss_cons (ps_if (pt_cmpR op_gt (pe_ix (ixL K) (pv 0) pe_int (fun _ _ => rfl)) pe_int (nomark _)) (pss_cons (ps_set (i := 2) sc__law_take.nd rfl (Or.inl rfl) (pe_op op_mod (pe_callTy call_int1 (by rfl) T.n_int (by decide +kernel) (pa_cons (pe_ix (ixL K) (pv 0) pe_int (fun _ _ => rfl)) pa_nil)) (pv 1)))
      (pss_cons (ps_asg (pe_op op_fdivW (pe_ix (ixL K) (pv 0) pe_int (fun _ _ => rfl)) (pv 1)) (pg_sub (pv 0) pe_int set_list))
      (pss_one (ps_ret (pv 2))))) pss_nil)
      (pss_cons (ps_asg (pe_op op_mod (pe_callTy call_int1 (by rfl) T.n_int (by decide +kernel) (pa_cons (pe_op op_add (pe_op op_mul (pe_ix (ixL K) (pv 0) pe_int (fun _ _ => rfl)) pe_int) pe_int) pa_nil)) pe_int) (pg_sub (pv 0) pe_int set_list))
      (pss_one (ps_ret (pe_op op_mod (pe_callTy call_int1 (by rfl) T.n_int (by decide +kernel) (pa_cons (pe_op op_fdivW (pe_op op_mod (pe_callTy call_int1 (by rfl) T.n_int (by decide +kernel) (pa_cons (pe_op op_mul (pe_ix (ixL K) (pv 0) pe_int (fun _ _ => rfl)) (pe_ix (ixL K) (pv 0) pe_int (fun _ _ => rfl))) pa_nil)) pe_int) pe_int) pa_nil)) (pv 1)))))), ?_⟩
  -- source[0] > 0
  refine ⟨.ref p, rfl, p, _, 0, .int a, rfl, rfl, SqL.of hp, atI0, a, 0, rfl, rfl, _, rfl, ite2 (fun c => ?_) (fun c => ?_)⟩
  · -- drawn = int(source[0]) % top; source[0] = source[0] // top; return drawn
    refine ⟨.ref p, rfl, p, _, 0, .int a, rfl, rfl, SqL.of hp, atI0, .inl ⟨a, rfl, .int t, rfl, a, t, rfl, rfl, ht, ?_⟩⟩
    refine ⟨.ref p, rfl, p, _, 0, .int a, rfl, rfl, SqL.of hp, atI0, .int t, rfl, a, t, rfl, rfl, wide_div (b := 64) ht (by omega) (by decide) (by decide), ?_⟩
    refine ⟨.ref p, rfl, p, _, 0, 0, rfl, rfl, hp, rfl, ?_⟩
    refine ⟨.int (a % t), rfl, ?_⟩
    exact q _ _ (Int.emod_nonneg _ (by omega)) (Int.emod_lt_of_pos _ ht) ⟨a / t, b, upd_same, Int.ediv_nonneg ha (by omega), hb, hb2⟩ Exb.at
  · refine ⟨.ref p, rfl, p, _, 1, .int b, rfl, rfl, SqL.of hp, atI1, b, 39373, rfl, rfl, .inl ⟨by omega, by omega⟩, _, 7, rfl, rfl, .inl ⟨_, rfl, _, 2147483647, rfl, rfl, by show (0 : Int) < 2147483647; decide, ?_⟩⟩
    refine ⟨.ref p, rfl, p, _, 1, 1, rfl, rfl, hp, rfl, ?_⟩
    have h1 : (0 : Int) ≤ (b * 39373 + 7) % 2147483647 := Int.emod_nonneg _ (by decide)
    have h2 : (b * 39373 + 7) % 2147483647 < 2147483647 := Int.emod_lt_of_pos _ (by decide)
    have hp2 : (upd H p (.lst [.int a, .int ((b * 39373 + 7) % 2147483647)])) p = some (.lst [.int a, .int ((b * 39373 + 7) % 2147483647)]) := upd_same
    refine ⟨.ref p, rfl, p, [.int a, .int ((b * 39373 + 7) % 2147483647)], 1, _, rfl, rfl, SqL.of hp2, atI1, .ref p, rfl, p, [.int a, .int ((b * 39373 + 7) % 2147483647)], 1, _, rfl, rfl, SqL.of hp2, atI1, _, _, rfl, rfl, .inl ⟨by omega, by omega⟩, ?_⟩
    refine .inl ⟨_, rfl, _, 2147483629, rfl, rfl, by show (0 : Int) < 2147483629; decide, _, 32, rfl, rfl, ⟨by decide, by decide⟩, .inl ⟨_, rfl, .int t, rfl, _, t, rfl, rfl, ht, ?_⟩⟩
    exact q _ _ (Int.emod_nonneg _ (by omega)) (Int.emod_lt_of_pos _ ht) ⟨a, _, hp2, ha, h1, h2⟩ Exb.at
def sp__law_one (K : PySem.W.Frag) (cs : CS) : Sp := fun vs H Q E => ∃ (p a : Addr) (xs : List V), vs = [.ref p, .ref a] ∧ Src H p ∧ H a = some (.lst xs) ∧ a ≠ p ∧ 0 < xs.length ∧ xs.length < 1000000 ∧ ∀ v H', v ∈ xs → Src H' p → Exb p H H' → Q v H'
theorem ok__law_one (F : Fun K "_law_one" "_law_one" s__law_one f fd) (T : Txt P w K mg base cs) (c__law_take : Cal P w K mg base CX0 1 "_law_take" ["source", "top"] s__law_take (sp__law_take K cs)) : FnOk P w K mg base CX0 2 f fd ["source", "things"] (sp__law_one K cs) := by
  refine F.ok sc__law_one (fun vs H Q E h => ?_) (fun cdv A outer s H vs Q E hr h => ?_)
  · obtain ⟨p, a, xs, rfl, _⟩ := h
    rfl
  obtain ⟨p, a, xs, rfl, hs, ha, hne, h0, h1, q⟩ := h
  refine ⟨_, (pss_one (ps_ret (pe_ix (ixL K) (pv 1) (pe_cal c__law_take (hr.mono (by decide)) pass0 (pa_cons (pv 0) (pa_cons (pe_callB (lenS K) (by rfl) T.n_len PySem.boot_len (pa_cons (pv 1) pa_nil)) pa_nil))) (fun _ _ => rfl)))), ?_⟩
  refine ⟨.ref a, rfl, .ref p, rfl, .ref a, rfl, a, xs, rfl, .inl (SqL.of ha), p, xs.length, rfl, hs, by omega, by omega, fun r H' r0 r1 s' e => ?_⟩
  obtain ⟨j, rfl⟩ : ∃ j : Nat, r = (j : Int) := ⟨r.toNat, by omega⟩
  have hj : j < xs.length := by omega
  refine ⟨a, xs, j, xs[j], rfl, rfl, SqL.of (e.lst hne ha), atI_nat (List.getElem?_eq_getElem hj), ?_⟩
  exact q _ _ (List.getElem_mem hj) s' e
def sp__law_table (K : PySem.W.Frag) (cs : CS) : Sp := fun vs H Q E => ∃ (p : Addr) (many : Nat), vs = [.ref p, .int (many : Nat)] ∧ Src H p ∧ 1 ≤ many ∧ many ≤ 8 ∧ ∀ r rows H', Exb p H H' → Src H' p → TT K H' r rows → GoodT rows → rows.length = many → Q (.ref r) H'
theorem ok__law_table (F : Fun K "_law_table" "_law_table" s__law_table f fd) (T : Txt P w K mg base cs) (c__law_take : Cal P w K mg base CX0 1 "_law_take" ["source", "top"] s__law_take (sp__law_take K cs)) (c__law_one : Cal P w K mg base CX0 2 "_law_one" ["source", "things"] s__law_one (sp__law_one K cs)) : FnOk P w K mg base CX0 3 f fd ["source", "many"] (sp__law_table K cs) := by
  refine F.ok sc__law_table (fun vs H Q E h => ?_) (fun cdv A outer s H vs Q E hr h => ?_)
  · obtain ⟨p, many, rfl, _⟩ := h
    rfl
  obtain ⟨p, many, rfl, hs, m1, m8, q⟩ := h
  have e0 : ((many : Nat) : Int).toNat = many := Int.toNat_natCast _
  refine ⟨_, (pss_cons (ps_par (i := 3) (j := 4) (by rfl) sc__law_table.nd rfl rfl (by decide) rfl rfl (pa_cons (pe_lc (own := [("p", 2)]) rfl sc__law_table.nd (pi_range1 (by rfl) T.n_range (pa_cons (pv 1) pa_nil)) (blkOk_by (own := [("p", 2)]) (N := ["source", "many", "p", "rows", "most", "s", "row"]) (sc := defScope s__law_table) (by decide +kernel)) (fun _ _ _ _ _ => (pg_name (i := 2) sc__law_table.nd rfl (Or.inl rfl))) (fun _ _ _ _ _ => pts_nil) (fun _ _ _ _ _ => (pe_lst pa_nil))) (pa_cons (pe_cal c__law_one (hr.mono (by decide)) pass0 (pa_cons (pv 0) (pa_cons (pe_lst (pa_cons pe_int (pa_cons pe_int (pa_cons pe_int (pa_cons pe_int pa_nil))))) pa_nil))) pa_nil)) (by rfl))
      (pss_cons (ps_for PassesOwn.never rfl (pi_range1 (by rfl) T.n_range (pa_cons (pv 1) pa_nil)) (pg_name (i := 2) sc__law_table.nd rfl (Or.inl rfl)) (pss_one (ps_for PassesOwn.never rfl (pi_range2 (by rfl) T.n_range (pa_cons (pv 2) (pa_cons (pv 1) pa_nil))) (pg_name (i := 5) sc__law_table.nd rfl (Or.inl rfl)) (pss_one (ps_if (pt_cmpR op_lt (pe_cal c__law_take (hr.mono (by decide)) pass0 (pa_cons (pv 0) (pa_cons pe_int pa_nil))) (pv 4) (nomark _)) (pss_cons (ps_expr (pe_bm PySem.F.plainAttrs_list PySem.F.slot_list_append PySem.F.type_list_append mt_append (pe_ix (ixL K) (pv 3) (pv 2) (fun _ _ => rfl)) (pa_cons (pv 5) pa_nil)))
      (pss_one (ps_if (pt_cmpR op_ne (pv 5) (pv 2) (nomark _)) (pss_one (ps_expr (pe_bm PySem.F.plainAttrs_list PySem.F.slot_list_append PySem.F.type_list_append mt_append (pe_ix (ixL K) (pv 3) (pv 5) (fun _ _ => rfl)) (pa_cons (pv 2) pa_nil)))) pss_nil))) pss_nil)))))
      (pss_one (ps_ret (pe_callTy (tupOf K) (by rfl) T.n_tuple (by decide +kernel) (pa_cons (pe_lc (own := [("row", 6)]) rfl sc__law_table.nd (piL K (pv 3)) (blkOk_by (own := [("row", 6)]) (N := ["source", "many", "p", "rows", "most", "s", "row"]) (sc := defScope s__law_table) (by decide +kernel)) (fun _ _ _ _ _ => (pg_name (i := 6) sc__law_table.nd rfl (Or.inl rfl))) (fun _ _ _ _ _ => pts_nil) (fun _ _ _ _ _ => (pe_callTy (tupOf K) (by rfl) T.n_tuple (by decide +kernel) (pa_cons (pe_callB (sortL K) (by rfl) T.n_sorted (by decide +kernel) (pa_cons (pv 6) pa_nil)) pa_nil)))) pa_nil)))))), ?_⟩
  refine ⟨_, rfl, _, rfl, by omega, by omega, fun D nD => ?_⟩
  rw [e0]
  have nDp := hs.ne nD
  refine lc_it walk_range (fun i H' => ∃ bs : List Addr, H' D = some (.lst (bs.map V.ref)) ∧ bs.length = i ∧ bs.Nodup ∧ (∀ b ∈ bs, H b = none ∧ b ≠ D ∧ H' b = some (.lst [])) ∧ Same H H') ⟨[], upd_same, rfl, List.nodup_nil, fun b hb => (by cases hb), Same.new nD⟩ (fun _ _ _ _ => trivial) ?_ ?_
  · rintro i x H1 H2 hi ⟨bs, h1, h2, h3, h4, h5⟩ ⟨rfl, rfl⟩
    refine ⟨rfl, ?_⟩
    refine tYes_i (iteT ?_)
    refine ⟨Nat.zero_le _, fun b nb => ?_⟩
    have neD : D ≠ b := fun z => by rw [← z, h1] at nb; cases nb
    refine ⟨bs.map V.ref, by rw [upd_ne neD]; exact h1, smallLt (by rw [List.length_map]; omega), bs ++ [b], by rw [upd_same, List.map_append]; rfl, by rw [List.length_append, h2]; rfl, ?_, fun c hc => ?_, (h5.trans (Same.new nb)).mut nD⟩
    · refine List.nodup_append.mpr ⟨h3, nodup1 _, fun a ha c hc => ?_⟩
      rw [List.mem_singleton.mp hc]
      intro z
      have := (h4 a ha).2.2
      rw [z, nb] at this
      cases this
    · rcases List.mem_append.mp hc with hc | hc
      · obtain ⟨g1, g2, g3⟩ := h4 c hc
        refine ⟨g1, g2, ?_⟩
        rw [upd_ne g2, upd_ne (fun z => by rw [z, nb] at g3; cases g3)]
        exact g3
      · rw [List.mem_singleton.mp hc]
        refine ⟨h5.free nb, neD.symm, ?_⟩
        rw [upd_ne neD.symm, upd_same]
  rintro H1 ⟨bs, h1, h2, h3, h4, h5⟩
  have nDb : D ∉ bs := fun z => (h4 D z).2.1 rfl
  have nbp : ∀ b ∈ bs, b ≠ p := fun b hb => hs.ne (h4 b hb).1
  have hB0 : HB D bs (fun _ => []) H1 := ⟨h1, fun i b hi => (h4 b (List.mem_of_getElem? hi)).2.2⟩
  have getB : ∀ i, i < many → ∃ b, bs[i]? = some b := fun i hi => ⟨bs[i]'(by omega), List.getElem?_eq_getElem (by omega)⟩
  have nbH : ∀ b, b ∈ bs → H b = none := fun b hb => (h4 b hb).1
  refine ⟨_, rfl, by show 4 ≤ sizeLine; decide, fun a na => ?_⟩
  have nap : a ≠ p := (h5.src hs).ne na
  refine ⟨p, a, _, rfl, (h5.src hs).put nap, upd_same, nap, by show 0 < 4; decide, by show 4 < 1000000; decide, fun v H2 hv s2 e2 => ?_⟩
  obtain ⟨mo, rfl⟩ : ∃ mo : Int, v = .int mo := by
    rcases List.mem_cons.mp hv with rfl | hv
    · exact ⟨_, rfl⟩
    rcases List.mem_cons.mp hv with rfl | hv
    · exact ⟨_, rfl⟩
    rcases List.mem_cons.mp hv with rfl | hv
    · exact ⟨_, rfl⟩
    exact ⟨_, List.mem_singleton.mp hv⟩
  have x2 : Exb p H H2 := ((Exb.of h5).trans (Exb.new na)).trans e2
  have hB2 : HB D bs (fun _ => []) H2 := (hB0.same (Same.new na)).exb e2 nDp nbp
  refine ⟨_, _, rfl, ?_⟩
  refine ⟨_, rfl, _, rfl, by omega, by omega, ?_⟩
  rw [e0]
  refine for_range (fun i σ H' => (∃ y2 y5, σ = [some (.ref p), some (.int (many : Nat)), y2, some (.ref D), some (.int mo), y5, none]) ∧ ∃ R, HB D bs R H' ∧ Dra many R i i ∧ Exb p H H' ∧ Src H' p) ⟨⟨_, _, rfl⟩, _, hB2, ⟨fun _ => List.nodup_nil, fun _ _ h => (by cases h), fun _ _ _ _ h => (by cases h), fun _ _ _ h => (by cases h)⟩, x2, s2⟩ ?_ ?_
  · rintro i σ H3 hi ⟨⟨y2, y5, rfl⟩, R, hB, hR, hx, hs3⟩
    refine ⟨_, rfl, _, rfl, _, _, rfl, ⟨by omega, by omega, by omega, by omega⟩, ?_⟩
    have e1 : (((many : Nat) : Int) - (0 + (i : Int))).toNat = many - i := by omega
    rw [e1]
    refine for_range (fun j σ H' => (∃ y5, σ = [some (.ref p), some (.int (many : Nat)), some (.int (0 + (i : Int))), some (.ref D), some (.int mo), y5, none]) ∧ ∃ R, HB D bs R H' ∧ Dra many R i (i + j) ∧ Exb p H H' ∧ Src H' p) ⟨⟨_, rfl⟩, R, hB, hR, hx, hs3⟩ ?_ ?_
    · rintro j σ H4 hj ⟨⟨y5, rfl⟩, R, hB, hR, hx, hs4⟩
      have hij : i + j < many := by omega
      have eij : (0 + (i : Int) + (j : Int)) = ((i + j : Nat) : Int) := by omega
      have rl : ∀ k, (R k).length < 1000000 := fun k => by
        have := nodup_len many (R k) (hR.nd k) (hR.lt k)
        omega
      refine ⟨_, rfl, p, 3, rfl, hs4, by decide, by decide, fun u H5 u0 u1 s5 e5 => ?_⟩
      have hB5 := hB.exb e5 nDp nbp
      have hx5 := hx.trans e5
      refine ⟨_, rfl, _, _, rfl, rfl, _, rfl, ite2 (fun c => ?_) (fun c => ?_)⟩
      · obtain ⟨b, hb⟩ := getB i (by omega)
        have gb : (bs.map V.ref)[i]? = some (.ref b) := by rw [List.getElem?_map, hb]; rfl
        have hbm := List.mem_of_getElem? hb
        refine ⟨.ref D, rfl, _, rfl, D, _, _, .ref b, rfl, rfl, SqL.of hB5.d, atN gb (by omega), .inl ⟨rfl, _, SqL.of (hB5.at_ i b hb)⟩, _, rfl, b, _, _, rfl, rfl, hB5.at_ i b hb, smallLt (by rw [List.length_map]; exact rl i), ?_⟩
        have hB6 := hB5.app (c := ((i + j : Nat) : Int)) h3 nDb hb
        have hx6 : Exb p H (upd H5 b (.lst ((R i).map V.int ++ [V.int ((i + j : Nat) : Int)]))) := hx5.mut (nbH b hbm)
        have s6 : Src (upd H5 b (.lst ((R i).map V.int ++ [V.int ((i + j : Nat) : Int)]))) p := s5.put (nbp b hbm)
        rw [eij]
        refine ⟨_, rfl, _, rfl, rfl, _, rfl, ?_⟩
        by_cases ej : j = 0
        · subst ej
          exact itF (by simp) ⟨⟨_, rfl⟩, _, hB6, hR.self (by omega), hx6, s6⟩
        · refine itT (by simp; omega) ?_
          obtain ⟨b2, hb2⟩ := getB (i + j) hij
          have gb2 : (bs.map V.ref)[i + j]? = some (.ref b2) := by rw [List.getElem?_map, hb2]; rfl
          have hbm2 := List.mem_of_getElem? hb2
          have ea : addL R i ((i + j : Nat) : Int) (i + j) = R (i + j) := by
            unfold addL
            rw [if_neg (by omega)]
          have hb6 := hB6.at_ _ b2 hb2
          have hB7 := hB6.app (c := ((i : Nat) : Int)) h3 nDb hb2
          refine ⟨.ref D, rfl, _, rfl, D, _, _, .ref b2, rfl, rfl, SqL.of hB6.d, atN gb2 rfl, .inl ⟨rfl, _, SqL.of hb6⟩, _, rfl, b2, _, _, rfl, rfl, hb6, smallLt (by rw [List.length_map, ea]; exact rl _), ?_⟩
          rw [Int.zero_add]
          exact ⟨⟨_, rfl⟩, _, hB7, hR.two (by omega) hij, hx6.mut (nbH b2 hbm2), s6.put (nbp b2 hbm2)⟩
      · exact ⟨⟨_, rfl⟩, R, hB5, hR.skip, hx5, s5⟩
    · rintro σ H4 ⟨⟨y5, rfl⟩, R, hB, hR, hx, hs4⟩
      exact ⟨⟨_, _, rfl⟩, R, hB, hR.next, hx, hs4⟩
  · rintro σ H3 ⟨⟨y2, y5, rfl⟩, R, hB, hR, hx, hs3⟩
    refine ⟨.ref D, rfl, D, rfl, ⟨_, SqL.of hB.d⟩, fun D2 nD2 => ?_⟩
    have n2p := hs3.ne nD2
    refine lc_it (walk_list (xs := bs.map V.ref)) (fun i H' => ∃ us rs, H' D2 = some (.lst us) ∧ Rws K H' us rs ∧ rs.length = i ∧ (∀ (k : Nat) row, rs[k]? = some row → row.Perm (R k) ∧ row.Pairwise (· ≤ ·)) ∧ Same H3 H') ⟨[], [], upd_same, Rws.nil, rfl, fun k row e => (by simp at e), Same.new nD2⟩ (fun i H' _ h => by
      obtain ⟨_, _, _, _, _, _, s⟩ := h
      exact SqL.of (s _ _ hB.d)) ?_ ?_
    · rintro i x H4 H5 hi ⟨us, rs, g1, g2, g3, g4, g5⟩ ⟨rfl, hx2⟩
      rw [List.length_map] at hi
      obtain ⟨b, hb⟩ := getB i (by omega)
      rw [List.getElem?_map, hb] at hx2
      cases Option.some.inj hx2
      have hRl := nodup_len many (R i) (hR.nd i) (hR.lt i)
      refine ⟨rfl, ?_⟩
      refine tYes_i (iteT ?_)
      refine ⟨_, rfl, b, R i, rfl, SqL.of (g5 _ _ (hB.at_ i b hb)), by omega, fun ns' t perm asc nt => ?_⟩
      refine ⟨t, _, rfl, .inl ⟨SqL.of upd_same, fun t2 nt2 => ?_⟩⟩
      have s6 := (Same.new (o := .lst (ns'.map V.int)) nt).trans (Same.new (o := .tup (ns'.map V.int)) nt2)
      have r6 := (g2.same s6).snoc (b := t2) (r := ns') (SqT.of upd_same)
      refine ⟨us, s6 _ _ g1, smallLt (by rw [g2.len]; omega), us ++ [.ref t2], rs ++ [ns'], upd_same, r6.upd (s6 _ _ g1), by rw [List.length_append, g3]; rfl, fun k row e => ?_, (g5.trans s6).mut nD2⟩
      by_cases hk : k < rs.length
      · rw [List.getElem?_append_left hk] at e
        exact g4 k row e
      · rw [List.getElem?_append_right (by omega)] at e
        obtain ⟨hk2, hk3⟩ := List.getElem?_eq_some_iff.mp e
        have : k - rs.length = 0 := by
          have : k - rs.length < 1 := hk2
          omega
        have ek : k = i := by omega
        subst ek
        simp [this] at hk3
        subst hk3
        exact ⟨perm, asc⟩
    · rintro H4 ⟨us, rs, g1, g2, g3, g4, g5⟩
      rw [List.length_map] at g3
      have gT := hR.good m1 m8 (rows := rs) (by omega) g4
      refine ⟨D2, _, rfl, .inl ⟨SqL.of g1, fun t nt => ?_⟩⟩
      have s6 := g5.trans (Same.new (o := .tup us) nt)
      exact q t rs _ (hx.trans (Exb.of s6)) (s6.src hs3) ((g2.same (Same.new nt)).tt (SqT.of upd_same)) gT (by omega)
def sp__law_doubled (K : PySem.W.Frag) (cs : CS) : Sp := fun vs H Q E => ∃ (r : Addr) (rows : List (List Int)), vs = [.ref r] ∧ TT K H r rows ∧ GoodT rows ∧ ∀ x H', Same H H' → TT K H' x (dbl rows) → Q (.ref x) H'
theorem ok__law_doubled (F : Fun K "_law_doubled" "_law_doubled" s__law_doubled f fd) (T : Txt P w K mg base cs)  : FnOk P w K mg base CX0 1 f fd ["rows"] (sp__law_doubled K cs) := by
  refine F.ok sc__law_doubled (fun vs H Q E h => ?_) (fun cdv A outer s H vs Q E hr h => ?_)
  · obtain ⟨r, rows, rfl, _⟩ := h
    rfl
  obtain ⟨r, rows, rfl, hT, gT, q⟩ := h
  obtain ⟨ws, hS, hl, hget⟩ := hT.seq
  have n1 := gT.n1
  have n8 := gT.n8
  have e0 : ((ws.length : Nat) : Int).toNat = rows.length := by rw [Int.toNat_natCast, hl]
  refine ⟨_, (pss_cons (ps_set (i := 1) sc__law_doubled.nd rfl (Or.inl rfl) (pe_lst pa_nil))
      (pss_cons (ps_for PassesOwn.never rfl (pi_range1 (by rfl) T.n_range (pa_cons (pe_callB (lenS K) (by rfl) T.n_len PySem.boot_len (pa_cons (pv 0) pa_nil)) pa_nil)) (pg_name (i := 2) sc__law_doubled.nd rfl (Or.inl rfl)) (pss_one (ps_for PassesOwn.never rfl (pi_range1 (by rfl) T.n_range (pa_cons pe_int pa_nil)) (pg_name (i := 3) sc__law_doubled.nd rfl (Or.inr rfl)) (pss_one (ps_expr (pe_bm PySem.F.plainAttrs_list PySem.F.slot_list_append PySem.F.type_list_append mt_append (pv 1) (pa_cons (pe_callTy (tupOf K) (by rfl) T.n_tuple (by decide +kernel) (pa_cons (pe_lc (own := [("s", 4)]) rfl sc__law_doubled.nd (piT K (pe_ix (ixT K) (pv 0) (pv 2) (fun _ _ => rfl))) (blkOk_by (own := [("s", 4)]) (N := ["rows", "found", "p", "side", "s"]) (sc := defScope s__law_doubled) (by decide +kernel)) (fun _ _ _ _ _ => (pg_name (i := 4) sc__law_doubled.nd rfl (Or.inl rfl))) (fun _ _ _ _ _ => pts_nil) (fun _ _ _ _ _ => (pe_op op_sub (pe_op op_add (pe_op op_mul pe_int (pv 4)) pe_int) (pv 3)))) pa_nil)) pa_nil)))))))
      (pss_one (ps_ret (pe_callTy (tupOf K) (by rfl) T.n_tuple (by decide +kernel) (pa_cons (pv 1) pa_nil)))))), ?_⟩
  refine ⟨Nat.zero_le _, fun D nD => ?_⟩
  refine ⟨.ref r, rfl, r, _, rfl, .inr ((Same.new nD).tup hS), _, rfl, by omega, by omega, ?_⟩
  rw [e0]
  refine for_range (fun i σ H' => (∃ y2 y3, σ = [some (.ref r), some (.ref D), y2, y3, none]) ∧ ∃ us, H' D = some (.lst us) ∧ Same H H' ∧ Rws K H' us (dbl (rows.take i))) ⟨⟨_, _, rfl⟩, [], upd_same, Same.new nD, Rws.nil⟩ ?_ ?_
  · rintro i σ H1 hi ⟨⟨y2, y3, rfl⟩, us, hD, sm, hr1⟩
    have hrow : rows[i]? = some rows[i] := List.getElem?_eq_getElem hi
    obtain ⟨b, hb, hbs⟩ := hget i rows[i] hrow
    have hlen := asc_len gT (List.getElem_mem hi)
    refine ⟨_, rfl, by decide, by decide, ?_⟩
    refine for_range (fun j σ H' => (∃ y3, σ = [some (.ref r), some (.ref D), some (.int (0 + (i : Int))), y3, none]) ∧ ∃ us, H' D = some (.lst us) ∧ Same H H' ∧ Rws K H' us (dbl (rows.take i) ++ [dblRow rows[i] 0, dblRow rows[i] 1].take j)) ⟨⟨_, rfl⟩, us, hD, sm, by rw [List.take_zero, List.append_nil]; exact hr1⟩ ?_ ?_
    · rintro j σ H2 hj ⟨⟨y3, rfl⟩, us, hD, sm, hr1⟩
      refine ⟨.ref D, rfl, .inl ⟨rfl, _, SqL.of hD⟩, ?_⟩
      refine ⟨.ref r, rfl, _, rfl, r, ws, _, .ref b, rfl, rfl, sm.tup hS, atN hb (by omega), b, rfl, ⟨_, sm.tup hbs⟩, fun D2 nD2 => ?_⟩
      refine lc_mapI (fun s => 2 * s + 1 - (0 + (j : Int))) (sm.tup hbs) nD2 (by omega) (fun _ => rfl) (fun c hc H' Q' s h => ?_) (fun H3 hD2 s3 => ?_)
      · have := gT.lt (List.getElem_mem hi) hc
        exact ⟨_, rfl, 2, c, rfl, rfl, .inl ⟨by omega, by omega⟩, _, _, rfl, rfl, _, rfl, _, _, rfl, rfl, h _ _ (Same.refl _) rfl⟩
      · refine ⟨D2, _, rfl, .inl ⟨SqL.of hD2, fun p np => ?_⟩⟩
        have s4 := s3.trans (Same.new (o := .tup ((rows[i].map fun s => 2 * s + 1 - (0 + (j : Int))).map V.int)) np)
        have hr2 := (hr1.same s4).snoc (b := p) (r := rows[i].map fun s => 2 * s + 1 - (0 + (j : Int))) (SqT.of upd_same)
        have hl2 := hr1.len
        refine ⟨D, us, _, rfl, rfl, s4 _ _ hD, smallLt ?_, ⟨_, rfl⟩, us ++ [.ref p], upd_same, ?_, ?_⟩
        · rw [hl2, List.length_append, dbl_len, List.length_take, List.length_take]
          have e2 : ([dblRow rows[i] 0, dblRow rows[i] 1] : List (List Int)).length = 2 := rfl
          rw [e2]
          omega
        · intro y o hy
          by_cases e : y = D
          · subst e
            rw [nD] at hy; cases hy
          · rw [upd_ne e]
            exact s4 _ _ (sm _ _ hy)
        · have e : dbl (rows.take i) ++ [dblRow rows[i] 0, dblRow rows[i] 1].take (j + 1) = dbl (rows.take i) ++ [dblRow rows[i] 0, dblRow rows[i] 1].take j ++ [rows[i].map fun s => 2 * s + 1 - (0 + (j : Int))] := by
            rw [List.append_assoc]
            congr 1
            have hj2 : j < 2 := hj
            match j, hj2 with
            | 0, _ => rfl
            | 1, _ => rfl
          rw [e]
          exact hr2.upd (s4 _ _ hD)
    · rintro σ H' ⟨⟨y3, rfl⟩, us, hD, sm, hr1⟩
      refine ⟨⟨_, _, rfl⟩, us, hD, sm, ?_⟩
      rw [dbl_take hrow, List.append_assoc]
      exact hr1
  · rintro σ H' ⟨⟨y2, y3, rfl⟩, us, hD, sm, hr1⟩
    rw [List.take_length] at hr1
    refine ⟨.ref D, rfl, D, _, rfl, .inl ⟨SqL.of hD, fun p np => ?_⟩⟩
    have s4 : Same H' (upd H' p (.tup us)) := Same.new np
    exact q p _ (sm.trans s4) ((hr1.same s4).tt (SqT.of upd_same))
def sp__law_lots (K : PySem.W.Frag) (cs : CS) : Sp := fun vs H Q E => ∃ (r : Addr) (rows : List (List Int)), vs = [.ref r] ∧ TT K H r rows ∧ GoodT rows ∧ ∀ (x : Addr) (ms : List Int) (H' : Hp), Same H H' → SqT K H' x (ms.map V.int) → ms.length = rows.length → (∀ (i : Nat) (m : Int), ms[i]? = some m → Lst rows (i : Nat) m) → Q (.ref x) H'
theorem ok__law_lots (F : Fun K "_law_lots" "_law_lots" s__law_lots f fd) (T : Txt P w K mg base cs)  : FnOk P w K mg base CX0 1 f fd ["rows"] (sp__law_lots K cs) := by
  refine F.ok sc__law_lots (fun vs H Q E h => ?_) (fun cdv A outer s H vs Q E hr h => ?_)
  · obtain ⟨r, rows, rfl, _⟩ := h
    rfl
  obtain ⟨r, rows, rfl, hT, gT, q⟩ := h
  obtain ⟨ws, hS, hl, hget⟩ := hT.seq
  have n1 := gT.n1
  have n8 := gT.n8
  have e0 : ((ws.length : Nat) : Int).toNat = rows.length := by rw [Int.toNat_natCast, hl]
  refine ⟨_, (pss_cons (ps_setLc (i := 2) (own := [("p", 1)]) rfl sc__law_lots.nd rfl rfl (sw_true rfl rfl rfl (by decide +kernel)) (pi_range1 (by rfl) T.n_range (pa_cons (pe_callB (lenS K) (by rfl) T.n_len PySem.boot_len (pa_cons (pv 0) pa_nil)) pa_nil)) (blkOk_by (own := [("p", 1)]) (N := ["rows", "p", "found", "turn", "s", "r"]) (sc := defScope s__law_lots) (by decide +kernel)) (fun _ _ _ _ _ => (pg_name (i := 1) sc__law_lots.nd rfl (Or.inl rfl))) (fun _ _ _ _ _ => pts_nil) (fun _ _ _ _ _ => (pv 1)))
      (pss_cons (ps_for PassesOwn.never rfl (pi_range1 (by rfl) T.n_range (pa_cons (pe_callB (lenS K) (by rfl) T.n_len PySem.boot_len (pa_cons (pv 0) pa_nil)) pa_nil)) (pg_name (i := 3) sc__law_lots.nd rfl (Or.inl rfl)) (pss_one (ps_for PassesOwn.never rfl (pi_range1 (by rfl) T.n_range (pa_cons (pe_callB (lenS K) (by rfl) T.n_len PySem.boot_len (pa_cons (pv 0) pa_nil)) pa_nil)) (pg_name (i := 1) sc__law_lots.nd rfl (Or.inl rfl)) (pss_one (ps_for PassesOwn.never rfl (piT K (pe_ix (ixT K) (pv 0) (pv 1) (fun _ _ => rfl))) (pg_name (i := 4) sc__law_lots.nd rfl (Or.inl rfl)) (pss_one (ps_for PassesOwn.never rfl (piT K (pe_ix (ixT K) (pv 0) (pv 4) (fun _ _ => rfl))) (pg_name (i := 5) sc__law_lots.nd rfl (Or.inl rfl)) (pss_one (ps_asg (pe_callB (call_min2 rfl) (by rfl) T.n_min (by decide +kernel) (pa_cons (pe_ix (ixL K) (pv 2) (pv 1) (fun _ _ => rfl)) (pa_cons (pe_ix (ixL K) (pv 2) (pv 5) (fun _ _ => rfl)) pa_nil))) (pg_sub (pv 2) (pv 1) set_list))))))))))
      (pss_one (ps_ret (pe_callTy (tupOf K) (by rfl) T.n_tuple (by decide +kernel) (pa_cons (pv 2) pa_nil)))))), ?_⟩
  refine ⟨.ref r, rfl, r, _, rfl, .inr hS, _, rfl, by omega, by omega, fun D nD => ?_⟩
  rw [e0]
  refine lc_rd (fun k => .int (0 + (k : Int))) walk_range (fun _ _ _ _ y _ => y) (fun i v _ => v = .int (Int.ofNat i)) nD (by omega) (fun _ => rfl) (fun _ _ => trivial) (fun _ _ _ _ _ h => h) (fun k hk H' Q' s h => ?_) (fun xs H' hx hD s hv => ?_) (fun _ _ _ _ _ h _ => h)
  · exact ⟨_, rfl, h _ _ (Same.refl _) (by rw [Int.zero_add]; rfl)⟩
  have hD : H' D = some (.lst (((List.range rows.length).map Int.ofNat).map V.int)) := by
    rw [hD, ints_of (xs := xs) (f := Int.ofNat) 0 fun i v e => by rw [Nat.zero_add]; exact hv i v e, hx, List.range_eq_range']
  have stt : ∀ {H1 : Hp}, Same H H1 → ∀ o, Same H (upd H1 D o) := fun s o => s.mut nD
  refine ⟨.ref r, rfl, r, _, rfl, .inr (s.tup hS), _, rfl, by omega, by omega, ?_⟩
  rw [e0]
  refine for_range (fun k σ H' => (∃ y1 y3 y4 y5, σ = [some (.ref r), y1, some (.ref D), y3, y4, y5]) ∧ ∃ F, H' D = some (.lst (F.map V.int)) ∧ Same H H' ∧ Rnd rows k 0 [] F) ⟨⟨_, _, _, _, rfl⟩, _, hD, s, Rnd.start⟩ ?_ ?_
  · rintro k σ H1 hk ⟨⟨y1, y3, y4, y5, rfl⟩, F, hF, s1, hR⟩
    refine ⟨.ref r, rfl, r, _, rfl, .inr (s1.tup hS), _, rfl, by omega, by omega, ?_⟩
    rw [e0]
    refine for_range (fun p σ H' => (∃ y1 y4 y5, σ = [some (.ref r), y1, some (.ref D), some (.int (0 + (k : Int))), y4, y5]) ∧ ∃ F, H' D = some (.lst (F.map V.int)) ∧ Same H H' ∧ Rnd rows k p [] F) ⟨⟨_, _, _, rfl⟩, _, hF, s1, hR⟩ ?_ ?_
    · rintro p σ H2 hp ⟨⟨y1, y4, y5, rfl⟩, F, hF, s1, hR⟩
      have hrow : rows[p]? = some rows[p] := List.getElem?_eq_getElem hp
      obtain ⟨b, hb, hbs⟩ := hget p rows[p] hrow
      have hrw := row_of hrow
      generalize rows[p] = row at hrow hbs hrw
      refine ⟨.ref r, rfl, _, rfl, r, ws, _, .ref b, rfl, rfl, s1.tup hS, atN hb (by omega), b, rfl, ⟨_, s1.tup hbs⟩, ?_⟩
      refine for_tup (xs := row.map V.int) (fun a σ H' => (∃ y4 y5, σ = [some (.ref r), some (.int (0 + (p : Int))), some (.ref D), some (.int (0 + (k : Int))), y4, y5]) ∧ ∃ F, H' D = some (.lst (F.map V.int)) ∧ Same H H' ∧ Rnd rows k p (twos rows (row.take a)) F) ⟨⟨_, _, rfl⟩, F, hF, s1, by rw [List.take_zero]; exact hR⟩ (fun a σ H' _ h => by
        obtain ⟨_, _, _, s, _⟩ := h
        exact s.tup hbs) ?_ ?_
      · rintro a x σ H3 ha ⟨⟨y4, y5, rfl⟩, F, hF, s1, hR⟩
        obtain ⟨ha2, rfl⟩ := num_map a row x ha
        have hc1 := gT.lt (List.mem_of_getElem? hrow) (List.getElem_mem ha2)
        have hi4 : row[a].toNat < rows.length := by omega
        have hrow2 : rows[row[a].toNat]? = some rows[row[a].toNat] := List.getElem?_eq_getElem hi4
        obtain ⟨b2, hb2, hbs2⟩ := hget _ _ hrow2
        have hrw2 := row_of hrow2
        generalize rows[row[a].toNat] = row2 at hrow2 hbs2 hrw2
        refine ⟨.ref r, rfl, _, rfl, r, ws, _, .ref b2, rfl, rfl, s1.tup hS, atN hb2 (by omega), b2, rfl, ⟨_, s1.tup hbs2⟩, ?_⟩
        refine for_tup (xs := row2.map V.int) (fun c σ H' => (∃ y5, σ = [some (.ref r), some (.int (0 + (p : Int))), some (.ref D), some (.int (0 + (k : Int))), some (.int row[a]), y5]) ∧ ∃ F, H' D = some (.lst (F.map V.int)) ∧ Same H H' ∧ Rnd rows k p (twos rows (row.take a) ++ row2.take c) F) ⟨⟨_, rfl⟩, F, hF, s1, by rw [List.take_zero, List.append_nil]; exact hR⟩ (fun c σ H' _ h => by
          obtain ⟨_, _, _, s, _⟩ := h
          exact s.tup hbs2) ?_ ?_
        · rintro c x σ H4 hc ⟨⟨y5, rfl⟩, F, hF, s1, hR⟩
          obtain ⟨hc2, rfl⟩ := num_map c row2 x hc
          have hc3 := gT.lt (List.mem_of_getElem? hrow2) (List.getElem_mem hc2)
          have hFl := hR.len
          have hpF : p < F.length := by omega
          have hrF : row2[c].toNat < F.length := by omega
          have gx : (F.map V.int)[p]? = some (.int F[p]) := by rw [List.getElem?_map, List.getElem?_eq_getElem hpF]; rfl
          have gy : (F.map V.int)[row2[c].toNat]? = some (.int F[row2[c].toNat]) := by rw [List.getElem?_map, List.getElem?_eq_getElem hrF]; rfl
          refine ⟨.ref D, rfl, _, rfl, D, _, _, _, rfl, rfl, SqL.of hF, atN gx (by omega), .ref D, rfl, _, rfl, D, _, _, _, rfl, rfl, SqL.of hF, atN gy (by omega), _, _, rfl, ?_⟩
          refine ⟨.ref D, rfl, _, rfl, D, _, _, p, rfl, rfl, hF, ixN_nat (by omega) (by rw [List.length_map]; exact hpF), ?_⟩
          refine ⟨⟨_, rfl⟩, F.set p (if F[row2[c].toNat] < F[p] then F[row2[c].toNat] else F[p]), by rw [upd_same, List.map_set], stt s1 _, ?_⟩
          have ht : Two rows ((p : Nat) : Int) row2[c] := ⟨row[a], by rw [Int.toNat_natCast, hrw]; exact List.getElem_mem ha2, by rw [hrw2]; exact List.getElem_mem hc2⟩
          have := hR.upd (List.getElem?_eq_getElem hpF) (List.getElem?_eq_getElem hrF) hc3.1 ht (z := if F[row2[c].toNat] < F[p] then F[row2[c].toNat] else F[p]) (by split <;> omega)
          rw [List.take_add_one, List.getElem?_eq_getElem hc2, ← List.append_assoc]
          exact this
        · rintro σ H4 ⟨⟨y5, rfl⟩, F, hF, s1, hR⟩
          rw [List.length_map, List.take_length] at hR
          exact ⟨⟨_, _, rfl⟩, F, hF, s1, by rw [twos_take ha2, hrw2]; exact hR⟩
      · rintro σ H3 ⟨⟨y4, y5, rfl⟩, F, hF, s1, hR⟩
        rw [List.length_map, List.take_length, ← hrw] at hR
        exact ⟨⟨_, _, _, rfl⟩, F, hF, s1, hR.nextP⟩
    · rintro σ H2 ⟨⟨y1, y4, y5, rfl⟩, F, hF, s1, hR⟩
      exact ⟨⟨_, _, _, _, rfl⟩, F, hF, s1, hR.nextK⟩
  · rintro σ H1 ⟨⟨y1, y3, y4, y5, rfl⟩, F, hF, s1, hR⟩
    refine ⟨.ref D, rfl, D, _, rfl, .inl ⟨SqL.of hF, fun x nx => ?_⟩⟩
    exact q x F _ (s1.trans (Same.new nx)) (SqT.of upd_same) hR.len (hR.fin gT)
def sp__law_told (K : PySem.W.Frag) (cs : CS) : Sp := fun vs H Q E => ∃ (r : Addr) (rows : List (List Int)), vs = [.ref r] ∧ TT K H r rows ∧ GoodT rows ∧ ∀ x H', Same H H' → Dp K H' (.ref x) (toldD rows) → Q (.ref x) H'
theorem ok__law_told (F : Fun K "_law_told" "_law_told" s__law_told f fd) (T : Txt P w K mg base cs) (c_made_table : Cal P w K mg base CX0 3 "made_table" ["rows"] s_made_table (sp_made_table K cs)) (c_doubled : Cal P w K mg base (L2.CX P w) 3 "doubled" ["table"] s_doubled (sp_doubled K cs)) : FnOk P w K mg base CX0 4 f fd ["rows"] (sp__law_told K cs) := by
  refine F.ok sc__law_told (fun vs H Q E h => ?_) (fun cdv A outer s H vs Q E hr h => ?_)
  · obtain ⟨r, rows, rfl, _⟩ := h
    rfl
  obtain ⟨r, rows, rfl, hT, gT, q⟩ := h
  refine ⟨_, (pss_cons (ps_try_as (i := 2) (tb := fun W => (tAsg (tCallKS (sp_doubled K cs) kb_doubled_table_g (WE W) (tCons (tCall (sp_made_table K cs) [] E0 (tCons (tVar 0) tNil)) tNil)) (gName 1))) (ts := fun a cls d => (tRet (tTup (tCons (tIf (tB (tCB (rIsX K a cls d) (tCons (tVar 2) (tCons (tC (V.ref cs.BadSize)) tNil)))) (tC (V.str "size")) (tC (V.str "other"))) (tCons (tWhat K a cls d (tVar 2)) tNil))))) (Wout := fun _ _ _ _ => False) rfl rfl sc__law_told.nd rfl rfl ⟨rfl, by decide, Or.inl T.gm_Refused⟩ takes0 (fun W pn xe tk _ => (pss_one (ps_set (i := 1) sc__law_told.nd rfl (Or.inl rfl) (pe_calKS0 c_doubled kb_doubled_table (hr.mono (by decide)) tk (pk_cons (pe_cal c_made_table (hr.mono (by decide)) pass0 (pa_cons (pv 0) pa_nil)) pk_nil))))) (fun a oe cls d pn hz hf => (pss_one (ps_ret (pe_tup (pa_cons (pe_ifExp (pt_val (pe_callB (isX K hz hf) (by rfl) T.n_isinstance (by decide +kernel) (pa_cons (pv 2) (pa_cons (pe_glob rfl T.gm_BadSize rfl) pa_nil)))) pe_str pe_str) (pa_cons (whatX K hz hf (pv 2)) pa_nil)))))))
      (pss_one (ps_ret (pe_tup (pa_cons (peF K (pv 1)) (pa_cons (peF K (pv 1)) pa_nil)))))), ?_⟩
  refine ⟨.ref r, rfl, r, rows, rfl, hT, gT, fun t H1 s1 hB => ?_⟩
  refine ⟨t, rows, rfl, hB, gT, fun c x H2 s2 hB2 => ?_, fun c d nd => ?_⟩
  · obtain ⟨dx, r2, h1, h2⟩ := hB2
    refine ⟨.ref x, rfl, x, _, dx, _, _, rfl, h1, T.cl_Table, T.na_Table_many, rfl, .ref x, rfl, x, _, dx, _, _, rfl, h1, T.cl_Table, T.na_Table_beside, rfl, by show 2 ≤ sizeLine; decide, fun y ny => ?_⟩
    refine q y _ ((s1.trans s2).trans (Same.new ny)) ?_
    unfold toldD
    rw [if_pos c]
    have := h2.same (Same.new (o := .tup [.int ((dbl rows).length : Nat), .ref r2]) ny)
    refine dp2 (SqT.of upd_same) ?_ this
    rw [dbl_len]
    exact .int _
  · refine ⟨true, T.ex_BadSize_Refused, fun _ a na => ?_, fun z => Bool.noConfusion z⟩
    refine ⟨_, rfl, cs.BadSize, .ref cs.BadSize, .ref cs.BadSize, true, d, _, rfl, rfl, T.xc_BadSize, fun u h => h, T.ki_BadSize_BadSize, rfl, upd_same, _, rfl, iteT ?_⟩
    refine ⟨_, rfl, rfl, cs.BadSize, d, _, rfl, T.xc_BadSize, rfl, upd_same, by show 2 ≤ sizeLine; decide, fun y ny => ?_⟩
    refine q y _ ((s1.trans (Same.new nd)).trans (Same.new ny)) ?_
    unfold toldD
    rw [if_neg (by omega)]
    exact dp2 (SqT.of upd_same) (.str _) (.int _)
def sp_law (K : PySem.W.Frag) (cs : CS) : Sp := fun vs H Q E => ∃ (a : Addr) (ns : List Int), vs = [.ref a] ∧ SqL K H a (ns.map V.int) ∧ ns.length ≤ 63 ∧ ∀ H', Q (.bl true) H'
theorem ok_law (F : Fun K "law" "law" s_law f fd) (T : Txt P w K mg base cs) (c_made_table : Cal P w K mg base CX0 3 "made_table" ["rows"] s_made_table (sp_made_table K cs)) (c_even_lots : Cal P w K mg base CX0 2 "even_lots" ["table"] s_even_lots (sp_even_lots K cs)) (c__law_pool : Cal P w K mg base CX0 1 "_law_pool" ["script", "k"] s__law_pool (sp__law_pool K cs)) (c__law_one : Cal P w K mg base CX0 2 "_law_one" ["source", "things"] s__law_one (sp__law_one K cs)) (c__law_table : Cal P w K mg base CX0 3 "_law_table" ["source", "many"] s__law_table (sp__law_table K cs)) (c__law_doubled : Cal P w K mg base CX0 1 "_law_doubled" ["rows"] s__law_doubled (sp__law_doubled K cs)) (c__law_lots : Cal P w K mg base CX0 1 "_law_lots" ["rows"] s__law_lots (sp__law_lots K cs)) (c__law_told : Cal P w K mg base CX0 4 "_law_told" ["rows"] s__law_told (sp__law_told K cs)) : FnG P w K mg base CX0 5 f fd ["script"] (sp_law K cs) := by
  refine fnG_of F sc_law (fun vs H Q E h => ?_) (fun cdv A outer s H vs Q E hg hr h => ?_)
  · obtain ⟨a, ns, rfl, _⟩ := h
    rfl
  obtain ⟨a, ns, rfl, hS, hz, q⟩ := h
  refine ⟨_, (PSs.nox (pss_cons (ps_set (i := 1) sc_law.nd rfl (Or.inl rfl) (pe_cal c__law_pool (hr.mono (by decide)) pass0 (pa_cons (pv 0) (pa_cons pe_int pa_nil))))
      (pss_cons (ps_for PassesOwn.never rfl (pi_range1 (by rfl) T.n_range (pa_cons pe_int pa_nil)) (pg_name (i := 2) sc_law.nd rfl (Or.inl rfl)) (pss_cons (ps_set (i := 3) sc_law.nd rfl (Or.inl rfl) (pe_cal c__law_table (hr.mono (by decide)) pass0 (pa_cons (pv 1) (pa_cons (pe_cal c__law_one (hr.mono (by decide)) pass0 (pa_cons (pv 1) (pa_cons (pe_lst (pa_cons pe_int (pa_cons pe_int (pa_cons pe_int (pa_cons pe_int (pa_cons pe_int (pa_cons pe_int (pa_cons pe_int (pa_cons pe_int (pa_cons pe_int pa_nil)))))))))) pa_nil))) pa_nil))))
      (pss_cons (ps_set (i := 4) sc_law.nd rfl (Or.inl rfl) (pe_ifExp (pt_cmpR op_lt (pe_callB (lenS K) (by rfl) T.n_len PySem.boot_len (pa_cons (pv 3) pa_nil)) pe_int (nomark _)) (pe_tup (pa_cons (pe_op op_mul pe_int (pe_callB (lenS K) (by rfl) T.n_len PySem.boot_len (pa_cons (pv 3) pa_nil))) (pa_cons (pe_cal c__law_doubled (hr.mono (by decide)) pass0 (pa_cons (pv 3) pa_nil)) pa_nil))) (pe_tup (pa_cons pe_str (pa_cons (pe_op op_mul pe_int (pe_callB (lenS K) (by rfl) T.n_len PySem.boot_len (pa_cons (pv 3) pa_nil))) pa_nil)))))
      (pss_cons (ps_if (pt_cmpR op_ne (pe_callB (reprD K hg hr) (by rfl) T.n_repr (by decide +kernel) (pa_cons (pe_cal c__law_told (hr.mono (by decide)) pass0 (pa_cons (pv 3) pa_nil)) pa_nil)) (pe_callB (reprD K hg hr) (by rfl) T.n_repr (by decide +kernel) (pa_cons (pv 4) pa_nil)) (nomark _)) (pss_one (ps_ret pe_bl)) pss_nil)
      (pss_one (ps_if (pt_cmpR op_ne (pe_callB (reprD K hg hr) (by rfl) T.n_repr (by decide +kernel) (pa_cons (pe_calK0 c_even_lots kb_even_lots_table (hr.mono (by decide)) pass0 (pk_cons (pe_cal c_made_table (hr.mono (by decide)) pass0 (pa_cons (pv 3) pa_nil)) pk_nil)) pa_nil)) (pe_callB (reprD K hg hr) (by rfl) T.n_repr (by decide +kernel) (pa_cons (pe_cal c__law_lots (hr.mono (by decide)) pass0 (pa_cons (pv 3) pa_nil)) pa_nil)) (nomark _)) (pss_one (ps_ret pe_bl)) pss_nil))))))
      (pss_one (ps_ret pe_bl))))), ?_⟩
  refine ⟨.ref a, rfl, a, ns, 0, rfl, hS, by decide, by decide, fun p H1 np s1 hs1 => ?_⟩
  refine ⟨_, rfl, by decide, by decide, ?_⟩
  refine for_range (fun k σ H' => (∃ y2 y3 y4, σ = [some (.ref a), some (.ref p), y2, y3, y4]) ∧ Src H' p) ⟨⟨_, _, _, rfl⟩, hs1⟩ ?_ ?_
  · rintro k σ H2 hk ⟨⟨y2, y3, y4, rfl⟩, hs2⟩
    refine ⟨_, rfl, _, rfl, by show 9 ≤ sizeLine; decide, fun l nl => ?_⟩
    have nlp := hs2.ne nl
    refine ⟨p, l, _, rfl, hs2.put nlp, upd_same, nlp, by show 0 < 9; decide, by show 9 < 1000000; decide, fun v H3 hv hs3 e3 => ?_⟩
    obtain ⟨many, rfl, m1, m8⟩ : ∃ many : Nat, v = .int (many : Nat) ∧ 1 ≤ many ∧ many ≤ 8 := by
      simp only [List.mem_cons, List.not_mem_nil, or_false] at hv
      rcases hv with rfl | rfl | rfl | rfl | rfl | rfl | rfl | rfl | rfl
      · exact ⟨1, rfl, by decide, by decide⟩
      · exact ⟨2, rfl, by decide, by decide⟩
      · exact ⟨3, rfl, by decide, by decide⟩
      · exact ⟨4, rfl, by decide, by decide⟩
      · exact ⟨4, rfl, by decide, by decide⟩
      · exact ⟨5, rfl, by decide, by decide⟩
      · exact ⟨6, rfl, by decide, by decide⟩
      · exact ⟨7, rfl, by decide, by decide⟩
      · exact ⟨8, rfl, by decide, by decide⟩
    refine ⟨p, many, rfl, hs3, m1, m8, fun r rows H4 e4 hs4 hT gT hl => ?_⟩
    obtain ⟨ws, hS4, hwl, _⟩ := hT.seq
    refine gN ?_
    dsimp only
    refine asgK (fun v H' => ∃ y, v = .ref y ∧ Same H4 H' ∧ Dp K H' (.ref y) (toldD rows)) (fun R hR => ?_) ?_
    · refine ⟨_, rfl, r, _, rfl, .inr hS4, _, _, rfl, rfl, _, rfl, ite2 (fun c => ?_) (fun c => ?_)⟩
      · refine ⟨_, rfl, r, _, rfl, .inr hS4, 2, _, rfl, rfl, .inl ⟨by omega, by omega⟩, _, rfl, r, rows, rfl, hT, gT, fun x H5 s5 h5 => ?_⟩
        refine ⟨by show 2 ≤ sizeLine; decide, fun y ny => hR _ _ ⟨y, rfl, s5.trans (Same.new ny), ?_⟩⟩
        unfold toldD
        rw [if_pos (by have := of_decide_eq_true c; omega)]
        rw [hwl]
        have := h5.same (Same.new (o := .tup [.int (2 * ((rows.length : Nat) : Int)), .ref x]) ny)
        exact dp2 (SqT.of upd_same) (.int _) this
      · refine ⟨_, rfl, r, _, rfl, .inr hS4, 2, _, rfl, rfl, .inl ⟨by omega, by omega⟩, by show 2 ≤ sizeLine; decide, fun y ny => hR _ _ ⟨y, rfl, Same.new ny, ?_⟩⟩
        unfold toldD
        rw [if_neg (by have c' : ¬ ((ws.length : Nat) : Int) < 5 := fun z => c (decide_eq_true z); omega), hwl]
        exact dp2 (SqT.of upd_same) (.str _) (.int _)
    rintro v H5 ⟨y, rfl, s5, hy⟩
    have hT5 := hT.same s5
    refine ⟨_, rfl, r, rows, rfl, hT5, gT, fun x H6 s6 h6 => ?_⟩
    obtain ⟨q1, q2, q3, q4⟩ := (told_shows gT).all (by decide) (by decide)
    refine ⟨x, _, rfl, h6, q1, q2, q3, q4, ?_⟩
    refine ⟨_, rfl, ?_⟩
    refine ⟨y, _, rfl, dp_same s6 _ _ hy, q1, q2, q3, q4, ?_⟩
    refine ⟨rfl, _, rfl, itF (by simp) ?_⟩
    have hT6 := hT5.same s6
    refine ⟨_, rfl, r, rows, rfl, hT6, gT, fun t H7 s7 hB => ?_⟩
    refine ⟨t, rows, rfl, hB, gT, fun x1 ms H8 s8 hx1 hl1 hm1 => ?_⟩
    obtain ⟨p1, p2, p3, p4⟩ := (lots_shows gT hl1 hm1).all (by decide) (by decide)
    refine ⟨x1, _, rfl, row_dp hx1, p1, p2, p3, p4, ?_⟩
    have hT8 := (hT6.same s7).same s8
    refine ⟨_, rfl, r, rows, rfl, hT8, gT, fun x2 ms2 H9 s9 hx2 hl2 hm2 => ?_⟩
    obtain ⟨p1, p2, p3, p4⟩ := (lots_shows gT hl2 hm2).all (by decide) (by decide)
    refine ⟨x2, _, rfl, row_dp hx2, p1, p2, p3, p4, ?_⟩
    have e := lots_one (hl1.trans hl2.symm) hm1 hm2
    subst e
    refine ⟨rfl, _, rfl, itF (by simp) ⟨⟨_, _, _, rfl⟩, ?_⟩⟩
    exact (((s5.trans s6).trans s7).trans (s8.trans s9)).src hs4
  · rintro σ H2 ⟨⟨y2, y3, y4, rfl⟩, _⟩
    exact q _
end
theorem law_start {K : PySem.W.Frag} {cs : CS} {H : Hp} (a : Addr) (ns : List Int) (hl : ns.length ≤ 63) (hS : SqL K H a (ns.map V.int)) : sp_law K cs [.ref a] H (fun v _ => v = .bl true) fun _ _ _ => False := ⟨a, ns, rfl, hS, hl, fun _ => rfl⟩
/-! ### what the top has written -/
theorem all_mk {l : PySem.W.OpenLaw} {w : World} {K : PySem.W.Frag} {h : Heap} {mg : Str → Option Value} {fa : Addr} (X : K.In h) (G : h.Ns mainGlobals mg) (hfa : mg "law" = some (.ref fa))
    {od0 an0 : Option Addr} {sl0 : Array (Option Value)} {oc0 kV0 dc0 pm0 cd0 ct0 : Value} {f0 : Addr}
    {od1 an1 : Option Addr} {sl1 : Array (Option Value)} {oc1 kV1 dc1 pm1 cd1 ct1 : Value} {f1 : Addr}
    {od2 an2 : Option Addr} {sl2 : Array (Option Value)} {oc2 kV2 dc2 pm2 cd2 ct2 : Value} {f2 : Addr}
    {od3 an3 : Option Addr} {sl3 : Array (Option Value)} {oc3 kV3 dc3 pm3 cd3 ct3 : Value} {f3 : Addr}
    {od4 an4 : Option Addr} {sl4 : Array (Option Value)} {oc4 kV4 dc4 pm4 cd4 ct4 : Value} {f4 : Addr}
    {od5 an5 : Option Addr} {sl5 : Array (Option Value)} {oc5 kV5 dc5 pm5 cd5 ct5 : Value} {f5 : Addr}
    {od6 an6 : Option Addr} {sl6 : Array (Option Value)} {oc6 kV6 dc6 pm6 cd6 ct6 : Value} {f6 : Addr}
    {od7 an7 : Option Addr} {sl7 : Array (Option Value)} {oc7 kV7 dc7 pm7 cd7 ct7 : Value} {f7 : Addr}
    {od8 an8 : Option Addr} {sl8 : Array (Option Value)} {oc8 kV8 dc8 pm8 cd8 ct8 : Value} {f8 : Addr}
    {od9 an9 : Option Addr} {sl9 : Array (Option Value)} {oc9 kV9 dc9 pm9 cd9 ct9 : Value} {f9 : Addr}
    {od10 an10 : Option Addr} {sl10 : Array (Option Value)} {oc10 kV10 dc10 pm10 cd10 ct10 : Value} {f10 : Addr}
    {od11 an11 : Option Addr} {sl11 : Array (Option Value)} {oc11 kV11 dc11 pm11 cd11 ct11 : Value} {f11 : Addr}
    {od12 an12 : Option Addr} {sl12 : Array (Option Value)} {oc12 kV12 dc12 pm12 cd12 ct12 : Value} {f12 : Addr}
    {od13 an13 : Option Addr} {sl13 : Array (Option Value)} {oc13 kV13 dc13 pm13 cd13 ct13 : Value} {f13 : Addr}
    {od14 an14 : Option Addr} {sl14 : Array (Option Value)} {oc14 kV14 dc14 pm14 cd14 ct14 : Value} {f14 : Addr}
    {C_Table C_Refused C_BadSize : Addr}
    {nm_Refused q_Refused : Str} {N_Refused : Addr} {bs_Refused bm_Refused : List Value} {sn_Refused : List Str} {su_Refused : List Value} {ab_Refused : Bool} {co_Refused : Option Bool} {dd_Refused : Option Addr} {m0_Refused m1_Refused m2_Refused m3_Refused m5_Refused : Option Value}
    {nm_BadSize q_BadSize : Str} {N_BadSize : Addr} {bs_BadSize bm_BadSize : List Value} {sn_BadSize : List Str} {su_BadSize : List Value} {ab_BadSize : Bool} {co_BadSize : Option Bool} {dd_BadSize : Option Addr} {m0_BadSize m1_BadSize m2_BadSize m3_BadSize m5_BadSize : Option Value}
    
    (A_Table : PySem.W.nsIn K mainGlobals "Table" = some (some (.ref C_Table)))
    (A_Refused : PySem.W.nsIn K mainGlobals "Refused" = some (some (.ref C_Refused)))
    (A_BadSize : PySem.W.nsIn K mainGlobals "BadSize" = some (some (.ref C_BadSize)))
    (a0 : PySem.W.findIn K (.ref C_Refused) "__init__" = some (some (.ref f0)))
    (t0 : PySem.W.typeIn K (.ref f0) = some (.type "function"))
    (l0 : K.lookup f0 = some ⟨oc0, od0, .func (PySem.W.fnOf "__init__" "Refused.__init__" (defArgs s_Refused_init) (defBody s_Refused_init) (defScope s_Refused_init) .none kV0 dc0 pm0 an0 cd0 ct0), sl0⟩)
    (c0 : PySem.W.codeIn K cd0 "Refused.__init__" = true)
    (k0 : PySem.W.keepIn K (.ref f0) = true)
    (a1 : PySem.W.findIn K (.ref C_Table) "__init__" = some (some (.ref f1)))
    (t1 : PySem.W.typeIn K (.ref f1) = some (.type "function"))
    (l1 : K.lookup f1 = some ⟨oc1, od1, .func (PySem.W.fnOf "__init__" "Table.__init__" (defArgs s_Table_init) (defBody s_Table_init) (defScope s_Table_init) .none kV1 dc1 pm1 an1 cd1 ct1), sl1⟩)
    (c1 : PySem.W.codeIn K cd1 "Table.__init__" = true)
    (k1 : PySem.W.keepIn K (.ref f1) = true)
    (a2 : PySem.W.nsIn K mainGlobals "climb_fault" = some (some (.ref f2)))
    (l2 : K.lookup f2 = some ⟨oc2, od2, .func (PySem.W.fnOf "climb_fault" "climb_fault" (defArgs s_climb_fault) (defBody s_climb_fault) (defScope s_climb_fault) .none kV2 dc2 pm2 an2 cd2 ct2), sl2⟩)
    (c2 : PySem.W.codeIn K cd2 "climb_fault" = true)
    (k2 : PySem.W.keepIn K (.ref f2) = true)
    (a3 : PySem.W.nsIn K mainGlobals "made_table" = some (some (.ref f3)))
    (l3 : K.lookup f3 = some ⟨oc3, od3, .func (PySem.W.fnOf "made_table" "made_table" (defArgs s_made_table) (defBody s_made_table) (defScope s_made_table) .none kV3 dc3 pm3 an3 cd3 ct3), sl3⟩)
    (c3 : PySem.W.codeIn K cd3 "made_table" = true)
    (k3 : PySem.W.keepIn K (.ref f3) = true)
    (a4 : PySem.W.nsIn K mainGlobals "doubled" = some (some (.ref f4)))
    (l4 : K.lookup f4 = some ⟨oc4, od4, .func (PySem.W.fnOf "doubled" "doubled" (defArgs s_doubled) (defBody s_doubled) (defScope s_doubled) .none kV4 dc4 pm4 an4 cd4 ct4), sl4⟩)
    (c4 : PySem.W.codeIn K cd4 "doubled" = true)
    (k4 : PySem.W.keepIn K (.ref f4) = true)
    (a5 : PySem.W.nsIn K mainGlobals "even_ends" = some (some (.ref f5)))
    (l5 : K.lookup f5 = some ⟨oc5, od5, .func (PySem.W.fnOf "even_ends" "even_ends" (defArgs s_even_ends) (defBody s_even_ends) (defScope s_even_ends) .none kV5 dc5 pm5 an5 cd5 ct5), sl5⟩)
    (c5 : PySem.W.codeIn K cd5 "even_ends" = true)
    (k5 : PySem.W.keepIn K (.ref f5) = true)
    (a6 : PySem.W.nsIn K mainGlobals "even_lots" = some (some (.ref f6)))
    (l6 : K.lookup f6 = some ⟨oc6, od6, .func (PySem.W.fnOf "even_lots" "even_lots" (defArgs s_even_lots) (defBody s_even_lots) (defScope s_even_lots) .none kV6 dc6 pm6 an6 cd6 ct6), sl6⟩)
    (c6 : PySem.W.codeIn K cd6 "even_lots" = true)
    (k6 : PySem.W.keepIn K (.ref f6) = true)
    (a7 : PySem.W.nsIn K mainGlobals "_law_pool" = some (some (.ref f7)))
    (l7 : K.lookup f7 = some ⟨oc7, od7, .func (PySem.W.fnOf "_law_pool" "_law_pool" (defArgs s__law_pool) (defBody s__law_pool) (defScope s__law_pool) .none kV7 dc7 pm7 an7 cd7 ct7), sl7⟩)
    (c7 : PySem.W.codeIn K cd7 "_law_pool" = true)
    (k7 : PySem.W.keepIn K (.ref f7) = true)
    (a8 : PySem.W.nsIn K mainGlobals "_law_take" = some (some (.ref f8)))
    (l8 : K.lookup f8 = some ⟨oc8, od8, .func (PySem.W.fnOf "_law_take" "_law_take" (defArgs s__law_take) (defBody s__law_take) (defScope s__law_take) .none kV8 dc8 pm8 an8 cd8 ct8), sl8⟩)
    (c8 : PySem.W.codeIn K cd8 "_law_take" = true)
    (k8 : PySem.W.keepIn K (.ref f8) = true)
    (a9 : PySem.W.nsIn K mainGlobals "_law_one" = some (some (.ref f9)))
    (l9 : K.lookup f9 = some ⟨oc9, od9, .func (PySem.W.fnOf "_law_one" "_law_one" (defArgs s__law_one) (defBody s__law_one) (defScope s__law_one) .none kV9 dc9 pm9 an9 cd9 ct9), sl9⟩)
    (c9 : PySem.W.codeIn K cd9 "_law_one" = true)
    (k9 : PySem.W.keepIn K (.ref f9) = true)
    (a10 : PySem.W.nsIn K mainGlobals "_law_table" = some (some (.ref f10)))
    (l10 : K.lookup f10 = some ⟨oc10, od10, .func (PySem.W.fnOf "_law_table" "_law_table" (defArgs s__law_table) (defBody s__law_table) (defScope s__law_table) .none kV10 dc10 pm10 an10 cd10 ct10), sl10⟩)
    (c10 : PySem.W.codeIn K cd10 "_law_table" = true)
    (k10 : PySem.W.keepIn K (.ref f10) = true)
    (a11 : PySem.W.nsIn K mainGlobals "_law_doubled" = some (some (.ref f11)))
    (l11 : K.lookup f11 = some ⟨oc11, od11, .func (PySem.W.fnOf "_law_doubled" "_law_doubled" (defArgs s__law_doubled) (defBody s__law_doubled) (defScope s__law_doubled) .none kV11 dc11 pm11 an11 cd11 ct11), sl11⟩)
    (c11 : PySem.W.codeIn K cd11 "_law_doubled" = true)
    (k11 : PySem.W.keepIn K (.ref f11) = true)
    (a12 : PySem.W.nsIn K mainGlobals "_law_lots" = some (some (.ref f12)))
    (l12 : K.lookup f12 = some ⟨oc12, od12, .func (PySem.W.fnOf "_law_lots" "_law_lots" (defArgs s__law_lots) (defBody s__law_lots) (defScope s__law_lots) .none kV12 dc12 pm12 an12 cd12 ct12), sl12⟩)
    (c12 : PySem.W.codeIn K cd12 "_law_lots" = true)
    (k12 : PySem.W.keepIn K (.ref f12) = true)
    (a13 : PySem.W.nsIn K mainGlobals "_law_told" = some (some (.ref f13)))
    (l13 : K.lookup f13 = some ⟨oc13, od13, .func (PySem.W.fnOf "_law_told" "_law_told" (defArgs s__law_told) (defBody s__law_told) (defScope s__law_told) .none kV13 dc13 pm13 an13 cd13 ct13), sl13⟩)
    (c13 : PySem.W.codeIn K cd13 "_law_told" = true)
    (k13 : PySem.W.keepIn K (.ref f13) = true)
    (a14 : PySem.W.nsIn K mainGlobals "law" = some (some (.ref f14)))
    (l14 : K.lookup f14 = some ⟨oc14, od14, .func (PySem.W.fnOf "law" "law" (defArgs s_law) (defBody s_law) (defScope s_law) .none kV14 dc14 pm14 an14 cd14 ct14), sl14⟩)
    (c14 : PySem.W.codeIn K cd14 "law" = true)
    (k14 : PySem.W.keepIn K (.ref f14) = true)
    (P1_Table : PySem.W.plainGet K C_Table Str.empty = true)
    (P2_Table : PySem.W.hasDictIn K C_Table = true)
    (P3_Table : PySem.W.plainOver K C_Table = true)
    (P4_Table : PySem.W.findIn K (.ref C_Table) "__setattr__" = some (some (.builtin "object.__setattr__")))
    (PN_Table_many : PySem.W.findIn K (.ref C_Table) "many" = some none)
    (PN_Table_beside : PySem.W.findIn K (.ref C_Table) "beside" = some none)
    (M1_Table : PySem.W.makesIn K C_Table = true)
    (M3_Table : PySem.W.isFn K (.ref f1) = true)
    (M4_Table : PySem.W.keepIn K (.ref C_Table) = true)
    (E1_Refused : K.lookup C_Refused = some (excClassObj nm_Refused q_Refused C_Refused N_Refused bs_Refused bm_Refused true sn_Refused su_Refused ab_Refused co_Refused dd_Refused m0_Refused m1_Refused m2_Refused m3_Refused m5_Refused "ValueError.__new__"))
    (E4_Refused : PySem.W.subIn K (.ref C_Refused) (.type "BaseException") = some true)
    (E5_Refused : PySem.W.typeIn K (.ref C_Refused) = some (.type "type"))
    (E9_Refused : PySem.W.hasDictIn K C_Refused = true)
    (E1_BadSize : K.lookup C_BadSize = some (excClassObj nm_BadSize q_BadSize C_BadSize N_BadSize bs_BadSize bm_BadSize true sn_BadSize su_BadSize ab_BadSize co_BadSize dd_BadSize m0_BadSize m1_BadSize m2_BadSize m3_BadSize m5_BadSize "ValueError.__new__"))
    (E4_BadSize : PySem.W.subIn K (.ref C_BadSize) (.type "BaseException") = some true)
    (E5_BadSize : PySem.W.typeIn K (.ref C_BadSize) = some (.type "type"))
    (E9_BadSize : PySem.W.hasDictIn K C_BadSize = true)
    (E2_BadSize : HandSPX.refsVE bm_BadSize = true)
    (E3_BadSize : PySem.W.findIn K (.ref C_BadSize) "__setattr__" = some (some (.builtin "object.__setattr__")))
    (E6_BadSize : PySem.W.keepIn K (.ref C_BadSize) = true)
    (E7_BadSize : PySem.W.findIn K (.ref C_BadSize) "__getattribute__" = some (some (.builtin "BaseException.__getattribute__")))
    (E8_BadSize : PySem.W.findIn K (.ref C_BadSize) "__getattr__" = some none)
    (EA_BadSize : (PySem.W.clsIn K C_BadSize).isSome = true)
    (EB_BadSize : PySem.W.findIn K (.ref C_BadSize) "__class__" = some (some (.builtin "object.__class__")))
    (EC_BadSize : PySem.W.mroIn K C_BadSize (.type "object") = some true)
    (ED_BadSize : PySem.W.findIn K (.ref C_BadSize) "what" = some none)
    (EI_BadSize : PySem.W.findIn K (.ref C_BadSize) "__init__" = some (some (.ref f0)))
    (EG : PySem.W.specialIn K (.builtin "object.__class__") "__get__" = some (some (.builtin "getset_descriptor.__get__")))
    (ET : PySem.W.takesIn K (.builtin "object.__class__") = some true)
    (X_BadSize_Refused : PySem.W.exmOne K (.ref C_BadSize) (.ref C_Refused) = some true)
    (I_BadSize_BadSize : PySem.W.kitOne K (.ref C_BadSize) (.ref C_BadSize) = some true)
    (z_all : PySem.W.nsIn K mainGlobals "all" = some none)
    (z_enumerate : PySem.W.nsIn K mainGlobals "enumerate" = some none)
    (z_int : PySem.W.nsIn K mainGlobals "int" = some none)
    (z_isinstance : PySem.W.nsIn K mainGlobals "isinstance" = some none)
    (z_len : PySem.W.nsIn K mainGlobals "len" = some none)
    (z_max : PySem.W.nsIn K mainGlobals "max" = some none)
    (z_min : PySem.W.nsIn K mainGlobals "min" = some none)
    (z_range : PySem.W.nsIn K mainGlobals "range" = some none)
    (z_repr : PySem.W.nsIn K mainGlobals "repr" = some none)
    (z_sorted : PySem.W.nsIn K mainGlobals "sorted" = some none)
    (z_tuple : PySem.W.nsIn K mainGlobals "tuple" = some none)
    (y_MOST_COATS : ∃ t, PySem.W.nsIn K mainGlobals "MOST_COATS" = some (some (.int 8 t))) :
    ∃ fd : FuncData, (∀ (s : Shared) (v : Value), BindsTo s fd ⟨[v], []⟩ [("script", v)]) ∧ ∀ base : Heap, K.In base → base.Ns mainGlobals mg → FnG l.prog w K mg base CX0 5 fa fd ["script"] (sp_law K ⟨(), 0, 0, 0⟩) := by
  have e := hfa.symm.trans (PySem.W.mg_of X G a14)
  cases e
  have T0 : Txn K mg (⟨(), C_Table, C_Refused, C_BadSize⟩ : CS) := ⟨PySem.W.mg_none_of X G z_all, PySem.W.mg_none_of X G z_enumerate, PySem.W.mg_none_of X G z_int, PySem.W.mg_none_of X G z_isinstance, PySem.W.mg_none_of X G z_len, PySem.W.mg_none_of X G z_max, PySem.W.mg_none_of X G z_min, PySem.W.mg_none_of X G z_range, PySem.W.mg_none_of X G z_repr, PySem.W.mg_none_of X G z_sorted, PySem.W.mg_none_of X G z_tuple, (let ⟨t, y⟩ := y_MOST_COATS; ⟨t, PySem.W.mg_of X G y⟩), PySem.W.mg_of X G A_Table, PySem.W.mg_of X G A_Refused, PySem.W.mg_of X G A_BadSize, ⟨P1_Table, P2_Table, P3_Table, P4_Table⟩, PN_Table_many, PN_Table_beside, ⟨⟨⟨_, _, _, _, _, _, _, _, _, _, _, _, _, _, _, E1_BadSize, E2_BadSize⟩, E3_BadSize, E4_BadSize, E5_BadSize, E6_BadSize⟩, ED_BadSize, ⟨E7_BadSize, E8_BadSize, E4_BadSize, E9_BadSize⟩, EA_BadSize, EB_BadSize, EG, ET, EC_BadSize⟩, X_BadSize_Refused, I_BadSize_BadSize⟩
  have F0 := fun_mk (x := "__init__") (qual := "Refused.__init__") (st := s_Refused_init) l0 c0 k0
  have b0 := F0.binds (ps := ["self", "what"]) fun _ _ _ _ _ _ us hl => match us, hl with | [_, _], _ => rfl
  have F1 := fun_mk (x := "__init__") (qual := "Table.__init__") (st := s_Table_init) l1 c1 k1
  have b1 := F1.binds (ps := ["self", "beside"]) fun _ _ _ _ _ _ us hl => match us, hl with | [_, _], _ => rfl
  have F2 := fun_mk (x := "climb_fault") (qual := "climb_fault") (st := s_climb_fault) l2 c2 k2
  have b2 := F2.binds (ps := ["numbers", "many"]) fun _ _ _ _ _ _ us hl => match us, hl with | [_, _], _ => rfl
  have F3 := fun_mk (x := "made_table") (qual := "made_table") (st := s_made_table) l3 c3 k3
  have b3 := F3.binds (ps := ["rows"]) fun _ _ _ _ _ _ us hl => match us, hl with | [_], _ => rfl
  have F4 := fun_mk (x := "doubled") (qual := "doubled") (st := s_doubled) l4 c4 k4
  have b4 := F4.binds (ps := ["table"]) fun _ _ _ _ _ _ us hl => match us, hl with | [_], _ => rfl
  have F5 := fun_mk (x := "even_ends") (qual := "even_ends") (st := s_even_ends) l5 c5 k5
  have b5 := F5.binds (ps := ["table", "start"]) fun _ _ _ _ _ _ us hl => match us, hl with | [_, _], _ => rfl
  have F6 := fun_mk (x := "even_lots") (qual := "even_lots") (st := s_even_lots) l6 c6 k6
  have b6 := F6.binds (ps := ["table"]) fun _ _ _ _ _ _ us hl => match us, hl with | [_], _ => rfl
  have F7 := fun_mk (x := "_law_pool") (qual := "_law_pool") (st := s__law_pool) l7 c7 k7
  have b7 := F7.binds (ps := ["script", "k"]) fun _ _ _ _ _ _ us hl => match us, hl with | [_, _], _ => rfl
  have F8 := fun_mk (x := "_law_take") (qual := "_law_take") (st := s__law_take) l8 c8 k8
  have b8 := F8.binds (ps := ["source", "top"]) fun _ _ _ _ _ _ us hl => match us, hl with | [_, _], _ => rfl
  have F9 := fun_mk (x := "_law_one") (qual := "_law_one") (st := s__law_one) l9 c9 k9
  have b9 := F9.binds (ps := ["source", "things"]) fun _ _ _ _ _ _ us hl => match us, hl with | [_, _], _ => rfl
  have F10 := fun_mk (x := "_law_table") (qual := "_law_table") (st := s__law_table) l10 c10 k10
  have b10 := F10.binds (ps := ["source", "many"]) fun _ _ _ _ _ _ us hl => match us, hl with | [_, _], _ => rfl
  have F11 := fun_mk (x := "_law_doubled") (qual := "_law_doubled") (st := s__law_doubled) l11 c11 k11
  have b11 := F11.binds (ps := ["rows"]) fun _ _ _ _ _ _ us hl => match us, hl with | [_], _ => rfl
  have F12 := fun_mk (x := "_law_lots") (qual := "_law_lots") (st := s__law_lots) l12 c12 k12
  have b12 := F12.binds (ps := ["rows"]) fun _ _ _ _ _ _ us hl => match us, hl with | [_], _ => rfl
  have F13 := fun_mk (x := "_law_told") (qual := "_law_told") (st := s__law_told) l13 c13 k13
  have b13 := F13.binds (ps := ["rows"]) fun _ _ _ _ _ _ us hl => match us, hl with | [_], _ => rfl
  have F14 := fun_mk (x := "law") (qual := "law") (st := s_law) l14 c14 k14
  refine ⟨PySem.W.fnOf "law" "law" (defArgs s_law) (defBody s_law) (defScope s_law) .none kV14 dc14 pm14 an14 cd14 ct14, fun s v => .of_eq rfl, fun base _ _ => ?_⟩
  have T : Txt l.prog w K mg base (⟨(), C_Table, C_Refused, C_BadSize⟩ : CS) := ⟨T0, trivial, ⟨_, _, ⟨M1_Table, a1, M3_Table, M4_Table⟩, ok_Table_init F1 T0, T0.gm_Table, b1⟩, ⟨T0.gm_BadSize, T0.xc_BadSize, _, _, EI_BadSize, t0, ok_Refused_init F0 T0, b0⟩⟩
  have c_climb_fault : Cal l.prog w K mg base CX0 1 "climb_fault" ["numbers", "many"] s_climb_fault (sp_climb_fault K (⟨(), C_Table, C_Refused, C_BadSize⟩ : CS)) := ⟨_, _, ok_climb_fault F2 T , F2, PySem.W.mg_of X G a2, b2⟩
  have c_made_table : Cal l.prog w K mg base CX0 3 "made_table" ["rows"] s_made_table (sp_made_table K (⟨(), C_Table, C_Refused, C_BadSize⟩ : CS)) := ⟨_, _, ok_made_table F3 T c_climb_fault, F3, PySem.W.mg_of X G a3, b3⟩
  have c_doubled : Cal l.prog w K mg base (L2.CX l.prog w) 3 "doubled" ["table"] s_doubled (sp_doubled K (⟨(), C_Table, C_Refused, C_BadSize⟩ : CS)) := ⟨_, _, ok_doubled F4 T , F4, PySem.W.mg_of X G a4, b4⟩
  have c_even_ends : Cal l.prog w K mg base CX0 1 "even_ends" ["table", "start"] s_even_ends (sp_even_ends K (⟨(), C_Table, C_Refused, C_BadSize⟩ : CS)) := ⟨_, _, ok_even_ends F5 T , F5, PySem.W.mg_of X G a5, b5⟩
  have c_even_lots : Cal l.prog w K mg base CX0 2 "even_lots" ["table"] s_even_lots (sp_even_lots K (⟨(), C_Table, C_Refused, C_BadSize⟩ : CS)) := ⟨_, _, ok_even_lots F6 T c_even_ends, F6, PySem.W.mg_of X G a6, b6⟩
  have c__law_pool : Cal l.prog w K mg base CX0 1 "_law_pool" ["script", "k"] s__law_pool (sp__law_pool K (⟨(), C_Table, C_Refused, C_BadSize⟩ : CS)) := ⟨_, _, ok__law_pool F7 T , F7, PySem.W.mg_of X G a7, b7⟩
  have c__law_take : Cal l.prog w K mg base CX0 1 "_law_take" ["source", "top"] s__law_take (sp__law_take K (⟨(), C_Table, C_Refused, C_BadSize⟩ : CS)) := ⟨_, _, ok__law_take F8 T , F8, PySem.W.mg_of X G a8, b8⟩
  have c__law_one : Cal l.prog w K mg base CX0 2 "_law_one" ["source", "things"] s__law_one (sp__law_one K (⟨(), C_Table, C_Refused, C_BadSize⟩ : CS)) := ⟨_, _, ok__law_one F9 T c__law_take, F9, PySem.W.mg_of X G a9, b9⟩
  have c__law_table : Cal l.prog w K mg base CX0 3 "_law_table" ["source", "many"] s__law_table (sp__law_table K (⟨(), C_Table, C_Refused, C_BadSize⟩ : CS)) := ⟨_, _, ok__law_table F10 T c__law_take c__law_one, F10, PySem.W.mg_of X G a10, b10⟩
  have c__law_doubled : Cal l.prog w K mg base CX0 1 "_law_doubled" ["rows"] s__law_doubled (sp__law_doubled K (⟨(), C_Table, C_Refused, C_BadSize⟩ : CS)) := ⟨_, _, ok__law_doubled F11 T , F11, PySem.W.mg_of X G a11, b11⟩
  have c__law_lots : Cal l.prog w K mg base CX0 1 "_law_lots" ["rows"] s__law_lots (sp__law_lots K (⟨(), C_Table, C_Refused, C_BadSize⟩ : CS)) := ⟨_, _, ok__law_lots F12 T , F12, PySem.W.mg_of X G a12, b12⟩
  have c__law_told : Cal l.prog w K mg base CX0 4 "_law_told" ["rows"] s__law_told (sp__law_told K (⟨(), C_Table, C_Refused, C_BadSize⟩ : CS)) := ⟨_, _, ok__law_told F13 T c_made_table c_doubled, F13, PySem.W.mg_of X G a13, b13⟩
  have zz := ok_law F14 T c_made_table c_even_lots c__law_pool c__law_one c__law_table c__law_doubled c__law_lots c__law_told
  exact zz
end K
open PySem PySem.W PyProof.Rows
set_option maxHeartbeats 0 in
theorem PySem.Challenge.cw_betweencoats_k02_tables_doubled_and_even_holds : PySem.Challenge.rw_betweencoats_k02_tables_doubled_and_even.Holds := by
  w_on; o_law; k_head; (case hw => w_witness2)
  k_fill
  refine Bw.walk_ofG (l := PySem.Challenge.rw_betweencoats_k02_tables_doubled_and_even) (n := 63) (k := 5) (x := "script") (CX := fun _ => L2.CX0) (sp := fun w => K.sp_law _ ⟨(), 0, 0, 0⟩) rfl (by decide) rfl ⟨rfl, by decide, by decide⟩ (fun w h Y => PySem.W.kIn_of Y) ?F (fun _ _ a ns hl hS => K.law_start a ns hl hS) (fun _ _ _ _ _ h => h)
  case F =>
    intro w mg fa h KX G hmg
    refine' K.all_mk KX G hmg ?A_Table ?A_Refused ?A_BadSize ?a0 ?t0 ?l0 ?c0 ?k0 ?a1 ?t1 ?l1 ?c1 ?k1 ?a2 ?l2 ?c2 ?k2 ?a3 ?l3 ?c3 ?k3 ?a4 ?l4 ?c4 ?k4 ?a5 ?l5 ?c5 ?k5 ?a6 ?l6 ?c6 ?k6 ?a7 ?l7 ?c7 ?k7 ?a8 ?l8 ?c8 ?k8 ?a9 ?l9 ?c9 ?k9 ?a10 ?l10 ?c10 ?k10 ?a11 ?l11 ?c11 ?k11 ?a12 ?l12 ?c12 ?k12 ?a13 ?l13 ?c13 ?k13 ?a14 ?l14 ?c14 ?k14 ?P1_Table ?P2_Table ?P3_Table ?P4_Table ?PN_Table_many ?PN_Table_beside ?M1_Table ?M3_Table ?M4_Table ?E1_Refused ?E4_Refused ?E5_Refused ?E9_Refused ?E1_BadSize ?E4_BadSize ?E5_BadSize ?E9_BadSize ?E2_BadSize ?E3_BadSize ?E6_BadSize ?E7_BadSize ?E8_BadSize ?EA_BadSize ?EB_BadSize ?EC_BadSize ?ED_BadSize ?EI_BadSize ?EG ?ET ?X_BadSize_Refused ?I_BadSize_BadSize ?z_all ?z_enumerate ?z_int ?z_isinstance ?z_len ?z_max ?z_min ?z_range ?z_repr ?z_sorted ?z_tuple ?y_MOST_COATS
    (case A_Table => first | k_is | rfl)
    (case A_Refused => first | k_is | rfl)
    (case A_BadSize => first | k_is | rfl)
    (case a0 => first | k_is | rfl)
    (case t0 => first | k_is | rfl)
    (case l0 => first | k_is | rfl)
    (case c0 => first | k_is | rfl)
    (case k0 => first | k_is | rfl)
    (case a1 => first | k_is | rfl)
    (case t1 => first | k_is | rfl)
    (case l1 => first | k_is | rfl)
    (case c1 => first | k_is | rfl)
    (case k1 => first | k_is | rfl)
    (case a2 => first | k_is | rfl)
    (case l2 => first | k_is | rfl)
    (case c2 => first | k_is | rfl)
    (case k2 => first | k_is | rfl)
    (case a3 => first | k_is | rfl)
    (case l3 => first | k_is | rfl)
    (case c3 => first | k_is | rfl)
    (case k3 => first | k_is | rfl)
    (case a4 => first | k_is | rfl)
    (case l4 => first | k_is | rfl)
    (case c4 => first | k_is | rfl)
    (case k4 => first | k_is | rfl)
    (case a5 => first | k_is | rfl)
    (case l5 => first | k_is | rfl)
    (case c5 => first | k_is | rfl)
    (case k5 => first | k_is | rfl)
    (case a6 => first | k_is | rfl)
    (case l6 => first | k_is | rfl)
    (case c6 => first | k_is | rfl)
    (case k6 => first | k_is | rfl)
    (case a7 => first | k_is | rfl)
    (case l7 => first | k_is | rfl)
    (case c7 => first | k_is | rfl)
    (case k7 => first | k_is | rfl)
    (case a8 => first | k_is | rfl)
    (case l8 => first | k_is | rfl)
    (case c8 => first | k_is | rfl)
    (case k8 => first | k_is | rfl)
    (case a9 => first | k_is | rfl)
    (case l9 => first | k_is | rfl)
    (case c9 => first | k_is | rfl)
    (case k9 => first | k_is | rfl)
    (case a10 => first | k_is | rfl)
    (case l10 => first | k_is | rfl)
    (case c10 => first | k_is | rfl)
    (case k10 => first | k_is | rfl)
    (case a11 => first | k_is | rfl)
    (case l11 => first | k_is | rfl)
    (case c11 => first | k_is | rfl)
    (case k11 => first | k_is | rfl)
    (case a12 => first | k_is | rfl)
    (case l12 => first | k_is | rfl)
    (case c12 => first | k_is | rfl)
    (case k12 => first | k_is | rfl)
    (case a13 => first | k_is | rfl)
    (case l13 => first | k_is | rfl)
    (case c13 => first | k_is | rfl)
    (case k13 => first | k_is | rfl)
    (case a14 => first | k_is | rfl)
    (case l14 => first | k_is | rfl)
    (case c14 => first | k_is | rfl)
    (case k14 => first | k_is | rfl)
    (case P1_Table => first | k_is | rfl)
    (case P2_Table => first | k_is | rfl)
    (case P3_Table => first | k_is | rfl)
    (case P4_Table => first | k_is | rfl)
    (case PN_Table_many => first | k_is | rfl)
    (case PN_Table_beside => first | k_is | rfl)
    (case M1_Table => first | k_is | rfl)
    (case M3_Table => first | k_is | rfl)
    (case M4_Table => first | k_is | rfl)
    (case E1_Refused => first | k_is | rfl)
    (case E4_Refused => first | k_is | rfl)
    (case E5_Refused => first | k_is | rfl)
    (case E9_Refused => first | k_is | rfl)
    (case E1_BadSize => first | k_is | rfl)
    (case E4_BadSize => first | k_is | rfl)
    (case E5_BadSize => first | k_is | rfl)
    (case E9_BadSize => first | k_is | rfl)
    (case E2_BadSize => first | rfl | decide +kernel | k_is)
    (case E3_BadSize => first | k_is | rfl)
    (case E6_BadSize => first | k_is | rfl)
    (case E7_BadSize => first | k_is | rfl)
    (case E8_BadSize => first | k_is | rfl)
    (case EA_BadSize => first | k_is | rfl)
    (case EB_BadSize => first | k_is | rfl)
    (case EC_BadSize => first | k_is | rfl)
    (case ED_BadSize => first | k_is | rfl)
    (case EI_BadSize => first | k_is | rfl)
    (case EG => first | k_is | rfl)
    (case ET => first | k_is | rfl)
    (case X_BadSize_Refused => first | k_is | rfl)
    (case I_BadSize_BadSize => first | k_is | rfl)
    (case z_all => first | k_is | rfl)
    (case z_enumerate => first | k_is | rfl)
    (case z_int => first | k_is | rfl)
    (case z_isinstance => first | k_is | rfl)
    (case z_len => first | k_is | rfl)
    (case z_max => first | k_is | rfl)
    (case z_min => first | k_is | rfl)
    (case z_range => first | k_is | rfl)
    (case z_repr => first | k_is | rfl)
    (case z_sorted => first | k_is | rfl)
    (case z_tuple => first | k_is | rfl)
    (case y_MOST_COATS => exact ⟨_, by k_is⟩)
