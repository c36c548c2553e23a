import PyProof.Rows.All
import Wide.All
import OpenK.AllK
import Wide.FinOn
import HandS.ForMost
import HandS.IsInst
import HandS.TupAny
import HandS.Style
import HandS.Wide
import HandS.Walk
import HandS.WordsExc
import KE.GoesEnum
import PyProof.ReprRoads
import HandS.Evl
import PySem.Challenge.RW_betweencoats_k07_rows_struck_in_any_orde
set_option Elab.async false
set_option linter.all false
set_option maxRecDepth 100000
namespace Bw
open PySem PySem.Spec PyProof.Rows L2

/-! ### a def that is called by its name -/
structure Cal (P : Program) (w : World) (K : PySem.W.Frag) (mg : Str → Option Value) (base : Heap) (CX : CXT) (k : Nat) (x : Str) (ps : List Str) (st : Stmt) (sp : Sp) : Prop where
  ex : ∃ (f : Addr) (fd : FuncData), FnOk P w K mg base CX k f fd ps sp ∧ Fun K x x st f fd ∧ mg x = some (.ref f) ∧ Binds K fd ps []
section
variable {X : Cx} {CX : CXT} {k : Nat} {x : Str} {ps ks : List Str} {st : Stmt} {sp : Sp} {E : XK} {p pos : Pos} {e : Expr} {es : List Expr} {kws : List Keyword} {t tk : TA}
theorem pe_cal (c : Cal X.prog X.w X.K X.mg X.base CX k x ps st sp) (hr : Room k X.A) (hx : Passes CX X E) (ha : PA X (e :: es) t) (hg : Gl X x := by rfl) (hdb : (x == ("__debug__" : Str)) = false := by decide)
    (he : starEach (e :: es) X.env = (false, eval e X.env) :: starEach es X.env := by rfl) (hpl : (backTo pos (starEach es X.env)).any (·.1) = false := by rfl) : PE X (.Call (.Name x p) (e :: es) [] pos) (tCall sp [] E t) := by
  obtain ⟨f, fd, G, F, hm, hb⟩ := c.ex
  exact pe_call G hr hg hm F.kp hb .nil hx ha hdb he hpl
theorem pe_cal0 (c : Cal X.prog X.w X.K X.mg X.base CX k x ps st sp) (hr : Room k X.A) (hx : Passes CX X E) (hg : Gl X x := by rfl) (hdb : (x == ("__debug__" : Str)) = false := by decide) : PE X (.Call (.Name x p) [] [] pos) (tCall sp [] E tNil) := by
  obtain ⟨f, fd, G, F, hm, hb⟩ := c.ex
  exact pe_call0 G hr hg hm F.kp hb .nil hx hdb
/-- how a call with keywords binds, whatever the function object -/
structure KwB (x : Str) (st : Stmt) (ps ks : List Str) (g : List Value → List Value → List Value) (gV : List V → List V → List V) : Prop where
  to : ∀ (kV doc pm : Value) (an : Option Addr) (cdv ct : Value) (us ws : List Value), (g us ws).length = ps.length →
    bindArgs (PySem.W.fnOf x x (defArgs st) (defBody st) (defScope st) .none kV doc pm an cdv ct) ⟨us, ks.zip ws⟩ = pure (ps.zip (g us ws))
  rel : ∀ {vs : List V} {us : List Value} {zs : List V} {ws : List Value}, Vals vs us → Vals zs ws → Vals (gV vs zs) (g us ws)
variable {g : List Value → List Value → List Value} {gV : List V → List V → List V}
theorem KwB.binds {K : PySem.W.Frag} {f : Addr} {fd : FuncData} (B : KwB x st ps ks g gV) (F : Fun K x x st f fd) : KBinds K fd ps ks g gV := by
  obtain ⟨oc, od, kV, doc, pm, an, cdv, ct, osl, rfl, lk, hcd⟩ := F.ex
  exact ⟨fun s us ws _ hl => .of_eq (B.to kV doc pm an cdv ct us ws hl), fun r rz => B.rel r rz⟩
theorem pe_calK (c : Cal X.prog X.w X.K X.mg X.base CX k x ps st sp) (B : KwB x st ps ks g gV) (hr : Room k X.A) (hx : Passes CX X E) (ha : PA X (e :: es) t) (hkw : PK X kws tk) (hg : Gl X x := by rfl)
    (hall : (backToKw pos (keywordEach kws X.env)).all (·.1.isSome) = true := by rfl) (hks : (backToKw pos (keywordEach kws X.env)).filterMap (·.1) = ks := by rfl)
    (hdb : (x == ("__debug__" : Str)) = false := by decide) (he : starEach (e :: es) X.env = (false, eval e X.env) :: starEach es X.env := by rfl)
    (hpl : ((backTo pos (starEach (e :: es) X.env)).any (·.1) || (backToKw pos (keywordEach kws X.env)).any (·.1.isNone)) = false := by rfl) :
    PE X (.Call (.Name x p) (e :: es) kws pos) (tCallK sp gV E t tk) := by
  obtain ⟨f, fd, G, F, hm, hb⟩ := c.ex
  exact pe_callK G hr hg hm F.kp (B.binds F) hx ha hkw hall hks hdb he hpl
/-- keywords alone -/
theorem pe_calK0 (c : Cal X.prog X.w X.K X.mg X.base CX k x ps st sp) (B : KwB x st ps ks g gV) (hr : Room k X.A) (hx : Passes CX X E) (hkw : PK X kws tk) (hg : Gl X x := by rfl)
    (hall : (backToKw pos (keywordEach kws X.env)).all (·.1.isSome) = true := by rfl) (hks : (backToKw pos (keywordEach kws X.env)).filterMap (·.1) = ks := by rfl)
    (hdb : (x == ("__debug__" : Str)) = false := by decide)
    (hpl : ((backTo pos (starEach [] X.env)).any (·.1) || (backToKw pos (keywordEach kws X.env)).any (·.1.isNone)) = false := by rfl) :
    PE X (.Call (.Name x p) [] kws pos) (tCallK sp gV E tNil tk) := by
  obtain ⟨f, fd, G, F, hm, hb⟩ := c.ex
  refine ⟨fun pins s σ H Q I h => ?_⟩
  refine wpAny_Call_Name_kw (ld_glob I hg hm ?_ hdb)
  refine PySem.W.callWith_KW0 (h₀ := X.base) I.ok.mod.kin F.kp hall (thn (hkw.run pos pins s σ H _ I h) fun ws s2 ⟨zs, H2, I2, rz, q2⟩ => ⟨I2.kIn, ?_⟩) hpl
  rw [hks]
  exact run_fnk (us := []) (vs := []) G hr (B.binds F) hx I2 .nil rz q2
end

/-! ### enumerate of a tuple -/
def IteT (K : PySem.W.Frag) (a : Addr) : It :=
  ⟨fun i H => ∃ (xs : List V) (x : V), SqT K H a xs ∧ xs[i]? = some x, fun i H v H' => ∃ T x, v = .ref T ∧ H T = none ∧ H' = upd H T (.tup [.int (i : Nat), x]) ∧ ∀ xs, SqT K H a xs → xs[i]? = some x, fun i H => ∃ xs : List V, SqT K H a xs ∧ i = xs.length⟩
set_option maxHeartbeats 1000000 in
theorem meets_enum_tup {v : Value} {o : Obj} {H : Heap → Prop} (B : Begins v o H) :
    Meets (Builtin.«enumerate.__new__» ⟨[.type "enumerate", v], []⟩) (fun _ R s => H s.heap ∧
      R (.ok (.ret (.ref (s.heap.push o).objs.size))) { s with heap := (s.heap.push o).push { cls := .type "enumerate", data := .fields #[.none, .bool false, .ref s.heap.objs.size, rawInt 0, .none, .none] } }) :=
  .of_wp fun prog w A R s h => by
    obtain ⟨hp, g, d, tk, os⟩ := s; obtain ⟨h1, h⟩ := h
    have hsub := sub_enumerate
    have q1 : ∀ {A' : Around} {E : Value → Shared → Prop} {Q : Value → Shared → Prop}, Q (.ref hp.objs.size) ⟨hp.push o, g, d, tk, os⟩ → wpAny (model prog w) A' (pyIter v) Q E ⟨hp, g, d, tk, os⟩ :=
      fun q => B.iter prog w _ _ ⟨hp, g, d, tk, os⟩ _ h1 q
    wp_walk using q1
    refine wpAny_stack_any fun st => wpAny_pure ?_
    split
    · rename_i c _ _ _ _ _
      cases (c == Value.type "enumerate")
      · wp_walk using q1
        exact ⟨_, rfl, h⟩
      · wp_walk using q1
        exact ⟨_, rfl, h⟩
    · wp_walk using q1
      exact ⟨_, rfl, h⟩
end Bw

namespace HT
open PySem PySem.Spec PyProof.Rows
section
variable {prog : Program} {w : World} {A : Around} {E : Value → Shared → Prop} {s : Shared}
theorem sliceApplied_rev {sl : Addr} {vk : Value} {n : Nat} {Q : Int × Int × Nat → Shared → Prop} (hs : s.heap.IsSliceOf sl .none .none vk) (pk : IsPart vk (some (-1)))
    (h : Q ((n : Int) - 1, -1, n) s) : wpAny (model prog w) A (Builtin.Slice.sliceApplied (.ref sl) (pure (n : Int))) Q E s := by
  obtain ⟨os, hos, hcs, hds⟩ := id hs
  unfold Builtin.Slice.sliceApplied Builtin.Slice.sliceFields
  refine wpAny_bind (wpAny_bind (wpAny_field hos hds (x := .none) rfl (wpAny_bind (wpAny_field hos hds (x := .none) rfl (wpAny_bind (wpAny_field hos hds (x := vk) rfl (wpAny_pure ?_)))))))
  refine wpAny_bind (slicePart_ pk ?_)
  show wpAny _ _ (if ((-1 : Int) == 0) = true then _ else _) _ _ s
  rw [if_neg (by decide)]
  refine wpAny_bind (slicePart_ .none (wpAny_bind (slicePart_ .none (wpAny_bind (wpAny_pure ?_)))))
  show wpAny _ _ (pure ((n : Int) - 1, (-1 : Int), Builtin.Slice.slicePlaces ((n : Int) - 1) (-1) (-1))) _ _ s
  have e : Builtin.Slice.slicePlaces ((n : Int) - 1) (-1) (-1) = n := by
    unfold Builtin.Slice.slicePlaces
    rw [if_neg (by decide)]
    by_cases h0 : n = 0
    · subst h0; decide
    · rw [if_pos (show (n : Int) - 1 > -1 by omega), show (- -1 : Int) = 1 by decide, Int.ediv_one]
      omega
  rw [e]
  exact wpAny_pure h
theorem pick_rev (xs : Array Value) : ((List.range xs.size).filterMap fun (m : Nat) => xs[(((xs.size : Int) - 1) + (m : Int) * (-1)).toNat]?).toArray = xs.toList.reverse.toArray := by
  have e : (List.range xs.size).filterMap (fun (m : Nat) => xs[(((xs.size : Int) - 1) + (m : Int) * (-1)).toNat]?) = xs.toList.reverse := by
    apply List.ext_getElem?
    intro i
    have gen : ∀ l : List Nat, (∀ m ∈ l, m < xs.size) → l.filterMap (fun (m : Nat) => xs[(((xs.size : Int) - 1) + (m : Int) * (-1)).toNat]?) = l.map (fun m => xs[xs.size - 1 - m]?.getD .none) := by
      intro l
      induction l with
      | nil => intro _; rfl
      | cons m l ih =>
        intro hl
        have hm := hl m List.mem_cons_self
        have e2 : (((xs.size : Int) - 1) + (m : Int) * (-1)).toNat = xs.size - 1 - m := by omega
        have e3 : xs[xs.size - 1 - m]? = some (xs[xs.size - 1 - m]'(by omega)) := Array.getElem?_eq_getElem (by omega)
        rw [List.map_cons, ← ih fun k hk => hl k (List.mem_cons_of_mem _ hk)]
        simp only [List.filterMap_cons, e2, e3, Option.getD_some]
    have e1 := gen (List.range xs.size) fun m hm => List.mem_range.mp hm
    rw [e1]
    by_cases hi : i < xs.size
    · rw [List.getElem?_map, List.getElem?_range hi, List.getElem?_reverse (by simpa using hi)]
      simp only [Option.map_some, Array.length_toList, Array.getElem?_toList]
      rw [Array.getElem?_eq_getElem (by omega)]
      rfl
    · rw [List.getElem?_eq_none (by simpa using hi), List.getElem?_eq_none (by simpa using hi)]
  rw [e]
theorem getItem_tuple_rev {t sl : Addr} {items : Array Value} {vk : Value} {Q : Value → Shared → Prop} (ht : IsTup s.heap t items) (hs : s.heap.IsSliceOf sl .none .none vk) (pk : IsPart vk (some (-1)))
    (h : Q (.ref s.heap.objs.size) { s with heap := s.heap.push { cls := .type "tuple", data := .seq items.toList.reverse.toArray } })
    (hsz : items.size ≤ sizeLine) : wpAny (model prog w) A (getItem (.ref t) (.ref sl)) Q E s := by
  have htake : sizeOk (.seq items.toList.reverse.toArray) := by
    show items.toList.reverse.toArray.size ≤ sizeLine
    rw [List.size_toArray, List.length_reverse, Array.length_toList]
    exact hsz
  obtain ⟨os, hos, hcs, hds⟩ := id hs
  have hTs : s.TypeIs (.ref sl) "slice" := ⟨os, hos, hcs⟩
  unfold getItem
  try with_reducible refine wpAny_holding ?_
  first | refine wpAny_bind (wpAny_pure ?_) | skip
  refine wpAny_bind (wpAny_sequenceKey ht.typeIs (by decide) ?_)
  refine wpAny_bind (wpAny_callSpecial?_slot (name := Str.ofString "__getitem__") ht.typeIs PyProof.Rows.slot_tuple_getitem
    (wpAny_call_entry PyProof.Rows.slot_tuple_getitem ht.typeIs entry_tuple_getitem ?_ (args_tuple_getitem _ _)))
  show wpAny _ _ (Builtin.Tuple.tupleItemsOf (.ref t) >>= _) _ _ s
  refine wpAny_bind (tupleItemsOf_ ht ?_)
  refine wpAny_bind (wpAny_typeOf hTs ?_)
  rw [if_pos (by decide)]
  refine wpAny_bind (sliceApplied_rev hs pk ?_)
  have hno : ¬ (((((items.size : Int) - 1)) == 0 && (-1 : Int) == 1 && items.size == items.size) = true) := by
    intro q
    rw [Bool.and_eq_true, Bool.and_eq_true] at q
    exact absurd q.1.2 (by decide)
  show wpAny _ _ (if (((items.size : Int) - 1) == 0 && (-1 : Int) == 1 && items.size == items.size) = true then _ else _) _ _ s
  rw [if_neg hno, pick_rev]
  first
    | exact wpAny_bind (m := Builtin.Tuple.tupleExact _) (wpAny_newObj_type (wpAny_pure ⟨_, rfl, wpAny_pure h⟩) htake)
    | exact wpAny_bind (m := Builtin.Tuple.tupleExact _) (wpAny_newObj_type (wpAny_bind (wpAny_pure (wpAny_pure ⟨_, rfl, wpAny_pure h⟩))) htake)
    | exact wpAny_bind (wpAny_bind (m := Builtin.Tuple.tupleExact _) (wpAny_newObj_type (wpAny_pure (wpAny_pure ⟨_, rfl, wpAny_pure h⟩)) htake))
    | exact wpAny_bind (wpAny_bind (m := Builtin.Tuple.tupleExact _) (wpAny_newObj_type (wpAny_pure ⟨_, rfl, wpAny_pure h⟩) htake))
end
end HT
namespace Bw
open PySem PySem.Spec PyProof.Rows L2
/-! ### t[::-1] -/
def tRevT (K : PySem.W.Frag) (te : TE) : TE := fun σ H Q => te σ H fun x H1 => ∃ a xs, x = .ref a ∧ SqT K H1 a xs ∧ ∀ p, H1 p = none → Q (.ref p) (upd H1 p (.tup xs.reverse))
theorem pe_revT {X : Cx} {e : Expr} {te : TE} {k : Nat} {p1 p2 p3 pos : Pos} (he : PE X e te) : PE X (.Subscript e (.Slice none none (some (.UnaryOp .USub (.Constant (.int 1) k p1) p2)) p3) pos) (tRevT X.K te) := by
  refine ⟨fun pins s σ H Q I h => ?_⟩
  refine Subscript_ (thn (he.run pins s σ H _ I h) fun v s1 ⟨x, H1, I1, r1, q1⟩ => ?_)
  obtain ⟨a, xs, ex, hx, q⟩ := q1
  subst ex
  cases r1
  have hst : PO X (some (.UnaryOp .USub (.Constant (.int 1) k p1) p2)) (tPart (tUn (rU fun i => .int (-i)) (tC (.int 1)))) := po_some (pe_un un_neg pe_int)
  refine wpAny_Slice (thn (po_none.run pins s1 σ H1 (fun o H2 => o = none ∧ H2 = H1) I1 ⟨rfl, rfl⟩) fun vl s2 ⟨l, H2, I2, pl, el, e2⟩ => ?_)
  subst el e2
  refine thn (po_none.run pins s2 σ H2 (fun o H3 => o = none ∧ H3 = H2) I2 ⟨rfl, rfl⟩) fun vu s3 ⟨u, H3, I3, pu, eu, e3⟩ => ?_
  subst eu e3
  refine thn (hst.run pins s3 σ H3 (fun o H4 => o = some (-1) ∧ H4 = H3) I3 ⟨1, rfl, -1, rfl, rfl, rfl⟩) fun vs s4 ⟨o, H4, I4, ps, eo, e4⟩ => ?_
  subst eo e4
  cases pl
  cases pu
  have I5 : Inv X pins σ H4 { s4 with heap := s4.heap.push { cls := .type "slice", data := .fields #[.none, .none, vs] } } := I4.kept (t' := s4.toks) fun b ob q => Heap.get?_push_of_some _ q
  obtain ⟨its, r, ht, hz⟩ := I5.tuple hx
  have hlen := r.length
  show wpAny (model X.prog X.w) X.A (subscriptTail e (.Slice none none (some (.UnaryOp .USub (.Constant (.int 1) k p1) p2)) p3) (.ref a) (.ref s4.heap.objs.size)) (EP X pins σ Q) X.xe { s4 with heap := s4.heap.push { cls := .type "slice", data := .fields #[.none, .none, vs] } }
  refine tail_any (ops := [.ref a, .ref s4.heap.objs.size]) ht.typeIs (PyProof.Rows.slot_tuple_getitem.lookup) ?_ (by with_unfolding_all rfl)
  refine HT.getItem_tuple_rev ht (Heap.IsSliceOf.new _ .none .none vs) ps ?_ (by rw [List.size_toArray]; omega)
  refine ⟨.ref _, _, I5.laid (t' := s4.toks) (o := .tup xs.reverse) (fun b ob q => Heap.get?_push_of_some _ q) (Nat.le_refl _) ?_, rfl, q _ (I5.hok.fresh (Nat.le_refl _))⟩
  exact ⟨by rw [List.length_reverse]; exact hz, _, r.reverse, IsTup.new _ _⟩
/-! ### enumerate of a tuple -/
theorem turn_enumT {P : Program} {w : World} {K : PySem.W.Frag} {elts : List Expr} {kk : Nat} {tpos : Pos} (a e it : Addr) (hai : a ≠ it) (hea : e ≠ a) :
    Turn P w K (.Tuple elts kk tpos) (IteT K a) [e, it] e (fun i h => (∃ old, IsEnum h e it ((i : Nat) : Int) old) ∧ h.IsTupleIter it a i ∧ e ≠ it) where
  mem := by simp
  obj := fun i h st b hb => by
    obtain ⟨⟨old, he⟩, ⟨o, ho, hc, hd⟩, _⟩ := st
    have e' : b = e ∨ b = it := by simpa using hb
    rcases e' with z | z
    · rw [z]; exact ⟨_, he, fun v q => nomatch q⟩
    · rw [z]; exact ⟨o, ho, fun v q => by rw [hd] at q; cases q⟩
  keep := fun i h h' st k => let ⟨⟨old, he⟩, hi, hne⟩ := st; ⟨⟨old, k e (by simp) _ he⟩, hi.at fun o q => k it (by simp) o q, hne⟩
  item := by
    intro X hP hw hK hc i pins s σ H E I hf st hg
    subst hP hw hK
    obtain ⟨⟨old, he⟩, hit, hne⟩ := st
    obtain ⟨xs, x, hq, hx⟩ := hg
    obtain ⟨its, rv, p, hz⟩ := I.tuple hq
    obtain ⟨u, hu, ru⟩ := rv.get hx
    have hel : e < s.heap.objs.size := Heap.lt_size he
    have hil : it < s.heap.objs.size := by obtain ⟨_, q, _⟩ := hit; exact Heap.lt_size q
    have hD := Draws.tuple (prog := X.prog) (w := X.w) (A := X.A.in1) (show X.A.in1.handled = none from I.ok.hd hc) it a hai its.toArray
    have hlt : i < its.toArray.size := by
      have := (List.getElem?_eq_some_iff.mp hu).1
      simpa using this
    refine wpAny_pyNext_enum_itemD hD he ⟨hit, p⟩ hlt hne (by simp [hne, hea]) fun x' h' tk hx' ho hst' hT hsz hk => ?_
    have ex' : x' = u := by
      have := hx'.symm.trans (show its.toArray[i]? = some u by simpa using hu)
      exact Option.some.inj this
    subst ex'
    refine ⟨_, rfl, wpAny_letOwnedTupleGo_enum (s := { s with heap := h', toks := tk + 1 }) ho fun h'' he' sb => ?_⟩
    have hT2 : h''.get? s.heap.objs.size = some { cls := .type "tuple", data := .seq #[.int i tk, x'] } := (sb.2 _ (Nat.ne_of_gt hel)).trans hT
    have new : ObjOk X.prog X.w (upd H s.heap.objs.size (.tup [.int (i : Nat), x])) h'' s.heap.objs.size (.tup [.int (i : Nat), x]) :=
      ⟨by show 2 ≤ sizeLine; decide, [.int i tk, x'], .cons ⟨_, rfl⟩ (.cons ru .nil), ⟨_, hT2, rfl, _, rfl⟩⟩
    have I1 : Inv X pins σ (upd H s.heap.objs.size (.tup [.int (i : Nat), x])) { s with heap := h'', toks := tk + 1 } :=
      I.turnedNew (ch := [e, it]) (fun b ob hb q => (sb.2 b (fun z => hb (by simp [z]))).trans (hk b ob (fun z => hb (by simp [z])) (fun z => hb (by simp [z])) q)) hf (Nat.le_refl _) new
    refine ⟨.ref s.heap.objs.size, _, I1, rfl, ⟨_, x, rfl, I.hok.fresh (Nat.le_refl _), rfl, fun ys hy => by rw [I.tuple_inj hy hq]; exact hx⟩, ⟨⟨x', ?_⟩, hst'.1.at fun o q => (sb.2 it (Ne.symm hne)).trans q, hne⟩, fun b hb => ?_⟩
    · have e1 : ((i + 1 : Nat) : Int) = (i : Int) + 1 := by omega
      rw [e1]; exact he'
    · have hb' : b < s.heap.objs.size := by
        have e' : b = e ∨ b = it := by simpa using hb
        rcases e' with z | z
        · rw [z]; exact hel
        · rw [z]; exact hil
      rw [upd_ne (Nat.ne_of_lt hb')]
      exact (hf b hb).1
  done := by
    intro X hP hw hK hc i pins s σ H E I hf st hg
    subst hP hw hK
    obtain ⟨⟨old, he⟩, hit, hne⟩ := st
    obtain ⟨xs, hq, hx⟩ := hg
    obtain ⟨its, rv, p, hz⟩ := I.tuple hq
    obtain ⟨f0, f1, f2, f3, f4, f5⟩ := hf it (by simp)
    have hl := rv.length
    have hD := Draws.tuple (prog := X.prog) (w := X.w) (A := X.A.in1) (show X.A.in1.handled = none from I.ok.hd hc) it a hai its.toArray
    have hi : i = its.toArray.size := by rw [List.size_toArray]; omega
    subst hi
    exact wpAny_pyNext_enum_endD hD he ⟨hit, p⟩ fun h' eb => ⟨rfl, I.turned (t' := s.toks) (fun b o hb q => eb b o hb q) f0 f1 f3 f4 f5⟩
  self := fun A i s Q E st h => let ⟨⟨_, he⟩, _⟩ := st; wpAny_pyIter_enum he h
def iEnumT (K : PySem.W.Frag) (ta : TA) : TI := fun σ H R => ta σ H fun vs H1 => ∃ a xs, vs = [.ref a] ∧ SqT K H1 a xs ∧ R (IteT K a) H1
theorem pi_enumT {X : Cx} {e : Expr} {ta : TA} {p pos tpos : Pos} {elts : List Expr} {kk : Nat} (hg : Gl X "enumerate") (hm : X.mg "enumerate" = none) (ha : PA X [e] ta) (hs : starEach [e] X.env = [(false, eval e X.env)] := by rfl) :
    PI X (.Tuple elts kk tpos) (.Call (.Name "enumerate" p) [e] [] pos) (iEnumT X.K ta) := by
  refine ⟨fun pins s σ H R I h => ?_⟩
  refine Call_ (ld_blt I hg hm boot_enumerate (PyProof.Rows.callWith_type1 (thn (ha.run pos pins s σ H _ I h) fun us s1 ⟨vs, H1, I1, r1, q1⟩ => ?_) hs rfl))
  obtain ⟨a, xs, ex, hq, q⟩ := q1
  subst ex
  cases r1 with
  | cons r rr =>
    cases rr
    cases r
    obtain ⟨its, rv, p', hz⟩ := I1.tuple hq
    have hla : a < s1.heap.objs.size := by obtain ⟨o, ho, _⟩ := p'; exact Heap.lt_size ho
    refine callType_new F.called_enumerate (by decide) (F.typeCall_enumerate_1 _) (F.newCall_enumerate_1 _) (fun obj => F.args_object_init_2 obj _) F.entry_enumerate_new
      (meets_enum_tup (begins_tuple a its.toArray)) ⟨p', ?_⟩
    have hz1 : (s1.heap.push { cls := .type "tuple_iterator", data := .fields #[.ref a, .int 0 0] }).objs.size = s1.heap.objs.size + 1 := Heap.size_push ..
    have he : IsEnum ((s1.heap.push { cls := .type "tuple_iterator", data := .fields #[.ref a, .int 0 0] }).push
        { cls := .type "enumerate", data := .fields #[.none, .bool false, .ref s1.heap.objs.size, rawInt 0, .none, .none] }) (s1.heap.objs.size + 1) s1.heap.objs.size 0 .none := by
      have := Heap.get?_push_size (s1.heap.push { cls := .type "tuple_iterator", data := .fields #[.ref a, .int 0 0] })
        (o := { cls := .type "enumerate", data := .fields #[.none, .bool false, .ref s1.heap.objs.size, rawInt 0, .none, .none] }) rfl
      rw [hz1] at this; exact this
    have hit : ((s1.heap.push { cls := .type "tuple_iterator", data := .fields #[.ref a, .int 0 0] }).push
        { cls := .type "enumerate", data := .fields #[.none, .bool false, .ref s1.heap.objs.size, rawInt 0, .none, .none] }).IsTupleIter s1.heap.objs.size a 0 := ⟨_, Heap.get?_push_of_some _ (Heap.get?_push_size _ rfl), rfl, rfl⟩
    show _ ∧ _
    rw [hz1]
    refine ⟨⟨_, he, rfl⟩, wpAny_pyIter_enum he ?_⟩
    have I2 : Inv X pins σ H1 { s1 with heap := (s1.heap.push { cls := .type "tuple_iterator", data := .fields #[.ref a, .int 0 0] }).push { cls := .type "enumerate", data := .fields #[.none, .bool false, .ref s1.heap.objs.size, rawInt 0, .none, .none] } } :=
      I1.kept (t' := s1.toks) fun b o x => Heap.get?_push_of_some _ (Heap.get?_push_of_some _ x)
    refine ⟨s1.heap.objs.size + 1, [s1.heap.objs.size + 1, s1.heap.objs.size], _, _, H1, rfl, I2, turn_enumT a (s1.heap.objs.size + 1) s1.heap.objs.size (Nat.ne_of_lt hla) (Nat.ne_of_gt (Nat.lt_succ_of_lt hla)), ⟨⟨.none, he⟩, hit, Nat.succ_ne_self _⟩, fun b hb => ?_, q⟩
    have e' : b = s1.heap.objs.size + 1 ∨ b = s1.heap.objs.size := by simpa using hb
    have hle : s1.heap.objs.size ≤ b := by
      rcases e' with z | z
      · rw [z]; exact Nat.le_add_right _ _
      · rw [z]; exact Nat.le_refl _
    exact I1.fpOk hle (I1.hok.fresh hle)
theorem walk_enumT {K : PySem.W.Frag} {a : Addr} {xs : List V} : Walk (IteT K a) xs.length (fun H => SqT K H a xs) (YPair (fun i => some (.int (i : Nat))) (fun i => xs[i]?)) := by
  refine ⟨fun i _ hi q => ⟨xs, xs[i], q, by simp [hi]⟩, fun _ q => ⟨xs, q, rfl⟩, fun i H v H' _ q y => ?_⟩
  obtain ⟨T, x, h1, h2, h3, h4⟩ := y
  exact ⟨T, .int (i : Nat), x, h1, h2, h3, rfl, h4 xs q⟩
/-! ### repr of data -/
theorem call_reprD {X : Cx} (hg : X.A.guards = some []) (hu : X.A.units + 80 < cLine) : CallR X (.builtin "repr") (fun xs H Q => ∃ a d, xs = [.ref a] ∧ Dp X.K H (.ref a) d ∧ d.showable = true ∧ d.hasDict = false ∧ d.depth < 64 ∧ d.shown.length ≤ sizeLine ∧ Q (.str d.shown) H) := by
  intro pins s σ H xs us Q I r h
  obtain ⟨a, d, rfl, hd, hs, hn, hp, hz, q⟩ := h
  obtain ⟨u, rfl, ru⟩ := vals1 r
  obtain ⟨as, hr⟩ := Dp.reads I d _ _ hd ru
  cases ru
  exact repr_of_reads' hr hs (PyData.noDict_hsm hn) hg (by omega) (fun _ _ e => e) (fun h' u tk hk => ⟨.str _, H, I.kept (t' := tk) hk, ⟨_, rfl⟩, q⟩) hz
end Bw

namespace Bw
open PySem PySem.Spec PyProof.Rows L2
/-! ### the drawn source and what a def leaves -/
def Src (H : Hp) (p : Addr) : Prop := ∃ a b : Int, H p = some (.lst [.int a, .int b]) ∧ 0 ≤ a ∧ 0 ≤ b ∧ b < 2147483647
/-- all that was tracked but at p is as it was -/
def Exb (p : Addr) (H H' : Hp) : Prop := ∀ b o, b ≠ p → H b = some o → H' b = some o
section
variable {p q a : Addr} {H H1 H2 : Hp} {K : PySem.W.Frag} {xs : List V} {o : HO}
theorem Exb.refl : Exb p H H := fun _ _ _ h => h
theorem Exb.trans (e : Exb p H H1) (f : Exb p H1 H2) : Exb p H H2 := fun b o n h => f b o n (e b o n h)
theorem Exb.of (e : Same H H1) : Exb p H H1 := fun b o _ h => e b o h
theorem Exb.new (h : H q = none) : Exb p H (upd H q o) := fun b u _ e => by
  rw [upd_ne (ne_of_none e h)]
  exact e
theorem _root_.L2.Same.new (h : H q = none) : Same H (upd H q o) := fun b u e => by
  rw [upd_ne (ne_of_none e h)]
  exact e
theorem Exb.at : Exb p H (upd H p o) := fun b u n e => by
  rw [upd_ne n]
  exact e
theorem Exb.put (e : Exb p H H1) : Exb p H (upd H1 p o) := fun b u n h => by
  rw [upd_ne n]
  exact e b u n h
/-- an object that H did not know may change -/
theorem _root_.L2.Same.mut (e : Same H H1) (h : H q = none) : Same H (upd H1 q o) := fun b u hb => by
  rw [upd_ne (ne_of_none hb h)]
  exact e b u hb
theorem Exb.mut (e : Exb p H H1) (h : H q = none) : Exb p H (upd H1 q o) := fun b u n hb => by
  rw [upd_ne (ne_of_none hb h)]
  exact e b u n hb
theorem _root_.L2.Same.tup (e : Same H H1) (h : SqT K H a xs) : SqT K H1 a xs := by
  rcases h with (h | ⟨o, h⟩) | h
  · exact .inl (.inl (e _ _ h))
  · exact .inl (.inr ⟨o, e _ _ h⟩)
  · exact .inr h
theorem Exb.tup (e : Exb p H H1) (s : Src H p) (h : SqT K H a xs) : SqT K H1 a xs := by
  obtain ⟨x, y, hp, _⟩ := s
  rcases h with (h | ⟨o, h⟩) | h
  · exact .inl (.inl (e _ _ (fun z => by rw [z, hp] at h; cases h) h))
  · exact .inl (.inr ⟨o, e _ _ (fun z => by rw [z, hp] at h; cases h) h⟩)
  · exact .inr h
theorem Exb.lst (e : Exb p H H1) (n : q ≠ p) (h : H q = some (.lst xs)) : H1 q = some (.lst xs) := e _ _ n h
theorem _root_.L2.Same.src (e : Same H H1) (s : Src H p) : Src H1 p := by
  obtain ⟨x, y, hp, h⟩ := s
  exact ⟨x, y, e _ _ hp, h⟩
theorem Src.ne (s : Src H p) (h : H q = none) : q ≠ p := fun z => by
  obtain ⟨x, y, hp, _⟩ := s
  rw [z, hp] at h
  cases h
theorem Src.put (s : Src H p) (n : q ≠ p) : Src (upd H q o) p := by
  obtain ⟨x, y, hp, h⟩ := s
  exact ⟨x, y, by rw [upd_ne n.symm]; exact hp, h⟩
theorem Exb.fresh (e : Exb p H H1) (n : q ≠ p) (h : H1 q = none) : H q = none := by
  cases z : H q with
  | none => rfl
  | some o => rw [e q o n z] at h; cases h
end
theorem atI0 {x : V} {r : List V} : atI (x :: r) 0 = some x := atI_nat (j := 0) rfl
theorem atI1 {x y : V} {r : List V} : atI (x :: y :: r) 1 = some y := atI_nat (j := 1) rfl
theorem ixN_nat {n : Nat} {i : Int} {j : Nat} (e : i = (j : Int)) (h : j < n) : ixN n i = some j := by
  subst e
  unfold ixN
  rw [if_pos (by omega), if_pos (by omega)]; simp
theorem ixN_neg {n : Nat} {i : Int} {j : Nat} (e : i = (j : Int) - (n : Int)) (h : j < n) : ixN n i = some j := by
  subst e
  unfold ixN
  rw [if_neg (by omega), if_pos (by omega)]
  congr 1
  omega
theorem atN {α : Type} {xs : List α} {i : Int} {j : Nat} {v : α} (h : xs[j]? = some v) (e : i = (j : Int)) : atI xs i = some v := by
  subst e
  exact atI_nat h
theorem atNeg {α : Type} {xs : List α} {i : Int} {j : Nat} {v : α} (h : xs[j]? = some v) (e : i = (j : Int) - (xs.length : Int)) : atI xs i = some v := by
  unfold atI
  rw [ixN_neg e (List.getElem?_eq_some_iff.mp h).1]
  exact h
theorem num_map (i : Nat) (ns : List Int) (x : V) (h : (ns.map V.int)[i]? = some x) : ∃ (hi : i < ns.length), x = .int ns[i] := by
  rw [List.getElem?_map] at h
  cases e : ns[i]? with
  | none => rw [e] at h; cases h
  | some z =>
    obtain ⟨h1, h2⟩ := List.getElem?_eq_some_iff.mp e
    rw [e] at h
    exact ⟨h1, by rw [h2]; exact (Option.some.inj h).symm⟩
theorem itT {c : Bool} {A B : Prop} (hc : c = true) (h : A) : if c = true then A else B := by
  rw [if_pos hc]
  exact h
theorem itF {c : Bool} {A B : Prop} (hc : c = false) (h : B) : if c = true then A else B := by
  rw [hc, if_neg Bool.false_ne_true]
  exact h
theorem pe_gint {X : Cx} {x : Str} {pos : Pos} {i : Int} (hg : Gl X x) (h : ∃ t, X.mg x = some (.int i t)) (hd : (x == ("__debug__" : Str)) = false := by decide) : PE X (.Name x pos) (tC (.int i)) := by
  obtain ⟨t, y⟩ := h
  exact pe_glob hg y ⟨t, rfl⟩ hd
theorem pe_ty {X : Cx} {x : Str} {pos : Pos} {T : String} (hg : Gl X x) (hm : X.mg x = none) (hv : bootBuiltins x = some (.type T)) (hn : x ≠ "__name__" := by decide) (hd : (x == ("__debug__" : Str)) = false := by decide) : PE X (.Name x pos) (tC (.ty T)) :=
  pe_bltn hg hm hv rfl hn hd
theorem small {n : Nat} (h : n ≤ 1000000) : n ≤ sizeLine := Nat.le_trans h (by decide)
theorem smallLt {n : Nat} (h : n < 1000000) : n < sizeLine := Nat.lt_of_lt_of_le h (by decide)

/-! ### the layer's rules with the written part told -/
section
variable {X : Cx}
abbrev tNoP : TO := fun _ H Q => Q none H
theorem poN : PO X none tNoP := po_none
theorem ixL (K : PySem.W.Frag) (h : X.K = K := by rfl) : IxR X (rIxL K) := h ▸ ix_list
theorem ixT (K : PySem.W.Frag) (h : X.K = K := by rfl) : IxR X (rIxT K) := h ▸ ix_tup
theorem slT (K : PySem.W.Frag) (h : X.K = K := by rfl) : SlR X (rSlA K) := h ▸ sl_tupA
theorem slL (K : PySem.W.Frag) (h : X.K = K := by rfl) : SlR X (rSlL K) := h ▸ sl_list
theorem lenS (K : PySem.W.Frag) (h : X.K = K := by rfl) : CallR X (.builtin "len") (Evl.rLenS K) := by subst h; exact call_len_seq
def rTupOf (K : PySem.W.Frag) : List V → Hp → VK → Prop := fun xs H Q => ∃ p ys, xs = [.ref p] ∧ ((SqL K H p ys ∧ ∀ l, H l = none → Q (.ref l) (upd H l (.tup ys))) ∨ (SqT K H p ys ∧ Q (.ref p) H))
theorem tupOf (K : PySem.W.Frag) (h : X.K = K := by rfl) : CallR X (.type "tuple") (rTupOf K) := by subst h; exact call_tuple_of
def rListOf (K : PySem.W.Frag) : List V → Hp → VK → Prop := fun xs H Q => ∃ p ys, xs = [.ref p] ∧ (SqL K H p ys ∨ SqT K H p ys) ∧ ∀ l, H l = none → Q (.ref l) (upd H l (.lst ys))
theorem listOf (K : PySem.W.Frag) (h : X.K = K := by rfl) : CallR X (.type "list") (rListOf K) := by subst h; exact call_list_of
theorem catA (K : PySem.W.Frag) (h : X.K = K := by rfl) : OpR X (binaryOp .Add) (rCatA K) := h ▸ op_catA
theorem eqD (K : PySem.W.Frag) (hu : X.A.units + 64 < cLine) (h : X.K = K := by rfl) : OpR X (compareOp .Eq) (rEqD K) := h ▸ op_eqD hu
theorem neD (K : PySem.W.Frag) (hu : X.A.units + 64 < cLine) (h : X.K = K := by rfl) : OpR X (compareOp .NotEq) (rNeD K) := h ▸ op_neD hu
theorem inS (K : PySem.W.Frag) (h : X.K = K := by rfl) : OpR X (compareOp .In) (rIn K false) := h ▸ op_in_seq
theorem ninS (K : PySem.W.Frag) (h : X.K = K := by rfl) : OpR X (compareOp .NotIn) (rIn K true) := h ▸ op_notIn_seq
theorem isI (K : PySem.W.Frag) (h : X.K = K := by rfl) : CallR X (.builtin "isinstance") (rIsi K) := h ▸ call_isi
theorem maxL (K : PySem.W.Frag) (hc : X.calm = true) (h : X.K = K := by rfl) : CallR X (.builtin "max") (rMax K) := h ▸ cr_max hc
theorem minL (K : PySem.W.Frag) (hc : X.calm = true) (h : X.K = K := by rfl) : CallR X (.builtin "min") (rMin K) := h ▸ cr_min hc
theorem sortL (K : PySem.W.Frag) (h : X.K = K := by rfl) : CallR X (.builtin "sorted") (rSorted K) := h ▸ cr_sorted
theorem piL (K : PySem.W.Frag) {tg l : Expr} {tl : TE} (hl : PE X l tl) (h : X.K = K := by rfl) : PI X tg l (iList K tl) := h ▸ pi_list hl
theorem piT (K : PySem.W.Frag) {tg l : Expr} {tl : TE} (hl : PE X l tl) (h : X.K = K := by rfl) : PI X tg l (iTup K tl) := h ▸ pi_tup hl
end
/-! ### data in the heap -/
theorem dpAllI {K : PySem.W.Frag} {H : Hp} : ∀ ns : List Int, DpAll K H (ns.map V.int) (ns.map PyData.int)
  | [] => .nil
  | n :: ns => .cons (.int n) (dpAllI ns)
theorem dpT {K : PySem.W.Frag} {H : Hp} {a : Addr} {ns : List Int} (h : SqT K H a (ns.map V.int)) : Dp K H (.ref a) (.tuple (ns.map PyData.int)) := .tup h (dpAllI ns)
theorem dpL {K : PySem.W.Frag} {H : Hp} {a : Addr} {ns : List Int} (h : SqL K H a (ns.map V.int)) : Dp K H (.ref a) (.list (ns.map PyData.int)) := .lst h (dpAllI ns)

theorem shAll : ∀ ns : List Int, PyData.canLayAll0 (ns.map PyData.int) = true
  | [] => rfl
  | n :: ns => by rw [List.map_cons, PyData.canLayAll0, shAll ns]; rfl
theorem dpAll0 : ∀ ns : List Int, PyData.depthAll (ns.map PyData.int) = 0
  | [] => rfl
  | n :: ns => by rw [List.map_cons, PyData.depthAll, dpAll0 ns]; rfl
theorem shT (ns : List Int) : SeqAt.shaped (.tuple (ns.map PyData.int)) = true := by
  unfold SeqAt.shaped
  rw [PyData.canLay0, shAll, PyData.depth, dpAll0]
  rfl
theorem shL (ns : List Int) : SeqAt.shaped (.list (ns.map PyData.int)) = true := by
  unfold SeqAt.shaped
  rw [PyData.canLay0, shAll, PyData.depth, dpAll0]
  rfl
theorem eqvI : ∀ ns ms : List Int, PyData.eqvAll (ns.map PyData.int) (ms.map PyData.int) = decide (ns = ms)
  | [], [] => by simp only [List.map_nil, PyData.eqvAll, decide_true]
  | [], _ :: _ => by simp [PyData.eqvAll]
  | _ :: _, [] => by simp [PyData.eqvAll]
  | x :: xs, y :: ys => by
    rw [List.map_cons, List.map_cons, PyData.eqvAll, eqvI xs ys, PyData.eqv]
    have e : (x == y) = decide (x = y) := by rw [Bool.eq_iff_iff, beq_iff_eq, decide_eq_true_eq]
    rw [e, ← Bool.decide_and]
    exact decide_eq_decide.mpr (by rw [List.cons.injEq])
section
variable {K : PySem.W.Frag} {H : Hp} {a b : Addr} {ns ms : List Int} {Q : VK}
theorem eqT (ha : SqT K H a (ns.map V.int)) (hb : SqT K H b (ms.map V.int)) (q : Q (.bl (decide (ns = ms))) H) : rEqD K (.ref a) (.ref b) H Q :=
  ⟨_, _, dpT ha, dpT hb, shT _, shT _, by rw [PyData.eqv, eqvI]; exact q⟩
theorem neT (ha : SqT K H a (ns.map V.int)) (hb : SqT K H b (ms.map V.int)) (q : Q (.bl (!decide (ns = ms))) H) : rNeD K (.ref a) (.ref b) H Q :=
  ⟨_, _, dpT ha, dpT hb, shT _, shT _, by rw [PyData.eqv, eqvI]; exact q⟩
theorem eqL (ha : SqL K H a (ns.map V.int)) (hb : SqL K H b (ms.map V.int)) (q : Q (.bl (decide (ns = ms))) H) : rEqD K (.ref a) (.ref b) H Q :=
  ⟨_, _, dpL ha, dpL hb, shL _, shL _, by rw [PyData.eqv, eqvI]; exact q⟩
theorem neL (ha : SqL K H a (ns.map V.int)) (hb : SqL K H b (ms.map V.int)) (q : Q (.bl (!decide (ns = ms))) H) : rNeD K (.ref a) (.ref b) H Q :=
  ⟨_, _, dpL ha, dpL hb, shL _, shL _, by rw [PyData.eqv, eqvI]; exact q⟩
theorem tyT {xs : List V} (h : SqT K H a xs) : TyX K H (.ref a) (.type "tuple") := by
  rcases h with (h | ⟨o, h⟩) | ⟨o, its, n, h, c, _⟩
  · exact .base (.tup h)
  · exact .fTuple h
  · exact .kTuple h c
/-- isinstance(t, tuple) of a tuple -/
theorem isTup {xs : List V} (h : SqT K H a xs) (q : Q (.bl true) H) : rIsi K [.ref a, .ty "tuple"] H Q := ⟨.ref a, .ty "tuple", .type "tuple", .type "tuple", true, rfl, .ty _, tyT h, kit_ty (by decide +kernel), q⟩
end
theorem call_reprB {X : Cx} : CallR X (.builtin "repr") (fun xs H Q => ∃ b : Bool, xs = [.bl b] ∧ Q (.str (if b then "True" else "False")) H) := by
  intro pins s σ H xs us Q I r h
  obtain ⟨b, rfl, q⟩ := h
  obtain ⟨u, rfl, ru⟩ := vals1 r
  cases (show u = Value.bool b from ru)
  exact PySem.P.repr_of_bool ⟨.str _, H, I.tok _, ⟨_, rfl⟩, q⟩

/-! ### a comprehension whose test and element only read -/
open Evl in
theorem lc_pure {J : It} {n : Nat} {G : Hp → Prop} {Y : Nat → Hp → V → Hp → Prop} (u : Nat → V) (w : Walk J n G Y) (hY : ∀ i H x H', Y i H x H' → i < n → H' = H ∧ x = u i) {j : Nat} {vs : List Nat} {σ : L2.St} {H1 : Hp} {D : Addr} {tt : TT} {te : TE} {Qd : Hp → Prop} (f : Nat → Bool) (v : Nat → V)
    (hD : H1 D = none) (hn : n < 50000) (hG : ∀ H', Same H1 H' → G H') (hw : ∀ x, wipe ((wipe σ vs).set j (some x)) vs = wipe σ vs)
    (ht : ∀ i, i < n → EvT tt ((wipe σ vs).set j (some (u i))) H1 (f i)) (he : ∀ i, i < n → f i = true → Ev te ((wipe σ vs).set j (some (u i))) H1 (v i)) (hd : ∀ H', Same H1 H' → H' D = some (.lst (given n f v)) → Qd H') :
    ∃ W : Nat → Nat → Hp → Prop, (∃ m, W 0 m (upd H1 D (.lst []))) ∧ ∀ i m H, W i m H →
      (J.stop i H ∧ Qd H) ∨ (J.go i H ∧ ∃ Nx : Hp → Prop, (∀ H', Nx H' → ∃ m', m' < m ∧ W (i + 1) m' H') ∧ ∀ x H', J.yld i H x H' → gName j x (wipe σ vs) H' fun σ2 H2 => wipe σ2 vs = wipe σ vs ∧ tt σ2 H2 fun b H3 =>
        if b = true then te σ2 H3 fun y H4 => ∃ acc, H4 D = some (.lst acc) ∧ acc.length < sizeLine ∧ Nx (upd H4 D (.lst (acc ++ [y]))) else Nx H3) := by
  refine lc_it w (fun i H' => Cw H1 f v D i H') ⟨hD, Ex.new hD, upd_same⟩ (fun i H' _ p => hG H' p.2.1) (fun i x H H' hi p y => ?_) (fun H' p => hd H' p.2.1 p.2.2)
  obtain ⟨rfl, rfl⟩ := hY i H x H' y hi
  exact ⟨hw _, cw_turn p (by omega) (ht i hi) (he i hi)⟩
theorem b01 (c : Prop) [Decidable c] : (-(2 ^ 64) : Int) < (if c then 1 else 0) ∧ (if c then (1 : Int) else 0) < 2 ^ 64 := by
  split <;> decide
theorem b0 (c : Prop) [Decidable c] : (0 : Int) ≤ (if c then 1 else 0) := by
  split <;> decide
theorem mixB {x y j : Int} (h : 0 ≤ y ∧ y ≤ 7919000 * 1000) (h0 : 0 ≤ j) (h1 : j < 1000) : -(2 ^ 64) < x % 2147483629 + y + 31 * j + 17 ∧ x % 2147483629 + y + 31 * j + 17 < 2 ^ 64 := by
  omega
/-! ### slices and sums of tuples, whichever object they are -/
section
variable {K : PySem.W.Frag} {H : Hp} {a b : Addr} {xs ys : List V} {lo hi : Option Int} {Q : VK}
theorem cutV_whole (h : HT.sIx xs.length 0 lo = 0 ∧ HT.sIx xs.length xs.length hi = xs.length) : cutV xs lo hi = xs := by
  unfold cutV
  rw [h.1, h.2]
  exact List.take_length
theorem slA (h : SqT K H a xs) (q : ∀ p H', Same H H' → SqT K H' p (cutV xs lo hi) → Q (.ref p) H') : rSlA K (.ref a) lo hi H Q :=
  ⟨a, xs, rfl, h, fun hw => q a H (Same.refl H) (by rw [cutV_whole hw]; exact h), fun _ p np => q p _ (Same.new np) (SqT.of upd_same)⟩
theorem ctA (ha : SqT K H a xs) (hb : SqT K H b ys) (hz : xs.length + ys.length ≤ 1000000) (q : ∀ p H', Same H H' → SqT K H' p (xs ++ ys) → Q (.ref p) H') : rCatA K (.ref a) (.ref b) H Q := by
  refine ⟨a, b, xs, ys, rfl, rfl, ha, hb, small hz, fun e => ?_, fun _ e => ?_, fun _ _ p np => q p _ (Same.new np) (SqT.of upd_same)⟩
  · subst e
    exact q b H (Same.refl H) hb
  · subst e
    exact q a H (Same.refl H) (by rw [List.append_nil]; exact ha)
theorem cutV_from (i : Nat) : cutV xs (some (i : Int)) none = xs.drop i := by
  unfold cutV
  rw [HT.sIx_nat, HT.sIx_none]
  by_cases h : i ≤ xs.length
  · rw [Nat.min_eq_left h]
    exact List.take_of_length_le (by rw [List.length_drop]; omega)
  · rw [Nat.min_eq_right (by omega), List.drop_eq_nil_of_le (by omega), List.drop_eq_nil_of_le (by omega)]
    exact List.take_nil
theorem cutV_to (i : Nat) : cutV xs none (some (i : Int)) = xs.take i := by
  unfold cutV
  rw [HT.sIx_nat, HT.sIx_none, List.drop_zero, Nat.sub_zero]
  by_cases h : i ≤ xs.length
  · rw [Nat.min_eq_left h]
  · rw [Nat.min_eq_right (by omega), List.take_length, List.take_of_length_le (by omega)]
end
theorem maxB (x : Int) (h : 0 ≤ x) : 1 ≤ (if (if 3 < x then 3 else x) > 1 then (if 3 < x then 3 else x) else 1) ∧ (if (if 3 < x then 3 else x) > 1 then (if 3 < x then 3 else x) else 1) ≤ 3 := by
  split <;> split <;> omega
/-- a new source is used and left behind -/
theorem Same.used {p : Addr} {H H1 H2 H3 : Hp} (a : Same H H1) (np : H1 p = none) (b : Same H1 H2) (c : Exb p H2 H3) : Same H H3 := fun x o h =>
  c x o (fun z => by rw [z, a.free np] at h; cases h) (b x o (a x o h))
theorem atLastI {ns : List Int} {c : Int} (h : ns.getLast? = some c) : atI (ns.map V.int) (-1) = some (.int c) := by
  rcases List.eq_nil_or_concat ns with rfl | ⟨m, x, rfl⟩
  · cases h
  · rw [List.concat_eq_append] at *
    rw [List.getLast?_concat] at h
    cases Option.some.inj h
    rw [List.map_append]
    exact atI_last _ _
theorem atHeadI {ns : List Int} {c : Int} (h : ns.head? = some c) : atI (ns.map V.int) 0 = some (.int c) := by
  cases ns with
  | nil => cases h
  | cons x r =>
    cases Option.some.inj h
    exact atI0
theorem cutV_last {xs : List V} (h : 0 < xs.length) : cutV xs (some (-1)) none = xs.drop (xs.length - 1) := by
  unfold cutV
  rw [HT.sIx_none]
  have e : HT.sIx xs.length 0 (some (-1)) = xs.length - 1 := by
    show (if (-1 : Int) < 0 then (-1 + (xs.length : Int)).toNat else min (-1 : Int).toNat xs.length) = xs.length - 1
    rw [if_pos (by decide)]
    omega
  rw [e]
  exact List.take_of_length_le (by rw [List.length_drop]; omega)
theorem cutV_inn {xs : List V} (h : 2 ≤ xs.length) : cutV xs (some 1) (some (-1)) = xs.tail.dropLast := by
  unfold cutV
  have e1 : HT.sIx xs.length 0 (some 1) = 1 := by
    rw [show (1 : Int) = ((1 : Nat) : Int) from rfl, HT.sIx_nat]
    omega
  have e2 : HT.sIx xs.length xs.length (some (-1)) = xs.length - 1 := by
    show (if (-1 : Int) < 0 then (-1 + (xs.length : Int)).toNat else min (-1 : Int).toNat xs.length) = xs.length - 1
    rw [if_pos (by decide)]
    omega
  rw [e1, e2, List.drop_one, List.dropLast_eq_take, List.length_tail]
/-- a tuple is not where a list stands -/
theorem tup_upd {K : PySem.W.Frag} {H : Hp} {a q : Addr} {xs ys : List V} {o : HO} (h : SqT K H a xs) (hq : H q = some (.lst ys)) : SqT K (upd H q o) a xs := by
  rcases h with (h | ⟨f, h⟩) | h
  · exact .inl (.inl (by rw [upd_ne (fun z => by rw [z, hq] at h; cases h)]; exact h))
  · exact .inl (.inr ⟨f, by rw [upd_ne (fun z => by rw [z, hq] at h; cases h)]; exact h⟩)
  · exact .inr h
end Bw

namespace K
open PySem PySem.Spec PyProof.Rows L2 Bw
/-! ### rows and their rests -/
def Row (ns : List Int) : Prop := 1 ≤ ns.length ∧ ns.length ≤ 200 ∧ ∀ c ∈ ns, 0 ≤ c ∧ c ≤ 7
def stp (l : List Int) (c : Int) : List Int := if l.length > 1 ∧ l[l.length - 2]? = some c then l.dropLast else l ++ [c]
def strk (ns : List Int) : List Int := ns.foldl stp []
/-- the open places -/
def isOpn (ns : List Int) (i : Nat) : Bool := decide (ns[i]? = ns[i + 2]?)
def opn (ns : List Int) : List Int := ((List.range (ns.length - 2)).filter (isOpn ns)).map fun (i : Nat) => 1 + (i : Int)
theorem given_opn (ns : List Int) : Evl.given (ns.length - 2) (isOpn ns) (fun i => V.int (1 + (i : Int))) = (opn ns).map V.int := by
  unfold Evl.given opn
  rw [List.map_map]
  rfl
theorem stp_len (l : List Int) (c : Int) : (stp l c).length ≤ l.length + 1 := by
  unfold stp
  split
  · rw [List.length_dropLast]; omega
  · rw [List.length_append]; exact Nat.le_refl _
theorem foldl_stp_len : ∀ (ns l : List Int), (ns.foldl stp l).length ≤ l.length + ns.length
  | [], l => Nat.le_refl _
  | c :: ns, l => by
    have h := foldl_stp_len ns (stp l c)
    have h2 := stp_len l c
    show (ns.foldl stp (stp l c)).length ≤ l.length + (ns.length + 1)
    omega
theorem strk_len (ns : List Int) : (strk ns).length ≤ ns.length := by
  have h := foldl_stp_len ns []
  simpa [strk] using h

/-! ### striking, in any order -/
theorem stp_pop {m : List Int} {c x : Int} : stp (m ++ [c, x]) c = m ++ [c] := by
  unfold stp
  have h1 : (m ++ [c, x]).length > 1 := by rw [List.length_append]; show 1 < m.length + 2; omega
  have h2 : (m ++ [c, x])[(m ++ [c, x]).length - 2]? = some c := by
    rw [List.length_append, show m.length + [c, x].length - 2 = m.length from Nat.add_sub_cancel .., List.getElem?_append_right (Nat.le_refl _), Nat.sub_self]
    rfl
  rw [if_pos ⟨h1, h2⟩, show m ++ [c, x] = (m ++ [c]) ++ [x] by rw [List.append_assoc]; rfl, List.dropLast_concat]
theorem stp_cases (l : List Int) (c : Int) : (∃ m x, l = m ++ [c, x] ∧ stp l c = m ++ [c]) ∨ (stp l c = l ++ [c] ∧ ∀ m x, l ≠ m ++ [c, x]) := by
  by_cases h : l.length > 1 ∧ l[l.length - 2]? = some c
  · refine .inl ?_
    obtain ⟨h1, h2⟩ := h
    have e0 : l ≠ [] := fun z => by rw [z] at h1; exact absurd h1 (by decide)
    have e1 : l.dropLast ≠ [] := fun z => by
      have := congrArg List.length z
      rw [List.length_dropLast] at this
      simp at this
      omega
    have p1 := List.dropLast_concat_getLast e0
    have p2 := List.dropLast_concat_getLast e1
    have e2 : l.dropLast.getLast e1 = c := by
      have q : l.dropLast.getLast? = some c := by
        rw [List.getLast?_eq_getElem?, List.length_dropLast, List.getElem?_dropLast, if_pos (by omega), show l.length - 1 - 1 = l.length - 2 by omega]
        exact h2
      rw [List.getLast?_eq_getLast e1] at q
      exact Option.some.inj q
    refine ⟨l.dropLast.dropLast, l.getLast e0, ?_, ?_⟩
    · rw [show l.dropLast.dropLast ++ [c, l.getLast e0] = (l.dropLast.dropLast ++ [c]) ++ [l.getLast e0] by rw [List.append_assoc]; rfl, ← e2, p2, p1]
    · unfold stp
      rw [if_pos ⟨h1, h2⟩, ← e2, p2]
  · refine .inr ⟨?_, fun m x e => h ?_⟩
    · unfold stp
      rw [if_neg h]
    · subst e
      refine ⟨by rw [List.length_append]; show 1 < m.length + 2; omega, ?_⟩
      rw [List.length_append, show m.length + [c, x].length - 2 = m.length from Nat.add_sub_cancel .., List.getElem?_append_right (Nat.le_refl _), Nat.sub_self]
      rfl
/-- nothing to strike -/
def Str8 (l : List Int) : Prop := ∀ m t q p, l ≠ m ++ [t, q, t] ++ p
theorem stp_last (l : List Int) (c : Int) : ∃ m, stp l c = m ++ [c] := by
  rcases stp_cases l c with ⟨m, x, _, e⟩ | ⟨e, _⟩
  · exact ⟨m, e⟩
  · exact ⟨l, e⟩
theorem Str8.pre {l m : List Int} (h : Str8 (l ++ m)) : Str8 l := fun a t q p e => h a t q (p ++ m) (by rw [e, List.append_assoc])
theorem stp_str {l : List Int} {c : Int} (h : Str8 l) : Str8 (stp l c) := by
  rcases stp_cases l c with ⟨m, x, e, e2⟩ | ⟨e, hn⟩
  · rw [e2]
    exact Str8.pre (m := [x]) (by rw [List.append_assoc]; exact e ▸ h)
  · rw [e]
    intro m t q p z
    rcases List.eq_nil_or_concat p with rfl | ⟨p', y, rfl⟩
    · rw [List.append_nil, show m ++ [t, q, t] = (m ++ [t, q]) ++ [t] by rw [List.append_assoc]; rfl] at z
      obtain ⟨z1, z2⟩ := List.append_inj' z rfl
      have z3 : c = t := (List.cons.inj z2).1
      exact hn m q (by rw [z1, z3])
    · rw [List.concat_eq_append, ← List.append_assoc] at z
      obtain ⟨z1, _⟩ := List.append_inj' z rfl
      exact h m t q p' z1
theorem foldl_str : ∀ (ns l : List Int), Str8 l → Str8 (ns.foldl stp l)
  | [], _, h => h
  | _ :: ns, _, h => foldl_str ns _ (stp_str h)
theorem str_nil : Str8 [] := fun m t q p e => by
  have := congrArg List.length e
  simp at this
theorem strk_str (ns : List Int) : Str8 (strk ns) := foldl_str ns [] str_nil
/-- a coat and the one before it again: nothing is left of them -/
theorem stp_there_back {m : List Int} {t q : Int} (h : Str8 (m ++ [t])) : stp (stp (m ++ [t]) q) t = m ++ [t] := by
  rcases stp_cases (m ++ [t]) q with ⟨a, x, e, e2⟩ | ⟨e, _⟩
  · rw [show a ++ [q, x] = (a ++ [q]) ++ [x] by rw [List.append_assoc]; rfl] at e
    obtain ⟨e3, e4⟩ := List.append_inj' e rfl
    have e5 : t = x := (List.cons.inj e4).1
    rw [e2]
    rcases stp_cases (a ++ [q]) t with ⟨b, y, f, _⟩ | ⟨f, _⟩
    · refine absurd ?_ (h b t y [])
      rw [e3, f, List.append_nil, List.append_assoc]
      rfl
    · rw [f, ← e3]
  · rw [e, show m ++ [t] ++ [q] = m ++ [t, q] by rw [List.append_assoc]; rfl]
    exact stp_pop
/-- one strike -/
def Red (a b : List Int) : Prop := ∃ m t q p, a = m ++ [t, q, t] ++ p ∧ b = m ++ [t] ++ p
theorem strk_red {a b : List Int} (h : Red a b) : strk a = strk b := by
  obtain ⟨m, t, q, p, rfl, rfl⟩ := h
  unfold strk
  rw [List.foldl_append, List.foldl_append, List.foldl_append, List.foldl_append]
  show List.foldl stp (stp (stp (stp (List.foldl stp [] m) t) q) t) p = List.foldl stp (stp (List.foldl stp [] m) t) p
  have hs : Str8 (stp (List.foldl stp [] m) t) := stp_str (foldl_str m [] str_nil)
  obtain ⟨k, e⟩ := stp_last (List.foldl stp [] m) t
  rw [e] at hs ⊢
  rw [stp_there_back hs]
theorem strk_of_str : ∀ (ns l : List Int), Str8 (l ++ ns) → ns.foldl stp l = l ++ ns
  | [], l, _ => (List.append_nil l).symm
  | c :: ns, l, h => by
    have e : stp l c = l ++ [c] := by
      rcases stp_cases l c with ⟨m, x, f, _⟩ | ⟨f, _⟩
      · refine absurd ?_ (h m c x ns)
        rw [f, List.append_assoc, List.append_assoc]
        rfl
      · exact f
    show ns.foldl stp (stp l c) = l ++ c :: ns
    rw [e, strk_of_str ns (l ++ [c]) (by rw [List.append_assoc]; exact h), List.append_assoc]
    rfl
theorem strk_id {ns : List Int} (h : Str8 ns) : strk ns = ns := strk_of_str ns [] h
theorem red_inv {α : Type} {f : List Int → α} (hf : ∀ a b, Red a b → f a = f b) : ∀ (ns l : List Int), f (l ++ ns) = f (ns.foldl stp l)
  | [], l => by rw [List.append_nil]; rfl
  | c :: ns, l => by
    show f (l ++ c :: ns) = f (ns.foldl stp (stp l c))
    rw [← red_inv hf ns (stp l c)]
    rcases stp_cases l c with ⟨m, x, e, e2⟩ | ⟨e, _⟩
    · rw [e2, e]
      refine hf _ _ ⟨m, c, x, ns, ?_, rfl⟩
      rw [List.append_assoc, List.append_assoc]
      rfl
    · rw [e, List.append_assoc]
      rfl
theorem Red.rev {a b : List Int} (h : Red a b) : Red a.reverse b.reverse := by
  obtain ⟨m, t, q, p, rfl, rfl⟩ := h
  refine ⟨p.reverse, t, q, m.reverse, ?_, ?_⟩
  · simp
  · simp
theorem Str8.rev {l : List Int} (h : Str8 l) : Str8 l.reverse := fun m t q p e => h p.reverse t q m.reverse (by
  have := congrArg List.reverse e
  simpa using this)
theorem strk_rev (ns : List Int) : strk ns.reverse = (strk ns).reverse := by
  have h := red_inv (f := fun l : List Int => strk l.reverse) (fun a b r => strk_red r.rev) ns []
  exact h.trans (strk_id (strk_str ns).rev)
theorem strk_idem (ns : List Int) : strk (strk ns) = strk ns := strk_id (strk_str ns)
theorem strk_mem {c : Int} (ns : List Int) (h : c ∈ strk ns) : c ∈ ns := by
  have key : ∀ (ns l : List Int), (∀ x ∈ ns.foldl stp l, x ∈ l ∨ x ∈ ns) := by
    intro ns
    induction ns with
    | nil => intro l x hx; exact .inl hx
    | cons d ns ih =>
      intro l x hx
      rcases ih (stp l d) x hx with h | h
      · rcases stp_cases l d with ⟨m, y, e, e2⟩ | ⟨e, _⟩
        · rw [e2] at h
          rw [e]
          refine .inl ?_
          rcases List.mem_append.mp h with h | h
          · exact List.mem_append_left _ h
          · exact List.mem_append_right _ (by rw [List.mem_singleton.mp h]; exact List.mem_cons_self)
        · rw [e] at h
          rcases List.mem_append.mp h with h | h
          · exact .inl h
          · exact .inr (by rw [List.mem_singleton.mp h]; exact List.mem_cons_self)
      · exact .inr (List.mem_cons_of_mem _ h)
  rcases key ns [] c h with h | h
  · cases h
  · exact h
theorem strk_pos {ns : List Int} (h : 1 ≤ ns.length) : 1 ≤ (strk ns).length := by
  rcases List.eq_nil_or_concat ns with rfl | ⟨m, c, rfl⟩
  · exact absurd h (by decide)
  · unfold strk
    rw [List.concat_eq_append, List.foldl_append]
    obtain ⟨k, e⟩ := stp_last (List.foldl stp [] m) c
    show 1 ≤ (stp (List.foldl stp [] m) c).length
    rw [e, List.length_append]
    exact Nat.le_add_left _ _
theorem Row.strk {ns : List Int} (h : Row ns) : Row (strk ns) := ⟨strk_pos h.1, Nat.le_trans (strk_len ns) h.2.1, fun c hc => h.2.2 c (strk_mem ns hc)⟩
theorem Row.rev {ns : List Int} (h : Row ns) : Row ns.reverse := ⟨by rw [List.length_reverse]; exact h.1, by rw [List.length_reverse]; exact h.2.1, fun c hc => h.2.2 c (List.mem_reverse.mp hc)⟩
/-- an open place is a place where can be struck -/
theorem opn_red {ns : List Int} {i : Int} (h : i ∈ opn ns) : ∃ k : Nat, i = 1 + (k : Int) ∧ k + 2 < ns.length ∧ Red ns (ns.take (k + 1) ++ ns.drop (k + 3)) := by
  unfold opn at h
  obtain ⟨k, hk, rfl⟩ := List.mem_map.mp h
  obtain ⟨h1, h2⟩ := List.mem_filter.mp hk
  have h3 := List.mem_range.mp h1
  have h4 : ns[k]? = ns[k + 2]? := of_decide_eq_true h2
  have l2 : k + 2 < ns.length := by omega
  refine ⟨k, rfl, l2, ns.take k, ns[k], ns[k + 1], ns.drop (k + 3), ?_, ?_⟩
  · have e : ns[k + 2] = ns[k] := by
      rw [List.getElem?_eq_getElem (by omega), List.getElem?_eq_getElem l2] at h4
      exact (Option.some.inj h4).symm
    have d0 : ns.drop k = ns[k] :: ns.drop (k + 1) := List.drop_eq_getElem_cons (by omega)
    have d1 : ns.drop (k + 1) = ns[k + 1] :: ns.drop (k + 2) := List.drop_eq_getElem_cons (by omega)
    have d2 : ns.drop (k + 2) = ns[k + 2] :: ns.drop (k + 3) := List.drop_eq_getElem_cons l2
    rw [d2, e] at d1
    rw [d1] at d0
    have := List.take_append_drop k ns
    rw [d0] at this
    rw [List.append_assoc]
    exact this.symm
  · rw [List.take_add_one, List.getElem?_eq_getElem (by omega)]
    rfl
theorem opn_str {ns : List Int} (h : opn ns = []) : Str8 ns := fun m t q p e => by
  have h1 : (List.range (ns.length - 2)).filter (isOpn ns) = [] := List.map_eq_nil_iff.mp h
  have h2 := List.filter_eq_nil_iff.mp h1 m.length (List.mem_range.mpr (by
    rw [e, List.length_append, List.length_append]
    show m.length < m.length + 3 + p.length - 2
    omega))
  refine h2 (decide_eq_true ?_)
  have g : ∀ j, j < 3 → ns[m.length + j]? = [t, q, t][j]? := fun j hj => by
    rw [e, List.append_assoc, List.getElem?_append_right (Nat.le_add_right _ _), Nat.add_sub_cancel_left, List.getElem?_append_left hj]
  exact (g 0 (by decide)).trans (g 2 (by decide)).symm
theorem str_opn {ns : List Int} (h : Str8 ns) : opn ns = [] := by
  cases e : opn ns with
  | nil => rfl
  | cons i r =>
    obtain ⟨k, _, _, m, t, q, p, f, _⟩ := opn_red (ns := ns) (i := i) (by rw [e]; exact List.mem_cons_self)
    exact absurd f (h m t q p)
theorem red_len {a b : List Int} (h : Red a b) : b.length + 2 = a.length := by
  obtain ⟨m, t, q, p, rfl, rfl⟩ := h
  simp only [List.length_append, List.length_cons, List.length_nil]
  omega
theorem red_row {a b : List Int} (h : Red a b) (r : Row a) : Row b := by
  have hl := red_len h
  obtain ⟨m, t, q, p, rfl, rfl⟩ := h
  refine ⟨?_, by have := r.2.1; omega, fun c hc => r.2.2 c ?_⟩
  · simp only [List.length_append, List.length_cons, List.length_nil]
    omega
  · simp only [List.mem_append, List.mem_cons, List.not_mem_nil, or_false] at hc ⊢
    rcases hc with (hc | hc) | hc
    · exact .inl (.inl hc)
    · exact .inl (.inr (.inl hc))
    · exact .inr hc

def top (i : Nat) : Stmt := PySem.Challenge.pw_betweencoats_k07_rows_struck_in_any_orde.main.body.getD i (.Pass ⟨0, 0, 0, 0⟩)
/-- what the module's names hold -/
structure Txt (mg : Str → Option Value) : Prop where
  n_enumerate : mg "enumerate" = none
  n_int : mg "int" = none
  n_isinstance : mg "isinstance" = none
  n_len : mg "len" = none
  n_max : mg "max" = none
  n_min : mg "min" = none
  n_range : mg "range" = none
  n_repr : mg "repr" = none
  n_tuple : mg "tuple" = none
  g_LAST_COAT : ∃ t, mg "LAST_COAT" = some (.int 7 t)
  g_MOST_STONES : ∃ t, mg "MOST_STONES" = some (.int 200 t)
abbrev s_check_row : Stmt := top 7
theorem sc_check_row : FnScope ["row", "at", "coat"] ["row"] (defScope s_check_row) := ⟨rfl, rfl, rfl, by decide +kernel, rfl, by decide +kernel, by decide +kernel⟩
abbrev s_struck : Stmt := top 8
theorem sc_struck : FnScope ["stones", "left", "coat"] ["stones"] (defScope s_struck) := ⟨rfl, rfl, rfl, by decide +kernel, rfl, by decide +kernel, by decide +kernel⟩
abbrev s_bends : Stmt := top 9
theorem sc_bends : FnScope ["stones", "at"] ["stones"] (defScope s_bends) := ⟨rfl, rfl, rfl, by decide +kernel, rfl, by decide +kernel, by decide +kernel⟩
abbrev s_rest : Stmt := top 10
theorem sc_rest : FnScope ["row"] ["row"] (defScope s_rest) := ⟨rfl, rfl, rfl, by decide +kernel, rfl, by decide +kernel, by decide +kernel⟩
abbrev s_is_straight : Stmt := top 11
theorem sc_is_straight : FnScope ["row"] ["row"] (defScope s_is_straight) := ⟨rfl, rfl, rfl, by decide +kernel, rfl, by decide +kernel, by decide +kernel⟩
abbrev s_strikes : Stmt := top 12
theorem sc_strikes : FnScope ["row"] ["row"] (defScope s_strikes) := ⟨rfl, rfl, rfl, by decide +kernel, rfl, by decide +kernel, by decide +kernel⟩
abbrev s_turns : Stmt := top 13
theorem sc_turns : FnScope ["row"] ["row"] (defScope s_turns) := ⟨rfl, rfl, rfl, by decide +kernel, rfl, by decide +kernel, by decide +kernel⟩
abbrev s_back : Stmt := top 14
theorem sc_back : FnScope ["row"] ["row"] (defScope s_back) := ⟨rfl, rfl, rfl, by decide +kernel, rfl, by decide +kernel, by decide +kernel⟩
abbrev s__law_pool : Stmt := top 16
theorem sc__law_pool : FnScope ["script", "k", "cell", "big", "mixed"] ["script", "k"] (defScope s__law_pool) := ⟨rfl, rfl, rfl, by decide +kernel, rfl, by decide +kernel, by decide +kernel⟩
abbrev s__law_take : Stmt := top 17
theorem sc__law_take : FnScope ["source", "top", "drawn"] ["source", "top"] (defScope s__law_take) := ⟨rfl, rfl, rfl, by decide +kernel, rfl, by decide +kernel, by decide +kernel⟩
abbrev s__law_one : Stmt := top 18
theorem sc__law_one : FnScope ["source", "things"] ["source", "things"] (defScope s__law_one) := ⟨rfl, rfl, rfl, by decide +kernel, rfl, by decide +kernel, by decide +kernel⟩
abbrev s__law_drawn : Stmt := top 19
theorem sc__law_drawn : FnScope ["source", "many", "coats", "row", "way"] ["source"] (defScope s__law_drawn) := ⟨rfl, rfl, rfl, by decide +kernel, rfl, by decide +kernel, by decide +kernel⟩
abbrev s__law_open : Stmt := top 20
theorem sc__law_open : FnScope ["row", "i"] ["row"] (defScope s__law_open) := ⟨rfl, rfl, rfl, by decide +kernel, rfl, by decide +kernel, by decide +kernel⟩
abbrev s__law_struck : Stmt := top 21
theorem sc__law_struck : FnScope ["source", "row", "way", "many", "some", "i"] ["source", "row", "way"] (defScope s__law_struck) := ⟨rfl, rfl, rfl, by decide +kernel, rfl, by decide +kernel, by decide +kernel⟩
abbrev s__law_right : Stmt := top 22
theorem sc__law_right : FnScope ["source", "row", "left", "many", "told"] ["source"] (defScope s__law_right) := ⟨rfl, rfl, rfl, by decide +kernel, rfl, by decide +kernel, by decide +kernel⟩
abbrev s_law : Stmt := top 23
theorem sc_law : FnScope ["script", "k"] ["script"] (defScope s_law) := ⟨rfl, rfl, rfl, by decide +kernel, rfl, by decide +kernel, by decide +kernel⟩
def kb_back_row_g {α : Type} : List α → List α → List α
  | [], [w0] => [w0]
  | _, _ => []
theorem kb_back_row : KwB "back" s_back ["row"] ["row"] kb_back_row_g kb_back_row_g where
  to := fun _ _ _ _ _ _ us ws h => by
    match us, ws, h with
    | [], [_], _ => rfl
  rel := fun {vs us zs ws} r s => by
    unfold kb_back_row_g
    cases r with
    | cons _ _ => exact .nil
    | nil =>
      cases s with
      | nil => exact .nil
      | cons s0 s =>
        cases s with
        | cons _ _ => exact .nil
        | nil =>
          exact (.cons s0 .nil)
def kb_is_straight_row_g {α : Type} : List α → List α → List α
  | [], [w0] => [w0]
  | _, _ => []
theorem kb_is_straight_row : KwB "is_straight" s_is_straight ["row"] ["row"] kb_is_straight_row_g kb_is_straight_row_g where
  to := fun _ _ _ _ _ _ us ws h => by
    match us, ws, h with
    | [], [_], _ => rfl
  rel := fun {vs us zs ws} r s => by
    unfold kb_is_straight_row_g
    cases r with
    | cons _ _ => exact .nil
    | nil =>
      cases s with
      | nil => exact .nil
      | cons s0 s =>
        cases s with
        | cons _ _ => exact .nil
        | nil =>
          exact (.cons s0 .nil)
def kb_rest_row_g {α : Type} : List α → List α → List α
  | [], [w0] => [w0]
  | _, _ => []
theorem kb_rest_row : KwB "rest" s_rest ["row"] ["row"] kb_rest_row_g kb_rest_row_g where
  to := fun _ _ _ _ _ _ us ws h => by
    match us, ws, h with
    | [], [_], _ => rfl
  rel := fun {vs us zs ws} r s => by
    unfold kb_rest_row_g
    cases r with
    | cons _ _ => exact .nil
    | nil =>
      cases s with
      | nil => exact .nil
      | cons s0 s =>
        cases s with
        | cons _ _ => exact .nil
        | nil =>
          exact (.cons s0 .nil)
def kb_strikes_row_g {α : Type} : List α → List α → List α
  | [], [w0] => [w0]
  | _, _ => []
theorem kb_strikes_row : KwB "strikes" s_strikes ["row"] ["row"] kb_strikes_row_g kb_strikes_row_g where
  to := fun _ _ _ _ _ _ us ws h => by
    match us, ws, h with
    | [], [_], _ => rfl
  rel := fun {vs us zs ws} r s => by
    unfold kb_strikes_row_g
    cases r with
    | cons _ _ => exact .nil
    | nil =>
      cases s with
      | nil => exact .nil
      | cons s0 s =>
        cases s with
        | cons _ _ => exact .nil
        | nil =>
          exact (.cons s0 .nil)
def kb_turns_row_g {α : Type} : List α → List α → List α
  | [], [w0] => [w0]
  | _, _ => []
theorem kb_turns_row : KwB "turns" s_turns ["row"] ["row"] kb_turns_row_g kb_turns_row_g where
  to := fun _ _ _ _ _ _ us ws h => by
    match us, ws, h with
    | [], [_], _ => rfl
  rel := fun {vs us zs ws} r s => by
    unfold kb_turns_row_g
    cases r with
    | cons _ _ => exact .nil
    | nil =>
      cases s with
      | nil => exact .nil
      | cons s0 s =>
        cases s with
        | cons _ _ => exact .nil
        | nil =>
          exact (.cons s0 .nil)
section
variable {P : Program} {w : World} {K : PySem.W.Frag} {mg : Str → Option Value} {base : Heap} {f : Addr} {fd : FuncData}
def sp_check_row (K : PySem.W.Frag) : Sp := fun vs H Q _ => ∃ (a : Addr) (ns : List Int), vs = [.ref a] ∧ SqT K H a (ns.map V.int) ∧ Row ns ∧ ∀ H', Same H H' → Q .non H'
theorem ok_check_row (F : Fun K "check_row" "check_row" s_check_row f fd) (T : Txt mg)  : FnOk P w K mg base CX0 1 f fd ["row"] (sp_check_row K) := by
  refine F.ok sc_check_row (fun vs H Q E h => ?_) (fun cdv A outer s H vs Q E hr h => ?_)
  · obtain ⟨a, ns, rfl, _⟩ := h
    rfl
  obtain ⟨a, ns, rfl, hS, ⟨h1, h2, h3⟩, q⟩ := h
  refine ⟨_, (pss_cons (ps_if (pt_not (pt_chain op_le op_le pe_int (pe_callB (lenS K) (by rfl) T.n_len PySem.boot_len (pa_cons (pv 0) pa_nil)) (pe_gint rfl T.g_MOST_STONES))) (pss_one ps_never) pss_nil)
      (pss_one (ps_for PassesOwn.never rfl (pi_enumT (by rfl) T.n_enumerate (pa_cons (pv 0) pa_nil)) (pg_tup rfl (pgs_cons (pg_name (i := 1) sc_check_row.nd rfl (Or.inl rfl)) (pgs_cons (pg_name (i := 2) sc_check_row.nd rfl (Or.inl rfl)) pgs_nil))) (pss_one (ps_if (pt_not (pt_chain op_le op_le pe_int (pv 2) (pe_gint rfl T.g_LAST_COAT))) (pss_one ps_never) pss_nil))))), ?_⟩
  have e1 : decide ((1 : Int) ≤ ((ns.map V.int).length : Nat)) = true := decide_eq_true (by rw [List.length_map]; omega)
  have e2 : decide ((((ns.map V.int).length : Nat) : Int) ≤ 200) = true := decide_eq_true (by rw [List.length_map]; omega)
  refine ⟨.ref a, rfl, a, _, rfl, .inr hS, 1, _, rfl, rfl, _, rfl, itT e1 ⟨_, 200, rfl, rfl, _, rfl, ?_⟩⟩
  rw [e2]
  refine iteF ?_
  refine ⟨.ref a, rfl, a, _, rfl, hS, for_it walk_enumT (fun i σ H' => (∃ y1 y2, σ = [some (.ref a), y1, y2]) ∧ Same H H') ⟨⟨_, _, rfl⟩, Same.refl _⟩ (fun i σ H' _ h => Same.tup h.2 hS) ?_ ?_⟩
  · rintro i x σ H1 H2 hi ⟨⟨y1, y2, rfl⟩, sm⟩ ⟨T, x1, x2, rfl, nT, rfl, f1, f2⟩
    obtain ⟨hi2, rfl⟩ := num_map i ns x2 f2
    cases Option.some.inj f1
    refine ⟨T, _, rfl, .inl (.inl upd_same), rfl, _, _, rfl, _, _, rfl, rfl, ?_⟩
    have h4 := h3 _ (List.getElem_mem hi2)
    refine ⟨_, rfl, 0, _, rfl, rfl, _, rfl, itT (decide_eq_true h4.1) ⟨_, 7, rfl, rfl, _, rfl, ?_⟩⟩
    rw [decide_eq_true h4.2]
    refine iteF ?_
    exact ⟨⟨_, _, rfl⟩, sm.trans (Same.new nT)⟩
  · rintro σ H' ⟨_, sm⟩
    exact q _ sm
def sp_struck (K : PySem.W.Frag) : Sp := fun vs H Q _ => ∃ (a : Addr) (ns : List Int), vs = [.ref a] ∧ SqT K H a (ns.map V.int) ∧ ns.length < 100000 ∧ ∀ p H', Same H H' → SqT K H' p ((strk ns).map V.int) → Q (.ref p) H'
theorem ok_struck (F : Fun K "struck" "struck" s_struck f fd) (T : Txt mg)  : FnOk P w K mg base CX0 1 f fd ["stones"] (sp_struck K) := by
  refine F.ok sc_struck (fun vs H Q E h => ?_) (fun cdv A outer s H vs Q E hr h => ?_)
  · obtain ⟨a, ns, rfl, _⟩ := h
    rfl
  obtain ⟨a, ns, rfl, hS, hlen, q⟩ := h
  refine ⟨_, (pss_cons (ps_set (i := 1) sc_struck.nd rfl (Or.inl rfl) (pe_lst pa_nil))
      (pss_cons (ps_for PassesOwn.never rfl (piT K (pv 0)) (pg_name (i := 2) sc_struck.nd rfl (Or.inl rfl)) (pss_one (ps_if (PW.pt (pw_and (pt_cmpR op_gt (pe_callB (lenS K) (by rfl) T.n_len PySem.boot_len (pa_cons (pv 1) pa_nil)) pe_int (nomark _)) (pw_and1 (pt_cmpR op_eq (pe_ix (ixL K) (pv 1) (pe_un un_neg pe_int) (fun _ _ => rfl)) (pv 2) (nomark _))))) (pss_one (ps_expr (pe_bm0 PySem.F.plainAttrs_list PySem.F.slot_list_pop PySem.F.type_list_pop mt_pop (pv 1)))) (pss_one (ps_expr (pe_bm PySem.F.plainAttrs_list PySem.F.slot_list_append PySem.F.type_list_append mt_append (pv 1) (pa_cons (pv 2) pa_nil)))))))
      (pss_one (ps_ret (pe_callTy (tupOf K) (by rfl) T.n_tuple (by decide +kernel) (pa_cons (pv 1) pa_nil)))))), ?_⟩
  refine ⟨Nat.zero_le _, fun l nl => ?_⟩
  refine ⟨.ref a, rfl, a, rfl, ⟨_, (Same.new nl).tup hS⟩, for_tup (xs := ns.map V.int) (fun i σ H' => (∃ y, σ = [some (.ref a), some (.ref l), y]) ∧ Same H H' ∧ H' l = some (.lst ((strk (ns.take i)).map V.int)))
    ⟨⟨_, rfl⟩, Same.new nl, upd_same⟩ (fun i σ H' _ h => h.2.1.tup hS) ?_ ?_⟩
  · rintro i x σ H1 hi ⟨⟨y, rfl⟩, sm, hl⟩
    obtain ⟨hi2, rfl⟩ := num_map i ns x hi
    have hst : strk (ns.take (i + 1)) = stp (strk (ns.take i)) ns[i] := by
      unfold strk
      rw [List.take_add_one, List.getElem?_eq_getElem hi2, List.foldl_append]
      rfl
    have hz : (strk (ns.take i)).length ≤ i := Nat.le_trans (strk_len _) (by rw [List.length_take]; omega)
    generalize strk (ns.take i) = st at hl hst hz
    refine ⟨.ref l, rfl, l, _, rfl, .inl (SqL.of hl), _, 1, rfl, rfl, _, rfl, ?_⟩
    by_cases h1 : st.length > 1
    · refine itT (decide_eq_true (by rw [List.length_map]; omega)) ?_
      have g : (st.map V.int)[st.length - 2]? = some (.int (st[st.length - 2]'(by omega))) := by
        rw [List.getElem?_map, List.getElem?_eq_getElem (by omega)]
        rfl
      refine ⟨.ref l, rfl, 2, rfl, l, _, _, _, rfl, rfl, SqL.of hl, atNeg g (by rw [List.length_map]; omega), _, rfl, rfl, _, rfl, ite2 (fun e => ?_) (fun e => ?_)⟩
      · have e' : st[st.length - 2]? = some ns[i] := by
          rw [List.getElem?_eq_getElem (by omega)]
          exact congrArg some (V.int.inj (of_decide_eq_true e))
        refine ⟨.ref l, rfl, .inl ⟨rfl, _, SqL.of hl⟩, l, _, .int (st[st.length - 1]'(by omega)), rfl, rfl, hl, ?_, ?_⟩
        · rw [List.length_map, List.getElem?_map, List.getElem?_eq_getElem (by omega)]
          rfl
        · refine ⟨⟨_, rfl⟩, sm.mut nl, ?_⟩
          rw [upd_same, hst, stp, if_pos ⟨h1, e'⟩, List.map_dropLast]
      · have e' : ¬ st[st.length - 2]? = some ns[i] := fun z => by
          rw [List.getElem?_eq_getElem (by omega)] at z
          exact e (decide_eq_true (congrArg V.int (Option.some.inj z)))
        refine ⟨.ref l, rfl, .inl ⟨rfl, _, SqL.of hl⟩, _, rfl, l, _, _, rfl, rfl, hl, smallLt (by rw [List.length_map]; omega), ?_⟩
        refine ⟨⟨_, rfl⟩, sm.mut nl, ?_⟩
        rw [upd_same, hst, stp, if_neg (fun z => e' z.2), List.map_append]
        rfl
    · refine itF (decide_eq_false (by rw [List.length_map]; omega)) ?_
      refine iteF ?_
      refine ⟨.ref l, rfl, .inl ⟨rfl, _, SqL.of hl⟩, _, rfl, l, _, _, rfl, rfl, hl, smallLt (by rw [List.length_map]; omega), ?_⟩
      refine ⟨⟨_, rfl⟩, sm.mut nl, ?_⟩
      rw [upd_same, hst, stp, if_neg (fun z => h1 z.1), List.map_append]
      rfl
  · rintro σ H' ⟨⟨y, rfl⟩, sm, hl⟩
    rw [List.length_map, List.take_length] at hl
    refine ⟨.ref l, rfl, l, _, rfl, .inl ⟨SqL.of hl, fun p np => ?_⟩⟩
    exact q p _ (sm.trans (Same.new np)) (SqT.of upd_same)
def sp_bends (K : PySem.W.Frag) : Sp := fun vs H Q _ => ∃ (a : Addr) (ns : List Int), vs = [.ref a] ∧ SqT K H a (ns.map V.int) ∧ ns.length < 10000 ∧ ∀ p H', Same H H' → SqT K H' p ((opn ns).map V.int) → Q (.ref p) H'
theorem ok_bends (F : Fun K "bends" "bends" s_bends f fd) (T : Txt mg)  : FnOk P w K mg base CX0 1 f fd ["stones"] (sp_bends K) := by
  refine F.ok sc_bends (fun vs H Q E h => ?_) (fun cdv A outer s H vs Q E hr h => ?_)
  · obtain ⟨a, ns, rfl, _⟩ := h
    rfl
  obtain ⟨a, ns, rfl, hS, hlen, q⟩ := h
  refine ⟨_, (pss_one (ps_ret (pe_callTy (tupOf K) (by rfl) T.n_tuple (by decide +kernel) (pa_cons (pe_lc (own := [("at", 1)]) rfl sc_bends.nd (pi_range2 (by rfl) T.n_range (pa_cons pe_int (pa_cons (pe_op op_sub (pe_callB (lenS K) (by rfl) T.n_len PySem.boot_len (pa_cons (pv 0) pa_nil)) pe_int) pa_nil))) (blkOk_by (own := [("at", 1)]) (N := ["stones", "at"]) (sc := defScope s_bends) (by decide +kernel)) (fun _ _ _ _ _ => pg_name (i := 1) sc_bends.nd rfl (Or.inl rfl)) (fun _ _ _ _ _ => (pts_one (pt_cmpR op_eq (pe_ix (ixT K) (pv 0) (pe_op op_sub (pv 1) pe_int) (fun _ _ => rfl)) (pe_ix (ixT K) (pv 0) (pe_op op_add (pv 1) pe_int) (fun _ _ => rfl)) (nomark _)))) (fun _ _ _ _ _ => (pv 1))) pa_nil)))), ?_⟩
  refine ⟨.ref a, rfl, a, _, rfl, .inr hS, _, 1, rfl, rfl, 1, _, rfl, ⟨by decide, by decide, by rw [List.length_map]; omega, by rw [List.length_map]; omega⟩, fun D hD => ?_⟩
  have e0 : (((ns.map V.int).length : Int) - 1 - 1).toNat = ns.length - 2 := by rw [List.length_map]; omega
  have hget : ∀ i, i < ns.length - 2 → (ns.map V.int)[i]? = some (.int (ns.getD i 0)) ∧ (ns.map V.int)[i + 2]? = some (.int (ns.getD (i + 2) 0)) ∧ isOpn ns i = decide (V.int (ns.getD i 0) = V.int (ns.getD (i + 2) 0)) := fun i hi => by
    have h1 : ns[i]? = some ns[i] := List.getElem?_eq_getElem (by omega)
    have h2 : ns[i + 2]? = some ns[i + 2] := List.getElem?_eq_getElem (by omega)
    rw [List.getElem?_map, List.getElem?_map, List.getD_eq_getElem?_getD, List.getD_eq_getElem?_getD, h1, h2]
    refine ⟨rfl, rfl, ?_⟩
    unfold isOpn
    rw [h1, h2]
    exact decide_eq_decide.mpr ⟨fun z => congrArg V.int (Option.some.inj z), fun z => congrArg some (V.int.inj z)⟩
  refine lc_pure (fun i => .int (1 + (i : Int))) walk_range (fun _ _ _ _ y _ => y) (isOpn ns) (fun i => .int (1 + (i : Int))) hD (by omega) (fun _ _ => trivial) (fun _ => rfl) (fun i hi => ?_) (fun i hi _ => Evl.ev_var rfl) (fun H' sm hl => ?_)
  · obtain ⟨g1, g2, g3⟩ := hget i (by omega)
    rw [g3]
    exact Evl.et_test (Evl.ev_op (Evl.ev_op (Evl.ev_var rfl) (Evl.ev_op (Evl.ev_var rfl) Evl.ev_c Evl.rv_I0) (Evl.rv_ixT hS (atN g1 (by omega))))
      (Evl.ev_op (Evl.ev_var rfl) (Evl.ev_op (Evl.ev_var rfl) Evl.ev_c Evl.rv_I0) (Evl.rv_ixT hS (atN g2 (by omega)))) (Evl.rv_eq rfl))
  · rw [e0, given_opn] at hl
    exact ⟨D, _, rfl, .inl ⟨SqL.of hl, fun p np => q p _ (sm.trans (Same.new np)) (SqT.of upd_same)⟩⟩
def sp_rest (K : PySem.W.Frag) : Sp := fun vs H Q _ => ∃ (a : Addr) (ns : List Int), vs = [.ref a] ∧ SqT K H a (ns.map V.int) ∧ Row ns ∧ ∀ p H', Same H H' → SqT K H' p ((strk ns).map V.int) → Q (.ref p) H'
theorem ok_rest (F : Fun K "rest" "rest" s_rest f fd) (T : Txt mg) (c_check_row : Cal P w K mg base CX0 1 "check_row" ["row"] s_check_row (sp_check_row K)) (c_struck : Cal P w K mg base CX0 1 "struck" ["stones"] s_struck (sp_struck K)) : FnOk P w K mg base CX0 2 f fd ["row"] (sp_rest K) := by
  refine F.ok sc_rest (fun vs H Q E h => ?_) (fun cdv A outer s H vs Q E hr h => ?_)
  · obtain ⟨a, ns, rfl, _⟩ := h
    rfl
  obtain ⟨a, ns, rfl, hS, hR, q⟩ := h
  refine ⟨_, (pss_cons (ps_expr (pe_cal c_check_row (hr.mono (by decide)) pass0 (pa_cons (pv 0) pa_nil)))
      (pss_one (ps_ret (pe_cal c_struck (hr.mono (by decide)) pass0 (pa_cons (pv 0) pa_nil))))), ?_⟩
  refine ⟨.ref a, rfl, a, ns, rfl, hS, hR, fun H1 s1 => ?_⟩
  refine ⟨.ref a, rfl, a, ns, rfl, s1.tup hS, Nat.lt_of_le_of_lt hR.2.1 (by decide), fun p H2 s2 hp => ?_⟩
  exact q p H2 (s1.trans s2) hp
def sp_is_straight (K : PySem.W.Frag) : Sp := fun vs H Q _ => ∃ (a : Addr) (ns : List Int), vs = [.ref a] ∧ SqT K H a (ns.map V.int) ∧ Row ns ∧ ∀ H', Same H H' → Q (.bl (decide (opn ns = []))) H'
theorem ok_is_straight (F : Fun K "is_straight" "is_straight" s_is_straight f fd) (T : Txt mg) (c_check_row : Cal P w K mg base CX0 1 "check_row" ["row"] s_check_row (sp_check_row K)) (c_bends : Cal P w K mg base CX0 1 "bends" ["stones"] s_bends (sp_bends K)) : FnOk P w K mg base CX0 2 f fd ["row"] (sp_is_straight K) := by
  refine F.ok sc_is_straight (fun vs H Q E h => ?_) (fun cdv A outer s H vs Q E hr h => ?_)
  · obtain ⟨a, ns, rfl, _⟩ := h
    rfl
  obtain ⟨a, ns, rfl, hS, hR, q⟩ := h
  refine ⟨_, (pss_cons (ps_expr (pe_cal c_check_row (hr.mono (by decide)) pass0 (pa_cons (pv 0) pa_nil)))
      (pss_one (ps_ret (pe_cmpR (eqD K hr.units) (pe_cal c_bends (hr.mono (by decide)) pass0 (pa_cons (pv 0) pa_nil)) (pe_tup pa_nil) (nomark _))))), ?_⟩
  refine ⟨.ref a, rfl, a, ns, rfl, hS, hR, fun H1 s1 => ?_⟩
  refine ⟨.ref a, rfl, a, ns, rfl, s1.tup hS, Nat.lt_of_le_of_lt hR.2.1 (by decide), fun p H2 s2 hp => ?_⟩
  refine ⟨Nat.zero_le _, fun e ne => ?_⟩
  exact eqT (ms := []) ((Same.new ne).tup hp) (SqT.of upd_same) (q _ ((s1.trans s2).trans (Same.new ne)))
def sp_strikes (K : PySem.W.Frag) : Sp := fun vs H Q _ => ∃ (a : Addr) (ns : List Int), vs = [.ref a] ∧ SqT K H a (ns.map V.int) ∧ Row ns ∧ ∀ H', Same H H' → Q (.int (((ns.length : Int) - ((strk ns).length : Int)) / 2)) H'
theorem ok_strikes (F : Fun K "strikes" "strikes" s_strikes f fd) (T : Txt mg) (c_check_row : Cal P w K mg base CX0 1 "check_row" ["row"] s_check_row (sp_check_row K)) (c_struck : Cal P w K mg base CX0 1 "struck" ["stones"] s_struck (sp_struck K)) : FnOk P w K mg base CX0 2 f fd ["row"] (sp_strikes K) := by
  refine F.ok sc_strikes (fun vs H Q E h => ?_) (fun cdv A outer s H vs Q E hr h => ?_)
  · obtain ⟨a, ns, rfl, _⟩ := h
    rfl
  obtain ⟨a, ns, rfl, hS, hR, q⟩ := h
  refine ⟨_, (pss_cons (ps_expr (pe_cal c_check_row (hr.mono (by decide)) pass0 (pa_cons (pv 0) pa_nil)))
      (pss_one (ps_ret (pe_op op_fdivW (pe_op op_sub (pe_callB (lenS K) (by rfl) T.n_len PySem.boot_len (pa_cons (pv 0) pa_nil)) (pe_callB (lenS K) (by rfl) T.n_len PySem.boot_len (pa_cons (pe_cal c_struck (hr.mono (by decide)) pass0 (pa_cons (pv 0) pa_nil)) pa_nil))) pe_int)))), ?_⟩
  refine ⟨.ref a, rfl, a, ns, rfl, hS, hR, fun H1 s1 => ?_⟩
  refine ⟨.ref a, rfl, a, _, rfl, .inr (s1.tup hS), .ref a, rfl, a, ns, rfl, s1.tup hS, Nat.lt_of_le_of_lt hR.2.1 (by decide), fun p H2 s2 hp => ?_⟩
  refine ⟨p, _, rfl, .inr hp, _, _, rfl, rfl, _, 2, rfl, rfl, ⟨by decide, by decide⟩, ?_⟩
  have z := q H2 (s1.trans s2)
  rw [List.length_map, List.length_map]
  exact z
def sp_turns (K : PySem.W.Frag) : Sp := fun vs H Q _ => ∃ (a : Addr) (ns : List Int), vs = [.ref a] ∧ SqT K H a (ns.map V.int) ∧ Row ns ∧ ∀ p H', Same H H' → SqT K H' p ((opn ns).map V.int) → Q (.ref p) H'
theorem ok_turns (F : Fun K "turns" "turns" s_turns f fd) (T : Txt mg) (c_check_row : Cal P w K mg base CX0 1 "check_row" ["row"] s_check_row (sp_check_row K)) (c_bends : Cal P w K mg base CX0 1 "bends" ["stones"] s_bends (sp_bends K)) : FnOk P w K mg base CX0 2 f fd ["row"] (sp_turns K) := by
  refine F.ok sc_turns (fun vs H Q E h => ?_) (fun cdv A outer s H vs Q E hr h => ?_)
  · obtain ⟨a, ns, rfl, _⟩ := h
    rfl
  obtain ⟨a, ns, rfl, hS, hR, q⟩ := h
  refine ⟨_, (pss_cons (ps_expr (pe_cal c_check_row (hr.mono (by decide)) pass0 (pa_cons (pv 0) pa_nil)))
      (pss_one (ps_ret (pe_cal c_bends (hr.mono (by decide)) pass0 (pa_cons (pv 0) pa_nil))))), ?_⟩
  refine ⟨.ref a, rfl, a, ns, rfl, hS, hR, fun H1 s1 => ?_⟩
  refine ⟨.ref a, rfl, a, ns, rfl, s1.tup hS, Nat.lt_of_le_of_lt hR.2.1 (by decide), fun p H2 s2 hp => ?_⟩
  exact q p H2 (s1.trans s2) hp
def sp_back (K : PySem.W.Frag) : Sp := fun vs H Q _ => ∃ (a : Addr) (ns : List Int), vs = [.ref a] ∧ SqT K H a (ns.map V.int) ∧ Row ns ∧ ∀ p H', Same H H' → SqT K H' p (ns.reverse.map V.int) → Q (.ref p) H'
theorem ok_back (F : Fun K "back" "back" s_back f fd) (T : Txt mg) (c_check_row : Cal P w K mg base CX0 1 "check_row" ["row"] s_check_row (sp_check_row K)) : FnOk P w K mg base CX0 2 f fd ["row"] (sp_back K) := by
  refine F.ok sc_back (fun vs H Q E h => ?_) (fun cdv A outer s H vs Q E hr h => ?_)
  · obtain ⟨a, ns, rfl, _⟩ := h
    rfl
  obtain ⟨a, ns, rfl, hS, hR, q⟩ := h
  refine ⟨_, (pss_cons (ps_expr (pe_cal c_check_row (hr.mono (by decide)) pass0 (pa_cons (pv 0) pa_nil)))
      (pss_one (ps_ret (pe_revT (pv 0))))), ?_⟩
  refine ⟨.ref a, rfl, a, ns, rfl, hS, hR, fun H1 s1 => ?_⟩
  refine ⟨.ref a, rfl, a, _, rfl, s1.tup hS, fun p np => ?_⟩
  exact q p _ (s1.trans (Same.new np)) (SqT.of (by rw [upd_same, List.map_reverse]))
def sp__law_pool (K : PySem.W.Frag) : Sp := fun vs H Q _ => ∃ (a : Addr) (ns : List Int) (k : Int), vs = [.ref a, .int k] ∧ SqL K H a (ns.map V.int) ∧ 0 ≤ k ∧ k < 1000 ∧ ∀ p H', H p = none → Same H H' → Src H' p → Q (.ref p) H'
theorem ok__law_pool (F : Fun K "_law_pool" "_law_pool" s__law_pool f fd) (T : Txt mg)  : FnOk P w K mg base CX0 1 f fd ["script", "k"] (sp__law_pool K) := by
  refine F.ok sc__law_pool (fun vs H Q E h => ?_) (fun cdv A outer s H vs Q E hr h => ?_)
  · obtain ⟨a, ns, k, rfl, _⟩ := h
    rfl
  obtain ⟨a, ns, k, rfl, hS, hk, hk2, q⟩ := h
  obtain ⟨j, rfl⟩ : ∃ j : Nat, k = (j : Int) := ⟨k.toNat, by omega⟩
  have hjj : (0 : Int) ≤ 7919 * (j : Int) * (j : Int) ∧ 7919 * (j : Int) * (j : Int) ≤ 7919000 * 1000 := by
    have h1 : (0 : Int) ≤ 7919 * (j : Int) := by omega
    have h2 : 7919 * (j : Int) ≤ 7919000 := by omega
    exact ⟨Int.mul_nonneg h1 hk, Int.mul_le_mul h2 (by omega) hk (by decide)⟩
  refine ⟨_, (pss_cons (ps_set (i := 2) sc__law_pool.nd rfl (Or.inl rfl) pe_int)
      (pss_cons (ps_if (pt_cmpR op_lt (pv 1) (pe_callB (lenS K) (by rfl) T.n_len PySem.boot_len (pa_cons (pv 0) pa_nil)) (nomark _)) (pss_one (ps_set (i := 2) sc__law_pool.nd rfl (Or.inl rfl) (pe_ix (ixL K) (pv 0) (pv 1) (fun _ _ => rfl)))) (pss_one (ps_if (pt_truth (pv 0) (by intro _; rfl)) (pss_one (ps_set (i := 2) sc__law_pool.nd rfl (Or.inl rfl) (pe_ix (ixL K) (pv 0) pe_int (fun _ _ => rfl)))) pss_nil)))
      (pss_cons (ps_set (i := 3) sc__law_pool.nd rfl (Or.inl rfl) (pe_callB (call_max2 rfl) (by rfl) T.n_max (by decide +kernel) (pa_cons (pe_callTy call_int1 (by rfl) T.n_int (by decide +kernel) (pa_cons (pv 2) pa_nil)) (pa_cons (pe_callTy call_int1 (by rfl) T.n_int (by decide +kernel) (pa_cons (pe_op op_sub (pe_un un_neg pe_int) (pv 2)) pa_nil)) pa_nil))))
      (pss_cons (ps_set (i := 4) sc__law_pool.nd rfl (Or.inl rfl) (pe_op op_mod (pe_callTy call_int1 (by rfl) T.n_int (by decide +kernel) (pa_cons (pe_op op_mul (pe_op op_add (pe_op op_add (pe_op op_add (pe_op op_mod (pe_callTy call_int1 (by rfl) T.n_int (by decide +kernel) (pa_cons (pv 3) pa_nil)) pe_int) (pe_op op_mul (pe_op op_mul pe_int (pv 1)) (pv 1))) (pe_op op_mul pe_int (pv 1))) pe_int) pe_int) pa_nil)) pe_int))
      (pss_one (ps_ret (pe_lst (pa_cons (pe_op op_mul (pv 3) (pe_callTy call_int1 (by rfl) T.n_int (by decide +kernel) (pa_cons (pe_cmpR op_ge (pv 3) (pe_op op_pow pe_int pe_int) (nomark _)) pa_nil))) (pa_cons (pv 4) pa_nil))))))))), ?_⟩
  refine ⟨.int j, rfl, .ref a, rfl, a, _, rfl, .inl hS, j, _, rfl, rfl, _, rfl, ite2
    (fun c => ⟨.ref a, rfl, .int j, rfl, a, _, j, .int (ns.getD j 0), rfl, rfl, hS, atI_nat ?_, ?_⟩)
    (fun c => ⟨.ref a, rfl, _, .inl ⟨_, hS, rfl⟩, ite2 (fun c2 => ⟨.ref a, rfl, a, _, 0, .int (ns.getD 0 0), rfl, rfl, hS, atN (j := 0) ?_ rfl, ?_⟩) (fun c2 => ?_)⟩)⟩
  · have h1 : j < ns.length := by
      have z := of_decide_eq_true c
      rw [List.length_map] at z
      omega
    rw [List.getElem?_map, List.getD_eq_getElem?_getD, List.getElem?_eq_getElem h1]
    rfl
  rotate_left
  · cases ns with
    | nil => cases c2
    | cons n ns => rfl
  all_goals
    refine ⟨_, rfl, .inl ⟨_, rfl, 1, rfl, _, rfl, _, _, rfl, rfl, .inl ⟨_, rfl, _, _, rfl, ?_⟩⟩⟩
    refine ⟨_, rfl, .inl ⟨_, rfl, _, 2147483629, rfl, rfl, by show (0 : Int) < 2147483629; decide, _, rfl, _, _, rfl, rfl, .inl ⟨by omega, by omega⟩, _, rfl, _, _, rfl, rfl, .inl ⟨by omega, by omega⟩, _, _, rfl, rfl, _, rfl, _, _, rfl, rfl, .inl ⟨by omega, by omega⟩, _, _, rfl, rfl, _, _, rfl, rfl, _, _, rfl, rfl, .inl ?_, .inl ⟨_, rfl, _, 2147483647, rfl, rfl, by show (0 : Int) < 2147483647; decide, ?_⟩⟩⟩
    · exact mixB hjj hk hk2
    · refine ⟨_, rfl, _, rfl, _, _, rfl, rfl, ⟨by decide, by decide, by decide⟩, _, _, rfl, rfl, .inr ⟨_, rfl, _, _, rfl, rfl, .inr (b01 _), _, rfl, by show 2 ≤ sizeLine; decide, fun p np => ?_⟩⟩
      refine q p _ np (Same.new np) ⟨_, _, upd_same, ?_, Int.emod_nonneg _ (by decide), Int.emod_lt_of_pos _ (by decide)⟩
      refine Int.mul_nonneg ?_ ?_
      · split <;> omega
      · exact b0 _
def sp__law_take (K : PySem.W.Frag) : Sp := fun vs H Q _ => ∃ (p : Addr) (t : Int), vs = [.ref p, .int t] ∧ Src H p ∧ 0 < t ∧ t < 1000000 ∧ ∀ r H', 0 ≤ r → r < t → Src H' p → Exb p H H' → Q (.int r) H'
theorem ok__law_take (F : Fun K "_law_take" "_law_take" s__law_take f fd) (T : Txt mg)  : FnOk P w K mg base CX0 1 f fd ["source", "top"] (sp__law_take K) := by
  refine F.ok sc__law_take (fun vs H Q E h => ?_) (fun cdv A outer s H vs Q E hr h => ?_)
  · obtain ⟨p, t, rfl, _⟩ := h
    rfl
  obtain ⟨p, t, rfl, ⟨a, b, hp, ha, hb, hb2⟩, ht, ht2, q⟩ := h
  refine ⟨_, (pss_cons (ps_if (pt_cmpR op_gt (pe_ix (ixL K) (pv 0) pe_int (fun _ _ => rfl)) pe_int (nomark _)) (pss_cons (ps_set (i := 2) sc__law_take.nd rfl (Or.inl rfl) (pe_op op_mod (pe_callTy call_int1 (by rfl) T.n_int (by decide +kernel) (pa_cons (pe_ix (ixL K) (pv 0) pe_int (fun _ _ => rfl)) pa_nil)) (pv 1)))
      (pss_cons (ps_asg (pe_op op_fdivW (pe_ix (ixL K) (pv 0) pe_int (fun _ _ => rfl)) (pv 1)) (pg_sub (pv 0) pe_int set_list))
      (pss_one (ps_ret (pv 2))))) pss_nil)
      (pss_cons (ps_asg (pe_op op_mod (pe_callTy call_int1 (by rfl) T.n_int (by decide +kernel) (pa_cons (pe_op op_add (pe_op op_mul (pe_ix (ixL K) (pv 0) pe_int (fun _ _ => rfl)) pe_int) pe_int) pa_nil)) pe_int) (pg_sub (pv 0) pe_int set_list))
      (pss_one (ps_ret (pe_op op_mod (pe_callTy call_int1 (by rfl) T.n_int (by decide +kernel) (pa_cons (pe_op op_fdivW (pe_op op_mod (pe_callTy call_int1 (by rfl) T.n_int (by decide +kernel) (pa_cons (pe_op op_mul (pe_ix (ixL K) (pv 0) pe_int (fun _ _ => rfl)) (pe_ix (ixL K) (pv 0) pe_int (fun _ _ => rfl))) pa_nil)) pe_int) pe_int) pa_nil)) (pv 1)))))), ?_⟩
  -- source[0] > 0
  refine ⟨.ref p, rfl, p, _, 0, .int a, rfl, rfl, SqL.of hp, atI0, a, 0, rfl, rfl, _, rfl, ite2 (fun c => ?_) (fun c => ?_)⟩
  · -- drawn = int(source[0]) % top; source[0] = source[0] // top; return drawn
    refine ⟨.ref p, rfl, p, _, 0, .int a, rfl, rfl, SqL.of hp, atI0, .inl ⟨a, rfl, .int t, rfl, a, t, rfl, rfl, ht, ?_⟩⟩
    refine ⟨.ref p, rfl, p, _, 0, .int a, rfl, rfl, SqL.of hp, atI0, .int t, rfl, a, t, rfl, rfl, wide_div (b := 64) ht (by omega) (by decide) (by decide), ?_⟩
    refine ⟨.ref p, rfl, p, _, 0, 0, rfl, rfl, hp, rfl, ?_⟩
    refine ⟨.int (a % t), rfl, ?_⟩
    exact q _ _ (Int.emod_nonneg _ (by omega)) (Int.emod_lt_of_pos _ ht) ⟨a / t, b, upd_same, Int.ediv_nonneg ha (by omega), hb, hb2⟩ Exb.at
  · refine ⟨.ref p, rfl, p, _, 1, .int b, rfl, rfl, SqL.of hp, atI1, b, 39373, rfl, rfl, .inl ⟨by omega, by omega⟩, _, 7, rfl, rfl, .inl ⟨_, rfl, _, 2147483647, rfl, rfl, by show (0 : Int) < 2147483647; decide, ?_⟩⟩
    refine ⟨.ref p, rfl, p, _, 1, 1, rfl, rfl, hp, rfl, ?_⟩
    have h1 : (0 : Int) ≤ (b * 39373 + 7) % 2147483647 := Int.emod_nonneg _ (by decide)
    have h2 : (b * 39373 + 7) % 2147483647 < 2147483647 := Int.emod_lt_of_pos _ (by decide)
    have hp2 : (upd H p (.lst [.int a, .int ((b * 39373 + 7) % 2147483647)])) p = some (.lst [.int a, .int ((b * 39373 + 7) % 2147483647)]) := upd_same
    refine ⟨.ref p, rfl, p, [.int a, .int ((b * 39373 + 7) % 2147483647)], 1, _, rfl, rfl, SqL.of hp2, atI1, .ref p, rfl, p, [.int a, .int ((b * 39373 + 7) % 2147483647)], 1, _, rfl, rfl, SqL.of hp2, atI1, _, _, rfl, rfl, .inl ⟨by omega, by omega⟩, ?_⟩
    refine .inl ⟨_, rfl, _, 2147483629, rfl, rfl, by show (0 : Int) < 2147483629; decide, _, 32, rfl, rfl, ⟨by decide, by decide⟩, .inl ⟨_, rfl, .int t, rfl, _, t, rfl, rfl, ht, ?_⟩⟩
    exact q _ _ (Int.emod_nonneg _ (by omega)) (Int.emod_lt_of_pos _ ht) ⟨a, _, hp2, ha, h1, h2⟩ Exb.at
def sp__law_one (K : PySem.W.Frag) : Sp := fun vs H Q _ => ∃ (p a : Addr) (xs : List V), vs = [.ref p, .ref a] ∧ Src H p ∧ H a = some (.lst xs) ∧ a ≠ p ∧ 0 < xs.length ∧ xs.length < 1000000 ∧ ∀ v H', v ∈ xs → Src H' p → Exb p H H' → Q v H'
theorem ok__law_one (F : Fun K "_law_one" "_law_one" s__law_one f fd) (T : Txt mg) (c__law_take : Cal P w K mg base CX0 1 "_law_take" ["source", "top"] s__law_take (sp__law_take K)) : FnOk P w K mg base CX0 2 f fd ["source", "things"] (sp__law_one K) := by
  refine F.ok sc__law_one (fun vs H Q E h => ?_) (fun cdv A outer s H vs Q E hr h => ?_)
  · obtain ⟨p, a, xs, rfl, _⟩ := h
    rfl
  obtain ⟨p, a, xs, rfl, hs, ha, hne, h0, h1, q⟩ := h
  refine ⟨_, (pss_one (ps_ret (pe_ix (ixL K) (pv 1) (pe_cal c__law_take (hr.mono (by decide)) pass0 (pa_cons (pv 0) (pa_cons (pe_callB (lenS K) (by rfl) T.n_len PySem.boot_len (pa_cons (pv 1) pa_nil)) pa_nil))) (fun _ _ => rfl)))), ?_⟩
  refine ⟨.ref a, rfl, .ref p, rfl, .ref a, rfl, a, xs, rfl, .inl (SqL.of ha), p, xs.length, rfl, hs, by omega, by omega, fun r H' r0 r1 s' e => ?_⟩
  obtain ⟨j, rfl⟩ : ∃ j : Nat, r = (j : Int) := ⟨r.toNat, by omega⟩
  have hj : j < xs.length := by omega
  refine ⟨a, xs, j, xs[j], rfl, rfl, SqL.of (e.lst hne ha), atI_nat (List.getElem?_eq_getElem hj), ?_⟩
  exact q _ _ (List.getElem_mem hj) s' e
def sp__law_drawn (K : PySem.W.Frag) : Sp := fun vs H Q _ => ∃ (p : Addr), vs = [.ref p] ∧ Src H p ∧ ∀ a ns H', Row ns → Src H' p → Exb p H H' → SqT K H' a (ns.map V.int) → Q (.ref a) H'
theorem ok__law_drawn (F : Fun K "_law_drawn" "_law_drawn" s__law_drawn f fd) (T : Txt mg) (c__law_take : Cal P w K mg base CX0 1 "_law_take" ["source", "top"] s__law_take (sp__law_take K)) (c__law_one : Cal P w K mg base CX0 2 "_law_one" ["source", "things"] s__law_one (sp__law_one K)) : FnOk P w K mg base CX0 3 f fd ["source"] (sp__law_drawn K) := by
  refine F.ok sc__law_drawn (fun vs H Q E h => ?_) (fun cdv A outer s H vs Q E hr h => ?_)
  · obtain ⟨p, rfl, _⟩ := h
    rfl
  obtain ⟨p, rfl, hs, q⟩ := h
  refine ⟨_, (pss_cons (ps_par (i := 1) (j := 2) (by rfl) sc__law_drawn.nd rfl rfl (by decide) rfl rfl (pa_cons (pe_cal c__law_one (hr.mono (by decide)) pass0 (pa_cons (pv 0) (pa_cons (pe_lst (pa_cons pe_int (pa_cons pe_int (pa_cons pe_int (pa_cons pe_int (pa_cons pe_int (pa_cons pe_int (pa_cons pe_int pa_nil)))))))) pa_nil))) (pa_cons (pe_op op_add pe_int (pe_cal c__law_take (hr.mono (by decide)) pass0 (pa_cons (pv 0) (pa_cons pe_int pa_nil)))) pa_nil)) (by rfl))
      (Evl.pss_cut (ps_if (pt_cmpR op_eq (pe_cal c__law_take (hr.mono (by decide)) pass0 (pa_cons (pv 0) (pa_cons pe_int pa_nil))) pe_int (nomark _)) (pss_one (ps_set (i := 1) sc__law_drawn.nd rfl (Or.inl rfl) (pe_op op_sub pe_int (pe_cal c__law_take (hr.mono (by decide)) pass0 (pa_cons (pv 0) (pa_cons pe_int pa_nil)))))) pss_nil)
      (pss_cons (ps_set (i := 3) sc__law_drawn.nd rfl (Or.inl rfl) (pe_lst (pa_cons (pe_cal c__law_take (hr.mono (by decide)) pass0 (pa_cons (pv 0) (pa_cons (pv 2) pa_nil))) pa_nil)))
      (pss_cons (ps_while PassesOwn.never (pt_cmpR op_lt (pe_callB (lenS K) (by rfl) T.n_len PySem.boot_len (pa_cons (pv 3) pa_nil)) (pv 1) (nomark _)) (pss_cons (ps_set (i := 4) sc__law_drawn.nd rfl (Or.inl rfl) (pe_cal c__law_take (hr.mono (by decide)) pass0 (pa_cons (pv 0) (pa_cons pe_int pa_nil))))
      (pss_one (ps_if (PW.pt (pw_and (pt_cmpR op_eq (pv 4) pe_int (nomark _)) (pw_and1 (pt_cmpR op_gt (pe_callB (lenS K) (by rfl) T.n_len PySem.boot_len (pa_cons (pv 3) pa_nil)) pe_int (nomark _))))) (pss_one (ps_expr (pe_bm PySem.F.plainAttrs_list PySem.F.slot_list_append PySem.F.type_list_append mt_append (pv 3) (pa_cons (pe_ix (ixL K) (pv 3) (pe_un un_neg pe_int) (fun _ _ => rfl)) pa_nil)))) (pss_one (ps_if (pt_cmpR op_eq (pv 4) pe_int (nomark _)) (pss_one (ps_expr (pe_bm PySem.F.plainAttrs_list PySem.F.slot_list_append PySem.F.type_list_append mt_append (pv 3) (pa_cons (pe_ix (ixL K) (pv 3) (pe_un un_neg pe_int) (fun _ _ => rfl)) pa_nil)))) (pss_one (ps_if (PW.pt (pw_and (pt_cmpR op_eq (pv 4) pe_int (nomark _)) (pw_and1 (pt_cmpR op_le (pe_op op_add (pe_callB (lenS K) (by rfl) T.n_len PySem.boot_len (pa_cons (pv 3) pa_nil)) pe_int) (pv 1) (nomark _))))) (pss_one (ps_set (i := 3) sc__law_drawn.nd rfl (Or.inl rfl) (pe_op op_cat (pv 3) (pe_lst (pa_cons (pe_cal c__law_take (hr.mono (by decide)) pass0 (pa_cons (pv 0) (pa_cons (pv 2) pa_nil))) (pa_cons (pe_ix (ixL K) (pv 3) (pe_un un_neg pe_int) (fun _ _ => rfl)) pa_nil)))))) (pss_one (ps_expr (pe_bm PySem.F.plainAttrs_list PySem.F.slot_list_append PySem.F.type_list_append mt_append (pv 3) (pa_cons (pe_cal c__law_take (hr.mono (by decide)) pass0 (pa_cons (pv 0) (pa_cons (pv 2) pa_nil))) pa_nil))))))))))))
      (pss_one (ps_ret (pe_callTy (tupOf K) (by rfl) T.n_tuple (by decide +kernel) (pa_cons (pv 3) pa_nil)))))))), ?_⟩
  refine ⟨.ref p, rfl, small (by show 7 ≤ 1000000; decide), fun a na => ?_⟩
  refine ⟨p, a, _, rfl, hs.put (hs.ne na), upd_same, hs.ne na, by show 0 < 7; decide, by show 7 < 1000000; decide, fun v H1 hv s1 e1 => ?_⟩
  have hm : ∃ m : Int, v = .int m ∧ 1 ≤ m ∧ m ≤ 200 := by
    simp only [List.mem_cons, List.not_mem_nil, or_false] at hv
    rcases hv with rfl | rfl | rfl | rfl | rfl | rfl | rfl <;> exact ⟨_, rfl, by decide, by decide⟩
  obtain ⟨m, rfl, m1, m2⟩ := hm
  have e1 : Exb p H H1 := (Exb.new na).trans e1
  refine ⟨.ref p, rfl, p, 8, rfl, s1, by decide, by decide, fun c0 H2 c1 c2 s2 e2 => ?_⟩
  refine ⟨1, c0, rfl, rfl, _, _, rfl, ?_⟩
  have e2 : Exb p H H2 := e1.trans e2
  -- many
  refine ⟨fun σ' H' => ∃ m : Int, σ' = [some (.ref p), some (.int m), some (.int (1 + c0)), none, none] ∧ 1 ≤ m ∧ m ≤ 200 ∧ Src H' p ∧ Exb p H H', ?_, ?_⟩
  · refine ⟨.ref p, rfl, p, 40, rfl, s2, by decide, by decide, fun r H3 r0 r1 s3 e3 => ⟨rfl, _, rfl, ite2 (fun c => ?_) (fun c => ?_)⟩⟩
    · refine ⟨.ref p, rfl, p, 3, rfl, s3, by decide, by decide, fun r' H4 r2 r3 s4 e4 => ⟨_, _, rfl, rfl, ?_⟩⟩
      exact ⟨200 - r', rfl, by omega, by omega, s4, (e2.trans e3).trans e4⟩
    · exact ⟨m, rfl, m1, m2, s3, e2.trans e3⟩
  rintro σ' H3 ⟨m, rfl, m1, m2, s3, e3⟩
  -- row = [..]
  refine ⟨.ref p, rfl, .int (1 + c0), rfl, p, 1 + c0, rfl, s3, by omega, by omega, fun r H4 r0 r1 s4 e4 => ?_⟩
  refine ⟨small (by show 1 ≤ 1000000; decide), fun l nl => ?_⟩
  have e4 : Exb p H H4 := e3.trans e4
  refine ⟨fun k σ' H' => ∃ (l : Addr) (ns : List Int) (y : Option V), σ' = [some (.ref p), some (.int m), some (.int (1 + c0)), some (.ref l), y] ∧ H l = none ∧ l ≠ p ∧ H' l = some (.lst (ns.map V.int)) ∧ Src H' p ∧ Exb p H H' ∧ 1 ≤ ns.length ∧ (ns.length : Int) ≤ 200 ∧ (∀ c ∈ ns, 0 ≤ c ∧ c ≤ 7) ∧ k = 200 - ns.length,
    ⟨199, l, [r], none, rfl, e4.fresh (s4.ne nl) nl, s4.ne nl, upd_same, s4.put (s4.ne nl), e4.trans (Exb.new nl), by show 1 ≤ 1; decide, by show ((1 : Nat) : Int) ≤ 200; decide, ?_, rfl⟩, ?_⟩
  · intro c hc
    rw [List.mem_singleton.mp hc]
    exact ⟨r0, by omega⟩
  rintro k σ' H5 ⟨l, ns, y, rfl, nl, nlp, hl, s5, e5, z1, z2, hc, rfl⟩
  have hlen : ((ns.map V.int).length : Int) = ns.length := by rw [List.length_map]
  refine ⟨.ref l, rfl, l, _, rfl, .inl (SqL.of hl), .int m, rfl, _, _, rfl, rfl, _, rfl, ite2 (fun c => ?_) (fun c => ?_)⟩
  · have zm : (ns.length : Int) < m := by
      have := of_decide_eq_true c
      omega
    refine ⟨fun σ2 H2 => ∃ (l : Addr) (ns2 : List Int) (y : Option V), σ2 = [some (.ref p), some (.int m), some (.int (1 + c0)), some (.ref l), y] ∧ H l = none ∧ l ≠ p ∧ H2 l = some (.lst (ns2.map V.int)) ∧ Src H2 p ∧ Exb p H H2 ∧ ns.length < ns2.length ∧ (ns2.length : Int) ≤ 200 ∧ (∀ c ∈ ns2, 0 ≤ c ∧ c ≤ 7), fun σ2 H2 h => ?_, ?_⟩
    · obtain ⟨l, ns2, y, e, a1, a2, a3, a4, a5, a6, a7, a8⟩ := h
      exact ⟨200 - ns2.length, by omega, l, ns2, y, e, a1, a2, a3, a4, a5, by omega, a7, a8, rfl⟩
    -- one more stone
    have more : ∀ (x : Int) (H' : Hp) (w : Int), 0 ≤ x → x ≤ 7 → H' l = some (.lst (ns.map V.int)) → Src H' p → Exb p H H' →
        ∃ (l' : Addr) (ns2 : List Int) (y : Option V), [some (V.ref p), some (.int m), some (.int (1 + c0)), some (.ref l), some (.int w)] = [some (V.ref p), some (.int m), some (.int (1 + c0)), some (.ref l'), y] ∧ H l' = none ∧ l' ≠ p ∧
          (upd H' l (.lst (ns.map V.int ++ [.int x]))) l' = some (.lst (ns2.map V.int)) ∧ Src (upd H' l (.lst (ns.map V.int ++ [.int x]))) p ∧ Exb p H (upd H' l (.lst (ns.map V.int ++ [.int x]))) ∧ ns.length < ns2.length ∧ (ns2.length : Int) ≤ 200 ∧ (∀ c ∈ ns2, 0 ≤ c ∧ c ≤ 7) := fun x H' w x0 x1 hl s e => by
      refine ⟨l, ns ++ [x], _, rfl, nl, nlp, by rw [upd_same, List.map_append]; rfl, s.put nlp, e.mut nl, ?_, ?_, fun c hc' => ?_⟩
      · rw [List.length_append]; exact Nat.lt_succ_self _
      · rw [List.length_append]; show ((ns.length + 1 : Nat) : Int) ≤ 200; omega
      · rcases List.mem_append.mp hc' with h | h
        · exact hc c h
        · rw [List.mem_singleton.mp h]; exact ⟨x0, x1⟩
    have hat : ∀ i, (hi : i < ns.length) → (ns.map V.int)[i]? = some (.int ns[i]) := fun i hi => by
      rw [List.getElem?_map, List.getElem?_eq_getElem hi]
      rfl
    have hin : ∀ i, (hi : i < ns.length) → 0 ≤ ns[i] ∧ ns[i] ≤ 7 := fun i hi => hc _ (List.getElem_mem hi)
    -- way = _law_take(source, 5)
    refine ⟨.ref p, rfl, p, 5, rfl, s5, by decide, by decide, fun w H6 w0 w1 s6 e6 => ?_⟩
    have hl6 : H6 l = some (.lst (ns.map V.int)) := e6.lst nlp hl
    have e6 : Exb p H H6 := e5.trans e6
    have dlast := hin (ns.length - 1) (by omega)
    have glast := hat (ns.length - 1) (by omega)
    refine Evl.s_if (Evl.et_and (Evl.et_test (Evl.ev_op (Evl.ev_var rfl) Evl.ev_c (Evl.rv_eq rfl))) (fun _ => Evl.et_test (Evl.ev_op (Evl.ev_len (Evl.ev_var rfl) (SqL.of hl6)) Evl.ev_c Evl.rv_I0))) (fun hb H7 e7 => ?_) (fun _ H7 e7 =>
      Evl.s_if (Evl.et_test (Evl.ev_op (Evl.ev_var rfl) Evl.ev_c (Evl.rv_eq rfl))) (fun _ H8 e8 => ?_) (fun _ H8 e8 =>
        Evl.s_if (Evl.et_and (Evl.et_test (Evl.ev_op (Evl.ev_var rfl) Evl.ev_c (Evl.rv_eq rfl))) (fun _ => Evl.et_test (Evl.ev_op (Evl.ev_op (Evl.ev_len (Evl.ev_var rfl) (SqL.of (e8 _ _ (e7 _ _ hl6)))) Evl.ev_c Evl.rv_I0) (Evl.ev_var rfl) Evl.rv_I0))) (fun hb H9 e9 => ?_) (fun _ H9 e9 => ?_)))
    · have c2' : (1 : Int) < ((ns.map V.int).length : Nat) := of_decide_eq_true (Bool.and_eq_true_iff.mp hb).2
      have hl7 := e7 _ _ hl6
      refine ⟨.ref l, rfl, .inl ⟨rfl, _, SqL.of hl7⟩, .ref l, rfl, 2, rfl, l, _, _, _, rfl, rfl, SqL.of hl7, atNeg (hat (ns.length - 2) (by omega)) (by rw [List.length_map]; omega), l, _, _, rfl, rfl, hl7, smallLt (by rw [List.length_map]; omega), ?_⟩
      exact more _ _ w (hin _ _).1 (hin _ _).2 hl7 (Same.src e7 s6) (e6.trans (Exb.of e7))
    · have hl8 := e8 _ _ (e7 _ _ hl6)
      refine ⟨.ref l, rfl, .inl ⟨rfl, _, SqL.of hl8⟩, .ref l, rfl, 1, rfl, l, _, _, _, rfl, rfl, SqL.of hl8, atNeg glast (by rw [List.length_map]; omega), l, _, _, rfl, rfl, hl8, smallLt (by rw [List.length_map]; omega), ?_⟩
      exact more _ _ w dlast.1 dlast.2 hl8 (Same.src e8 (Same.src e7 s6)) (e6.trans ((Exb.of e7).trans (Exb.of e8)))
    · have hl9 := e9 _ _ (e8 _ _ (e7 _ _ hl6))
      have s9 := Same.src e9 (Same.src e8 (Same.src e7 s6))
      have e9' : Exb p H H9 := e6.trans ((Exb.of e7).trans ((Exb.of e8).trans (Exb.of e9)))
      have c3 : (((ns.map V.int).length : Nat) : Int) + 2 ≤ m := of_decide_eq_true (Bool.and_eq_true_iff.mp hb).2
      refine ⟨.ref l, rfl, .ref p, rfl, .int (1 + c0), rfl, p, 1 + c0, rfl, s9, by omega, by omega, fun r H10 r0 r1 s10 e10 => ?_⟩
      have hl10 : H10 l = some (.lst (ns.map V.int)) := e10.lst nlp hl9
      refine ⟨.ref l, rfl, 1, rfl, l, _, _, _, rfl, rfl, SqL.of hl10, atNeg glast (by rw [List.length_map]; omega), small (by show 2 ≤ 1000000; decide), fun d nd => ?_⟩
      have nld : l ≠ d := ne_of_none hl10 nd
      refine ⟨l, d, _, _, rfl, rfl, by rw [upd_ne nld]; exact hl10, upd_same, small (by rw [List.length_map]; show ns.length + 2 ≤ 1000000; omega), fun l2 nl2 => ?_⟩
      have s11 : Src (upd H10 d (.lst [.int r, .int ns[ns.length - 1]])) p := s10.put (s10.ne nd)
      have e11 : Exb p H (upd H10 d (.lst [.int r, .int ns[ns.length - 1]])) := (e9'.trans e10).trans (Exb.new nd)
      have nl2p := s11.ne nl2
      refine ⟨l2, ns ++ [r, ns[ns.length - 1]], _, rfl, e11.fresh nl2p nl2, nl2p, by rw [upd_same, List.map_append]; rfl, s11.put nl2p, e11.trans (Exb.new nl2), ?_, ?_, fun c hc' => ?_⟩
      · rw [List.length_append]; show ns.length < ns.length + 2; omega
      · rw [List.length_append]; show ((ns.length + 2 : Nat) : Int) ≤ 200; omega
      · rcases List.mem_append.mp hc' with h | h
        · exact hc c h
        · simp only [List.mem_cons, List.not_mem_nil, or_false] at h
          rcases h with rfl | rfl
          · exact ⟨r0, by omega⟩
          · exact dlast
    · have hl9 := e9 _ _ (e8 _ _ (e7 _ _ hl6))
      have s9 := Same.src e9 (Same.src e8 (Same.src e7 s6))
      have e9' : Exb p H H9 := e6.trans ((Exb.of e7).trans ((Exb.of e8).trans (Exb.of e9)))
      refine ⟨.ref l, rfl, .inl ⟨rfl, _, SqL.of hl9⟩, .ref p, rfl, .int (1 + c0), rfl, p, 1 + c0, rfl, s9, by omega, by omega, fun r H10 r0 r1 s10 e10 => ?_⟩
      have hl10 : H10 l = some (.lst (ns.map V.int)) := e10.lst nlp hl9
      refine ⟨l, _, _, rfl, rfl, hl10, smallLt (by rw [List.length_map]; omega), ?_⟩
      exact more _ _ w r0 (by omega) hl10 s10 (e9'.trans e10)
  · refine ⟨.ref l, rfl, l, _, rfl, .inl ⟨SqL.of hl, fun a na => ?_⟩⟩
    exact q a ns _ ⟨z1, by omega, hc⟩ (s5.put (s5.ne na)) (e5.trans (Exb.new na)) (SqT.of upd_same)
def sp__law_open (K : PySem.W.Frag) : Sp := fun vs H Q _ => ∃ (a : Addr) (ns : List Int), vs = [.ref a] ∧ SqT K H a (ns.map V.int) ∧ ns.length < 10000 ∧ ∀ p H', H p = none → Same H H' → H' p = some (.lst ((opn ns).map V.int)) → Q (.ref p) H'
theorem ok__law_open (F : Fun K "_law_open" "_law_open" s__law_open f fd) (T : Txt mg)  : FnOk P w K mg base CX0 1 f fd ["row"] (sp__law_open K) := by
  refine F.ok sc__law_open (fun vs H Q E h => ?_) (fun cdv A outer s H vs Q E hr h => ?_)
  · obtain ⟨a, ns, rfl, _⟩ := h
    rfl
  obtain ⟨a, ns, rfl, hS, hlen, q⟩ := h
  refine ⟨_, (pss_one (ps_ret (pe_lc (own := [("i", 1)]) rfl sc__law_open.nd (pi_range2 (by rfl) T.n_range (pa_cons pe_int (pa_cons (pe_op op_sub (pe_callB (lenS K) (by rfl) T.n_len PySem.boot_len (pa_cons (pv 0) pa_nil)) pe_int) pa_nil))) (blkOk_by (own := [("i", 1)]) (N := ["row", "i"]) (sc := defScope s__law_open) (by decide +kernel)) (fun _ _ _ _ _ => pg_name (i := 1) sc__law_open.nd rfl (Or.inl rfl)) (fun _ _ _ _ _ => (pts_one (pt_cmpR op_eq (pe_ix (ixT K) (pv 0) (pe_op op_sub (pv 1) pe_int) (fun _ _ => rfl)) (pe_ix (ixT K) (pv 0) (pe_op op_add (pv 1) pe_int) (fun _ _ => rfl)) (nomark _)))) (fun _ _ _ _ _ => (pv 1))))), ?_⟩
  refine ⟨.ref a, rfl, a, _, rfl, .inr hS, _, 1, rfl, rfl, 1, _, rfl, ⟨by decide, by decide, by rw [List.length_map]; omega, by rw [List.length_map]; omega⟩, fun D hD => ?_⟩
  have e0 : (((ns.map V.int).length : Int) - 1 - 1).toNat = ns.length - 2 := by rw [List.length_map]; omega
  have hget : ∀ i, i < ns.length - 2 → (ns.map V.int)[i]? = some (.int (ns.getD i 0)) ∧ (ns.map V.int)[i + 2]? = some (.int (ns.getD (i + 2) 0)) ∧ isOpn ns i = decide (V.int (ns.getD i 0) = V.int (ns.getD (i + 2) 0)) := fun i hi => by
    have h1 : ns[i]? = some ns[i] := List.getElem?_eq_getElem (by omega)
    have h2 : ns[i + 2]? = some ns[i + 2] := List.getElem?_eq_getElem (by omega)
    rw [List.getElem?_map, List.getElem?_map, List.getD_eq_getElem?_getD, List.getD_eq_getElem?_getD, h1, h2]
    refine ⟨rfl, rfl, ?_⟩
    unfold isOpn
    rw [h1, h2]
    exact decide_eq_decide.mpr ⟨fun z => congrArg V.int (Option.some.inj z), fun z => congrArg some (V.int.inj z)⟩
  refine lc_pure (fun i => .int (1 + (i : Int))) walk_range (fun _ _ _ _ y _ => y) (isOpn ns) (fun i => .int (1 + (i : Int))) hD (by omega) (fun _ _ => trivial) (fun _ => rfl) (fun i hi => ?_) (fun i hi _ => Evl.ev_var rfl) (fun H' sm hl => ?_)
  · obtain ⟨g1, g2, g3⟩ := hget i (by omega)
    rw [g3]
    exact Evl.et_test (Evl.ev_op (Evl.ev_op (Evl.ev_var rfl) (Evl.ev_op (Evl.ev_var rfl) Evl.ev_c Evl.rv_I0) (Evl.rv_ixT hS (atN g1 (by omega))))
      (Evl.ev_op (Evl.ev_var rfl) (Evl.ev_op (Evl.ev_var rfl) Evl.ev_c Evl.rv_I0) (Evl.rv_ixT hS (atN g2 (by omega)))) (Evl.rv_eq rfl))
  · rw [e0, given_opn] at hl
    exact q D _ hD sm hl
def sp__law_struck (K : PySem.W.Frag) : Sp := fun vs H Q _ => ∃ (p a : Addr) (ns : List Int) (way : Int), vs = [.ref p, .ref a, .int way] ∧ Src H p ∧ SqT K H a (ns.map V.int) ∧ Row ns ∧ ∀ t b n H', Src H' p → Exb p H H' → SqT K H' t [.ref b, .int n] → SqT K H' b ((strk ns).map V.int) → (ns.length : Int) = (strk ns).length + 2 * n → Q (.ref t) H'
theorem ok__law_struck (F : Fun K "_law_struck" "_law_struck" s__law_struck f fd) (T : Txt mg) (c__law_one : Cal P w K mg base CX0 2 "_law_one" ["source", "things"] s__law_one (sp__law_one K)) (c__law_open : Cal P w K mg base CX0 1 "_law_open" ["row"] s__law_open (sp__law_open K)) : FnOk P w K mg base CX0 3 f fd ["source", "row", "way"] (sp__law_struck K) := by
  refine F.ok sc__law_struck (fun vs H Q E h => ?_) (fun cdv A outer s H vs Q E hr h => ?_)
  · obtain ⟨p, a, ns, way, rfl, _⟩ := h
    rfl
  obtain ⟨p, a, ns, way, rfl, hs, hS, hR, q⟩ := h
  refine ⟨_, (pss_cons (ps_set (i := 3) sc__law_struck.nd rfl (Or.inl rfl) pe_int)
      (pss_cons (ps_while PassesOwn.never (pt_cmpR (neD K hr.units) (pe_cal c__law_open (hr.mono (by decide)) pass0 (pa_cons (pv 1) pa_nil)) (pe_lst pa_nil) (nomark _)) (pss_cons (ps_set (i := 4) sc__law_struck.nd rfl (Or.inl rfl) (pe_cal c__law_open (hr.mono (by decide)) pass0 (pa_cons (pv 1) pa_nil)))
      (Evl.pss_cut (ps_set (i := 5) sc__law_struck.nd rfl (Or.inl rfl) (pe_ifExp (pt_cmpR op_eq (pv 2) pe_int (nomark _)) (pe_cal c__law_one (hr.mono (by decide)) pass0 (pa_cons (pv 0) (pa_cons (pv 4) pa_nil))) (pe_ifExp (pt_cmpR op_eq (pv 2) pe_int (nomark _)) (pe_ix (ixL K) (pv 4) pe_int (fun _ _ => rfl)) (pe_ix (ixL K) (pv 4) (pe_un un_neg pe_int) (fun _ _ => rfl)))))
      (pss_one (ps_par (i := 1) (j := 3) (by rfl) sc__law_struck.nd rfl rfl (by decide) rfl rfl (pa_cons (pe_op (catA K) (pe_slice (slT K) (pv 1) poN (po_some (pv 5))) (pe_slice (slT K) (pv 1) (po_some (pe_op op_add (pv 5) pe_int)) poN)) (pa_cons (pe_op op_add (pv 3) pe_int) pa_nil)) (by rfl))))))
      (pss_one (ps_ret (pe_tup (pa_cons (pv 1) (pa_cons (pv 3) pa_nil))))))), ?_⟩
  refine ⟨fun k σ' H' => ∃ (a : Addr) (ms : List Int) (n : Int) (y1 y2 : Option V), σ' = [some (.ref p), some (.ref a), some (.int way), some (.int n), y1, y2] ∧ Src H' p ∧ Exb p H H' ∧ SqT K H' a (ms.map V.int) ∧ Row ms ∧ strk ms = strk ns ∧ (ns.length : Int) = ms.length + 2 * n ∧ k = ms.length,
    ⟨_, a, ns, 0, none, none, rfl, hs, Exb.refl, hS, hR, rfl, by omega, rfl⟩, ?_⟩
  rintro k σ' H1 ⟨a, ms, n, y1, y2, rfl, s1, e1, hS, hR, hst, hn, rfl⟩
  -- while _law_open(row) != []
  refine ⟨.ref a, rfl, a, ms, rfl, hS, Nat.lt_of_le_of_lt hR.2.1 (by decide), fun o H2 no sm2 ho => ?_⟩
  refine ⟨Nat.zero_le _, fun z nz => neL (ms := []) (SqL.of (Same.new nz _ _ ho)) (SqL.of upd_same) ⟨_, rfl, ite2 (fun c => ?_) (fun c => ?_)⟩⟩
  · have s3 : Src (upd H2 z (.lst [])) p := (Same.new nz).src (Same.src sm2 s1)
    have sm3 : Same H1 (upd H2 z (.lst [])) := Same.trans sm2 (Same.new nz)
    have e3 := e1.trans (Exb.of sm3)
    have h3 := Same.tup sm3 hS
    generalize upd H2 z (.lst []) = H3 at s3 sm3 e3 h3
    have hne : opn ms ≠ [] := fun z => by rw [z] at c; cases c
    refine ⟨fun σ2 H2 => ∃ (a : Addr) (ms2 : List Int) (n : Int) (y1 y2 : Option V), σ2 = [some (.ref p), some (.ref a), some (.int way), some (.int n), y1, y2] ∧ Src H2 p ∧ Exb p H H2 ∧ SqT K H2 a (ms2.map V.int) ∧ Row ms2 ∧ strk ms2 = strk ns ∧ (ns.length : Int) = ms2.length + 2 * n ∧ ms2.length < ms.length, fun σ2 H2 h => ?_, ?_⟩
    · obtain ⟨a, ms2, n, y1, y2, e, a1, a2, a3, a4, a5, a6, a7⟩ := h
      exact ⟨ms2.length, a7, a, ms2, n, y1, y2, e, a1, a2, a3, a4, a5, a6, rfl⟩
    -- some = _law_open(row)
    refine ⟨.ref a, rfl, a, ms, rfl, h3, Nat.lt_of_le_of_lt hR.2.1 (by decide), fun o2 H4 no4 sm4 ho4 => ?_⟩
    have s4 := Same.src sm4 s3
    have e4 := e3.trans (Exb.of sm4)
    have h4 := Same.tup sm4 h3
    have no4p : o2 ≠ p := s3.ne no4
    -- one of them is struck
    have hpos : 0 < (opn ms).length := by
      cases e : opn ms with
      | nil => exact absurd e hne
      | cons x r => exact Nat.succ_pos _
    have hlt : (opn ms).length < 1000000 := by
      unfold opn
      rw [List.length_map]
      have := List.length_filter_le (isOpn ms) (List.range (ms.length - 2))
      rw [List.length_range] at this
      have := hR.2.1
      omega
    have get : ∀ j, (hj : j < (opn ms).length) → ((opn ms).map V.int)[j]? = some (.int (opn ms)[j]) := fun j hj => by
      rw [List.getElem?_map, List.getElem?_eq_getElem hj]
      rfl
    refine ⟨fun σ5 H5 => ∃ i : Int, σ5 = [some (.ref p), some (.ref a), some (.int way), some (.int n), some (.ref o2), some (.int i)] ∧ i ∈ opn ms ∧ Src H5 p ∧ Exb p H H5 ∧ SqT K H5 a (ms.map V.int), ?_, ?_⟩
    · refine ⟨.int way, rfl, rfl, _, rfl, ite2 (fun _ => ?_) (fun _ => ⟨.int way, rfl, rfl, _, rfl, ite2 (fun _ => ?_) (fun _ => ?_)⟩)⟩
      · refine ⟨.ref p, rfl, .ref o2, rfl, p, o2, _, rfl, s4, ho4, no4p, by rw [List.length_map]; exact hpos, by rw [List.length_map]; exact hlt, fun v H5 hv s5 e5 => ?_⟩
        obtain ⟨i, hi, rfl⟩ := List.mem_map.mp hv
        exact ⟨i, rfl, hi, s5, e4.trans e5, e5.tup s4 h4⟩
      · refine ⟨.ref o2, rfl, o2, _, 0, _, rfl, rfl, SqL.of ho4, atN (get 0 hpos) rfl, ?_⟩
        exact ⟨_, rfl, List.getElem_mem hpos, s4, e4, h4⟩
      · refine ⟨.ref o2, rfl, 1, rfl, o2, _, _, _, rfl, rfl, SqL.of ho4, atNeg (get ((opn ms).length - 1) (by omega)) (by rw [List.length_map]; omega), ?_⟩
        exact ⟨_, rfl, List.getElem_mem _, s4, e4, h4⟩
    rintro σ5 H5 ⟨i, rfl, hi, s5, e5, h5⟩
    obtain ⟨k, rfl, hk, hred⟩ := opn_red hi
    refine ⟨.ref a, rfl, .int (1 + (k : Int)), rfl, _, rfl, slA h5 fun p1 H6 sm6 hp1 => ?_⟩
    refine ⟨.ref a, rfl, .int (1 + (k : Int)), rfl, _, _, rfl, rfl, _, rfl, slA (Same.tup sm6 h5) fun p2 H7 sm7 hp2 => ?_⟩
    have c1 : cutV (ms.map V.int) none (some (1 + (k : Int))) = (ms.take (k + 1)).map V.int := by
      rw [show (1 + (k : Int)) = ((k + 1 : Nat) : Int) by omega, cutV_to, List.map_take]
    have c2 : cutV (ms.map V.int) (some (1 + (k : Int) + 2)) none = (ms.drop (k + 3)).map V.int := by
      rw [show (1 + (k : Int) + 2) = ((k + 3 : Nat) : Int) by omega, cutV_from, List.map_drop]
    rw [c1] at hp1
    rw [c2] at hp2
    have hl2 := red_len hred
    refine ctA (Same.tup sm7 hp1) hp2 (by rw [List.length_map, List.length_map, List.length_take, List.length_drop]; have := hR.2.1; omega) fun b H8 sm8 hb => ?_
    refine ⟨.int n, rfl, _, _, rfl, rfl, _, _, rfl, ?_⟩
    have sm : Same H5 H8 := Same.trans (Same.trans sm6 sm7) sm8
    refine ⟨b, ms.take (k + 1) ++ ms.drop (k + 3), n + 1, _, _, rfl, Same.src sm s5, e5.trans (Exb.of sm), by rw [List.map_append]; exact hb, red_row hred hR, (strk_red hred).symm.trans hst, by omega, by omega⟩
  · have hz : opn ms = [] := by
      cases e : opn ms with
      | nil => rfl
      | cons x r => rw [e] at c; exact absurd rfl c
    have hid : strk ns = ms := by rw [← hst, strk_id (opn_str hz)]
    refine ⟨.ref a, rfl, .int n, rfl, small (by show 2 ≤ 1000000; decide), fun t nt => ?_⟩
    have sm3 : Same H1 (upd (upd H2 z (.lst [])) t (.tup [.ref a, .int n])) := (Same.trans sm2 (Same.new nz)).trans (Same.new nt)
    exact q t a n _ (sm3.src s1) (e1.trans (Exb.of sm3)) (SqT.of upd_same) (by rw [hid]; exact sm3.tup hS) (by rw [hid]; exact hn)
def sp__law_right (K : PySem.W.Frag) : Sp := fun vs H Q _ => ∃ (p : Addr), vs = [.ref p] ∧ Src H p ∧ ∀ H', Exb p H H' → Q (.bl true) H'
theorem ok__law_right (F : Fun K "_law_right" "_law_right" s__law_right f fd) (T : Txt mg) (c_rest : Cal P w K mg base CX0 2 "rest" ["row"] s_rest (sp_rest K)) (c_is_straight : Cal P w K mg base CX0 2 "is_straight" ["row"] s_is_straight (sp_is_straight K)) (c_strikes : Cal P w K mg base CX0 2 "strikes" ["row"] s_strikes (sp_strikes K)) (c_turns : Cal P w K mg base CX0 2 "turns" ["row"] s_turns (sp_turns K)) (c_back : Cal P w K mg base CX0 2 "back" ["row"] s_back (sp_back K)) (c__law_take : Cal P w K mg base CX0 1 "_law_take" ["source", "top"] s__law_take (sp__law_take K)) (c__law_drawn : Cal P w K mg base CX0 3 "_law_drawn" ["source"] s__law_drawn (sp__law_drawn K)) (c__law_open : Cal P w K mg base CX0 1 "_law_open" ["row"] s__law_open (sp__law_open K)) (c__law_struck : Cal P w K mg base CX0 3 "_law_struck" ["source", "row", "way"] s__law_struck (sp__law_struck K)) : FnOk P w K mg base CX0 4 f fd ["source"] (sp__law_right K) := by
  refine F.ok sc__law_right (fun vs H Q E h => ?_) (fun cdv A outer s H vs Q E hr h => ?_)
  · obtain ⟨p, rfl, _⟩ := h
    rfl
  obtain ⟨p, rfl, hs, q⟩ := h
  refine ⟨_, (pss_cons (ps_set (i := 1) sc__law_right.nd rfl (Or.inl rfl) (pe_cal c__law_drawn (hr.mono (by decide)) pass0 (pa_cons (pv 0) pa_nil)))
      (pss_cons (ps_asg (pe_cal c__law_struck (hr.mono (by decide)) pass0 (pa_cons (pv 0) (pa_cons (pv 1) (pa_cons (pe_cal c__law_take (hr.mono (by decide)) pass0 (pa_cons (pv 0) (pa_cons pe_int pa_nil))) pa_nil)))) (pg_tup rfl (pgs_cons (pg_name (i := 2) sc__law_right.nd rfl (Or.inl rfl)) (pgs_cons (pg_name (i := 3) sc__law_right.nd rfl (Or.inl rfl)) pgs_nil))))
      (pss_cons (ps_set (i := 4) sc__law_right.nd rfl (Or.inl rfl) (pe_cal c_rest (hr.mono (by decide)) pass0 (pa_cons (pv 1) pa_nil)))
      (pss_cons (ps_if (PW.pt (pw_or (pt_cmpR (neD K hr.units) (pv 4) (pv 2) (nomark _)) (pw_or (pt_not (pt_val (pe_callB (isI K) (by rfl) T.n_isinstance (by decide +kernel) (pa_cons (pv 4) (pa_cons (pe_ty (T := "tuple") (by rfl) T.n_tuple (by decide +kernel)) pa_nil))))) (pw_or (pt_cmpR (neD K hr.units) (pe_calK0 c_rest kb_rest_row (hr.mono (by decide)) pass0 (pk_cons (pv 4) pk_nil)) (pv 4) (nomark _)) (pw_or1 (pt_cmpR op_ne (pe_calK0 c_strikes kb_strikes_row (hr.mono (by decide)) pass0 (pk_cons (pv 1) pk_nil)) (pv 3) (nomark _))))))) (pss_one (ps_ret pe_bl)) pss_nil)
      (pss_cons (ps_if (PW.pt (pw_or (pt_cmpR (neD K hr.units) (pe_calK0 c_turns kb_turns_row (hr.mono (by decide)) pass0 (pk_cons (pv 1) pk_nil)) (pe_callTy (tupOf K) (by rfl) T.n_tuple (by decide +kernel) (pa_cons (pe_cal c__law_open (hr.mono (by decide)) pass0 (pa_cons (pv 1) pa_nil)) pa_nil)) (nomark _)) (pw_or1 (pt_cmpR op_ne (pe_callB call_reprB (by rfl) T.n_repr (by decide +kernel) (pa_cons (pe_calK0 c_is_straight kb_is_straight_row (hr.mono (by decide)) pass0 (pk_cons (pv 1) pk_nil)) pa_nil)) (pe_callB call_reprB (by rfl) T.n_repr (by decide +kernel) (pa_cons (pe_cmpR (eqD K hr.units) (pe_cal c__law_open (hr.mono (by decide)) pass0 (pa_cons (pv 1) pa_nil)) (pe_lst pa_nil) (nomark _)) pa_nil)) (nomark _))))) (pss_one (ps_ret pe_bl)) pss_nil)
      (pss_cons (ps_if (PW.pt (pw_or (pt_cmpR (neD K hr.units) (pe_calK0 c_back kb_back_row (hr.mono (by decide)) pass0 (pk_cons (pv 1) pk_nil)) (pe_revT (pv 1)) (nomark _)) (pw_or1 (pt_cmpR (neD K hr.units) (pe_cal c_rest (hr.mono (by decide)) pass0 (pa_cons (pe_cal c_back (hr.mono (by decide)) pass0 (pa_cons (pv 1) pa_nil)) pa_nil)) (pe_revT (pv 4)) (nomark _))))) (pss_one (ps_ret pe_bl)) pss_nil)
      (pss_one (ps_ret (pe_and (pe_cmpR op_isBl (pe_cal c_is_straight (hr.mono (by decide)) pass0 (pa_cons (pv 4) pa_nil)) pe_bl (nomark _)) (pe_and (pe_cmpR op_eq (pe_cal c_strikes (hr.mono (by decide)) pass0 (pa_cons (pv 4) pa_nil)) pe_int (nomark _)) (pe_one (pe_cmpR (eqD K hr.units) (pe_cal c_turns (hr.mono (by decide)) pass0 (pa_cons (pv 4) pa_nil)) (pe_tup pa_nil) (nomark _))))))))))))), ?_⟩
  refine ⟨.ref p, rfl, p, rfl, hs, fun a ns H1 hR s1 e1 hS => ?_⟩
  refine ⟨.ref p, rfl, .ref a, rfl, .ref p, rfl, p, 3, rfl, s1, by decide, by decide, fun r H2 _ _ s2 e2 => ?_⟩
  refine ⟨p, a, ns, r, rfl, s2, e2.tup s1 hS, hR, fun t b n H3 s3 e3 ht hb hn => ?_⟩
  have hz : ns.length < 10000 := Nat.lt_of_le_of_lt hR.2.1 (by decide)
  have hS : SqT K H3 a (ns.map V.int) := e3.tup s2 (e2.tup s1 hS)
  have eH : Exb p H H3 := (e1.trans e2).trans e3
  refine ⟨t, _, rfl, ht, rfl, _, _, rfl, _, _, rfl, rfl, ?_⟩
  refine ⟨.ref a, rfl, a, ns, rfl, hS, hR, fun c H4 m4 hc => ?_⟩
  -- the first test
  refine ⟨.ref c, rfl, .ref b, rfl, neT hc (Same.tup m4 hb) ⟨_, rfl, itF (by simp) ?_⟩⟩
  refine ⟨.ref c, rfl, .ref c, .ty "tuple", .type "tuple", .type "tuple", true, rfl, .ty _, tyT hc, kit_ty (by decide +kernel), _, rfl, iteF ?_⟩
  refine ⟨.ref c, rfl, c, strk ns, rfl, hc, hR.strk, fun d H5 m5 hd => ⟨.ref c, rfl, neT hd (Same.tup m5 hc) ⟨_, rfl, itF (by rw [strk_idem]; simp) ?_⟩⟩⟩
  have m5 : Same H3 H5 := Same.trans m4 m5
  have hc5 : SqT K H5 c ((strk ns).map V.int) := Same.tup (by assumption) hc
  refine ⟨.ref a, rfl, a, ns, rfl, m5.tup hS, hR, fun H6 m6 => ⟨.int n, rfl, rfl, _, rfl, itF (by
    have e : ((ns.length : Int) - ((strk ns).length : Int)) / 2 = n := by omega
    rw [e]; simp) ?_⟩⟩
  have m6 : Same H3 H6 := m5.trans m6
  have hc6 : SqT K H6 c ((strk ns).map V.int) := Same.tup (by assumption) hc5
  -- the second test
  refine ⟨.ref a, rfl, a, ns, rfl, m6.tup hS, hR, fun d H7 m7 hd => ?_⟩
  have m7' : Same H3 H7 := m6.trans m7
  refine ⟨.ref a, rfl, a, ns, rfl, m7'.tup hS, hz, fun o H8 no m8 ho => ⟨o, _, rfl, .inl ⟨SqL.of ho, fun x nx => neT ((Same.new nx).tup (Same.tup m8 hd)) (SqT.of upd_same) ⟨_, rfl, itF (by simp) ?_⟩⟩⟩⟩
  have m8' : Same H6 (upd H8 x (.tup ((opn ns).map V.int))) := (Same.trans m7 m8).trans (Same.new nx)
  generalize upd H8 x (.tup ((opn ns).map V.int)) = H9 at m8'
  have m9 : Same H3 H9 := m6.trans m8'
  refine ⟨.ref a, rfl, a, ns, rfl, m9.tup hS, hR, fun H10 m10 => ⟨_, rfl, ?_⟩⟩
  have m10' : Same H3 H10 := m9.trans m10
  refine ⟨.ref a, rfl, a, ns, rfl, m10'.tup hS, hz, fun o2 H11 no2 m11 ho2 => ?_⟩
  refine ⟨Nat.zero_le _, fun z nz => eqL (ms := []) (SqL.of (Same.new nz _ _ ho2)) (SqL.of upd_same) ⟨_, rfl, rfl, _, rfl, itF (by simp) ?_⟩⟩
  have m12 : Same H6 (upd H11 z (.lst [])) := ((m8'.trans m10).trans m11).trans (Same.new nz)
  generalize upd H11 z (.lst []) = H12 at m12
  have n12 : Same H3 H12 := m6.trans m12
  have hc12 := m12.tup hc6
  -- the third test
  refine ⟨.ref a, rfl, a, ns, rfl, n12.tup hS, hR, fun d1 H13 m13 hd1 => ?_⟩
  have n13 : Same H3 H13 := n12.trans m13
  refine ⟨.ref a, rfl, a, _, rfl, n13.tup hS, fun x1 nx1 => neT ((Same.new nx1).tup hd1) (SqT.of (by rw [upd_same, List.map_reverse])) ⟨_, rfl, itF (by simp) ?_⟩⟩
  have m14 : Same H12 (upd H13 x1 (.tup (ns.map V.int).reverse)) := Same.trans m13 (Same.new nx1)
  generalize upd H13 x1 (.tup (ns.map V.int).reverse) = H14 at m14
  refine ⟨.ref a, rfl, a, ns, rfl, (n12.trans m14).tup hS, hR, fun d2 H15 m15 hd2 => ?_⟩
  refine ⟨d2, ns.reverse, rfl, hd2, hR.rev, fun d3 H16 m16 hd3 => ?_⟩
  have hc16 : SqT K H16 c ((strk ns).map V.int) := Same.tup m16 (Same.tup m15 (m14.tup hc12))
  refine ⟨.ref c, rfl, c, _, rfl, hc16, fun x2 nx2 => neT ((Same.new nx2).tup hd3) (SqT.of (by rw [upd_same, ← List.map_reverse])) ⟨_, rfl, itF (by rw [strk_rev]; simp) ?_⟩⟩
  have m17 : Same H3 (upd H16 x2 (.tup ((strk ns).map V.int).reverse)) := (((n12.trans m14).trans m15).trans m16).trans (Same.new nx2)
  have hc17 := (Same.new nx2 (o := .tup ((strk ns).map V.int).reverse)).tup hc16
  generalize upd H16 x2 (.tup ((strk ns).map V.int).reverse) = H17 at m17 hc17
  -- the end
  have hst : opn (strk ns) = [] := str_opn (strk_str ns)
  refine ⟨.ref c, rfl, c, strk ns, rfl, hc17, hR.strk, fun H18 m18 => ⟨_, true, rfl, rfl, _, rfl, itT (by rw [hst]; simp) ?_⟩⟩
  have hc18 := Same.tup m18 hc17
  refine ⟨.ref c, rfl, c, strk ns, rfl, hc18, hR.strk, fun H19 m19 => ⟨rfl, _, rfl, itT (by rw [strk_idem]; simp) ?_⟩⟩
  have hc19 := Same.tup m19 hc18
  refine ⟨.ref c, rfl, c, strk ns, rfl, hc19, hR.strk, fun d4 H20 m20 hd4 => ⟨Nat.zero_le _, fun x3 nx3 => eqT (ms := []) ((Same.new nx3).tup hd4) (SqT.of upd_same) ?_⟩⟩
  rw [hst, decide_eq_true rfl]
  exact q _ (eH.trans (Exb.of (((m17.trans m18).trans m19).trans (Same.trans m20 (Same.new nx3)))))
def sp_law (K : PySem.W.Frag) : Sp := fun vs H Q _ => ∃ (a : Addr) (ns : List Int), vs = [.ref a] ∧ SqL K H a (ns.map V.int) ∧ ns.length ≤ 63 ∧ ∀ H', Q (.bl true) H'
theorem ok_law (F : Fun K "law" "law" s_law f fd) (T : Txt mg) (c__law_pool : Cal P w K mg base CX0 1 "_law_pool" ["script", "k"] s__law_pool (sp__law_pool K)) (c__law_right : Cal P w K mg base CX0 4 "_law_right" ["source"] s__law_right (sp__law_right K)) : FnOk P w K mg base CX0 5 f fd ["script"] (sp_law K) := by
  refine F.ok sc_law (fun vs H Q E h => ?_) (fun cdv A outer s H vs Q E hr h => ?_)
  · obtain ⟨a, ns, rfl, _⟩ := h
    rfl
  obtain ⟨a, ns, rfl, hS, hz, q⟩ := h
  refine ⟨_, (pss_cons (ps_for PassesOwn.never rfl (pi_range1 (by rfl) T.n_range (pa_cons (pe_callB (call_max2 rfl) (by rfl) T.n_max (by decide +kernel) (pa_cons pe_int (pa_cons (pe_callB (call_min2 rfl) (by rfl) T.n_min (by decide +kernel) (pa_cons (pe_callB (lenS K) (by rfl) T.n_len PySem.boot_len (pa_cons (pv 0) pa_nil)) (pa_cons pe_int pa_nil))) pa_nil))) pa_nil)) (pg_name (i := 1) sc_law.nd rfl (Or.inl rfl)) (pss_one (ps_if (pt_not (pt_val (pe_cal c__law_right (hr.mono (by decide)) pass0 (pa_cons (pe_cal c__law_pool (hr.mono (by decide)) pass0 (pa_cons (pv 0) (pa_cons (pv 1) pa_nil))) pa_nil)))) (pss_one (ps_ret pe_bl)) pss_nil)))
      (pss_one (ps_ret pe_bl))), ?_⟩
  have hb := maxB ((ns.map V.int).length : Nat) (Int.natCast_nonneg _)
  refine ⟨.ref a, rfl, a, _, rfl, .inl hS, _, _, rfl, _, _, rfl, _, rfl, by omega, by omega, for_range (fun i σ H' => (∃ y, σ = [some (.ref a), y]) ∧ Same H H') ⟨⟨_, rfl⟩, Same.refl _⟩ ?_ ?_⟩
  · rintro i σ H1 hi ⟨⟨y, rfl⟩, m1⟩
    refine ⟨.ref a, rfl, .int (0 + (i : Int)), rfl, a, ns, _, rfl, m1.seq hS, by omega, by omega, fun p H2 np m2 s2 => ?_⟩
    refine ⟨p, rfl, s2, fun H3 e3 => ⟨_, rfl, iteF ?_⟩⟩
    exact ⟨⟨_, rfl⟩, Same.used m1 np m2 e3⟩
  · rintro σ H1 ⟨⟨y, rfl⟩, m1⟩
    exact q _
end
theorem law_start {K : PySem.W.Frag} {H : Hp} (a : Addr) (ns : List Int) (hl : ns.length ≤ 63) (hS : SqL K H a (ns.map V.int)) : sp_law K [.ref a] H (fun v _ => v = .bl true) fun _ _ _ => False := ⟨a, ns, rfl, hS, hl, fun _ => rfl⟩
/-! ### what the top has written -/
theorem all_mk {l : PySem.W.OpenLaw} {w : World} {K : PySem.W.Frag} {h : Heap} {mg : Str → Option Value} {fa : Addr} (X : K.In h) (G : h.Ns mainGlobals mg) (hfa : mg "law" = some (.ref fa))
    {od0 an0 : Option Addr} {sl0 : Array (Option Value)} {oc0 kV0 dc0 pm0 cd0 ct0 : Value} {f0 : Addr}
    {od1 an1 : Option Addr} {sl1 : Array (Option Value)} {oc1 kV1 dc1 pm1 cd1 ct1 : Value} {f1 : Addr}
    {od2 an2 : Option Addr} {sl2 : Array (Option Value)} {oc2 kV2 dc2 pm2 cd2 ct2 : Value} {f2 : Addr}
    {od3 an3 : Option Addr} {sl3 : Array (Option Value)} {oc3 kV3 dc3 pm3 cd3 ct3 : Value} {f3 : Addr}
    {od4 an4 : Option Addr} {sl4 : Array (Option Value)} {oc4 kV4 dc4 pm4 cd4 ct4 : Value} {f4 : Addr}
    {od5 an5 : Option Addr} {sl5 : Array (Option Value)} {oc5 kV5 dc5 pm5 cd5 ct5 : Value} {f5 : Addr}
    {od6 an6 : Option Addr} {sl6 : Array (Option Value)} {oc6 kV6 dc6 pm6 cd6 ct6 : Value} {f6 : Addr}
    {od7 an7 : Option Addr} {sl7 : Array (Option Value)} {oc7 kV7 dc7 pm7 cd7 ct7 : Value} {f7 : Addr}
    {od8 an8 : Option Addr} {sl8 : Array (Option Value)} {oc8 kV8 dc8 pm8 cd8 ct8 : Value} {f8 : Addr}
    {od9 an9 : Option Addr} {sl9 : Array (Option Value)} {oc9 kV9 dc9 pm9 cd9 ct9 : Value} {f9 : Addr}
    {od10 an10 : Option Addr} {sl10 : Array (Option Value)} {oc10 kV10 dc10 pm10 cd10 ct10 : Value} {f10 : Addr}
    {od11 an11 : Option Addr} {sl11 : Array (Option Value)} {oc11 kV11 dc11 pm11 cd11 ct11 : Value} {f11 : Addr}
    {od12 an12 : Option Addr} {sl12 : Array (Option Value)} {oc12 kV12 dc12 pm12 cd12 ct12 : Value} {f12 : Addr}
    {od13 an13 : Option Addr} {sl13 : Array (Option Value)} {oc13 kV13 dc13 pm13 cd13 ct13 : Value} {f13 : Addr}
    {od14 an14 : Option Addr} {sl14 : Array (Option Value)} {oc14 kV14 dc14 pm14 cd14 ct14 : Value} {f14 : Addr}
    {od15 an15 : Option Addr} {sl15 : Array (Option Value)} {oc15 kV15 dc15 pm15 cd15 ct15 : Value} {f15 : Addr}
    
    (a0 : PySem.W.nsIn K mainGlobals "check_row" = some (some (.ref f0))) (l0 : K.lookup f0 = some ⟨oc0, od0, .func (PySem.W.fnOf "check_row" "check_row" (defArgs s_check_row) (defBody s_check_row) (defScope s_check_row) .none kV0 dc0 pm0 an0 cd0 ct0), sl0⟩) (c0 : PySem.W.codeIn K cd0 "check_row" = true) (k0 : PySem.W.keepIn K (.ref f0) = true)
    (a1 : PySem.W.nsIn K mainGlobals "struck" = some (some (.ref f1))) (l1 : K.lookup f1 = some ⟨oc1, od1, .func (PySem.W.fnOf "struck" "struck" (defArgs s_struck) (defBody s_struck) (defScope s_struck) .none kV1 dc1 pm1 an1 cd1 ct1), sl1⟩) (c1 : PySem.W.codeIn K cd1 "struck" = true) (k1 : PySem.W.keepIn K (.ref f1) = true)
    (a2 : PySem.W.nsIn K mainGlobals "bends" = some (some (.ref f2))) (l2 : K.lookup f2 = some ⟨oc2, od2, .func (PySem.W.fnOf "bends" "bends" (defArgs s_bends) (defBody s_bends) (defScope s_bends) .none kV2 dc2 pm2 an2 cd2 ct2), sl2⟩) (c2 : PySem.W.codeIn K cd2 "bends" = true) (k2 : PySem.W.keepIn K (.ref f2) = true)
    (a3 : PySem.W.nsIn K mainGlobals "rest" = some (some (.ref f3))) (l3 : K.lookup f3 = some ⟨oc3, od3, .func (PySem.W.fnOf "rest" "rest" (defArgs s_rest) (defBody s_rest) (defScope s_rest) .none kV3 dc3 pm3 an3 cd3 ct3), sl3⟩) (c3 : PySem.W.codeIn K cd3 "rest" = true) (k3 : PySem.W.keepIn K (.ref f3) = true)
    (a4 : PySem.W.nsIn K mainGlobals "is_straight" = some (some (.ref f4))) (l4 : K.lookup f4 = some ⟨oc4, od4, .func (PySem.W.fnOf "is_straight" "is_straight" (defArgs s_is_straight) (defBody s_is_straight) (defScope s_is_straight) .none kV4 dc4 pm4 an4 cd4 ct4), sl4⟩) (c4 : PySem.W.codeIn K cd4 "is_straight" = true) (k4 : PySem.W.keepIn K (.ref f4) = true)
    (a5 : PySem.W.nsIn K mainGlobals "strikes" = some (some (.ref f5))) (l5 : K.lookup f5 = some ⟨oc5, od5, .func (PySem.W.fnOf "strikes" "strikes" (defArgs s_strikes) (defBody s_strikes) (defScope s_strikes) .none kV5 dc5 pm5 an5 cd5 ct5), sl5⟩) (c5 : PySem.W.codeIn K cd5 "strikes" = true) (k5 : PySem.W.keepIn K (.ref f5) = true)
    (a6 : PySem.W.nsIn K mainGlobals "turns" = some (some (.ref f6))) (l6 : K.lookup f6 = some ⟨oc6, od6, .func (PySem.W.fnOf "turns" "turns" (defArgs s_turns) (defBody s_turns) (defScope s_turns) .none kV6 dc6 pm6 an6 cd6 ct6), sl6⟩) (c6 : PySem.W.codeIn K cd6 "turns" = true) (k6 : PySem.W.keepIn K (.ref f6) = true)
    (a7 : PySem.W.nsIn K mainGlobals "back" = some (some (.ref f7))) (l7 : K.lookup f7 = some ⟨oc7, od7, .func (PySem.W.fnOf "back" "back" (defArgs s_back) (defBody s_back) (defScope s_back) .none kV7 dc7 pm7 an7 cd7 ct7), sl7⟩) (c7 : PySem.W.codeIn K cd7 "back" = true) (k7 : PySem.W.keepIn K (.ref f7) = true)
    (a8 : PySem.W.nsIn K mainGlobals "_law_pool" = some (some (.ref f8))) (l8 : K.lookup f8 = some ⟨oc8, od8, .func (PySem.W.fnOf "_law_pool" "_law_pool" (defArgs s__law_pool) (defBody s__law_pool) (defScope s__law_pool) .none kV8 dc8 pm8 an8 cd8 ct8), sl8⟩) (c8 : PySem.W.codeIn K cd8 "_law_pool" = true) (k8 : PySem.W.keepIn K (.ref f8) = true)
    (a9 : PySem.W.nsIn K mainGlobals "_law_take" = some (some (.ref f9))) (l9 : K.lookup f9 = some ⟨oc9, od9, .func (PySem.W.fnOf "_law_take" "_law_take" (defArgs s__law_take) (defBody s__law_take) (defScope s__law_take) .none kV9 dc9 pm9 an9 cd9 ct9), sl9⟩) (c9 : PySem.W.codeIn K cd9 "_law_take" = true) (k9 : PySem.W.keepIn K (.ref f9) = true)
    (a10 : PySem.W.nsIn K mainGlobals "_law_one" = some (some (.ref f10))) (l10 : K.lookup f10 = some ⟨oc10, od10, .func (PySem.W.fnOf "_law_one" "_law_one" (defArgs s__law_one) (defBody s__law_one) (defScope s__law_one) .none kV10 dc10 pm10 an10 cd10 ct10), sl10⟩) (c10 : PySem.W.codeIn K cd10 "_law_one" = true) (k10 : PySem.W.keepIn K (.ref f10) = true)
    (a11 : PySem.W.nsIn K mainGlobals "_law_drawn" = some (some (.ref f11))) (l11 : K.lookup f11 = some ⟨oc11, od11, .func (PySem.W.fnOf "_law_drawn" "_law_drawn" (defArgs s__law_drawn) (defBody s__law_drawn) (defScope s__law_drawn) .none kV11 dc11 pm11 an11 cd11 ct11), sl11⟩) (c11 : PySem.W.codeIn K cd11 "_law_drawn" = true) (k11 : PySem.W.keepIn K (.ref f11) = true)
    (a12 : PySem.W.nsIn K mainGlobals "_law_open" = some (some (.ref f12))) (l12 : K.lookup f12 = some ⟨oc12, od12, .func (PySem.W.fnOf "_law_open" "_law_open" (defArgs s__law_open) (defBody s__law_open) (defScope s__law_open) .none kV12 dc12 pm12 an12 cd12 ct12), sl12⟩) (c12 : PySem.W.codeIn K cd12 "_law_open" = true) (k12 : PySem.W.keepIn K (.ref f12) = true)
    (a13 : PySem.W.nsIn K mainGlobals "_law_struck" = some (some (.ref f13))) (l13 : K.lookup f13 = some ⟨oc13, od13, .func (PySem.W.fnOf "_law_struck" "_law_struck" (defArgs s__law_struck) (defBody s__law_struck) (defScope s__law_struck) .none kV13 dc13 pm13 an13 cd13 ct13), sl13⟩) (c13 : PySem.W.codeIn K cd13 "_law_struck" = true) (k13 : PySem.W.keepIn K (.ref f13) = true)
    (a14 : PySem.W.nsIn K mainGlobals "_law_right" = some (some (.ref f14))) (l14 : K.lookup f14 = some ⟨oc14, od14, .func (PySem.W.fnOf "_law_right" "_law_right" (defArgs s__law_right) (defBody s__law_right) (defScope s__law_right) .none kV14 dc14 pm14 an14 cd14 ct14), sl14⟩) (c14 : PySem.W.codeIn K cd14 "_law_right" = true) (k14 : PySem.W.keepIn K (.ref f14) = true)
    (a15 : PySem.W.nsIn K mainGlobals "law" = some (some (.ref f15))) (l15 : K.lookup f15 = some ⟨oc15, od15, .func (PySem.W.fnOf "law" "law" (defArgs s_law) (defBody s_law) (defScope s_law) .none kV15 dc15 pm15 an15 cd15 ct15), sl15⟩) (c15 : PySem.W.codeIn K cd15 "law" = true) (k15 : PySem.W.keepIn K (.ref f15) = true)
    (z_enumerate : PySem.W.nsIn K mainGlobals "enumerate" = some none)
    (z_int : PySem.W.nsIn K mainGlobals "int" = some none)
    (z_isinstance : PySem.W.nsIn K mainGlobals "isinstance" = some none)
    (z_len : PySem.W.nsIn K mainGlobals "len" = some none)
    (z_max : PySem.W.nsIn K mainGlobals "max" = some none)
    (z_min : PySem.W.nsIn K mainGlobals "min" = some none)
    (z_range : PySem.W.nsIn K mainGlobals "range" = some none)
    (z_repr : PySem.W.nsIn K mainGlobals "repr" = some none)
    (z_tuple : PySem.W.nsIn K mainGlobals "tuple" = some none)
    (y_LAST_COAT : ∃ t, PySem.W.nsIn K mainGlobals "LAST_COAT" = some (some (.int 7 t)))
    (y_MOST_STONES : ∃ t, PySem.W.nsIn K mainGlobals "MOST_STONES" = some (some (.int 200 t))) :
    ∃ fd : FuncData, (∀ (s : Shared) (v : Value), BindsTo s fd ⟨[v], []⟩ [("script", v)]) ∧ ∀ base : Heap, K.In base → base.Ns mainGlobals mg → FnOk l.prog w K mg base CX0 5 fa fd ["script"] (sp_law K) := by
  have e := hfa.symm.trans (PySem.W.mg_of X G a15)
  cases e
  have T : Txt mg := ⟨PySem.W.mg_none_of X G z_enumerate, PySem.W.mg_none_of X G z_int, PySem.W.mg_none_of X G z_isinstance, PySem.W.mg_none_of X G z_len, PySem.W.mg_none_of X G z_max, PySem.W.mg_none_of X G z_min, PySem.W.mg_none_of X G z_range, PySem.W.mg_none_of X G z_repr, PySem.W.mg_none_of X G z_tuple, (let ⟨t, y⟩ := y_LAST_COAT; ⟨t, PySem.W.mg_of X G y⟩), (let ⟨t, y⟩ := y_MOST_STONES; ⟨t, PySem.W.mg_of X G y⟩)⟩
  have F0 := fun_mk (st := s_check_row) l0 c0 k0
  have b0 := F0.binds (ps := ["row"]) fun _ _ _ _ _ _ us hl => match us, hl with | [_], _ => rfl
  have F1 := fun_mk (st := s_struck) l1 c1 k1
  have b1 := F1.binds (ps := ["stones"]) fun _ _ _ _ _ _ us hl => match us, hl with | [_], _ => rfl
  have F2 := fun_mk (st := s_bends) l2 c2 k2
  have b2 := F2.binds (ps := ["stones"]) fun _ _ _ _ _ _ us hl => match us, hl with | [_], _ => rfl
  have F3 := fun_mk (st := s_rest) l3 c3 k3
  have b3 := F3.binds (ps := ["row"]) fun _ _ _ _ _ _ us hl => match us, hl with | [_], _ => rfl
  have F4 := fun_mk (st := s_is_straight) l4 c4 k4
  have b4 := F4.binds (ps := ["row"]) fun _ _ _ _ _ _ us hl => match us, hl with | [_], _ => rfl
  have F5 := fun_mk (st := s_strikes) l5 c5 k5
  have b5 := F5.binds (ps := ["row"]) fun _ _ _ _ _ _ us hl => match us, hl with | [_], _ => rfl
  have F6 := fun_mk (st := s_turns) l6 c6 k6
  have b6 := F6.binds (ps := ["row"]) fun _ _ _ _ _ _ us hl => match us, hl with | [_], _ => rfl
  have F7 := fun_mk (st := s_back) l7 c7 k7
  have b7 := F7.binds (ps := ["row"]) fun _ _ _ _ _ _ us hl => match us, hl with | [_], _ => rfl
  have F8 := fun_mk (st := s__law_pool) l8 c8 k8
  have b8 := F8.binds (ps := ["script", "k"]) fun _ _ _ _ _ _ us hl => match us, hl with | [_, _], _ => rfl
  have F9 := fun_mk (st := s__law_take) l9 c9 k9
  have b9 := F9.binds (ps := ["source", "top"]) fun _ _ _ _ _ _ us hl => match us, hl with | [_, _], _ => rfl
  have F10 := fun_mk (st := s__law_one) l10 c10 k10
  have b10 := F10.binds (ps := ["source", "things"]) fun _ _ _ _ _ _ us hl => match us, hl with | [_, _], _ => rfl
  have F11 := fun_mk (st := s__law_drawn) l11 c11 k11
  have b11 := F11.binds (ps := ["source"]) fun _ _ _ _ _ _ us hl => match us, hl with | [_], _ => rfl
  have F12 := fun_mk (st := s__law_open) l12 c12 k12
  have b12 := F12.binds (ps := ["row"]) fun _ _ _ _ _ _ us hl => match us, hl with | [_], _ => rfl
  have F13 := fun_mk (st := s__law_struck) l13 c13 k13
  have b13 := F13.binds (ps := ["source", "row", "way"]) fun _ _ _ _ _ _ us hl => match us, hl with | [_, _, _], _ => rfl
  have F14 := fun_mk (st := s__law_right) l14 c14 k14
  have b14 := F14.binds (ps := ["source"]) fun _ _ _ _ _ _ us hl => match us, hl with | [_], _ => rfl
  have F15 := fun_mk (st := s_law) l15 c15 k15
  refine ⟨PySem.W.fnOf "law" "law" (defArgs s_law) (defBody s_law) (defScope s_law) .none kV15 dc15 pm15 an15 cd15 ct15, fun s v => .of_eq rfl, fun base _ _ => ?_⟩
  have c_check_row : Cal l.prog w K mg base CX0 1 "check_row" ["row"] s_check_row (sp_check_row K) := ⟨_, _, ok_check_row F0 T , F0, PySem.W.mg_of X G a0, b0⟩
  have c_struck : Cal l.prog w K mg base CX0 1 "struck" ["stones"] s_struck (sp_struck K) := ⟨_, _, ok_struck F1 T , F1, PySem.W.mg_of X G a1, b1⟩
  have c_bends : Cal l.prog w K mg base CX0 1 "bends" ["stones"] s_bends (sp_bends K) := ⟨_, _, ok_bends F2 T , F2, PySem.W.mg_of X G a2, b2⟩
  have c_rest : Cal l.prog w K mg base CX0 2 "rest" ["row"] s_rest (sp_rest K) := ⟨_, _, ok_rest F3 T c_check_row c_struck, F3, PySem.W.mg_of X G a3, b3⟩
  have c_is_straight : Cal l.prog w K mg base CX0 2 "is_straight" ["row"] s_is_straight (sp_is_straight K) := ⟨_, _, ok_is_straight F4 T c_check_row c_bends, F4, PySem.W.mg_of X G a4, b4⟩
  have c_strikes : Cal l.prog w K mg base CX0 2 "strikes" ["row"] s_strikes (sp_strikes K) := ⟨_, _, ok_strikes F5 T c_check_row c_struck, F5, PySem.W.mg_of X G a5, b5⟩
  have c_turns : Cal l.prog w K mg base CX0 2 "turns" ["row"] s_turns (sp_turns K) := ⟨_, _, ok_turns F6 T c_check_row c_bends, F6, PySem.W.mg_of X G a6, b6⟩
  have c_back : Cal l.prog w K mg base CX0 2 "back" ["row"] s_back (sp_back K) := ⟨_, _, ok_back F7 T c_check_row, F7, PySem.W.mg_of X G a7, b7⟩
  have c__law_pool : Cal l.prog w K mg base CX0 1 "_law_pool" ["script", "k"] s__law_pool (sp__law_pool K) := ⟨_, _, ok__law_pool F8 T , F8, PySem.W.mg_of X G a8, b8⟩
  have c__law_take : Cal l.prog w K mg base CX0 1 "_law_take" ["source", "top"] s__law_take (sp__law_take K) := ⟨_, _, ok__law_take F9 T , F9, PySem.W.mg_of X G a9, b9⟩
  have c__law_one : Cal l.prog w K mg base CX0 2 "_law_one" ["source", "things"] s__law_one (sp__law_one K) := ⟨_, _, ok__law_one F10 T c__law_take, F10, PySem.W.mg_of X G a10, b10⟩
  have c__law_drawn : Cal l.prog w K mg base CX0 3 "_law_drawn" ["source"] s__law_drawn (sp__law_drawn K) := ⟨_, _, ok__law_drawn F11 T c__law_take c__law_one, F11, PySem.W.mg_of X G a11, b11⟩
  have c__law_open : Cal l.prog w K mg base CX0 1 "_law_open" ["row"] s__law_open (sp__law_open K) := ⟨_, _, ok__law_open F12 T , F12, PySem.W.mg_of X G a12, b12⟩
  have c__law_struck : Cal l.prog w K mg base CX0 3 "_law_struck" ["source", "row", "way"] s__law_struck (sp__law_struck K) := ⟨_, _, ok__law_struck F13 T c__law_one c__law_open, F13, PySem.W.mg_of X G a13, b13⟩
  have c__law_right : Cal l.prog w K mg base CX0 4 "_law_right" ["source"] s__law_right (sp__law_right K) := ⟨_, _, ok__law_right F14 T c_rest c_is_straight c_strikes c_turns c_back c__law_take c__law_drawn c__law_open c__law_struck, F14, PySem.W.mg_of X G a14, b14⟩
  exact ok_law F15 T c__law_pool c__law_right
end K
open PySem PySem.W PyProof.Rows
set_option maxHeartbeats 0 in
theorem PySem.Challenge.cw_betweencoats_k07_rows_struck_in_any_orde_holds : PySem.Challenge.rw_betweencoats_k07_rows_struck_in_any_orde.Holds := by
  w_on; o_law; k_head; (case hw => w_witness2)
  k_fill
  refine L2.walk_of (l := PySem.Challenge.rw_betweencoats_k07_rows_struck_in_any_orde) (n := 63) (k := 5) (x := "script") (CX := fun _ => L2.CX0) (sp := fun w => K.sp_law _) rfl (by decide) rfl ⟨rfl, by decide, by decide⟩ (fun w h Y => PySem.W.kIn_of Y) ?F (fun _ _ a ns hl _ hS => K.law_start a ns hl hS) (fun _ _ _ _ _ h => h)
  case F =>
    intro w mg fa h KX G hmg
    refine' K.all_mk KX G hmg ?a0 ?l0 ?c0 ?k0 ?a1 ?l1 ?c1 ?k1 ?a2 ?l2 ?c2 ?k2 ?a3 ?l3 ?c3 ?k3 ?a4 ?l4 ?c4 ?k4 ?a5 ?l5 ?c5 ?k5 ?a6 ?l6 ?c6 ?k6 ?a7 ?l7 ?c7 ?k7 ?a8 ?l8 ?c8 ?k8 ?a9 ?l9 ?c9 ?k9 ?a10 ?l10 ?c10 ?k10 ?a11 ?l11 ?c11 ?k11 ?a12 ?l12 ?c12 ?k12 ?a13 ?l13 ?c13 ?k13 ?a14 ?l14 ?c14 ?k14 ?a15 ?l15 ?c15 ?k15 ?z_enumerate ?z_int ?z_isinstance ?z_len ?z_max ?z_min ?z_range ?z_repr ?z_tuple ?y_LAST_COAT ?y_MOST_STONES
    (case a0 => k_is)
    (case l0 => k_is)
    (case c0 => k_is)
    (case k0 => k_is)
    (case a1 => k_is)
    (case l1 => k_is)
    (case c1 => k_is)
    (case k1 => k_is)
    (case a2 => k_is)
    (case l2 => k_is)
    (case c2 => k_is)
    (case k2 => k_is)
    (case a3 => k_is)
    (case l3 => k_is)
    (case c3 => k_is)
    (case k3 => k_is)
    (case a4 => k_is)
    (case l4 => k_is)
    (case c4 => k_is)
    (case k4 => k_is)
    (case a5 => k_is)
    (case l5 => k_is)
    (case c5 => k_is)
    (case k5 => k_is)
    (case a6 => k_is)
    (case l6 => k_is)
    (case c6 => k_is)
    (case k6 => k_is)
    (case a7 => k_is)
    (case l7 => k_is)
    (case c7 => k_is)
    (case k7 => k_is)
    (case a8 => k_is)
    (case l8 => k_is)
    (case c8 => k_is)
    (case k8 => k_is)
    (case a9 => k_is)
    (case l9 => k_is)
    (case c9 => k_is)
    (case k9 => k_is)
    (case a10 => k_is)
    (case l10 => k_is)
    (case c10 => k_is)
    (case k10 => k_is)
    (case a11 => k_is)
    (case l11 => k_is)
    (case c11 => k_is)
    (case k11 => k_is)
    (case a12 => k_is)
    (case l12 => k_is)
    (case c12 => k_is)
    (case k12 => k_is)
    (case a13 => k_is)
    (case l13 => k_is)
    (case c13 => k_is)
    (case k13 => k_is)
    (case a14 => k_is)
    (case l14 => k_is)
    (case c14 => k_is)
    (case k14 => k_is)
    (case a15 => k_is)
    (case l15 => k_is)
    (case c15 => k_is)
    (case k15 => k_is)
    (case z_enumerate => k_is)
    (case z_int => k_is)
    (case z_isinstance => k_is)
    (case z_len => k_is)
    (case z_max => k_is)
    (case z_min => k_is)
    (case z_range => k_is)
    (case z_repr => k_is)
    (case z_tuple => k_is)
    (case y_LAST_COAT => exact ⟨_, by k_is⟩)
    (case y_MOST_STONES => exact ⟨_, by k_is⟩)
