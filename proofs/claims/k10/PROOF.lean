import PyProof.Rows.All
import Wide.All
import OpenK.AllK
import Wide.FinOn
import HandS.ForMost
import HandS.IsInst
import HandS.TupAny
import HandS.Style
import HandS.Wide
import HandS.Walk
import HandS.WordsExc
import KE.GoesEnum
import PyProof.ReprRoads
import HandS.Evl
import KE.Datum
import PySem.Challenge.RW_betweencoats_k10_cores_and_their_tails
set_option Elab.async false
set_option linter.all false
set_option maxRecDepth 100000
namespace Bw
open PySem PySem.Spec PyProof.Rows L2

/-! ### a def that is called by its name -/
structure Cal (P : Program) (w : World) (K : PySem.W.Frag) (mg : Str → Option Value) (base : Heap) (CX : CXT) (k : Nat) (x : Str) (ps : List Str) (st : Stmt) (sp : Sp) : Prop where
  ex : ∃ (f : Addr) (fd : FuncData), FnOk P w K mg base CX k f fd ps sp ∧ Fun K x x st f fd ∧ mg x = some (.ref f) ∧ Binds K fd ps []
section
variable {X : Cx} {CX : CXT} {k : Nat} {x : Str} {ps ks : List Str} {st : Stmt} {sp : Sp} {E : XK} {p pos : Pos} {e : Expr} {es : List Expr} {kws : List Keyword} {t tk : TA}
theorem pe_cal (c : Cal X.prog X.w X.K X.mg X.base CX k x ps st sp) (hr : Room k X.A) (hx : Passes CX X E) (ha : PA X (e :: es) t) (hg : Gl X x := by rfl) (hdb : (x == ("__debug__" : Str)) = false := by decide)
    (he : starEach (e :: es) X.env = (false, eval e X.env) :: starEach es X.env := by rfl) (hpl : (backTo pos (starEach es X.env)).any (·.1) = false := by rfl) : PE X (.Call (.Name x p) (e :: es) [] pos) (tCall sp [] E t) := by
  obtain ⟨f, fd, G, F, hm, hb⟩ := c.ex
  exact pe_call G hr hg hm F.kp hb .nil hx ha hdb he hpl
theorem pe_cal0 (c : Cal X.prog X.w X.K X.mg X.base CX k x ps st sp) (hr : Room k X.A) (hx : Passes CX X E) (hg : Gl X x := by rfl) (hdb : (x == ("__debug__" : Str)) = false := by decide) : PE X (.Call (.Name x p) [] [] pos) (tCall sp [] E tNil) := by
  obtain ⟨f, fd, G, F, hm, hb⟩ := c.ex
  exact pe_call0 G hr hg hm F.kp hb .nil hx hdb
/-- how a call with keywords binds, whatever the function object -/
structure KwB (x : Str) (st : Stmt) (ps ks : List Str) (g : List Value → List Value → List Value) (gV : List V → List V → List V) : Prop where
  to : ∀ (kV doc pm : Value) (an : Option Addr) (cdv ct : Value) (us ws : List Value), (g us ws).length = ps.length →
    bindArgs (PySem.W.fnOf x x (defArgs st) (defBody st) (defScope st) .none kV doc pm an cdv ct) ⟨us, ks.zip ws⟩ = pure (ps.zip (g us ws))
  rel : ∀ {vs : List V} {us : List Value} {zs : List V} {ws : List Value}, Vals vs us → Vals zs ws → Vals (gV vs zs) (g us ws)
variable {g : List Value → List Value → List Value} {gV : List V → List V → List V}
theorem KwB.binds {K : PySem.W.Frag} {f : Addr} {fd : FuncData} (B : KwB x st ps ks g gV) (F : Fun K x x st f fd) : KBinds K fd ps ks g gV := by
  obtain ⟨oc, od, kV, doc, pm, an, cdv, ct, osl, rfl, lk, hcd⟩ := F.ex
  exact ⟨fun s us ws _ hl => .of_eq (B.to kV doc pm an cdv ct us ws hl), fun r rz => B.rel r rz⟩
theorem pe_calK (c : Cal X.prog X.w X.K X.mg X.base CX k x ps st sp) (B : KwB x st ps ks g gV) (hr : Room k X.A) (hx : Passes CX X E) (ha : PA X (e :: es) t) (hkw : PK X kws tk) (hg : Gl X x := by rfl)
    (hall : (backToKw pos (keywordEach kws X.env)).all (·.1.isSome) = true := by rfl) (hks : (backToKw pos (keywordEach kws X.env)).filterMap (·.1) = ks := by rfl)
    (hdb : (x == ("__debug__" : Str)) = false := by decide) (he : starEach (e :: es) X.env = (false, eval e X.env) :: starEach es X.env := by rfl)
    (hpl : ((backTo pos (starEach (e :: es) X.env)).any (·.1) || (backToKw pos (keywordEach kws X.env)).any (·.1.isNone)) = false := by rfl) :
    PE X (.Call (.Name x p) (e :: es) kws pos) (tCallK sp gV E t tk) := by
  obtain ⟨f, fd, G, F, hm, hb⟩ := c.ex
  exact pe_callK G hr hg hm F.kp (B.binds F) hx ha hkw hall hks hdb he hpl
/-- keywords alone -/
theorem pe_calK0 (c : Cal X.prog X.w X.K X.mg X.base CX k x ps st sp) (B : KwB x st ps ks g gV) (hr : Room k X.A) (hx : Passes CX X E) (hkw : PK X kws tk) (hg : Gl X x := by rfl)
    (hall : (backToKw pos (keywordEach kws X.env)).all (·.1.isSome) = true := by rfl) (hks : (backToKw pos (keywordEach kws X.env)).filterMap (·.1) = ks := by rfl)
    (hdb : (x == ("__debug__" : Str)) = false := by decide)
    (hpl : ((backTo pos (starEach [] X.env)).any (·.1) || (backToKw pos (keywordEach kws X.env)).any (·.1.isNone)) = false := by rfl) :
    PE X (.Call (.Name x p) [] kws pos) (tCallK sp gV E tNil tk) := by
  obtain ⟨f, fd, G, F, hm, hb⟩ := c.ex
  refine ⟨fun pins s σ H Q I h => ?_⟩
  refine wpAny_Call_Name_kw (ld_glob I hg hm ?_ hdb)
  refine PySem.W.callWith_KW0 (h₀ := X.base) I.ok.mod.kin F.kp hall (thn (hkw.run pos pins s σ H _ I h) fun ws s2 ⟨zs, H2, I2, rz, q2⟩ => ⟨I2.kIn, ?_⟩) hpl
  rw [hks]
  exact run_fnk (us := []) (vs := []) G hr (B.binds F) hx I2 .nil rz q2
end

/-! ### enumerate of a tuple -/
def IteT (K : PySem.W.Frag) (a : Addr) : It :=
  ⟨fun i H => ∃ (xs : List V) (x : V), SqT K H a xs ∧ xs[i]? = some x, fun i H v H' => ∃ T x, v = .ref T ∧ H T = none ∧ H' = upd H T (.tup [.int (i : Nat), x]) ∧ ∀ xs, SqT K H a xs → xs[i]? = some x, fun i H => ∃ xs : List V, SqT K H a xs ∧ i = xs.length⟩
set_option maxHeartbeats 1000000 in
theorem meets_enum_tup {v : Value} {o : Obj} {H : Heap → Prop} (B : Begins v o H) :
    Meets (Builtin.«enumerate.__new__» ⟨[.type "enumerate", v], []⟩) (fun _ R s => H s.heap ∧
      R (.ok (.ret (.ref (s.heap.push o).objs.size))) { s with heap := (s.heap.push o).push { cls := .type "enumerate", data := .fields #[.none, .bool false, .ref s.heap.objs.size, rawInt 0, .none, .none] } }) :=
  .of_wp fun prog w A R s h => by
    obtain ⟨hp, g, d, tk, os⟩ := s; obtain ⟨h1, h⟩ := h
    have hsub := sub_enumerate
    have q1 : ∀ {A' : Around} {E : Value → Shared → Prop} {Q : Value → Shared → Prop}, Q (.ref hp.objs.size) ⟨hp.push o, g, d, tk, os⟩ → wpAny (model prog w) A' (pyIter v) Q E ⟨hp, g, d, tk, os⟩ :=
      fun q => B.iter prog w _ _ ⟨hp, g, d, tk, os⟩ _ h1 q
    wp_walk using q1
    refine wpAny_stack_any fun st => wpAny_pure ?_
    split
    · rename_i c _ _ _ _ _
      cases (c == Value.type "enumerate")
      · wp_walk using q1
        exact ⟨_, rfl, h⟩
      · wp_walk using q1
        exact ⟨_, rfl, h⟩
    · wp_walk using q1
      exact ⟨_, rfl, h⟩
end Bw

namespace HT
open PySem PySem.Spec PyProof.Rows
section
variable {prog : Program} {w : World} {A : Around} {E : Value → Shared → Prop} {s : Shared}
theorem sliceApplied_rev {sl : Addr} {vk : Value} {n : Nat} {Q : Int × Int × Nat → Shared → Prop} (hs : s.heap.IsSliceOf sl .none .none vk) (pk : IsPart vk (some (-1)))
    (h : Q ((n : Int) - 1, -1, n) s) : wpAny (model prog w) A (Builtin.Slice.sliceApplied (.ref sl) (pure (n : Int))) Q E s := by
  obtain ⟨os, hos, hcs, hds⟩ := id hs
  unfold Builtin.Slice.sliceApplied Builtin.Slice.sliceFields
  refine wpAny_bind (wpAny_bind (wpAny_field hos hds (x := .none) rfl (wpAny_bind (wpAny_field hos hds (x := .none) rfl (wpAny_bind (wpAny_field hos hds (x := vk) rfl (wpAny_pure ?_)))))))
  refine wpAny_bind (slicePart_ pk ?_)
  show wpAny _ _ (if ((-1 : Int) == 0) = true then _ else _) _ _ s
  rw [if_neg (by decide)]
  refine wpAny_bind (slicePart_ .none (wpAny_bind (slicePart_ .none (wpAny_bind (wpAny_pure ?_)))))
  show wpAny _ _ (pure ((n : Int) - 1, (-1 : Int), Builtin.Slice.slicePlaces ((n : Int) - 1) (-1) (-1))) _ _ s
  have e : Builtin.Slice.slicePlaces ((n : Int) - 1) (-1) (-1) = n := by
    unfold Builtin.Slice.slicePlaces
    rw [if_neg (by decide)]
    by_cases h0 : n = 0
    · subst h0; decide
    · rw [if_pos (show (n : Int) - 1 > -1 by omega), show (- -1 : Int) = 1 by decide, Int.ediv_one]
      omega
  rw [e]
  exact wpAny_pure h
theorem pick_rev (xs : Array Value) : ((List.range xs.size).filterMap fun (m : Nat) => xs[(((xs.size : Int) - 1) + (m : Int) * (-1)).toNat]?).toArray = xs.toList.reverse.toArray := by
  have e : (List.range xs.size).filterMap (fun (m : Nat) => xs[(((xs.size : Int) - 1) + (m : Int) * (-1)).toNat]?) = xs.toList.reverse := by
    apply List.ext_getElem?
    intro i
    have gen : ∀ l : List Nat, (∀ m ∈ l, m < xs.size) → l.filterMap (fun (m : Nat) => xs[(((xs.size : Int) - 1) + (m : Int) * (-1)).toNat]?) = l.map (fun m => xs[xs.size - 1 - m]?.getD .none) := by
      intro l
      induction l with
      | nil => intro _; rfl
      | cons m l ih =>
        intro hl
        have hm := hl m List.mem_cons_self
        have e2 : (((xs.size : Int) - 1) + (m : Int) * (-1)).toNat = xs.size - 1 - m := by omega
        have e3 : xs[xs.size - 1 - m]? = some (xs[xs.size - 1 - m]'(by omega)) := Array.getElem?_eq_getElem (by omega)
        rw [List.map_cons, ← ih fun k hk => hl k (List.mem_cons_of_mem _ hk)]
        simp only [List.filterMap_cons, e2, e3, Option.getD_some]
    have e1 := gen (List.range xs.size) fun m hm => List.mem_range.mp hm
    rw [e1]
    by_cases hi : i < xs.size
    · rw [List.getElem?_map, List.getElem?_range hi, List.getElem?_reverse (by simpa using hi)]
      simp only [Option.map_some, Array.length_toList, Array.getElem?_toList]
      rw [Array.getElem?_eq_getElem (by omega)]
      rfl
    · rw [List.getElem?_eq_none (by simpa using hi), List.getElem?_eq_none (by simpa using hi)]
  rw [e]
theorem getItem_tuple_rev {t sl : Addr} {items : Array Value} {vk : Value} {Q : Value → Shared → Prop} (ht : IsTup s.heap t items) (hs : s.heap.IsSliceOf sl .none .none vk) (pk : IsPart vk (some (-1)))
    (h : Q (.ref s.heap.objs.size) { s with heap := s.heap.push { cls := .type "tuple", data := .seq items.toList.reverse.toArray } })
    (hsz : items.size ≤ sizeLine) : wpAny (model prog w) A (getItem (.ref t) (.ref sl)) Q E s := by
  have htake : sizeOk (.seq items.toList.reverse.toArray) := by
    show items.toList.reverse.toArray.size ≤ sizeLine
    rw [List.size_toArray, List.length_reverse, Array.length_toList]
    exact hsz
  obtain ⟨os, hos, hcs, hds⟩ := id hs
  have hTs : s.TypeIs (.ref sl) "slice" := ⟨os, hos, hcs⟩
  unfold getItem
  try with_reducible refine wpAny_holding ?_
  first | refine wpAny_bind (wpAny_pure ?_) | skip
  refine wpAny_bind (wpAny_sequenceKey ht.typeIs (by decide) ?_)
  refine wpAny_bind (wpAny_callSpecial?_slot (name := Str.ofString "__getitem__") ht.typeIs PyProof.Rows.slot_tuple_getitem
    (wpAny_call_entry PyProof.Rows.slot_tuple_getitem ht.typeIs entry_tuple_getitem ?_ (args_tuple_getitem _ _)))
  show wpAny _ _ (Builtin.Tuple.tupleItemsOf (.ref t) >>= _) _ _ s
  refine wpAny_bind (tupleItemsOf_ ht ?_)
  refine wpAny_bind (wpAny_typeOf hTs ?_)
  rw [if_pos (by decide)]
  refine wpAny_bind (sliceApplied_rev hs pk ?_)
  have hno : ¬ (((((items.size : Int) - 1)) == 0 && (-1 : Int) == 1 && items.size == items.size) = true) := by
    intro q
    rw [Bool.and_eq_true, Bool.and_eq_true] at q
    exact absurd q.1.2 (by decide)
  show wpAny _ _ (if (((items.size : Int) - 1) == 0 && (-1 : Int) == 1 && items.size == items.size) = true then _ else _) _ _ s
  rw [if_neg hno, pick_rev]
  first
    | exact wpAny_bind (m := Builtin.Tuple.tupleExact _) (wpAny_newObj_type (wpAny_pure ⟨_, rfl, wpAny_pure h⟩) htake)
    | exact wpAny_bind (m := Builtin.Tuple.tupleExact _) (wpAny_newObj_type (wpAny_bind (wpAny_pure (wpAny_pure ⟨_, rfl, wpAny_pure h⟩))) htake)
    | exact wpAny_bind (wpAny_bind (m := Builtin.Tuple.tupleExact _) (wpAny_newObj_type (wpAny_pure (wpAny_pure ⟨_, rfl, wpAny_pure h⟩)) htake))
    | exact wpAny_bind (wpAny_bind (m := Builtin.Tuple.tupleExact _) (wpAny_newObj_type (wpAny_pure ⟨_, rfl, wpAny_pure h⟩) htake))
end
end HT
namespace Bw
open PySem PySem.Spec PyProof.Rows L2
/-! ### t[::-1] -/
def tRevT (K : PySem.W.Frag) (te : TE) : TE := fun σ H Q => te σ H fun x H1 => ∃ a xs, x = .ref a ∧ SqT K H1 a xs ∧ ∀ p, H1 p = none → Q (.ref p) (upd H1 p (.tup xs.reverse))
theorem pe_revT {X : Cx} {e : Expr} {te : TE} {k : Nat} {p1 p2 p3 pos : Pos} (he : PE X e te) : PE X (.Subscript e (.Slice none none (some (.UnaryOp .USub (.Constant (.int 1) k p1) p2)) p3) pos) (tRevT X.K te) := by
  refine ⟨fun pins s σ H Q I h => ?_⟩
  refine Subscript_ (thn (he.run pins s σ H _ I h) fun v s1 ⟨x, H1, I1, r1, q1⟩ => ?_)
  obtain ⟨a, xs, ex, hx, q⟩ := q1
  subst ex
  cases r1
  have hst : PO X (some (.UnaryOp .USub (.Constant (.int 1) k p1) p2)) (tPart (tUn (rU fun i => .int (-i)) (tC (.int 1)))) := po_some (pe_un un_neg pe_int)
  refine wpAny_Slice (thn (po_none.run pins s1 σ H1 (fun o H2 => o = none ∧ H2 = H1) I1 ⟨rfl, rfl⟩) fun vl s2 ⟨l, H2, I2, pl, el, e2⟩ => ?_)
  subst el e2
  refine thn (po_none.run pins s2 σ H2 (fun o H3 => o = none ∧ H3 = H2) I2 ⟨rfl, rfl⟩) fun vu s3 ⟨u, H3, I3, pu, eu, e3⟩ => ?_
  subst eu e3
  refine thn (hst.run pins s3 σ H3 (fun o H4 => o = some (-1) ∧ H4 = H3) I3 ⟨1, rfl, -1, rfl, rfl, rfl⟩) fun vs s4 ⟨o, H4, I4, ps, eo, e4⟩ => ?_
  subst eo e4
  cases pl
  cases pu
  have I5 : Inv X pins σ H4 { s4 with heap := s4.heap.push { cls := .type "slice", data := .fields #[.none, .none, vs] } } := I4.kept (t' := s4.toks) fun b ob q => Heap.get?_push_of_some _ q
  obtain ⟨its, r, ht, hz⟩ := I5.tuple hx
  have hlen := r.length
  show wpAny (model X.prog X.w) X.A (subscriptTail e (.Slice none none (some (.UnaryOp .USub (.Constant (.int 1) k p1) p2)) p3) (.ref a) (.ref s4.heap.objs.size)) (EP X pins σ Q) X.xe { s4 with heap := s4.heap.push { cls := .type "slice", data := .fields #[.none, .none, vs] } }
  refine tail_any (ops := [.ref a, .ref s4.heap.objs.size]) ht.typeIs (PyProof.Rows.slot_tuple_getitem.lookup) ?_ (by with_unfolding_all rfl)
  refine HT.getItem_tuple_rev ht (Heap.IsSliceOf.new _ .none .none vs) ps ?_ (by rw [List.size_toArray]; omega)
  refine ⟨.ref _, _, I5.laid (t' := s4.toks) (o := .tup xs.reverse) (fun b ob q => Heap.get?_push_of_some _ q) (Nat.le_refl _) ?_, rfl, q _ (I5.hok.fresh (Nat.le_refl _))⟩
  exact ⟨by rw [List.length_reverse]; exact hz, _, r.reverse, IsTup.new _ _⟩
/-! ### enumerate of a tuple -/
theorem turn_enumT {P : Program} {w : World} {K : PySem.W.Frag} {elts : List Expr} {kk : Nat} {tpos : Pos} (a e it : Addr) (hai : a ≠ it) (hea : e ≠ a) :
    Turn P w K (.Tuple elts kk tpos) (IteT K a) [e, it] e (fun i h => (∃ old, IsEnum h e it ((i : Nat) : Int) old) ∧ h.IsTupleIter it a i ∧ e ≠ it) where
  mem := by simp
  obj := fun i h st b hb => by
    obtain ⟨⟨old, he⟩, ⟨o, ho, hc, hd⟩, _⟩ := st
    have e' : b = e ∨ b = it := by simpa using hb
    rcases e' with z | z
    · rw [z]; exact ⟨_, he, fun v q => nomatch q⟩
    · rw [z]; exact ⟨o, ho, fun v q => by rw [hd] at q; cases q⟩
  keep := fun i h h' st k => let ⟨⟨old, he⟩, hi, hne⟩ := st; ⟨⟨old, k e (by simp) _ he⟩, hi.at fun o q => k it (by simp) o q, hne⟩
  item := by
    intro X hP hw hK hc i pins s σ H E I hf st hg
    subst hP hw hK
    obtain ⟨⟨old, he⟩, hit, hne⟩ := st
    obtain ⟨xs, x, hq, hx⟩ := hg
    obtain ⟨its, rv, p, hz⟩ := I.tuple hq
    obtain ⟨u, hu, ru⟩ := rv.get hx
    have hel : e < s.heap.objs.size := Heap.lt_size he
    have hil : it < s.heap.objs.size := by obtain ⟨_, q, _⟩ := hit; exact Heap.lt_size q
    have hD := Draws.tuple (prog := X.prog) (w := X.w) (A := X.A.in1) (show X.A.in1.handled = none from I.ok.hd hc) it a hai its.toArray
    have hlt : i < its.toArray.size := by
      have := (List.getElem?_eq_some_iff.mp hu).1
      simpa using this
    refine wpAny_pyNext_enum_itemD hD he ⟨hit, p⟩ hlt hne (by simp [hne, hea]) fun x' h' tk hx' ho hst' hT hsz hk => ?_
    have ex' : x' = u := by
      have := hx'.symm.trans (show its.toArray[i]? = some u by simpa using hu)
      exact Option.some.inj this
    subst ex'
    refine ⟨_, rfl, wpAny_letOwnedTupleGo_enum (s := { s with heap := h', toks := tk + 1 }) ho fun h'' he' sb => ?_⟩
    have hT2 : h''.get? s.heap.objs.size = some { cls := .type "tuple", data := .seq #[.int i tk, x'] } := (sb.2 _ (Nat.ne_of_gt hel)).trans hT
    have new : ObjOk X.prog X.w (upd H s.heap.objs.size (.tup [.int (i : Nat), x])) h'' s.heap.objs.size (.tup [.int (i : Nat), x]) :=
      ⟨by show 2 ≤ sizeLine; decide, [.int i tk, x'], .cons ⟨_, rfl⟩ (.cons ru .nil), ⟨_, hT2, rfl, _, rfl⟩⟩
    have I1 : Inv X pins σ (upd H s.heap.objs.size (.tup [.int (i : Nat), x])) { s with heap := h'', toks := tk + 1 } :=
      I.turnedNew (ch := [e, it]) (fun b ob hb q => (sb.2 b (fun z => hb (by simp [z]))).trans (hk b ob (fun z => hb (by simp [z])) (fun z => hb (by simp [z])) q)) hf (Nat.le_refl _) new
    refine ⟨.ref s.heap.objs.size, _, I1, rfl, ⟨_, x, rfl, I.hok.fresh (Nat.le_refl _), rfl, fun ys hy => by rw [I.tuple_inj hy hq]; exact hx⟩, ⟨⟨x', ?_⟩, hst'.1.at fun o q => (sb.2 it (Ne.symm hne)).trans q, hne⟩, fun b hb => ?_⟩
    · have e1 : ((i + 1 : Nat) : Int) = (i : Int) + 1 := by omega
      rw [e1]; exact he'
    · have hb' : b < s.heap.objs.size := by
        have e' : b = e ∨ b = it := by simpa using hb
        rcases e' with z | z
        · rw [z]; exact hel
        · rw [z]; exact hil
      rw [upd_ne (Nat.ne_of_lt hb')]
      exact (hf b hb).1
  done := by
    intro X hP hw hK hc i pins s σ H E I hf st hg
    subst hP hw hK
    obtain ⟨⟨old, he⟩, hit, hne⟩ := st
    obtain ⟨xs, hq, hx⟩ := hg
    obtain ⟨its, rv, p, hz⟩ := I.tuple hq
    obtain ⟨f0, f1, f2, f3, f4, f5⟩ := hf it (by simp)
    have hl := rv.length
    have hD := Draws.tuple (prog := X.prog) (w := X.w) (A := X.A.in1) (show X.A.in1.handled = none from I.ok.hd hc) it a hai its.toArray
    have hi : i = its.toArray.size := by rw [List.size_toArray]; omega
    subst hi
    exact wpAny_pyNext_enum_endD hD he ⟨hit, p⟩ fun h' eb => ⟨rfl, I.turned (t' := s.toks) (fun b o hb q => eb b o hb q) f0 f1 f3 f4 f5⟩
  self := fun A i s Q E st h => let ⟨⟨_, he⟩, _⟩ := st; wpAny_pyIter_enum he h
def iEnumT (K : PySem.W.Frag) (ta : TA) : TI := fun σ H R => ta σ H fun vs H1 => ∃ a xs, vs = [.ref a] ∧ SqT K H1 a xs ∧ R (IteT K a) H1
theorem pi_enumT {X : Cx} {e : Expr} {ta : TA} {p pos tpos : Pos} {elts : List Expr} {kk : Nat} (hg : Gl X "enumerate") (hm : X.mg "enumerate" = none) (ha : PA X [e] ta) (hs : starEach [e] X.env = [(false, eval e X.env)] := by rfl) :
    PI X (.Tuple elts kk tpos) (.Call (.Name "enumerate" p) [e] [] pos) (iEnumT X.K ta) := by
  refine ⟨fun pins s σ H R I h => ?_⟩
  refine Call_ (ld_blt I hg hm boot_enumerate (PyProof.Rows.callWith_type1 (thn (ha.run pos pins s σ H _ I h) fun us s1 ⟨vs, H1, I1, r1, q1⟩ => ?_) hs rfl))
  obtain ⟨a, xs, ex, hq, q⟩ := q1
  subst ex
  cases r1 with
  | cons r rr =>
    cases rr
    cases r
    obtain ⟨its, rv, p', hz⟩ := I1.tuple hq
    have hla : a < s1.heap.objs.size := by obtain ⟨o, ho, _⟩ := p'; exact Heap.lt_size ho
    refine callType_new F.called_enumerate (by decide) (F.typeCall_enumerate_1 _) (F.newCall_enumerate_1 _) (fun obj => F.args_object_init_2 obj _) F.entry_enumerate_new
      (meets_enum_tup (begins_tuple a its.toArray)) ⟨p', ?_⟩
    have hz1 : (s1.heap.push { cls := .type "tuple_iterator", data := .fields #[.ref a, .int 0 0] }).objs.size = s1.heap.objs.size + 1 := Heap.size_push ..
    have he : IsEnum ((s1.heap.push { cls := .type "tuple_iterator", data := .fields #[.ref a, .int 0 0] }).push
        { cls := .type "enumerate", data := .fields #[.none, .bool false, .ref s1.heap.objs.size, rawInt 0, .none, .none] }) (s1.heap.objs.size + 1) s1.heap.objs.size 0 .none := by
      have := Heap.get?_push_size (s1.heap.push { cls := .type "tuple_iterator", data := .fields #[.ref a, .int 0 0] })
        (o := { cls := .type "enumerate", data := .fields #[.none, .bool false, .ref s1.heap.objs.size, rawInt 0, .none, .none] }) rfl
      rw [hz1] at this; exact this
    have hit : ((s1.heap.push { cls := .type "tuple_iterator", data := .fields #[.ref a, .int 0 0] }).push
        { cls := .type "enumerate", data := .fields #[.none, .bool false, .ref s1.heap.objs.size, rawInt 0, .none, .none] }).IsTupleIter s1.heap.objs.size a 0 := ⟨_, Heap.get?_push_of_some _ (Heap.get?_push_size _ rfl), rfl, rfl⟩
    show _ ∧ _
    rw [hz1]
    refine ⟨⟨_, he, rfl⟩, wpAny_pyIter_enum he ?_⟩
    have I2 : Inv X pins σ H1 { s1 with heap := (s1.heap.push { cls := .type "tuple_iterator", data := .fields #[.ref a, .int 0 0] }).push { cls := .type "enumerate", data := .fields #[.none, .bool false, .ref s1.heap.objs.size, rawInt 0, .none, .none] } } :=
      I1.kept (t' := s1.toks) fun b o x => Heap.get?_push_of_some _ (Heap.get?_push_of_some _ x)
    refine ⟨s1.heap.objs.size + 1, [s1.heap.objs.size + 1, s1.heap.objs.size], _, _, H1, rfl, I2, turn_enumT a (s1.heap.objs.size + 1) s1.heap.objs.size (Nat.ne_of_lt hla) (Nat.ne_of_gt (Nat.lt_succ_of_lt hla)), ⟨⟨.none, he⟩, hit, Nat.succ_ne_self _⟩, fun b hb => ?_, q⟩
    have e' : b = s1.heap.objs.size + 1 ∨ b = s1.heap.objs.size := by simpa using hb
    have hle : s1.heap.objs.size ≤ b := by
      rcases e' with z | z
      · rw [z]; exact Nat.le_add_right _ _
      · rw [z]; exact Nat.le_refl _
    exact I1.fpOk hle (I1.hok.fresh hle)
theorem walk_enumT {K : PySem.W.Frag} {a : Addr} {xs : List V} : Walk (IteT K a) xs.length (fun H => SqT K H a xs) (YPair (fun i => some (.int (i : Nat))) (fun i => xs[i]?)) := by
  refine ⟨fun i _ hi q => ⟨xs, xs[i], q, by simp [hi]⟩, fun _ q => ⟨xs, q, rfl⟩, fun i H v H' _ q y => ?_⟩
  obtain ⟨T, x, h1, h2, h3, h4⟩ := y
  exact ⟨T, .int (i : Nat), x, h1, h2, h3, rfl, h4 xs q⟩
/-! ### repr of data -/
theorem call_reprD {X : Cx} (hg : X.A.guards = some []) (hu : X.A.units + 80 < cLine) : CallR X (.builtin "repr") (fun xs H Q => ∃ a d, xs = [.ref a] ∧ Dp X.K H (.ref a) d ∧ d.showable = true ∧ d.hasDict = false ∧ d.depth < 64 ∧ d.shown.length ≤ sizeLine ∧ Q (.str d.shown) H) := by
  intro pins s σ H xs us Q I r h
  obtain ⟨a, d, rfl, hd, hs, hn, hp, hz, q⟩ := h
  obtain ⟨u, rfl, ru⟩ := vals1 r
  obtain ⟨as, hr⟩ := Dp.reads I d _ _ hd ru
  cases ru
  exact repr_of_reads' hr hs (PyData.noDict_hsm hn) hg (by omega) (fun _ _ e => e) (fun h' u tk hk => ⟨.str _, H, I.kept (t' := tk) hk, ⟨_, rfl⟩, q⟩) hz
end Bw

namespace Bw
open PySem PySem.Spec PyProof.Rows L2
/-! ### the drawn source and what a def leaves -/
def Src (H : Hp) (p : Addr) : Prop := ∃ a b : Int, H p = some (.lst [.int a, .int b]) ∧ 0 ≤ a ∧ 0 ≤ b ∧ b < 2147483647
/-- all that was tracked but at p is as it was -/
def Exb (p : Addr) (H H' : Hp) : Prop := ∀ b o, b ≠ p → H b = some o → H' b = some o
section
variable {p q a : Addr} {H H1 H2 : Hp} {K : PySem.W.Frag} {xs : List V} {o : HO}
theorem Exb.refl : Exb p H H := fun _ _ _ h => h
theorem Exb.trans (e : Exb p H H1) (f : Exb p H1 H2) : Exb p H H2 := fun b o n h => f b o n (e b o n h)
theorem Exb.of (e : Same H H1) : Exb p H H1 := fun b o _ h => e b o h
theorem Exb.new (h : H q = none) : Exb p H (upd H q o) := fun b u _ e => by
  rw [upd_ne (ne_of_none e h)]
  exact e
theorem _root_.L2.Same.new (h : H q = none) : Same H (upd H q o) := fun b u e => by
  rw [upd_ne (ne_of_none e h)]
  exact e
theorem Exb.at : Exb p H (upd H p o) := fun b u n e => by
  rw [upd_ne n]
  exact e
theorem Exb.put (e : Exb p H H1) : Exb p H (upd H1 p o) := fun b u n h => by
  rw [upd_ne n]
  exact e b u n h
/-- an object that H did not know may change -/
theorem _root_.L2.Same.mut (e : Same H H1) (h : H q = none) : Same H (upd H1 q o) := fun b u hb => by
  rw [upd_ne (ne_of_none hb h)]
  exact e b u hb
theorem Exb.mut (e : Exb p H H1) (h : H q = none) : Exb p H (upd H1 q o) := fun b u n hb => by
  rw [upd_ne (ne_of_none hb h)]
  exact e b u n hb
theorem _root_.L2.Same.tup (e : Same H H1) (h : SqT K H a xs) : SqT K H1 a xs := by
  rcases h with (h | ⟨o, h⟩) | h
  · exact .inl (.inl (e _ _ h))
  · exact .inl (.inr ⟨o, e _ _ h⟩)
  · exact .inr h
theorem Exb.tup (e : Exb p H H1) (s : Src H p) (h : SqT K H a xs) : SqT K H1 a xs := by
  obtain ⟨x, y, hp, _⟩ := s
  rcases h with (h | ⟨o, h⟩) | h
  · exact .inl (.inl (e _ _ (fun z => by rw [z, hp] at h; cases h) h))
  · exact .inl (.inr ⟨o, e _ _ (fun z => by rw [z, hp] at h; cases h) h⟩)
  · exact .inr h
theorem Exb.lst (e : Exb p H H1) (n : q ≠ p) (h : H q = some (.lst xs)) : H1 q = some (.lst xs) := e _ _ n h
theorem _root_.L2.Same.src (e : Same H H1) (s : Src H p) : Src H1 p := by
  obtain ⟨x, y, hp, h⟩ := s
  exact ⟨x, y, e _ _ hp, h⟩
theorem Src.ne (s : Src H p) (h : H q = none) : q ≠ p := fun z => by
  obtain ⟨x, y, hp, _⟩ := s
  rw [z, hp] at h
  cases h
theorem Src.put (s : Src H p) (n : q ≠ p) : Src (upd H q o) p := by
  obtain ⟨x, y, hp, h⟩ := s
  exact ⟨x, y, by rw [upd_ne n.symm]; exact hp, h⟩
theorem Exb.fresh (e : Exb p H H1) (n : q ≠ p) (h : H1 q = none) : H q = none := by
  cases z : H q with
  | none => rfl
  | some o => rw [e q o n z] at h; cases h
end
theorem atI0 {x : V} {r : List V} : atI (x :: r) 0 = some x := atI_nat (j := 0) rfl
theorem atI1 {x y : V} {r : List V} : atI (x :: y :: r) 1 = some y := atI_nat (j := 1) rfl
theorem ixN_nat {n : Nat} {i : Int} {j : Nat} (e : i = (j : Int)) (h : j < n) : ixN n i = some j := by
  subst e
  unfold ixN
  rw [if_pos (by omega), if_pos (by omega)]; simp
theorem ixN_neg {n : Nat} {i : Int} {j : Nat} (e : i = (j : Int) - (n : Int)) (h : j < n) : ixN n i = some j := by
  subst e
  unfold ixN
  rw [if_neg (by omega), if_pos (by omega)]
  congr 1
  omega
theorem atN {α : Type} {xs : List α} {i : Int} {j : Nat} {v : α} (h : xs[j]? = some v) (e : i = (j : Int)) : atI xs i = some v := by
  subst e
  exact atI_nat h
theorem atNeg {α : Type} {xs : List α} {i : Int} {j : Nat} {v : α} (h : xs[j]? = some v) (e : i = (j : Int) - (xs.length : Int)) : atI xs i = some v := by
  unfold atI
  rw [ixN_neg e (List.getElem?_eq_some_iff.mp h).1]
  exact h
theorem num_map (i : Nat) (ns : List Int) (x : V) (h : (ns.map V.int)[i]? = some x) : ∃ (hi : i < ns.length), x = .int ns[i] := by
  rw [List.getElem?_map] at h
  cases e : ns[i]? with
  | none => rw [e] at h; cases h
  | some z =>
    obtain ⟨h1, h2⟩ := List.getElem?_eq_some_iff.mp e
    rw [e] at h
    exact ⟨h1, by rw [h2]; exact (Option.some.inj h).symm⟩
theorem itT {c : Bool} {A B : Prop} (hc : c = true) (h : A) : if c = true then A else B := by
  rw [if_pos hc]
  exact h
theorem itF {c : Bool} {A B : Prop} (hc : c = false) (h : B) : if c = true then A else B := by
  rw [hc, if_neg Bool.false_ne_true]
  exact h
theorem pe_gint {X : Cx} {x : Str} {pos : Pos} {i : Int} (hg : Gl X x) (h : ∃ t, X.mg x = some (.int i t)) (hd : (x == ("__debug__" : Str)) = false := by decide) : PE X (.Name x pos) (tC (.int i)) := by
  obtain ⟨t, y⟩ := h
  exact pe_glob hg y ⟨t, rfl⟩ hd
theorem pe_ty {X : Cx} {x : Str} {pos : Pos} {T : String} (hg : Gl X x) (hm : X.mg x = none) (hv : bootBuiltins x = some (.type T)) (hn : x ≠ "__name__" := by decide) (hd : (x == ("__debug__" : Str)) = false := by decide) : PE X (.Name x pos) (tC (.ty T)) :=
  pe_bltn hg hm hv rfl hn hd
theorem small {n : Nat} (h : n ≤ 1000000) : n ≤ sizeLine := Nat.le_trans h (by decide)
theorem smallLt {n : Nat} (h : n < 1000000) : n < sizeLine := Nat.lt_of_lt_of_le h (by decide)

/-! ### the layer's rules with the written part told -/
section
variable {X : Cx}
abbrev tNoP : TO := fun _ H Q => Q none H
theorem poN : PO X none tNoP := po_none
theorem ixL (K : PySem.W.Frag) (h : X.K = K := by rfl) : IxR X (rIxL K) := h ▸ ix_list
theorem ixT (K : PySem.W.Frag) (h : X.K = K := by rfl) : IxR X (rIxT K) := h ▸ ix_tup
theorem slT (K : PySem.W.Frag) (h : X.K = K := by rfl) : SlR X (rSlA K) := h ▸ sl_tupA
theorem slL (K : PySem.W.Frag) (h : X.K = K := by rfl) : SlR X (rSlL K) := h ▸ sl_list
theorem lenS (K : PySem.W.Frag) (h : X.K = K := by rfl) : CallR X (.builtin "len") (Evl.rLenS K) := by subst h; exact call_len_seq
def rTupOf (K : PySem.W.Frag) : List V → Hp → VK → Prop := fun xs H Q => ∃ p ys, xs = [.ref p] ∧ ((SqL K H p ys ∧ ∀ l, H l = none → Q (.ref l) (upd H l (.tup ys))) ∨ (SqT K H p ys ∧ Q (.ref p) H))
theorem tupOf (K : PySem.W.Frag) (h : X.K = K := by rfl) : CallR X (.type "tuple") (rTupOf K) := by subst h; exact call_tuple_of
def rListOf (K : PySem.W.Frag) : List V → Hp → VK → Prop := fun xs H Q => ∃ p ys, xs = [.ref p] ∧ (SqL K H p ys ∨ SqT K H p ys) ∧ ∀ l, H l = none → Q (.ref l) (upd H l (.lst ys))
theorem listOf (K : PySem.W.Frag) (h : X.K = K := by rfl) : CallR X (.type "list") (rListOf K) := by subst h; exact call_list_of
theorem catA (K : PySem.W.Frag) (h : X.K = K := by rfl) : OpR X (binaryOp .Add) (rCatA K) := h ▸ op_catA
theorem eqD (K : PySem.W.Frag) (hu : X.A.units + 64 < cLine) (h : X.K = K := by rfl) : OpR X (compareOp .Eq) (rEqD K) := h ▸ op_eqD hu
theorem neD (K : PySem.W.Frag) (hu : X.A.units + 64 < cLine) (h : X.K = K := by rfl) : OpR X (compareOp .NotEq) (rNeD K) := h ▸ op_neD hu
theorem inS (K : PySem.W.Frag) (h : X.K = K := by rfl) : OpR X (compareOp .In) (rIn K false) := h ▸ op_in_seq
theorem ninS (K : PySem.W.Frag) (h : X.K = K := by rfl) : OpR X (compareOp .NotIn) (rIn K true) := h ▸ op_notIn_seq
theorem isI (K : PySem.W.Frag) (h : X.K = K := by rfl) : CallR X (.builtin "isinstance") (rIsi K) := h ▸ call_isi
theorem maxL (K : PySem.W.Frag) (hc : X.calm = true) (h : X.K = K := by rfl) : CallR X (.builtin "max") (rMax K) := h ▸ cr_max hc
theorem minL (K : PySem.W.Frag) (hc : X.calm = true) (h : X.K = K := by rfl) : CallR X (.builtin "min") (rMin K) := h ▸ cr_min hc
theorem sortL (K : PySem.W.Frag) (h : X.K = K := by rfl) : CallR X (.builtin "sorted") (rSorted K) := h ▸ cr_sorted
theorem piL (K : PySem.W.Frag) {tg l : Expr} {tl : TE} (hl : PE X l tl) (h : X.K = K := by rfl) : PI X tg l (iList K tl) := h ▸ pi_list hl
theorem piT (K : PySem.W.Frag) {tg l : Expr} {tl : TE} (hl : PE X l tl) (h : X.K = K := by rfl) : PI X tg l (iTup K tl) := h ▸ pi_tup hl
end
/-! ### data in the heap -/
theorem dpAllI {K : PySem.W.Frag} {H : Hp} : ∀ ns : List Int, DpAll K H (ns.map V.int) (ns.map PyData.int)
  | [] => .nil
  | n :: ns => .cons (.int n) (dpAllI ns)
theorem dpT {K : PySem.W.Frag} {H : Hp} {a : Addr} {ns : List Int} (h : SqT K H a (ns.map V.int)) : Dp K H (.ref a) (.tuple (ns.map PyData.int)) := .tup h (dpAllI ns)
theorem dpL {K : PySem.W.Frag} {H : Hp} {a : Addr} {ns : List Int} (h : SqL K H a (ns.map V.int)) : Dp K H (.ref a) (.list (ns.map PyData.int)) := .lst h (dpAllI ns)

theorem shAll : ∀ ns : List Int, PyData.canLayAll0 (ns.map PyData.int) = true
  | [] => rfl
  | n :: ns => by rw [List.map_cons, PyData.canLayAll0, shAll ns]; rfl
theorem dpAll0 : ∀ ns : List Int, PyData.depthAll (ns.map PyData.int) = 0
  | [] => rfl
  | n :: ns => by rw [List.map_cons, PyData.depthAll, dpAll0 ns]; rfl
theorem shT (ns : List Int) : SeqAt.shaped (.tuple (ns.map PyData.int)) = true := by
  unfold SeqAt.shaped
  rw [PyData.canLay0, shAll, PyData.depth, dpAll0]
  rfl
theorem shL (ns : List Int) : SeqAt.shaped (.list (ns.map PyData.int)) = true := by
  unfold SeqAt.shaped
  rw [PyData.canLay0, shAll, PyData.depth, dpAll0]
  rfl
theorem eqvI : ∀ ns ms : List Int, PyData.eqvAll (ns.map PyData.int) (ms.map PyData.int) = decide (ns = ms)
  | [], [] => by simp only [List.map_nil, PyData.eqvAll, decide_true]
  | [], _ :: _ => by simp [PyData.eqvAll]
  | _ :: _, [] => by simp [PyData.eqvAll]
  | x :: xs, y :: ys => by
    rw [List.map_cons, List.map_cons, PyData.eqvAll, eqvI xs ys, PyData.eqv]
    have e : (x == y) = decide (x = y) := by rw [Bool.eq_iff_iff, beq_iff_eq, decide_eq_true_eq]
    rw [e, ← Bool.decide_and]
    exact decide_eq_decide.mpr (by rw [List.cons.injEq])
section
variable {K : PySem.W.Frag} {H : Hp} {a b : Addr} {ns ms : List Int} {Q : VK}
theorem eqT (ha : SqT K H a (ns.map V.int)) (hb : SqT K H b (ms.map V.int)) (q : Q (.bl (decide (ns = ms))) H) : rEqD K (.ref a) (.ref b) H Q :=
  ⟨_, _, dpT ha, dpT hb, shT _, shT _, by rw [PyData.eqv, eqvI]; exact q⟩
theorem neT (ha : SqT K H a (ns.map V.int)) (hb : SqT K H b (ms.map V.int)) (q : Q (.bl (!decide (ns = ms))) H) : rNeD K (.ref a) (.ref b) H Q :=
  ⟨_, _, dpT ha, dpT hb, shT _, shT _, by rw [PyData.eqv, eqvI]; exact q⟩
theorem eqL (ha : SqL K H a (ns.map V.int)) (hb : SqL K H b (ms.map V.int)) (q : Q (.bl (decide (ns = ms))) H) : rEqD K (.ref a) (.ref b) H Q :=
  ⟨_, _, dpL ha, dpL hb, shL _, shL _, by rw [PyData.eqv, eqvI]; exact q⟩
theorem neL (ha : SqL K H a (ns.map V.int)) (hb : SqL K H b (ms.map V.int)) (q : Q (.bl (!decide (ns = ms))) H) : rNeD K (.ref a) (.ref b) H Q :=
  ⟨_, _, dpL ha, dpL hb, shL _, shL _, by rw [PyData.eqv, eqvI]; exact q⟩
theorem tyT {xs : List V} (h : SqT K H a xs) : TyX K H (.ref a) (.type "tuple") := by
  rcases h with (h | ⟨o, h⟩) | ⟨o, its, n, h, c, _⟩
  · exact .base (.tup h)
  · exact .fTuple h
  · exact .kTuple h c
/-- isinstance(t, tuple) of a tuple -/
theorem isTup {xs : List V} (h : SqT K H a xs) (q : Q (.bl true) H) : rIsi K [.ref a, .ty "tuple"] H Q := ⟨.ref a, .ty "tuple", .type "tuple", .type "tuple", true, rfl, .ty _, tyT h, kit_ty (by decide +kernel), q⟩
end
theorem call_reprB {X : Cx} : CallR X (.builtin "repr") (fun xs H Q => ∃ b : Bool, xs = [.bl b] ∧ Q (.str (if b then "True" else "False")) H) := by
  intro pins s σ H xs us Q I r h
  obtain ⟨b, rfl, q⟩ := h
  obtain ⟨u, rfl, ru⟩ := vals1 r
  cases (show u = Value.bool b from ru)
  exact PySem.P.repr_of_bool ⟨.str _, H, I.tok _, ⟨_, rfl⟩, q⟩

/-! ### a comprehension whose test and element only read -/
open Evl in
theorem lc_pure {J : It} {n : Nat} {G : Hp → Prop} {Y : Nat → Hp → V → Hp → Prop} (u : Nat → V) (w : Walk J n G Y) (hY : ∀ i H x H', Y i H x H' → i < n → H' = H ∧ x = u i) {j : Nat} {vs : List Nat} {σ : L2.St} {H1 : Hp} {D : Addr} {tt : TT} {te : TE} {Qd : Hp → Prop} (f : Nat → Bool) (v : Nat → V)
    (hD : H1 D = none) (hn : n < 50000) (hG : ∀ H', Same H1 H' → G H') (hw : ∀ x, wipe ((wipe σ vs).set j (some x)) vs = wipe σ vs)
    (ht : ∀ i, i < n → EvT tt ((wipe σ vs).set j (some (u i))) H1 (f i)) (he : ∀ i, i < n → f i = true → Ev te ((wipe σ vs).set j (some (u i))) H1 (v i)) (hd : ∀ H', Same H1 H' → H' D = some (.lst (given n f v)) → Qd H') :
    ∃ W : Nat → Nat → Hp → Prop, (∃ m, W 0 m (upd H1 D (.lst []))) ∧ ∀ i m H, W i m H →
      (J.stop i H ∧ Qd H) ∨ (J.go i H ∧ ∃ Nx : Hp → Prop, (∀ H', Nx H' → ∃ m', m' < m ∧ W (i + 1) m' H') ∧ ∀ x H', J.yld i H x H' → gName j x (wipe σ vs) H' fun σ2 H2 => wipe σ2 vs = wipe σ vs ∧ tt σ2 H2 fun b H3 =>
        if b = true then te σ2 H3 fun y H4 => ∃ acc, H4 D = some (.lst acc) ∧ acc.length < sizeLine ∧ Nx (upd H4 D (.lst (acc ++ [y]))) else Nx H3) := by
  refine lc_it w (fun i H' => Cw H1 f v D i H') ⟨hD, Ex.new hD, upd_same⟩ (fun i H' _ p => hG H' p.2.1) (fun i x H H' hi p y => ?_) (fun H' p => hd H' p.2.1 p.2.2)
  obtain ⟨rfl, rfl⟩ := hY i H x H' y hi
  exact ⟨hw _, cw_turn p (by omega) (ht i hi) (he i hi)⟩
theorem b01 (c : Prop) [Decidable c] : (-(2 ^ 64) : Int) < (if c then 1 else 0) ∧ (if c then (1 : Int) else 0) < 2 ^ 64 := by
  split <;> decide
theorem b0 (c : Prop) [Decidable c] : (0 : Int) ≤ (if c then 1 else 0) := by
  split <;> decide
theorem mixB {x y j : Int} (h : 0 ≤ y ∧ y ≤ 7919000 * 1000) (h0 : 0 ≤ j) (h1 : j < 1000) : -(2 ^ 64) < x % 2147483629 + y + 31 * j + 17 ∧ x % 2147483629 + y + 31 * j + 17 < 2 ^ 64 := by
  omega
/-! ### slices and sums of tuples, whichever object they are -/
section
variable {K : PySem.W.Frag} {H : Hp} {a b : Addr} {xs ys : List V} {lo hi : Option Int} {Q : VK}
theorem cutV_whole (h : HT.sIx xs.length 0 lo = 0 ∧ HT.sIx xs.length xs.length hi = xs.length) : cutV xs lo hi = xs := by
  unfold cutV
  rw [h.1, h.2]
  exact List.take_length
theorem slA (h : SqT K H a xs) (q : ∀ p H', Same H H' → SqT K H' p (cutV xs lo hi) → Q (.ref p) H') : rSlA K (.ref a) lo hi H Q :=
  ⟨a, xs, rfl, h, fun hw => q a H (Same.refl H) (by rw [cutV_whole hw]; exact h), fun _ p np => q p _ (Same.new np) (SqT.of upd_same)⟩
theorem ctA (ha : SqT K H a xs) (hb : SqT K H b ys) (hz : xs.length + ys.length ≤ 1000000) (q : ∀ p H', Same H H' → SqT K H' p (xs ++ ys) → Q (.ref p) H') : rCatA K (.ref a) (.ref b) H Q := by
  refine ⟨a, b, xs, ys, rfl, rfl, ha, hb, small hz, fun e => ?_, fun _ e => ?_, fun _ _ p np => q p _ (Same.new np) (SqT.of upd_same)⟩
  · subst e
    exact q b H (Same.refl H) hb
  · subst e
    exact q a H (Same.refl H) (by rw [List.append_nil]; exact ha)
theorem cutV_from (i : Nat) : cutV xs (some (i : Int)) none = xs.drop i := by
  unfold cutV
  rw [HT.sIx_nat, HT.sIx_none]
  by_cases h : i ≤ xs.length
  · rw [Nat.min_eq_left h]
    exact List.take_of_length_le (by rw [List.length_drop]; omega)
  · rw [Nat.min_eq_right (by omega), List.drop_eq_nil_of_le (by omega), List.drop_eq_nil_of_le (by omega)]
    exact List.take_nil
theorem cutV_to (i : Nat) : cutV xs none (some (i : Int)) = xs.take i := by
  unfold cutV
  rw [HT.sIx_nat, HT.sIx_none, List.drop_zero, Nat.sub_zero]
  by_cases h : i ≤ xs.length
  · rw [Nat.min_eq_left h]
  · rw [Nat.min_eq_right (by omega), List.take_length, List.take_of_length_le (by omega)]
end
theorem maxB (x : Int) (h : 0 ≤ x) : 1 ≤ (if (if 3 < x then 3 else x) > 1 then (if 3 < x then 3 else x) else 1) ∧ (if (if 3 < x then 3 else x) > 1 then (if 3 < x then 3 else x) else 1) ≤ 3 := by
  split <;> split <;> omega
/-- a new source is used and left behind -/
theorem Same.used {p : Addr} {H H1 H2 H3 : Hp} (a : Same H H1) (np : H1 p = none) (b : Same H1 H2) (c : Exb p H2 H3) : Same H H3 := fun x o h =>
  c x o (fun z => by rw [z, a.free np] at h; cases h) (b x o (a x o h))
theorem atLastI {ns : List Int} {c : Int} (h : ns.getLast? = some c) : atI (ns.map V.int) (-1) = some (.int c) := by
  rcases List.eq_nil_or_concat ns with rfl | ⟨m, x, rfl⟩
  · cases h
  · rw [List.concat_eq_append] at *
    rw [List.getLast?_concat] at h
    cases Option.some.inj h
    rw [List.map_append]
    exact atI_last _ _
theorem atHeadI {ns : List Int} {c : Int} (h : ns.head? = some c) : atI (ns.map V.int) 0 = some (.int c) := by
  cases ns with
  | nil => cases h
  | cons x r =>
    cases Option.some.inj h
    exact atI0
theorem cutV_last {xs : List V} (h : 0 < xs.length) : cutV xs (some (-1)) none = xs.drop (xs.length - 1) := by
  unfold cutV
  rw [HT.sIx_none]
  have e : HT.sIx xs.length 0 (some (-1)) = xs.length - 1 := by
    show (if (-1 : Int) < 0 then (-1 + (xs.length : Int)).toNat else min (-1 : Int).toNat xs.length) = xs.length - 1
    rw [if_pos (by decide)]
    omega
  rw [e]
  exact List.take_of_length_le (by rw [List.length_drop]; omega)
theorem cutV_inn {xs : List V} (h : 2 ≤ xs.length) : cutV xs (some 1) (some (-1)) = xs.tail.dropLast := by
  unfold cutV
  have e1 : HT.sIx xs.length 0 (some 1) = 1 := by
    rw [show (1 : Int) = ((1 : Nat) : Int) from rfl, HT.sIx_nat]
    omega
  have e2 : HT.sIx xs.length xs.length (some (-1)) = xs.length - 1 := by
    show (if (-1 : Int) < 0 then (-1 + (xs.length : Int)).toNat else min (-1 : Int).toNat xs.length) = xs.length - 1
    rw [if_pos (by decide)]
    omega
  rw [e1, e2, List.drop_one, List.dropLast_eq_take, List.length_tail]
/-- a tuple is not where a list stands -/
theorem tup_upd {K : PySem.W.Frag} {H : Hp} {a q : Addr} {xs ys : List V} {o : HO} (h : SqT K H a xs) (hq : H q = some (.lst ys)) : SqT K (upd H q o) a xs := by
  rcases h with (h | ⟨f, h⟩) | h
  · exact .inl (.inl (by rw [upd_ne (fun z => by rw [z, hq] at h; cases h)]; exact h))
  · exact .inl (.inr ⟨f, by rw [upd_ne (fun z => by rw [z, hq] at h; cases h)]; exact h⟩)
  · exact .inr h
end Bw

namespace Bw
open PySem PySem.Spec PyProof.Rows L2
open PySem.W (Datum Tup)
/-! ### data by its Lean type -/
class Lay (α : Type) [DecidableEq α] [Datum α] : Prop where
  lay : ∀ a : α, (Datum.toD a).canLay0 = true
theorem layAll {α : Type} [DecidableEq α] [Datum α] [Lay α] : ∀ xs : List α, PyData.canLayAll0 (xs.map Datum.toD) = true
  | [] => rfl
  | x :: xs => by rw [List.map_cons, PyData.canLayAll0, Lay.lay x, layAll xs]; rfl
instance : Lay Int := ⟨fun _ => rfl⟩
instance : Lay Bool := ⟨fun _ => rfl⟩
instance {α : Type} [DecidableEq α] [Datum α] [Lay α] : Lay (Tup α) := ⟨fun t => by
  show PyData.canLay0 (.tuple (t.items.map Datum.toD)) = true
  rw [PyData.canLay0]
  exact layAll t.items⟩
instance {α : Type} [DecidableEq α] [Datum α] [Lay α] : Lay (List α) := ⟨fun t => by
  show PyData.canLay0 (.list (t.map Datum.toD)) = true
  rw [PyData.canLay0]
  exact layAll t⟩
instance {α β : Type} [DecidableEq α] [Datum α] [Lay α] [DecidableEq β] [Datum β] [Lay β] : Lay (α × β) := ⟨fun p => by
  show PyData.canLay0 (.tuple [Datum.toD p.1, Datum.toD p.2]) = true
  rw [PyData.canLay0, PyData.canLayAll0, PyData.canLayAll0, PyData.canLayAll0, Lay.lay, Lay.lay]
  rfl⟩
/-- v holds the datum a -/
def Hd {α : Type} [DecidableEq α] [Datum α] (K : PySem.W.Frag) (H : Hp) (v : V) (a : α) : Prop := Dp K H v (Datum.toD a)
section
variable {α β : Type} [DecidableEq α] [Datum α] [Lay α] [DecidableEq β] [Datum β] [Lay β] {K : PySem.W.Frag} {H : Hp} {x y : V} {a b : α} {Q : VK}
theorem shaped_of (a : α) (h : Datum.depth α ≤ 64) : SeqAt.shaped (Datum.toD a) = true := by
  unfold SeqAt.shaped
  rw [Lay.lay a, decide_eq_true (Nat.le_trans (Datum.depth_le a) h)]
  rfl
theorem eqH (ha : Hd K H x a) (hb : Hd K H y b) (q : Q (.bl (decide (a = b))) H) (hd : Datum.depth α ≤ 64 := by decide) : rEqD K x y H Q :=
  ⟨_, _, ha, hb, shaped_of a hd, shaped_of b hd, by rw [Datum.eqv]; exact q⟩
theorem neH (ha : Hd K H x a) (hb : Hd K H y b) (q : Q (.bl (!decide (a = b))) H) (hd : Datum.depth α ≤ 64 := by decide) : rNeD K x y H Q :=
  ⟨_, _, ha, hb, shaped_of a hd, shaped_of b hd, by rw [Datum.eqv]; exact q⟩
theorem hdI (i : Int) : Hd K H (.int i) i := .int i
theorem hdB (i : Bool) : Hd K H (.bl i) i := .bl i
theorem hdT {p : Addr} {ns : List Int} (h : SqT K H p (ns.map V.int)) : Hd K H (.ref p) (Tup.mk ns) := dpT h
theorem hdL {p : Addr} {ns : List Int} (h : SqL K H p (ns.map V.int)) : Hd K H (.ref p) ns := dpL h
theorem hdP {p : Addr} {c : β} (h : SqT K H p [x, y]) (ha : Hd K H x a) (hb : Hd K H y c) : Hd K H (.ref p) (a, c) := .tup h (.cons ha (.cons hb .nil))
end
/-! ### what stays under a change elsewhere -/
mutual
theorem dp_same {K : PySem.W.Frag} {H H1 : Hp} (e : Same H H1) : ∀ (d : PyData) (v : V), Dp K H v d → Dp K H1 v d
  | .none, _, h => by cases h; exact .non
  | .bool _, _, h => by cases h; exact .bl _
  | .int _, _, h => by cases h; exact .int _
  | .str _, _, h => by cases h; exact .str _
  | .list ds, _, h => by
    cases h with
    | lst hs ha => exact .lst (e.seq hs) (dp_sameAll e ds _ ha)
  | .tuple ds, _, h => by
    cases h with
    | tup hs ha => exact .tup (e.tup hs) (dp_sameAll e ds _ ha)
  | .dict _, _, h => by cases h
theorem dp_sameAll {K : PySem.W.Frag} {H H1 : Hp} (e : Same H H1) : ∀ (ds : List PyData) (vs : List V), DpAll K H vs ds → DpAll K H1 vs ds
  | [], _, h => by cases h; exact .nil
  | d :: ds, _, h => by
    cases h with
    | cons a b => exact .cons (dp_same e d _ a) (dp_sameAll e ds _ b)
end
theorem Hd.same {α : Type} [DecidableEq α] [Datum α] {K : PySem.W.Frag} {H H1 : Hp} {v : V} {a : α} (e : Same H H1) (h : Hd K H v a) : Hd K H1 v a := dp_same e _ _ h
/-! ### a list of draws -/
/-- what an expression that draws below t from the source at p gives -/
def Dr (te : TE) (σ : L2.St) (p : Addr) (t : Int) : Prop := ∀ (H : Hp) (Q : VK), Src H p → (∀ r H', 0 ≤ r → r < t → Src H' p → Exb p H H' → Q (.int r) H') → te σ H Q
theorem tYes_i {σ : L2.St} {H : Hp} {Q : Bool → Hp → Prop} (h : Q true H) : tYes σ H Q := h
theorem lc_draw {n j : Nat} {vs : List Nat} {σ : L2.St} {H1 : Hp} {D : Addr} {te : TE} {Qd : Hp → Prop} (t : Int) (p : Addr) (hD : H1 D = none) (s : Src H1 p) (hn : n < 100000) (hw : ∀ x, wipe ((wipe σ vs).set j (some x)) vs = wipe σ vs)
    (hd : ∀ i : Nat, i < n → Dr te ((wipe σ vs).set j (some (.int (0 + (i : Int))))) p t)
    (fin : ∀ (ns : List Int) H', ns.length = n → (∀ c ∈ ns, 0 ≤ c ∧ c < t) → D ≠ p → H' D = some (.lst (ns.map V.int)) → Src H' p → Exb p H1 H' → Qd H') :
    ∃ W : Nat → Nat → Hp → Prop, (∃ m, W 0 m (upd H1 D (.lst []))) ∧ ∀ i m H, W i m H →
      ((Itr 0 n).stop i H ∧ Qd H) ∨ ((Itr 0 n).go i H ∧ ∃ Nx : Hp → Prop, (∀ H', Nx H' → ∃ m', m' < m ∧ W (i + 1) m' H') ∧ ∀ x H', (Itr 0 n).yld i H x H' → gName j x (wipe σ vs) H' fun σ2 H2 => wipe σ2 vs = wipe σ vs ∧ tYes σ2 H2 fun b H3 =>
        if b = true then te σ2 H3 fun y H4 => ∃ acc, H4 D = some (.lst acc) ∧ acc.length < sizeLine ∧ Nx (upd H4 D (.lst (acc ++ [y]))) else Nx H3) := by
  have nDp := s.ne hD
  refine lc_it walk_range (fun i H' => ∃ ns : List Int, H' D = some (.lst (ns.map V.int)) ∧ ns.length = i ∧ (∀ c ∈ ns, 0 ≤ c ∧ c < t) ∧ Src H' p ∧ Exb p H1 H') ⟨[], upd_same, rfl, (fun c hc => by cases hc), s.put nDp, Exb.new hD⟩ (fun _ _ _ _ => trivial) (fun i x H2 H3 hi h y => ?_) (fun H' h => ?_)
  · obtain ⟨ns, h1, h2, h3, h4, h5⟩ := h
    obtain ⟨rfl, rfl⟩ := y
    refine ⟨hw _, ?_⟩
    refine tYes_i ?_
    refine iteT ?_
    refine hd i hi H3 _ h4 fun r H4 r0 r1 s4 e4 => ⟨_, e4.lst nDp h1, smallLt (by rw [List.length_map]; omega), ns ++ [r], by rw [upd_same, List.map_append]; rfl, by rw [List.length_append, h2]; rfl, fun c hc => ?_, s4.put nDp, (h5.trans e4).mut hD⟩
    rcases List.mem_append.mp hc with h | h
    · exact h3 c h
    · rw [List.mem_singleton.mp h]; exact ⟨r0, r1⟩
  · obtain ⟨ns, h1, h2, h3, h4, h5⟩ := h
    exact fin ns H' h2 h3 nDp h1 h4 h5
end Bw

namespace K
open PySem PySem.Spec PyProof.Rows L2 Bw
open PySem.W (Tup Datum)
/-! ### rows and their rests -/
def Row (ns : List Int) : Prop := 1 ≤ ns.length ∧ ns.length ≤ 200 ∧ ∀ c ∈ ns, 0 ≤ c ∧ c ≤ 7
def stp (l : List Int) (c : Int) : List Int := if l.length > 1 ∧ l[l.length - 2]? = some c then l.dropLast else l ++ [c]
def strk (ns : List Int) : List Int := ns.foldl stp []
/-- the open places -/
def isOpn (ns : List Int) (i : Nat) : Bool := decide (ns[i]? = ns[i + 2]?)
def opn (ns : List Int) : List Int := ((List.range (ns.length - 2)).filter (isOpn ns)).map fun (i : Nat) => 1 + (i : Int)
theorem given_opn (ns : List Int) : Evl.given (ns.length - 2) (isOpn ns) (fun i => V.int (1 + (i : Int))) = (opn ns).map V.int := by
  unfold Evl.given opn
  rw [List.map_map]
  rfl
theorem stp_len (l : List Int) (c : Int) : (stp l c).length ≤ l.length + 1 := by
  unfold stp
  split
  · rw [List.length_dropLast]; omega
  · rw [List.length_append]; exact Nat.le_refl _
theorem foldl_stp_len : ∀ (ns l : List Int), (ns.foldl stp l).length ≤ l.length + ns.length
  | [], l => Nat.le_refl _
  | c :: ns, l => by
    have h := foldl_stp_len ns (stp l c)
    have h2 := stp_len l c
    show (ns.foldl stp (stp l c)).length ≤ l.length + (ns.length + 1)
    omega
theorem strk_len (ns : List Int) : (strk ns).length ≤ ns.length := by
  have h := foldl_stp_len ns []
  simpa [strk] using h

/-! ### striking, in any order -/
theorem stp_pop {m : List Int} {c x : Int} : stp (m ++ [c, x]) c = m ++ [c] := by
  unfold stp
  have h1 : (m ++ [c, x]).length > 1 := by rw [List.length_append]; show 1 < m.length + 2; omega
  have h2 : (m ++ [c, x])[(m ++ [c, x]).length - 2]? = some c := by
    rw [List.length_append, show m.length + [c, x].length - 2 = m.length from Nat.add_sub_cancel .., List.getElem?_append_right (Nat.le_refl _), Nat.sub_self]
    rfl
  rw [if_pos ⟨h1, h2⟩, show m ++ [c, x] = (m ++ [c]) ++ [x] by rw [List.append_assoc]; rfl, List.dropLast_concat]
theorem stp_cases (l : List Int) (c : Int) : (∃ m x, l = m ++ [c, x] ∧ stp l c = m ++ [c]) ∨ (stp l c = l ++ [c] ∧ ∀ m x, l ≠ m ++ [c, x]) := by
  by_cases h : l.length > 1 ∧ l[l.length - 2]? = some c
  · refine .inl ?_
    obtain ⟨h1, h2⟩ := h
    have e0 : l ≠ [] := fun z => by rw [z] at h1; exact absurd h1 (by decide)
    have e1 : l.dropLast ≠ [] := fun z => by
      have := congrArg List.length z
      rw [List.length_dropLast] at this
      simp at this
      omega
    have p1 := List.dropLast_concat_getLast e0
    have p2 := List.dropLast_concat_getLast e1
    have e2 : l.dropLast.getLast e1 = c := by
      have q : l.dropLast.getLast? = some c := by
        rw [List.getLast?_eq_getElem?, List.length_dropLast, List.getElem?_dropLast, if_pos (by omega), show l.length - 1 - 1 = l.length - 2 by omega]
        exact h2
      rw [List.getLast?_eq_getLast e1] at q
      exact Option.some.inj q
    refine ⟨l.dropLast.dropLast, l.getLast e0, ?_, ?_⟩
    · rw [show l.dropLast.dropLast ++ [c, l.getLast e0] = (l.dropLast.dropLast ++ [c]) ++ [l.getLast e0] by rw [List.append_assoc]; rfl, ← e2, p2, p1]
    · unfold stp
      rw [if_pos ⟨h1, h2⟩, ← e2, p2]
  · refine .inr ⟨?_, fun m x e => h ?_⟩
    · unfold stp
      rw [if_neg h]
    · subst e
      refine ⟨by rw [List.length_append]; show 1 < m.length + 2; omega, ?_⟩
      rw [List.length_append, show m.length + [c, x].length - 2 = m.length from Nat.add_sub_cancel .., List.getElem?_append_right (Nat.le_refl _), Nat.sub_self]
      rfl
/-- nothing to strike -/
def Str8 (l : List Int) : Prop := ∀ m t q p, l ≠ m ++ [t, q, t] ++ p
theorem stp_last (l : List Int) (c : Int) : ∃ m, stp l c = m ++ [c] := by
  rcases stp_cases l c with ⟨m, x, _, e⟩ | ⟨e, _⟩
  · exact ⟨m, e⟩
  · exact ⟨l, e⟩
theorem Str8.pre {l m : List Int} (h : Str8 (l ++ m)) : Str8 l := fun a t q p e => h a t q (p ++ m) (by rw [e, List.append_assoc])
theorem stp_str {l : List Int} {c : Int} (h : Str8 l) : Str8 (stp l c) := by
  rcases stp_cases l c with ⟨m, x, e, e2⟩ | ⟨e, hn⟩
  · rw [e2]
    exact Str8.pre (m := [x]) (by rw [List.append_assoc]; exact e ▸ h)
  · rw [e]
    intro m t q p z
    rcases List.eq_nil_or_concat p with rfl | ⟨p', y, rfl⟩
    · rw [List.append_nil, show m ++ [t, q, t] = (m ++ [t, q]) ++ [t] by rw [List.append_assoc]; rfl] at z
      obtain ⟨z1, z2⟩ := List.append_inj' z rfl
      have z3 : c = t := (List.cons.inj z2).1
      exact hn m q (by rw [z1, z3])
    · rw [List.concat_eq_append, ← List.append_assoc] at z
      obtain ⟨z1, _⟩ := List.append_inj' z rfl
      exact h m t q p' z1
theorem foldl_str : ∀ (ns l : List Int), Str8 l → Str8 (ns.foldl stp l)
  | [], _, h => h
  | _ :: ns, _, h => foldl_str ns _ (stp_str h)
theorem str_nil : Str8 [] := fun m t q p e => by
  have := congrArg List.length e
  simp at this
theorem strk_str (ns : List Int) : Str8 (strk ns) := foldl_str ns [] str_nil
/-- a coat and the one before it again: nothing is left of them -/
theorem stp_there_back {m : List Int} {t q : Int} (h : Str8 (m ++ [t])) : stp (stp (m ++ [t]) q) t = m ++ [t] := by
  rcases stp_cases (m ++ [t]) q with ⟨a, x, e, e2⟩ | ⟨e, _⟩
  · rw [show a ++ [q, x] = (a ++ [q]) ++ [x] by rw [List.append_assoc]; rfl] at e
    obtain ⟨e3, e4⟩ := List.append_inj' e rfl
    have e5 : t = x := (List.cons.inj e4).1
    rw [e2]
    rcases stp_cases (a ++ [q]) t with ⟨b, y, f, _⟩ | ⟨f, _⟩
    · refine absurd ?_ (h b t y [])
      rw [e3, f, List.append_nil, List.append_assoc]
      rfl
    · rw [f, ← e3]
  · rw [e, show m ++ [t] ++ [q] = m ++ [t, q] by rw [List.append_assoc]; rfl]
    exact stp_pop
/-- one strike -/
def Red (a b : List Int) : Prop := ∃ m t q p, a = m ++ [t, q, t] ++ p ∧ b = m ++ [t] ++ p
theorem strk_red {a b : List Int} (h : Red a b) : strk a = strk b := by
  obtain ⟨m, t, q, p, rfl, rfl⟩ := h
  unfold strk
  rw [List.foldl_append, List.foldl_append, List.foldl_append, List.foldl_append]
  show List.foldl stp (stp (stp (stp (List.foldl stp [] m) t) q) t) p = List.foldl stp (stp (List.foldl stp [] m) t) p
  have hs : Str8 (stp (List.foldl stp [] m) t) := stp_str (foldl_str m [] str_nil)
  obtain ⟨k, e⟩ := stp_last (List.foldl stp [] m) t
  rw [e] at hs ⊢
  rw [stp_there_back hs]
theorem strk_of_str : ∀ (ns l : List Int), Str8 (l ++ ns) → ns.foldl stp l = l ++ ns
  | [], l, _ => (List.append_nil l).symm
  | c :: ns, l, h => by
    have e : stp l c = l ++ [c] := by
      rcases stp_cases l c with ⟨m, x, f, _⟩ | ⟨f, _⟩
      · refine absurd ?_ (h m c x ns)
        rw [f, List.append_assoc, List.append_assoc]
        rfl
      · exact f
    show ns.foldl stp (stp l c) = l ++ c :: ns
    rw [e, strk_of_str ns (l ++ [c]) (by rw [List.append_assoc]; exact h), List.append_assoc]
    rfl
theorem strk_id {ns : List Int} (h : Str8 ns) : strk ns = ns := strk_of_str ns [] h
theorem red_inv {α : Type} {f : List Int → α} (hf : ∀ a b, Red a b → f a = f b) : ∀ (ns l : List Int), f (l ++ ns) = f (ns.foldl stp l)
  | [], l => by rw [List.append_nil]; rfl
  | c :: ns, l => by
    show f (l ++ c :: ns) = f (ns.foldl stp (stp l c))
    rw [← red_inv hf ns (stp l c)]
    rcases stp_cases l c with ⟨m, x, e, e2⟩ | ⟨e, _⟩
    · rw [e2, e]
      refine hf _ _ ⟨m, c, x, ns, ?_, rfl⟩
      rw [List.append_assoc, List.append_assoc]
      rfl
    · rw [e, List.append_assoc]
      rfl
theorem Red.rev {a b : List Int} (h : Red a b) : Red a.reverse b.reverse := by
  obtain ⟨m, t, q, p, rfl, rfl⟩ := h
  refine ⟨p.reverse, t, q, m.reverse, ?_, ?_⟩
  · simp
  · simp
theorem Str8.rev {l : List Int} (h : Str8 l) : Str8 l.reverse := fun m t q p e => h p.reverse t q m.reverse (by
  have := congrArg List.reverse e
  simpa using this)
theorem strk_rev (ns : List Int) : strk ns.reverse = (strk ns).reverse := by
  have h := red_inv (f := fun l : List Int => strk l.reverse) (fun a b r => strk_red r.rev) ns []
  exact h.trans (strk_id (strk_str ns).rev)
theorem strk_idem (ns : List Int) : strk (strk ns) = strk ns := strk_id (strk_str ns)
theorem strk_mem {c : Int} (ns : List Int) (h : c ∈ strk ns) : c ∈ ns := by
  have key : ∀ (ns l : List Int), (∀ x ∈ ns.foldl stp l, x ∈ l ∨ x ∈ ns) := by
    intro ns
    induction ns with
    | nil => intro l x hx; exact .inl hx
    | cons d ns ih =>
      intro l x hx
      rcases ih (stp l d) x hx with h | h
      · rcases stp_cases l d with ⟨m, y, e, e2⟩ | ⟨e, _⟩
        · rw [e2] at h
          rw [e]
          refine .inl ?_
          rcases List.mem_append.mp h with h | h
          · exact List.mem_append_left _ h
          · exact List.mem_append_right _ (by rw [List.mem_singleton.mp h]; exact List.mem_cons_self)
        · rw [e] at h
          rcases List.mem_append.mp h with h | h
          · exact .inl h
          · exact .inr (by rw [List.mem_singleton.mp h]; exact List.mem_cons_self)
      · exact .inr (List.mem_cons_of_mem _ h)
  rcases key ns [] c h with h | h
  · cases h
  · exact h
theorem strk_pos {ns : List Int} (h : 1 ≤ ns.length) : 1 ≤ (strk ns).length := by
  rcases List.eq_nil_or_concat ns with rfl | ⟨m, c, rfl⟩
  · exact absurd h (by decide)
  · unfold strk
    rw [List.concat_eq_append, List.foldl_append]
    obtain ⟨k, e⟩ := stp_last (List.foldl stp [] m) c
    show 1 ≤ (stp (List.foldl stp [] m) c).length
    rw [e, List.length_append]
    exact Nat.le_add_left _ _
theorem Row.strk {ns : List Int} (h : Row ns) : Row (strk ns) := ⟨strk_pos h.1, Nat.le_trans (strk_len ns) h.2.1, fun c hc => h.2.2 c (strk_mem ns hc)⟩
theorem Row.rev {ns : List Int} (h : Row ns) : Row ns.reverse := ⟨by rw [List.length_reverse]; exact h.1, by rw [List.length_reverse]; exact h.2.1, fun c hc => h.2.2 c (List.mem_reverse.mp hc)⟩
/-- an open place is a place where can be struck -/
theorem opn_red {ns : List Int} {i : Int} (h : i ∈ opn ns) : ∃ k : Nat, i = 1 + (k : Int) ∧ k + 2 < ns.length ∧ Red ns (ns.take (k + 1) ++ ns.drop (k + 3)) := by
  unfold opn at h
  obtain ⟨k, hk, rfl⟩ := List.mem_map.mp h
  obtain ⟨h1, h2⟩ := List.mem_filter.mp hk
  have h3 := List.mem_range.mp h1
  have h4 : ns[k]? = ns[k + 2]? := of_decide_eq_true h2
  have l2 : k + 2 < ns.length := by omega
  refine ⟨k, rfl, l2, ns.take k, ns[k], ns[k + 1], ns.drop (k + 3), ?_, ?_⟩
  · have e : ns[k + 2] = ns[k] := by
      rw [List.getElem?_eq_getElem (by omega), List.getElem?_eq_getElem l2] at h4
      exact (Option.some.inj h4).symm
    have d0 : ns.drop k = ns[k] :: ns.drop (k + 1) := List.drop_eq_getElem_cons (by omega)
    have d1 : ns.drop (k + 1) = ns[k + 1] :: ns.drop (k + 2) := List.drop_eq_getElem_cons (by omega)
    have d2 : ns.drop (k + 2) = ns[k + 2] :: ns.drop (k + 3) := List.drop_eq_getElem_cons l2
    rw [d2, e] at d1
    rw [d1] at d0
    have := List.take_append_drop k ns
    rw [d0] at this
    rw [List.append_assoc]
    exact this.symm
  · rw [List.take_add_one, List.getElem?_eq_getElem (by omega)]
    rfl
theorem opn_str {ns : List Int} (h : opn ns = []) : Str8 ns := fun m t q p e => by
  have h1 : (List.range (ns.length - 2)).filter (isOpn ns) = [] := List.map_eq_nil_iff.mp h
  have h2 := List.filter_eq_nil_iff.mp h1 m.length (List.mem_range.mpr (by
    rw [e, List.length_append, List.length_append]
    show m.length < m.length + 3 + p.length - 2
    omega))
  refine h2 (decide_eq_true ?_)
  have g : ∀ j, j < 3 → ns[m.length + j]? = [t, q, t][j]? := fun j hj => by
    rw [e, List.append_assoc, List.getElem?_append_right (Nat.le_add_right _ _), Nat.add_sub_cancel_left, List.getElem?_append_left hj]
  exact (g 0 (by decide)).trans (g 2 (by decide)).symm
theorem str_opn {ns : List Int} (h : Str8 ns) : opn ns = [] := by
  cases e : opn ns with
  | nil => rfl
  | cons i r =>
    obtain ⟨k, _, _, m, t, q, p, f, _⟩ := opn_red (ns := ns) (i := i) (by rw [e]; exact List.mem_cons_self)
    exact absurd f (h m t q p)
theorem red_len {a b : List Int} (h : Red a b) : b.length + 2 = a.length := by
  obtain ⟨m, t, q, p, rfl, rfl⟩ := h
  simp only [List.length_append, List.length_cons, List.length_nil]
  omega
theorem red_row {a b : List Int} (h : Red a b) (r : Row a) : Row b := by
  have hl := red_len h
  obtain ⟨m, t, q, p, rfl, rfl⟩ := h
  refine ⟨?_, by have := r.2.1; omega, fun c hc => r.2.2 c ?_⟩
  · simp only [List.length_append, List.length_cons, List.length_nil]
    omega
  · simp only [List.mem_append, List.mem_cons, List.not_mem_nil, or_false] at hc ⊢
    rcases hc with (hc | hc) | hc
    · exact .inl (.inl hc)
    · exact .inl (.inr (.inl hc))
    · exact .inr hc

/-! ### rows joined -/
theorem strk_app (a b : List Int) : strk (a ++ b) = strk (strk a ++ b) := by
  unfold strk
  rw [List.foldl_append, List.foldl_append]
  have h : List.foldl stp [] (List.foldl stp [] a) = List.foldl stp [] a := strk_idem a
  rw [h]
theorem strk_mid (a b : List Int) : strk (a ++ b) = strk (a ++ strk b) :=
  red_inv (f := fun l => strk (a ++ l)) (fun x y ⟨m, t, q, p, ex, ey⟩ => strk_red ⟨a ++ m, t, q, p, by rw [ex]; simp, by rw [ey]; simp⟩) b []
theorem head_stp (c : Int) (l : List Int) (d : Int) : (stp (c :: l) d).head? = some c := by
  rcases stp_cases (c :: l) d with ⟨m, x, e, e2⟩ | ⟨e, _⟩
  · rw [e2]
    cases m with
    | nil => exact (congrArg List.head? e).symm
    | cons y m => exact (congrArg List.head? e).symm
  · rw [e]
    rfl
theorem head_foldl : ∀ (ns : List Int) (c : Int) (l : List Int), (ns.foldl stp (c :: l)).head? = some c
  | [], _, _ => rfl
  | d :: ns, c, l => by
    have h := head_stp c l d
    cases e : stp (c :: l) d with
    | nil => rw [e] at h; cases h
    | cons x r =>
      rw [e] at h
      have ex : x = c := Option.some.inj h
      rw [ex] at e
      show (ns.foldl stp (stp (c :: l) d)).head? = some c
      rw [e]
      exact head_foldl ns c r
theorem strk_head : ∀ ns : List Int, (strk ns).head? = ns.head?
  | [] => rfl
  | c :: ns => head_foldl ns c []
theorem strk_last (ns : List Int) : (strk ns).getLast? = ns.getLast? := by
  rcases List.eq_nil_or_concat ns with rfl | ⟨m, c, rfl⟩
  · rfl
  · unfold strk
    rw [List.concat_eq_append, List.foldl_append]
    obtain ⟨k, e⟩ := stp_last (List.foldl stp [] m) c
    show (stp (List.foldl stp [] m) c).getLast? = _
    rw [e, List.getLast?_concat, List.getLast?_concat]
/-- a row's end and the next row's beginning are one stone -/
theorem glue {a b : List Int} {c : Int} (ha : a.getLast? = some c) (hb : b.head? = some c) : a ++ b.tail = a.dropLast ++ b := by
  rcases List.eq_nil_or_concat a with rfl | ⟨m, x, rfl⟩
  · cases ha
  · rw [List.concat_eq_append] at *
    rw [List.getLast?_concat] at ha
    cases Option.some.inj ha
    cases b with
    | nil => cases hb
    | cons y b =>
      cases Option.some.inj hb
      rw [List.dropLast_concat, List.append_assoc]
      rfl
/-- joining a rested row -/
theorem join_rest {a b : List Int} {c : Int} (ha : a.getLast? = some c) (hb : b.head? = some c) : strk (a ++ (strk b).tail) = strk (a ++ b.tail) := by
  rw [glue ha ((strk_head b).trans hb), glue ha hb, ← strk_mid]
theorem there_back : ∀ (a : List Int) (c : Int), a.getLast? = some c → strk (a.reverse ++ a.tail) = [c]
  | [], _, h => nomatch h
  | [x], c, h => by
    cases Option.some.inj h
    rfl
  | x :: y :: a, c, h => by
    rw [List.getLast?_cons_cons] at h
    rw [← there_back (y :: a) c h]
    exact strk_red ⟨a.reverse, y, x, a, by simp, by simp⟩
theorem str_ix {l : List Int} : Str8 l ↔ ∀ i, i + 2 < l.length → l[i]? ≠ l[i + 2]? := by
  constructor
  · intro h i hi e
    have z := str_opn h
    have : (1 + (i : Int)) ∈ opn l := List.mem_map.mpr ⟨i, List.mem_filter.mpr ⟨List.mem_range.mpr (by omega), decide_eq_true e⟩, rfl⟩
    rw [z] at this
    cases this
  · intro h
    refine opn_str ?_
    have z : (List.range (l.length - 2)).filter (isOpn l) = [] := List.filter_eq_nil_iff.mpr fun i hi e => h i (by have := List.mem_range.mp hi; omega) (of_decide_eq_true e)
    unfold opn
    rw [z]
    rfl
theorem str_mid {x y : List Int} {c : Int} (h1 : Str8 (x ++ [c])) (h2 : Str8 (c :: y)) (h3 : ∀ d, x.getLast? = some d → y.head? = some d → False) : Str8 (x ++ c :: y) := by
  rw [str_ix] at *
  intro i hi e
  rw [List.length_append, List.length_cons] at hi
  by_cases c1 : i + 2 ≤ x.length
  · refine h1 i (by rw [List.length_append]; show i + 2 < x.length + 1; omega) ?_
    have g : ∀ j, j ≤ x.length → (x ++ [c])[j]? = (x ++ c :: y)[j]? := fun j hj => by
      by_cases hj2 : j < x.length
      · rw [List.getElem?_append_left hj2, List.getElem?_append_left hj2]
      · rw [List.getElem?_append_right (by omega), List.getElem?_append_right (by omega), show j - x.length = 0 by omega]
        rfl
    rw [g i (by omega), g (i + 2) c1]
    exact e
  · by_cases c2 : x.length ≤ i
    · refine h2 (i - x.length) (by rw [List.length_cons]; omega) ?_
      rw [List.getElem?_append_right c2, List.getElem?_append_right (by omega), show i + 2 - x.length = i - x.length + 2 by omega] at e
      exact e
    · rw [List.getElem?_append_left (by omega), List.getElem?_append_right (by omega), show i + 2 - x.length = 1 by omega] at e
      have e2 : x.getLast? = y.head? := by
        rw [List.getLast?_eq_getElem?, show x.length - 1 = i by omega, e, List.head?_eq_getElem?]
        rfl
      cases f : y.head? with
      | none =>
        rw [List.head?_eq_none_iff] at f
        subst f
        simp at hi
        omega
      | some d => exact h3 d (e2.trans f) f
/-- how long two rows are alike -/
def lcp : List Int → List Int → Nat
  | a :: as, b :: bs => if a = b then lcp as bs + 1 else 0
  | _, _ => 0
theorem lcp_eq {a b : Int} {as bs : List Int} (h : a = b) : lcp (a :: as) (b :: bs) = lcp as bs + 1 := if_pos h
theorem lcp_ne {a b : Int} {as bs : List Int} (h : ¬ a = b) : lcp (a :: as) (b :: bs) = 0 := if_neg h
theorem lcp_comm : ∀ a b : List Int, lcp a b = lcp b a
  | [], [] => rfl
  | [], _ :: _ => rfl
  | _ :: _, [] => rfl
  | a :: as, b :: bs => by
    unfold lcp
    rw [lcp_comm as bs]
    by_cases h : a = b
    · rw [if_pos h, if_pos h.symm]
    · rw [if_neg h, if_neg (fun z => h z.symm)]
theorem lcp_self : ∀ a : List Int, lcp a a = a.length
  | [] => rfl
  | a :: as => by
    unfold lcp
    rw [if_pos rfl, lcp_self as]
    rfl
theorem lcp_nil (a : List Int) : lcp a [] = 0 := by cases a <;> rfl
theorem lcp_one {c : Int} : ∀ {b : List Int}, b.head? = some c → lcp [c] b = 1
  | [], h => nomatch h
  | x :: b, h => by
    cases Option.some.inj h
    unfold lcp
    rw [if_pos rfl]
    show lcp [] b + 1 = 1
    cases b <;> rfl
/-- the gap of two straight rows that begin alike -/
theorem gap_str : ∀ (a b : List Int) (c : Int), Str8 a → Str8 b → a.head? = some c → b.head? = some c → ((strk (a.reverse ++ b.tail)).length : Int) - 1 = a.length + b.length - 2 * lcp a b
  | [], _, _, _, _, h, _ => nomatch h
  | _ :: _, [], _, _, _, _, h => nomatch h
  | x :: a, y :: b, c, ha, hb, h1, h2 => by
    have ex : x = c := Option.some.inj h1
    have ey : y = c := Option.some.inj h2
    rw [ex] at ha h1 ⊢
    rw [ey] at hb h2 ⊢
    clear ex ey
    have ta : Str8 a := fun m t q p e => ha (c :: m) t q p (by rw [e]; rfl)
    have tb : Str8 b := fun m t q p e => hb (c :: m) t q p (by rw [e]; rfl)
    have el : lcp (c :: a) (c :: b) = lcp a b + 1 := by
      show (if c = c then lcp a b + 1 else 0) = _
      rw [if_pos rfl]
    have base : (∀ d, a.head? = some d → b.head? = some d → False) → lcp a b = 0 → ((strk ((c :: a).reverse ++ (c :: b).tail)).length : Int) - 1 = (c :: a).length + (c :: b).length - 2 * lcp (c :: a) (c :: b) := fun hd hl => by
      have hs : Str8 (a.reverse ++ c :: b) := str_mid (by
        have := ha.rev
        rw [List.reverse_cons] at this
        exact this) hb (fun d h3 h4 => hd d (by rw [List.getLast?_reverse] at h3; exact h3) h4)
      rw [List.reverse_cons, List.append_assoc]
      show ((strk (a.reverse ++ c :: b)).length : Int) - 1 = _
      rw [strk_id hs, el, hl, List.length_append, List.length_reverse, List.length_cons, List.length_cons]
      omega
    cases a with
    | nil => exact base (fun d h => nomatch h) (by cases b <;> rfl)
    | cons d a =>
      cases b with
      | nil => exact base (fun d _ h => nomatch h) rfl
      | cons e b =>
        by_cases hde : d = e
        · subst hde
          have ih := gap_str (d :: a) (d :: b) d ta tb rfl rfl
          have r : strk ((c :: d :: a).reverse ++ (c :: d :: b).tail) = strk ((d :: a).reverse ++ (d :: b).tail) := strk_red ⟨a.reverse, d, c, b, by simp, by simp⟩
          rw [r, el, ih, List.length_cons, List.length_cons, List.length_cons (a := c), List.length_cons (a := c), List.length_cons, List.length_cons]
          omega
        · refine base (fun f h3 h4 => hde ?_) ?_
          · exact (Option.some.inj h3).trans (Option.some.inj h4).symm
          · show (if d = e then lcp a b + 1 else 0) = 0
            rw [if_neg hde]
theorem gap_eq {a b : List Int} {c : Int} (ha : a.head? = some c) (hb : b.head? = some c) : ((strk (a.reverse ++ b.tail)).length : Int) - 1 = (strk a).length + (strk b).length - 2 * lcp (strk a) (strk b) := by
  have hl : a.reverse.getLast? = some c := by rw [List.getLast?_reverse]; exact ha
  rw [← join_rest hl hb, strk_app, strk_rev]
  exact gap_str _ _ c (strk_str a) (strk_str b) ((strk_head a).trans ha) ((strk_head b).trans hb)
theorem Row.last {ns : List Int} (h : Row ns) : ∃ c, ns.getLast? = some c ∧ 0 ≤ c ∧ c ≤ 7 := by
  rcases List.eq_nil_or_concat ns with rfl | ⟨m, c, rfl⟩
  · exact absurd h.1 (by decide)
  · rw [List.concat_eq_append] at *
    exact ⟨c, List.getLast?_concat, h.2.2 c (List.mem_append_right _ List.mem_cons_self)⟩
theorem Row.head {ns : List Int} (h : Row ns) : ∃ c, ns.head? = some c ∧ 0 ≤ c ∧ c ≤ 7 := by
  cases ns with
  | nil => exact absurd h.1 (by decide)
  | cons c r => exact ⟨c, rfl, h.2.2 c List.mem_cons_self⟩
theorem Row.join {a b : List Int} (ha : Row a) (hb : Row b) (h : a.length + b.length ≤ 201) : Row (K.strk (a ++ b.tail)) := by
  have hz : b.tail.length = b.length - 1 := List.length_tail ..
  have h1 := hb.1
  have h2 := ha.1
  have h3 := K.strk_len (a ++ b.tail)
  rw [List.length_append] at h3
  refine ⟨K.strk_pos (by rw [List.length_append]; omega), by omega, fun c hc => ?_⟩
  rcases List.mem_append.mp (K.strk_mem _ hc) with h | h
  · exact ha.2.2 c h
  · exact hb.2.2 c (List.mem_of_mem_tail h)
theorem join_head {a b : List Int} {c : Int} (h : a.head? = some c) : (strk (a ++ b.tail)).head? = some c := by
  rw [strk_head]
  cases a with
  | nil => cases h
  | cons x r => exact h
theorem join_last {a b : List Int} {c d : Int} (ha : a.getLast? = some c) (hb : b.head? = some c) (h : b.getLast? = some d) : (strk (a ++ b.tail)).getLast? = some d := by
  rw [strk_last, glue ha hb]
  rcases List.eq_nil_or_concat b with rfl | ⟨m, x, rfl⟩
  · cases h
  · rw [List.concat_eq_append, List.getLast?_concat] at h
    cases Option.some.inj h
    rw [List.concat_eq_append, ← List.append_assoc, List.getLast?_concat]
theorem rests_join {a b : List Int} {c : Int} (ha : a.getLast? = some c) (hb : b.head? = some c) : strk (strk a ++ (strk b).tail) = strk (a ++ b.tail) := by
  rw [← strk_app, join_rest ha hb]
theorem join3l (a b d : List Int) : strk (strk (a ++ b.tail) ++ d.tail) = strk (a ++ b.tail ++ d.tail) := (strk_app _ _).symm
theorem join3r {a b d : List Int} {c e : Int} (ha : a.getLast? = some c) (hb : b.head? = some c) (hb2 : b.getLast? = some e) (hd : d.head? = some e) : strk (a ++ (strk (b ++ d.tail)).tail) = strk (a ++ b.tail ++ d.tail) := by
  have h : (b ++ d.tail).head? = some c := by
    cases b with
    | nil => cases hb
    | cons x r => exact hb
  rw [join_rest ha h]
  cases b with
  | nil => cases hb
  | cons x r => rw [List.append_assoc]; rfl
theorem join_off {a b : List Int} {c d : Int} (ha : a.getLast? = some c) (hb : b.head? = some c) (hh : a.head? = some d) : strk ((strk a).reverse ++ (strk (a ++ b.tail)).tail) = strk b := by
  have hl : (strk a).reverse.getLast? = some d := by rw [List.getLast?_reverse, strk_head, hh]
  have hy : (a ++ b.tail).head? = some d := by
    cases a with
    | nil => cases hh
    | cons x r => exact hh
  rw [join_rest hl hy, ← strk_rev, ← strk_app]
  have e : a.reverse ++ (a ++ b.tail).tail = (a.reverse ++ a.tail) ++ b.tail := by
    cases a with
    | nil => cases hh
    | cons x r => rw [List.append_assoc]; rfl
  rw [e, strk_app, there_back a c ha]
  cases b with
  | nil => cases hb
  | cons x r =>
    cases Option.some.inj hb
    rfl
theorem join_back {a : List Int} {d : Int} (hh : a.head? = some d) : strk (a ++ a.reverse.tail) = a.take 1 := by
  have h := there_back a.reverse d (by rw [List.getLast?_reverse]; exact hh)
  rw [List.reverse_reverse] at h
  rw [h]
  cases a with
  | nil => cases hh
  | cons x r =>
    cases Option.some.inj hh
    rfl
theorem back_join {a : List Int} {c : Int} (ha : a.getLast? = some c) : strk (a.reverse ++ a.tail) = a.drop (a.length - 1) := by
  rw [there_back a c ha]
  rcases List.eq_nil_or_concat a with rfl | ⟨m, x, rfl⟩
  · cases ha
  · rw [List.concat_eq_append] at *
    rw [List.getLast?_concat] at ha
    cases Option.some.inj ha
    rw [List.length_append, show m.length + [c].length - 1 = m.length from rfl, List.drop_left]
theorem gap_self {a : List Int} {c : Int} (h : a.head? = some c) : ((strk (a.reverse ++ a.tail)).length : Int) - 1 = 0 := by
  rw [gap_eq h h, lcp_self]
  omega
theorem gap_comm {a b : List Int} {c : Int} (ha : a.head? = some c) (hb : b.head? = some c) : ((strk (b.reverse ++ a.tail)).length : Int) - 1 = ((strk (a.reverse ++ b.tail)).length : Int) - 1 := by
  rw [gap_eq ha hb, gap_eq hb ha, lcp_comm]
  omega
theorem gap_first {a : List Int} {c : Int} (ha : a.head? = some c) : ((strk ((a.take 1).reverse ++ a.tail)).length : Int) - 1 = (strk a).length - 1 := by
  cases a with
  | nil => cases ha
  | cons x r => rfl

/-! ### cores -/
def inn (l : List Int) : List Int := l.tail.dropLast
def nxt (l : List Int) : Bool := decide (l.length > 2 ∧ l[1]? = l[l.length - 2]?)
def tcR : Nat → List Int → List Int → List Int × List Int
  | 0, t, l => (t, l)
  | n + 1, t, l => if nxt l = true then tcR n (t ++ (inn l).take 1) (inn l) else (t, l)
theorem inn_len (l : List Int) : (inn l).length = l.length - 2 := by
  unfold inn
  rw [List.length_dropLast, List.length_tail]
  omega
theorem nxt_len {l : List Int} (h : nxt l = true) : l.length > 2 := (of_decide_eq_true h).1
theorem tcR_fuel : ∀ (n m : Nat) (t l : List Int), l.length ≤ n → l.length ≤ m → tcR n t l = tcR m t l
  | 0, 0, _, _, _, _ => rfl
  | 0, m + 1, t, l, h, _ => by
    have e : nxt l = false := by
      cases q : nxt l with
      | false => rfl
      | true => have := nxt_len q; omega
    show (t, l) = if nxt l = true then _ else (t, l)
    rw [e, if_neg Bool.false_ne_true]
  | n + 1, 0, t, l, _, h => by
    have e : nxt l = false := by
      cases q : nxt l with
      | false => rfl
      | true => have := nxt_len q; omega
    show (if nxt l = true then _ else (t, l)) = (t, l)
    rw [e, if_neg Bool.false_ne_true]
  | n + 1, m + 1, t, l, h1, h2 => by
    show (if nxt l = true then tcR n (t ++ (inn l).take 1) (inn l) else (t, l)) = (if nxt l = true then tcR m (t ++ (inn l).take 1) (inn l) else (t, l))
    by_cases e : nxt l = true
    · rw [if_pos e, if_pos e]
      have := nxt_len e
      exact tcR_fuel n m _ _ (by rw [inn_len]; omega) (by rw [inn_len]; omega)
    · rw [if_neg e, if_neg e]
def coreOf (l : List Int) : List Int × List Int := tcR l.length (l.take 1) l
/-- what the loop keeps -/
def TC (l0 t l : List Int) : Prop := tcR l.length t l = coreOf l0
theorem tc_start (l : List Int) : TC l (l.take 1) l := rfl
theorem tc_step {l0 t l : List Int} (h : TC l0 t l) (e : nxt l = true) : TC l0 (t ++ (inn l).take 1) (inn l) := by
  have z := nxt_len e
  have h2 : tcR l.length t l = tcR (l.length - 1) (t ++ (inn l).take 1) (inn l) := by
    rw [show l.length = (l.length - 1) + 1 by omega]
    show (if nxt l = true then _ else _) = _
    rw [if_pos e]
    rfl
  exact (tcR_fuel _ _ _ _ (Nat.le_refl _) (by rw [inn_len]; omega)).trans (h2.symm.trans h)
theorem tc_end {l0 t l : List Int} (h : TC l0 t l) (e : ¬ nxt l = true) : coreOf l0 = (t, l) := by
  rw [← h]
  cases n : l.length with
  | zero => rfl
  | succ n =>
    show (if nxt l = true then _ else (t, l)) = (t, l)
    rw [if_neg e]
/-- a closed straight row, taken off at both ends -/
structure Cl (l0 t l : List Int) : Prop where
  all : t ++ l.tail ++ t.reverse.tail = l0
  mid : ∃ c, t.getLast? = some c ∧ l.head? = some c ∧ l.getLast? = some c
  hd : t.head? = l0.head?
theorem Cl.tst {l0 t l : List Int} (h : Cl l0 t l) (hs : Str8 l0) : Str8 t := by
  have := h.all
  rw [List.append_assoc] at this
  exact Str8.pre (m := l.tail ++ t.reverse.tail) (by rw [this]; exact hs)
theorem Cl.str {l0 t l : List Int} (h : Cl l0 t l) (hs : Str8 l0) : Str8 l := fun m x y p e => by
  obtain ⟨c, h1, h2, _⟩ := h.mid
  have := h.all
  rw [glue h1 h2, e] at this
  exact hs (t.dropLast ++ m) x y (p ++ t.reverse.tail) (by rw [← this]; simp)
theorem cl_len {l0 t l : List Int} (h : Cl l0 t l) (hs : Str8 l0) : l.length ≠ 3 := fun z => by
  obtain ⟨c, _, h2, h3⟩ := h.mid
  have hl := h.str hs
  match l, z, h2, h3, hl with
  | [a, b, d], _, h2, h3, hl =>
    have e1 : a = c := Option.some.inj h2
    have e2 : d = c := Option.some.inj h3
    exact hl [] a b [] (by rw [e1, e2]; rfl)
theorem ends_of {l : List Int} {c : Int} (h2 : l.head? = some c) (h3 : l.getLast? = some c) (z : l.length > 2) : l = c :: (inn l ++ [c]) := by
  cases l with
  | nil => cases h2
  | cons a r =>
    have e1 : a = c := Option.some.inj h2
    subst e1
    have hr : r ≠ [] := fun e => by subst e; exact absurd z (by show ¬ 1 > 2; decide)
    have e3 : r.getLast? = some a := by
      rw [List.getLast?_cons] at h3
      cases q : r.getLast? with
      | none => exact absurd (List.getLast?_eq_none_iff.mp q) hr
      | some y => rw [q] at h3; exact h3
    have e4 := List.dropLast_concat_getLast hr
    rw [List.getLast?_eq_getLast hr] at e3
    rw [Option.some.inj e3] at e4
    show a :: r = a :: (r.dropLast ++ [a])
    rw [e4]
theorem cl_step {l0 t l : List Int} (h : Cl l0 t l) (hs : Str8 l0) (e : nxt l = true) : Cl l0 (t ++ (inn l).take 1) (inn l) := by
  have z := nxt_len e
  have z3 := cl_len h hs
  obtain ⟨c, h1, h2, h3⟩ := h.mid
  have el := ends_of h2 h3 z
  have hlen := inn_len l
  generalize inn l = m at el hlen ⊢
  have hm : 2 ≤ m.length := by omega
  cases m with
  | nil => exact absurd hm (by decide)
  | cons b r =>
    have hb : (b :: r).getLast? = some b := by
      have q := (of_decide_eq_true e).2
      rw [el] at q
      rw [List.getLast?_eq_getElem?]
      have g1 : (c :: (b :: r ++ [c]))[1]? = some b := rfl
      rw [g1] at q
      have g2 : (c :: (b :: r ++ [c]))[(c :: (b :: r ++ [c])).length - 2]? = (b :: r)[(b :: r).length - 1]? := by
        have hl : (c :: (b :: r ++ [c])).length - 2 = ((b :: r).length - 1) + 1 := by
          simp only [List.length_cons, List.length_append, List.length_nil]
          omega
        rw [hl, List.getElem?_cons_succ, List.getElem?_append_left (by simp)]
      rw [g2] at q
      exact q.symm
    have etr : t.reverse = c :: t.reverse.tail := by
      have q : t.reverse.head? = some c := by rw [List.head?_reverse]; exact h1
      cases w : t.reverse with
      | nil => rw [w] at q; cases q
      | cons y s =>
        rw [w] at q
        have e1 : y = c := Option.some.inj q
        rw [e1]
        rfl
    refine ⟨?_, ⟨b, ?_, rfl, hb⟩, ?_⟩
    · have := h.all
      rw [el] at this
      rw [← this]
      show t ++ [b] ++ r ++ (t ++ [b]).reverse.tail = t ++ (b :: r ++ [c]) ++ t.reverse.tail
      rw [List.reverse_append]
      show t ++ [b] ++ r ++ t.reverse = _
      rw [etr]
      simp
    · show (t ++ [b]).getLast? = some b
      rw [List.getLast?_concat]
    · cases t with
      | nil => cases h1
      | cons y s => exact h.hd
theorem cl_start {l : List Int} {c : Int} (h1 : l.head? = some c) (h2 : l.getLast? = some c) : Cl l (l.take 1) l := by
  cases l with
  | nil => cases h1
  | cons a r =>
    have e1 : a = c := Option.some.inj h1
    subst e1
    refine ⟨?_, ⟨a, rfl, rfl, h2⟩, rfl⟩
    show [a] ++ r ++ [] = a :: r
    rw [List.append_nil]
    rfl
/-- tail and core of a closed straight row -/
theorem core_of {l : List Int} {c : Int} (hs : Str8 l) (h1 : l.head? = some c) (h2 : l.getLast? = some c) : Cl l (coreOf l).1 (coreOf l).2 ∧ ¬ nxt (coreOf l).2 = true := by
  have key : ∀ (n : Nat) (t k : List Int), k.length ≤ n → Cl l t k → Cl l (tcR n t k).1 (tcR n t k).2 ∧ ¬ nxt (tcR n t k).2 = true := by
    intro n
    induction n with
    | zero =>
      intro t k hk hc
      refine ⟨hc, fun e => ?_⟩
      have z : k.length > 2 := nxt_len e
      omega
    | succ n ih =>
      intro t k hk hc
      show Cl l (if nxt k = true then tcR n (t ++ (inn k).take 1) (inn k) else (t, k)).1 (if nxt k = true then tcR n (t ++ (inn k).take 1) (inn k) else (t, k)).2 ∧ ¬ nxt (if nxt k = true then tcR n (t ++ (inn k).take 1) (inn k) else (t, k)).2 = true
      by_cases e : nxt k = true
      · rw [if_pos e]
        exact ih _ _ (by rw [inn_len]; have := nxt_len e; omega) (cl_step hc hs e)
      · rw [if_neg e]
        exact ⟨hc, e⟩
  exact key _ _ _ (Nat.le_refl _) (cl_start h1 h2)
theorem core_id {l : List Int} (h : ¬ nxt l = true) : coreOf l = (l.take 1, l) := tc_end (tc_start l) h

def top (i : Nat) : Stmt := PySem.Challenge.pw_betweencoats_k10_cores_and_their_tails.main.body.getD i (.Pass ⟨0, 0, 0, 0⟩)
/-- what the module's names hold -/
structure Txt (mg : Str → Option Value) : Prop where
  n_enumerate : mg "enumerate" = none
  n_int : mg "int" = none
  n_isinstance : mg "isinstance" = none
  n_len : mg "len" = none
  n_list : mg "list" = none
  n_max : mg "max" = none
  n_min : mg "min" = none
  n_range : mg "range" = none
  n_tuple : mg "tuple" = none
  g_LAST_COAT : ∃ t, mg "LAST_COAT" = some (.int 7 t)
  g_MOST_STONES : ∃ t, mg "MOST_STONES" = some (.int 200 t)
abbrev s_check_row : Stmt := top 8
theorem sc_check_row : FnScope ["row", "at", "coat"] ["row"] (defScope s_check_row) := ⟨rfl, rfl, rfl, by decide +kernel, rfl, by decide +kernel, by decide +kernel⟩
abbrev s_struck : Stmt := top 9
theorem sc_struck : FnScope ["stones", "left", "coat"] ["stones"] (defScope s_struck) := ⟨rfl, rfl, rfl, by decide +kernel, rfl, by decide +kernel, by decide +kernel⟩
abbrev s_rest : Stmt := top 10
theorem sc_rest : FnScope ["row"] ["row"] (defScope s_rest) := ⟨rfl, rfl, rfl, by decide +kernel, rfl, by decide +kernel, by decide +kernel⟩
abbrev s_tail_and_core : Stmt := top 12
theorem sc_tail_and_core : FnScope ["row", "left", "tail"] ["row"] (defScope s_tail_and_core) := ⟨rfl, rfl, rfl, by decide +kernel, rfl, by decide +kernel, by decide +kernel⟩
abbrev s_core : Stmt := top 13
theorem sc_core : FnScope ["row"] ["row"] (defScope s_core) := ⟨rfl, rfl, rfl, by decide +kernel, rfl, by decide +kernel, by decide +kernel⟩
abbrev s__law_pool : Stmt := top 15
theorem sc__law_pool : FnScope ["script", "k", "cell", "big", "mixed"] ["script", "k"] (defScope s__law_pool) := ⟨rfl, rfl, rfl, by decide +kernel, rfl, by decide +kernel, by decide +kernel⟩
abbrev s__law_take : Stmt := top 16
theorem sc__law_take : FnScope ["source", "top", "drawn"] ["source", "top"] (defScope s__law_take) := ⟨rfl, rfl, rfl, by decide +kernel, rfl, by decide +kernel, by decide +kernel⟩
abbrev s__law_one : Stmt := top 17
theorem sc__law_one : FnScope ["source", "things"] ["source", "things"] (defScope s__law_one) := ⟨rfl, rfl, rfl, by decide +kernel, rfl, by decide +kernel, by decide +kernel⟩
abbrev s__law_rest : Stmt := top 18
theorem sc__law_rest : FnScope ["row", "kept", "coat"] ["row"] (defScope s__law_rest) := ⟨rfl, rfl, rfl, by decide +kernel, rfl, by decide +kernel, by decide +kernel⟩
abbrev s__law_ring : Stmt := top 19
theorem sc__law_ring : FnScope ["source", "coats", "size", "some", "k"] ["source", "coats"] (defScope s__law_ring) := ⟨rfl, rfl, rfl, by decide +kernel, rfl, by decide +kernel, by decide +kernel⟩
abbrev s__law_shaken : Stmt := top 20
theorem sc__law_shaken : FnScope ["source", "row", "coats", "turn", "at"] ["source", "row", "coats"] (defScope s__law_shaken) := ⟨rfl, rfl, rfl, by decide +kernel, rfl, by decide +kernel, by decide +kernel⟩
abbrev s__law_closed : Stmt := top 21
theorem sc__law_closed : FnScope ["source", "coats", "way", "tail", "row", "k"] ["source"] (defScope s__law_closed) := ⟨rfl, rfl, rfl, by decide +kernel, rfl, by decide +kernel, by decide +kernel⟩
abbrev s__law_taken : Stmt := top 22
theorem sc__law_taken : FnScope ["row", "left", "tail"] ["row"] (defScope s__law_taken) := ⟨rfl, rfl, rfl, by decide +kernel, rfl, by decide +kernel, by decide +kernel⟩
abbrev s__law_right : Stmt := top 23
theorem sc__law_right : FnScope ["row", "told", "tail", "inner", "whole", "steps"] ["row"] (defScope s__law_right) := ⟨rfl, rfl, rfl, by decide +kernel, rfl, by decide +kernel, by decide +kernel⟩
abbrev s_law : Stmt := top 24
theorem sc_law : FnScope ["script", "k", "source", "great", "place"] ["script"] (defScope s_law) := ⟨rfl, rfl, rfl, by decide +kernel, rfl, by decide +kernel, by decide +kernel⟩
def kb_core_row_g {α : Type} : List α → List α → List α
  | [], [w0] => [w0]
  | _, _ => []
theorem kb_core_row : KwB "core" s_core ["row"] ["row"] kb_core_row_g kb_core_row_g where
  to := fun _ _ _ _ _ _ us ws h => by
    match us, ws, h with
    | [], [_], _ => rfl
  rel := fun {vs us zs ws} r s => by
    unfold kb_core_row_g
    cases r with
    | cons _ _ => exact .nil
    | nil =>
      cases s with
      | nil => exact .nil
      | cons s0 s =>
        cases s with
        | cons _ _ => exact .nil
        | nil =>
          exact (.cons s0 .nil)
section
variable {P : Program} {w : World} {K : PySem.W.Frag} {mg : Str → Option Value} {base : Heap} {f : Addr} {fd : FuncData}
def sp_check_row (K : PySem.W.Frag) : Sp := fun vs H Q _ => ∃ (a : Addr) (ns : List Int), vs = [.ref a] ∧ SqT K H a (ns.map V.int) ∧ Row ns ∧ ∀ H', Same H H' → Q .non H'
theorem ok_check_row (F : Fun K "check_row" "check_row" s_check_row f fd) (T : Txt mg)  : FnOk P w K mg base CX0 1 f fd ["row"] (sp_check_row K) := by
  refine F.ok sc_check_row (fun vs H Q E h => ?_) (fun cdv A outer s H vs Q E hr h => ?_)
  · obtain ⟨a, ns, rfl, _⟩ := h
    rfl
  obtain ⟨a, ns, rfl, hS, ⟨h1, h2, h3⟩, q⟩ := h
  refine ⟨_, (pss_cons (ps_if (pt_not (pt_chain op_le op_le pe_int (pe_callB (lenS K) (by rfl) T.n_len PySem.boot_len (pa_cons (pv 0) pa_nil)) (pe_gint rfl T.g_MOST_STONES))) (pss_one ps_never) pss_nil)
      (pss_one (ps_for PassesOwn.never rfl (pi_enumT (by rfl) T.n_enumerate (pa_cons (pv 0) pa_nil)) (pg_tup rfl (pgs_cons (pg_name (i := 1) sc_check_row.nd rfl (Or.inl rfl)) (pgs_cons (pg_name (i := 2) sc_check_row.nd rfl (Or.inl rfl)) pgs_nil))) (pss_one (ps_if (pt_not (pt_chain op_le op_le pe_int (pv 2) (pe_gint rfl T.g_LAST_COAT))) (pss_one ps_never) pss_nil))))), ?_⟩
  have e1 : decide ((1 : Int) ≤ ((ns.map V.int).length : Nat)) = true := decide_eq_true (by rw [List.length_map]; omega)
  have e2 : decide ((((ns.map V.int).length : Nat) : Int) ≤ 200) = true := decide_eq_true (by rw [List.length_map]; omega)
  refine ⟨.ref a, rfl, a, _, rfl, .inr hS, 1, _, rfl, rfl, _, rfl, itT e1 ⟨_, 200, rfl, rfl, _, rfl, ?_⟩⟩
  rw [e2]
  refine iteF ?_
  refine ⟨.ref a, rfl, a, _, rfl, hS, for_it walk_enumT (fun i σ H' => (∃ y1 y2, σ = [some (.ref a), y1, y2]) ∧ Same H H') ⟨⟨_, _, rfl⟩, Same.refl _⟩ (fun i σ H' _ h => Same.tup h.2 hS) ?_ ?_⟩
  · rintro i x σ H1 H2 hi ⟨⟨y1, y2, rfl⟩, sm⟩ ⟨T, x1, x2, rfl, nT, rfl, f1, f2⟩
    obtain ⟨hi2, rfl⟩ := num_map i ns x2 f2
    cases Option.some.inj f1
    refine ⟨T, _, rfl, .inl (.inl upd_same), rfl, _, _, rfl, _, _, rfl, rfl, ?_⟩
    have h4 := h3 _ (List.getElem_mem hi2)
    refine ⟨_, rfl, 0, _, rfl, rfl, _, rfl, itT (decide_eq_true h4.1) ⟨_, 7, rfl, rfl, _, rfl, ?_⟩⟩
    rw [decide_eq_true h4.2]
    refine iteF ?_
    exact ⟨⟨_, _, rfl⟩, sm.trans (Same.new nT)⟩
  · rintro σ H' ⟨_, sm⟩
    exact q _ sm
def sp_struck (K : PySem.W.Frag) : Sp := fun vs H Q _ => ∃ (a : Addr) (ns : List Int), vs = [.ref a] ∧ SqT K H a (ns.map V.int) ∧ ns.length < 100000 ∧ ∀ p H', Same H H' → SqT K H' p ((strk ns).map V.int) → Q (.ref p) H'
theorem ok_struck (F : Fun K "struck" "struck" s_struck f fd) (T : Txt mg)  : FnOk P w K mg base CX0 1 f fd ["stones"] (sp_struck K) := by
  refine F.ok sc_struck (fun vs H Q E h => ?_) (fun cdv A outer s H vs Q E hr h => ?_)
  · obtain ⟨a, ns, rfl, _⟩ := h
    rfl
  obtain ⟨a, ns, rfl, hS, hlen, q⟩ := h
  refine ⟨_, (pss_cons (ps_set (i := 1) sc_struck.nd rfl (Or.inl rfl) (pe_lst pa_nil))
      (pss_cons (ps_for PassesOwn.never rfl (piT K (pv 0)) (pg_name (i := 2) sc_struck.nd rfl (Or.inl rfl)) (pss_one (ps_if (PW.pt (pw_and (pt_cmpR op_gt (pe_callB (lenS K) (by rfl) T.n_len PySem.boot_len (pa_cons (pv 1) pa_nil)) pe_int (nomark _)) (pw_and1 (pt_cmpR op_eq (pe_ix (ixL K) (pv 1) (pe_un un_neg pe_int) (fun _ _ => rfl)) (pv 2) (nomark _))))) (pss_one (ps_expr (pe_bm0 PySem.F.plainAttrs_list PySem.F.slot_list_pop PySem.F.type_list_pop mt_pop (pv 1)))) (pss_one (ps_expr (pe_bm PySem.F.plainAttrs_list PySem.F.slot_list_append PySem.F.type_list_append mt_append (pv 1) (pa_cons (pv 2) pa_nil)))))))
      (pss_one (ps_ret (pe_callTy (tupOf K) (by rfl) T.n_tuple (by decide +kernel) (pa_cons (pv 1) pa_nil)))))), ?_⟩
  refine ⟨Nat.zero_le _, fun l nl => ?_⟩
  refine ⟨.ref a, rfl, a, rfl, ⟨_, (Same.new nl).tup hS⟩, for_tup (xs := ns.map V.int) (fun i σ H' => (∃ y, σ = [some (.ref a), some (.ref l), y]) ∧ Same H H' ∧ H' l = some (.lst ((strk (ns.take i)).map V.int)))
    ⟨⟨_, rfl⟩, Same.new nl, upd_same⟩ (fun i σ H' _ h => h.2.1.tup hS) ?_ ?_⟩
  · rintro i x σ H1 hi ⟨⟨y, rfl⟩, sm, hl⟩
    obtain ⟨hi2, rfl⟩ := num_map i ns x hi
    have hst : strk (ns.take (i + 1)) = stp (strk (ns.take i)) ns[i] := by
      unfold strk
      rw [List.take_add_one, List.getElem?_eq_getElem hi2, List.foldl_append]
      rfl
    have hz : (strk (ns.take i)).length ≤ i := Nat.le_trans (strk_len _) (by rw [List.length_take]; omega)
    generalize strk (ns.take i) = st at hl hst hz
    refine ⟨.ref l, rfl, l, _, rfl, .inl (SqL.of hl), _, 1, rfl, rfl, _, rfl, ?_⟩
    by_cases h1 : st.length > 1
    · refine itT (decide_eq_true (by rw [List.length_map]; omega)) ?_
      have g : (st.map V.int)[st.length - 2]? = some (.int (st[st.length - 2]'(by omega))) := by
        rw [List.getElem?_map, List.getElem?_eq_getElem (by omega)]
        rfl
      refine ⟨.ref l, rfl, 2, rfl, l, _, _, _, rfl, rfl, SqL.of hl, atNeg g (by rw [List.length_map]; omega), _, rfl, rfl, _, rfl, ite2 (fun e => ?_) (fun e => ?_)⟩
      · have e' : st[st.length - 2]? = some ns[i] := by
          rw [List.getElem?_eq_getElem (by omega)]
          exact congrArg some (V.int.inj (of_decide_eq_true e))
        refine ⟨.ref l, rfl, .inl ⟨rfl, _, SqL.of hl⟩, l, _, .int (st[st.length - 1]'(by omega)), rfl, rfl, hl, ?_, ?_⟩
        · rw [List.length_map, List.getElem?_map, List.getElem?_eq_getElem (by omega)]
          rfl
        · refine ⟨⟨_, rfl⟩, sm.mut nl, ?_⟩
          rw [upd_same, hst, stp, if_pos ⟨h1, e'⟩, List.map_dropLast]
      · have e' : ¬ st[st.length - 2]? = some ns[i] := fun z => by
          rw [List.getElem?_eq_getElem (by omega)] at z
          exact e (decide_eq_true (congrArg V.int (Option.some.inj z)))
        refine ⟨.ref l, rfl, .inl ⟨rfl, _, SqL.of hl⟩, _, rfl, l, _, _, rfl, rfl, hl, smallLt (by rw [List.length_map]; omega), ?_⟩
        refine ⟨⟨_, rfl⟩, sm.mut nl, ?_⟩
        rw [upd_same, hst, stp, if_neg (fun z => e' z.2), List.map_append]
        rfl
    · refine itF (decide_eq_false (by rw [List.length_map]; omega)) ?_
      refine iteF ?_
      refine ⟨.ref l, rfl, .inl ⟨rfl, _, SqL.of hl⟩, _, rfl, l, _, _, rfl, rfl, hl, smallLt (by rw [List.length_map]; omega), ?_⟩
      refine ⟨⟨_, rfl⟩, sm.mut nl, ?_⟩
      rw [upd_same, hst, stp, if_neg (fun z => h1 z.1), List.map_append]
      rfl
  · rintro σ H' ⟨⟨y, rfl⟩, sm, hl⟩
    rw [List.length_map, List.take_length] at hl
    refine ⟨.ref l, rfl, l, _, rfl, .inl ⟨SqL.of hl, fun p np => ?_⟩⟩
    exact q p _ (sm.trans (Same.new np)) (SqT.of upd_same)
def sp_rest (K : PySem.W.Frag) : Sp := fun vs H Q _ => ∃ (a : Addr) (ns : List Int), vs = [.ref a] ∧ SqT K H a (ns.map V.int) ∧ Row ns ∧ ∀ p H', Same H H' → SqT K H' p ((strk ns).map V.int) → Q (.ref p) H'
theorem ok_rest (F : Fun K "rest" "rest" s_rest f fd) (T : Txt mg) (c_check_row : Cal P w K mg base CX0 1 "check_row" ["row"] s_check_row (sp_check_row K)) (c_struck : Cal P w K mg base CX0 1 "struck" ["stones"] s_struck (sp_struck K)) : FnOk P w K mg base CX0 2 f fd ["row"] (sp_rest K) := by
  refine F.ok sc_rest (fun vs H Q E h => ?_) (fun cdv A outer s H vs Q E hr h => ?_)
  · obtain ⟨a, ns, rfl, _⟩ := h
    rfl
  obtain ⟨a, ns, rfl, hS, hR, q⟩ := h
  refine ⟨_, (pss_cons (ps_expr (pe_cal c_check_row (hr.mono (by decide)) pass0 (pa_cons (pv 0) pa_nil)))
      (pss_one (ps_ret (pe_cal c_struck (hr.mono (by decide)) pass0 (pa_cons (pv 0) pa_nil))))), ?_⟩
  refine ⟨.ref a, rfl, a, ns, rfl, hS, hR, fun H1 s1 => ?_⟩
  refine ⟨.ref a, rfl, a, ns, rfl, s1.tup hS, Nat.lt_of_le_of_lt hR.2.1 (by decide), fun p H2 s2 hp => ?_⟩
  exact q p H2 (s1.trans s2) hp
def sp_tail_and_core (K : PySem.W.Frag) : Sp := fun vs H Q _ => ∃ (a : Addr) (ns : List Int), vs = [.ref a] ∧ SqT K H a (ns.map V.int) ∧ ns.length < 1000 ∧ 1 ≤ ns.length ∧ ∀ t p1 p2 H', Same H H' → SqT K H' t [.ref p1, .ref p2] → SqT K H' p1 ((coreOf (strk ns)).1.map V.int) → SqT K H' p2 ((coreOf (strk ns)).2.map V.int) → Q (.ref t) H'
theorem ok_tail_and_core (F : Fun K "tail_and_core" "tail_and_core" s_tail_and_core f fd) (T : Txt mg) (c_struck : Cal P w K mg base CX0 1 "struck" ["stones"] s_struck (sp_struck K)) : FnOk P w K mg base CX0 2 f fd ["row"] (sp_tail_and_core K) := by
  refine F.ok sc_tail_and_core (fun vs H Q E h => ?_) (fun cdv A outer s H vs Q E hr h => ?_)
  · obtain ⟨a, ns, rfl, _⟩ := h
    rfl
  obtain ⟨a, ns, rfl, hS, hz, hp, q⟩ := h
  refine ⟨_, (pss_cons (ps_set (i := 1) sc_tail_and_core.nd rfl (Or.inl rfl) (pe_cal c_struck (hr.mono (by decide)) pass0 (pa_cons (pv 0) pa_nil)))
      (pss_cons (ps_set (i := 2) sc_tail_and_core.nd rfl (Or.inl rfl) (pe_lst (pa_cons (pe_ix (ixT K) (pv 1) pe_int (fun _ _ => rfl)) pa_nil)))
      (pss_cons (ps_while PassesOwn.never (PW.pt (pw_and (pt_cmpR op_gt (pe_callB (lenS K) (by rfl) T.n_len PySem.boot_len (pa_cons (pv 1) pa_nil)) pe_int (nomark _)) (pw_and1 (pt_cmpR op_eq (pe_ix (ixT K) (pv 1) pe_int (fun _ _ => rfl)) (pe_ix (ixT K) (pv 1) (pe_un un_neg pe_int) (fun _ _ => rfl)) (nomark _))))) (pss_cons (ps_set (i := 1) sc_tail_and_core.nd rfl (Or.inl rfl) (pe_slice (slT K) (pv 1) (po_some pe_int) (po_some (pe_un un_neg pe_int))))
      (pss_one (ps_expr (pe_bm PySem.F.plainAttrs_list PySem.F.slot_list_append PySem.F.type_list_append mt_append (pv 2) (pa_cons (pe_ix (ixT K) (pv 1) pe_int (fun _ _ => rfl)) pa_nil))))))
      (pss_one (ps_ret (pe_tup (pa_cons (pe_callTy (tupOf K) (by rfl) T.n_tuple (by decide +kernel) (pa_cons (pv 2) pa_nil)) (pa_cons (pv 1) pa_nil)))))))), ?_⟩
  refine ⟨.ref a, rfl, a, ns, rfl, hS, by omega, fun lf0 H1 m1 h1 => ?_⟩
  have hlen := strk_len ns
  have hpos := strk_pos hp
  obtain ⟨c, hc⟩ : ∃ c, (strk ns).head? = some c := by
    cases e : strk ns with
    | nil => rw [e] at hpos; exact absurd hpos (by decide)
    | cons x r => exact ⟨x, rfl⟩
  refine ⟨.ref lf0, rfl, lf0, _, 0, .int c, rfl, rfl, h1, atHeadI hc, small (by show 1 ≤ 1000000; decide), fun tl ntl => ?_⟩
  refine ⟨fun m σ' H' => ∃ (lf : Addr) (t l : List Int), σ' = [some (.ref a), some (.ref lf), some (.ref tl)] ∧ Same H1 H' ∧ H' tl = some (.lst (t.map V.int)) ∧ SqT K H' lf (l.map V.int) ∧ TC (strk ns) t l ∧ t.length + l.length ≤ 2000 ∧ m = l.length,
    ⟨_, lf0, [c], strk ns, rfl, Same.new ntl, upd_same, (Same.new ntl).tup h1, by rw [show [c] = (strk ns).take 1 by cases e : strk ns with | nil => rw [e] at hc; cases hc | cons x r => rw [e] at hc; cases Option.some.inj hc; rfl]; exact tc_start _, by show 1 + _ ≤ 2000; omega, rfl⟩, ?_⟩
  rintro m σ' H2 ⟨lf, t, l, rfl, m2, ht, hl, htc, hsum, rfl⟩
  have fin : ¬ nxt l = true → ∀ H3, Same H2 H3 → H3 tl = some (.lst (t.map V.int)) → tRet (tTup (tCons (tCB (rTupOf K) (tCons (tVar 2) tNil)) (tCons (tVar 1) tNil))) { nx := fun _ H' => Q .non H', rt := Q } [some (.ref a), some (.ref lf), some (.ref tl)] H3 := fun hn H3 m3 ht3 => by
    have e := tc_end htc hn
    refine ⟨.ref tl, rfl, tl, _, rfl, .inl ⟨SqL.of ht3, fun p1 np1 => ⟨.ref lf, rfl, small (by show 2 ≤ 1000000; decide), fun t2 nt2 => ?_⟩⟩⟩
    have mm : Same H3 (upd (upd H3 p1 (.tup (t.map V.int))) t2 (.tup [.ref p1, .ref lf])) := (Same.new np1).trans (Same.new nt2)
    refine q t2 p1 lf _ ((m1.trans m2).trans (m3.trans mm)) (SqT.of upd_same) ?_ ?_
    · rw [e]
      exact (Same.new nt2).tup (SqT.of upd_same)
    · rw [e]
      exact (m3.trans mm).tup hl
  refine ⟨.ref lf, rfl, lf, _, rfl, .inr hl, _, 2, rfl, rfl, _, rfl, ite2 (fun c1 => ?_) (fun c1 => ?_)⟩
  · have c1' : l.length > 2 := by
      have := of_decide_eq_true c1
      rw [List.length_map] at this
      omega
    have g : ∀ i, (hi : i < l.length) → (l.map V.int)[i]? = some (.int l[i]) := fun i hi => by
      rw [List.getElem?_map, List.getElem?_eq_getElem hi]
      rfl
    refine ⟨.ref lf, rfl, lf, _, 1, _, rfl, rfl, hl, atN (g 1 (by omega)) rfl, .ref lf, rfl, 2, rfl, lf, _, _, _, rfl, rfl, hl, atNeg (g (l.length - 2) (by omega)) (by rw [List.length_map]; omega), rfl, _, rfl, ite2 (fun c2 => ?_) (fun c2 => ?_)⟩
    · have hn : nxt l = true := decide_eq_true ⟨c1', by
        rw [List.getElem?_eq_getElem (by omega), List.getElem?_eq_getElem (by omega)]
        exact congrArg some (V.int.inj (of_decide_eq_true c2))⟩
      have hil := inn_len l
      obtain ⟨d, hd⟩ : ∃ d, (inn l).head? = some d := by
        cases e : inn l with
        | nil => rw [e] at hil; simp at hil; omega
        | cons x r => exact ⟨x, rfl⟩
      have hcut : cutV (l.map V.int) (some 1) (some (-1)) = (inn l).map V.int := by
        rw [cutV_inn (by rw [List.length_map]; omega)]
        unfold inn
        rw [List.map_dropLast, List.map_tail]
      refine ⟨fun σ2 H3 => ∃ (lf : Addr), σ2 = [some (.ref a), some (.ref lf), some (.ref tl)] ∧ Same H1 H3 ∧ H3 tl = some (.lst ((t ++ (inn l).take 1).map V.int)) ∧ SqT K H3 lf ((inn l).map V.int), fun σ2 H3 h => ?_, ?_⟩
      · obtain ⟨lf, e, a1, a2, a3⟩ := h
        refine ⟨(inn l).length, by omega, lf, _, _, e, a1, a2, a3, tc_step htc hn, ?_, rfl⟩
        rw [List.length_append, List.length_take]
        omega
      refine ⟨.ref lf, rfl, 1, rfl, 1, rfl, _, rfl, slA hl fun lf2 H3 m3 h3 => ?_⟩
      rw [show (-(1 : Int)) = -1 from rfl, hcut] at h3
      have ht3 : H3 tl = some (.lst (t.map V.int)) := m3 _ _ ht
      refine ⟨.ref tl, rfl, .inl ⟨rfl, _, SqL.of ht3⟩, .ref lf2, rfl, lf2, _, 0, .int d, rfl, rfl, h3, atHeadI hd, tl, _, _, rfl, rfl, ht3, smallLt (by rw [List.length_map]; omega), ?_⟩
      refine ⟨lf2, rfl, (m2.trans m3).mut ntl, ?_, ?_⟩
      · rw [upd_same, List.map_append, List.map_take]
        cases e : inn l with
        | nil => rw [e] at hd; cases hd
        | cons x r =>
          rw [e] at hd
          cases Option.some.inj hd
          rfl
      · exact tup_upd h3 ht3
    · exact fin (fun z => c2 (decide_eq_true (by
        have := (of_decide_eq_true z).2
        rw [List.getElem?_eq_getElem (by omega), List.getElem?_eq_getElem (by omega)] at this
        exact congrArg V.int (Option.some.inj this)))) _ (Same.refl _) ht
  · refine iteF (fin (fun z => c1 (decide_eq_true ?_)) _ (Same.refl _) ht)
    have := (of_decide_eq_true z).1
    rw [List.length_map]
    omega
def sp_core (K : PySem.W.Frag) : Sp := fun vs H Q _ => ∃ (a : Addr) (ns : List Int) (c : Int), vs = [.ref a] ∧ SqT K H a (ns.map V.int) ∧ Row ns ∧ ns.head? = some c ∧ ns.getLast? = some c ∧ ∀ t p1 p2 H', Same H H' → SqT K H' t [.ref p1, .ref p2] → SqT K H' p1 ((coreOf (strk ns)).1.map V.int) → SqT K H' p2 ((coreOf (strk ns)).2.map V.int) → Q (.ref t) H'
theorem ok_core (F : Fun K "core" "core" s_core f fd) (T : Txt mg) (c_check_row : Cal P w K mg base CX0 1 "check_row" ["row"] s_check_row (sp_check_row K)) (c_tail_and_core : Cal P w K mg base CX0 2 "tail_and_core" ["row"] s_tail_and_core (sp_tail_and_core K)) : FnOk P w K mg base CX0 3 f fd ["row"] (sp_core K) := by
  refine F.ok sc_core (fun vs H Q E h => ?_) (fun cdv A outer s H vs Q E hr h => ?_)
  · obtain ⟨a, ns, c, rfl, _⟩ := h
    rfl
  obtain ⟨a, ns, c, rfl, hS, hR, e1, e2, q⟩ := h
  refine ⟨_, (pss_cons (ps_expr (pe_cal c_check_row (hr.mono (by decide)) pass0 (pa_cons (pv 0) pa_nil)))
      (pss_cons (ps_if (pt_cmpR op_ne (pe_ix (ixT K) (pv 0) pe_int (fun _ _ => rfl)) (pe_ix (ixT K) (pv 0) (pe_un un_neg pe_int) (fun _ _ => rfl)) (nomark _)) (pss_one ps_never) pss_nil)
      (pss_one (ps_ret (pe_cal c_tail_and_core (hr.mono (by decide)) pass0 (pa_cons (pv 0) pa_nil)))))), ?_⟩
  refine ⟨.ref a, rfl, a, ns, rfl, hS, hR, fun H1 m1 => ?_⟩
  have h1 := Same.tup m1 hS
  refine ⟨.ref a, rfl, a, _, 0, .int c, rfl, rfl, h1, atHeadI e1, .ref a, rfl, 1, rfl, a, _, _, .int c, rfl, rfl, h1, atLastI e2, rfl, _, rfl, itF (by simp) ?_⟩
  exact ⟨.ref a, rfl, a, ns, rfl, h1, Nat.lt_of_le_of_lt hR.2.1 (by decide), hR.1, fun t p1 p2 H2 m2 => q t p1 p2 H2 (Same.trans m1 m2)⟩
def sp__law_pool (K : PySem.W.Frag) : Sp := fun vs H Q _ => ∃ (a : Addr) (ns : List Int) (k : Int), vs = [.ref a, .int k] ∧ SqL K H a (ns.map V.int) ∧ 0 ≤ k ∧ k < 1000 ∧ ∀ p H', H p = none → Same H H' → Src H' p → Q (.ref p) H'
theorem ok__law_pool (F : Fun K "_law_pool" "_law_pool" s__law_pool f fd) (T : Txt mg)  : FnOk P w K mg base CX0 1 f fd ["script", "k"] (sp__law_pool K) := by
  refine F.ok sc__law_pool (fun vs H Q E h => ?_) (fun cdv A outer s H vs Q E hr h => ?_)
  · obtain ⟨a, ns, k, rfl, _⟩ := h
    rfl
  obtain ⟨a, ns, k, rfl, hS, hk, hk2, q⟩ := h
  obtain ⟨j, rfl⟩ : ∃ j : Nat, k = (j : Int) := ⟨k.toNat, by omega⟩
  have hjj : (0 : Int) ≤ 7919 * (j : Int) * (j : Int) ∧ 7919 * (j : Int) * (j : Int) ≤ 7919000 * 1000 := by
    have h1 : (0 : Int) ≤ 7919 * (j : Int) := by omega
    have h2 : 7919 * (j : Int) ≤ 7919000 := by omega
    exact ⟨Int.mul_nonneg h1 hk, Int.mul_le_mul h2 (by omega) hk (by decide)⟩
  refine ⟨_, (pss_cons (ps_set (i := 2) sc__law_pool.nd rfl (Or.inl rfl) pe_int)
      (pss_cons (ps_if (pt_cmpR op_lt (pv 1) (pe_callB (lenS K) (by rfl) T.n_len PySem.boot_len (pa_cons (pv 0) pa_nil)) (nomark _)) (pss_one (ps_set (i := 2) sc__law_pool.nd rfl (Or.inl rfl) (pe_ix (ixL K) (pv 0) (pv 1) (fun _ _ => rfl)))) (pss_one (ps_if (pt_truth (pv 0) (by intro _; rfl)) (pss_one (ps_set (i := 2) sc__law_pool.nd rfl (Or.inl rfl) (pe_ix (ixL K) (pv 0) pe_int (fun _ _ => rfl)))) pss_nil)))
      (pss_cons (ps_set (i := 3) sc__law_pool.nd rfl (Or.inl rfl) (pe_callB (call_max2 rfl) (by rfl) T.n_max (by decide +kernel) (pa_cons (pe_callTy call_int1 (by rfl) T.n_int (by decide +kernel) (pa_cons (pv 2) pa_nil)) (pa_cons (pe_callTy call_int1 (by rfl) T.n_int (by decide +kernel) (pa_cons (pe_op op_sub (pe_un un_neg pe_int) (pv 2)) pa_nil)) pa_nil))))
      (pss_cons (ps_set (i := 4) sc__law_pool.nd rfl (Or.inl rfl) (pe_op op_mod (pe_callTy call_int1 (by rfl) T.n_int (by decide +kernel) (pa_cons (pe_op op_mul (pe_op op_add (pe_op op_add (pe_op op_add (pe_op op_mod (pe_callTy call_int1 (by rfl) T.n_int (by decide +kernel) (pa_cons (pv 3) pa_nil)) pe_int) (pe_op op_mul (pe_op op_mul pe_int (pv 1)) (pv 1))) (pe_op op_mul pe_int (pv 1))) pe_int) pe_int) pa_nil)) pe_int))
      (pss_one (ps_ret (pe_lst (pa_cons (pe_op op_mul (pv 3) (pe_callTy call_int1 (by rfl) T.n_int (by decide +kernel) (pa_cons (pe_cmpR op_ge (pv 3) (pe_op op_pow pe_int pe_int) (nomark _)) pa_nil))) (pa_cons (pv 4) pa_nil))))))))), ?_⟩
  refine ⟨.int j, rfl, .ref a, rfl, a, _, rfl, .inl hS, j, _, rfl, rfl, _, rfl, ite2
    (fun c => ⟨.ref a, rfl, .int j, rfl, a, _, j, .int (ns.getD j 0), rfl, rfl, hS, atI_nat ?_, ?_⟩)
    (fun c => ⟨.ref a, rfl, _, .inl ⟨_, hS, rfl⟩, ite2 (fun c2 => ⟨.ref a, rfl, a, _, 0, .int (ns.getD 0 0), rfl, rfl, hS, atN (j := 0) ?_ rfl, ?_⟩) (fun c2 => ?_)⟩)⟩
  · have h1 : j < ns.length := by
      have z := of_decide_eq_true c
      rw [List.length_map] at z
      omega
    rw [List.getElem?_map, List.getD_eq_getElem?_getD, List.getElem?_eq_getElem h1]
    rfl
  rotate_left
  · cases ns with
    | nil => cases c2
    | cons n ns => rfl
  all_goals
    refine ⟨_, rfl, .inl ⟨_, rfl, 1, rfl, _, rfl, _, _, rfl, rfl, .inl ⟨_, rfl, _, _, rfl, ?_⟩⟩⟩
    refine ⟨_, rfl, .inl ⟨_, rfl, _, 2147483629, rfl, rfl, by show (0 : Int) < 2147483629; decide, _, rfl, _, _, rfl, rfl, .inl ⟨by omega, by omega⟩, _, rfl, _, _, rfl, rfl, .inl ⟨by omega, by omega⟩, _, _, rfl, rfl, _, rfl, _, _, rfl, rfl, .inl ⟨by omega, by omega⟩, _, _, rfl, rfl, _, _, rfl, rfl, _, _, rfl, rfl, .inl ?_, .inl ⟨_, rfl, _, 2147483647, rfl, rfl, by show (0 : Int) < 2147483647; decide, ?_⟩⟩⟩
    · exact mixB hjj hk hk2
    · refine ⟨_, rfl, _, rfl, _, _, rfl, rfl, ⟨by decide, by decide, by decide⟩, _, _, rfl, rfl, .inr ⟨_, rfl, _, _, rfl, rfl, .inr (b01 _), _, rfl, by show 2 ≤ sizeLine; decide, fun p np => ?_⟩⟩
      refine q p _ np (Same.new np) ⟨_, _, upd_same, ?_, Int.emod_nonneg _ (by decide), Int.emod_lt_of_pos _ (by decide)⟩
      refine Int.mul_nonneg ?_ ?_
      · split <;> omega
      · exact b0 _
def sp__law_take (K : PySem.W.Frag) : Sp := fun vs H Q _ => ∃ (p : Addr) (t : Int), vs = [.ref p, .int t] ∧ Src H p ∧ 0 < t ∧ t < 1000000 ∧ ∀ r H', 0 ≤ r → r < t → Src H' p → Exb p H H' → Q (.int r) H'
theorem ok__law_take (F : Fun K "_law_take" "_law_take" s__law_take f fd) (T : Txt mg)  : FnOk P w K mg base CX0 1 f fd ["source", "top"] (sp__law_take K) := by
  refine F.ok sc__law_take (fun vs H Q E h => ?_) (fun cdv A outer s H vs Q E hr h => ?_)
  · obtain ⟨p, t, rfl, _⟩ := h
    rfl
  obtain ⟨p, t, rfl, ⟨a, b, hp, ha, hb, hb2⟩, ht, ht2, q⟩ := h
  refine ⟨_, (pss_cons (ps_if (pt_cmpR op_gt (pe_ix (ixL K) (pv 0) pe_int (fun _ _ => rfl)) pe_int (nomark _)) (pss_cons (ps_set (i := 2) sc__law_take.nd rfl (Or.inl rfl) (pe_op op_mod (pe_callTy call_int1 (by rfl) T.n_int (by decide +kernel) (pa_cons (pe_ix (ixL K) (pv 0) pe_int (fun _ _ => rfl)) pa_nil)) (pv 1)))
      (pss_cons (ps_asg (pe_op op_fdivW (pe_ix (ixL K) (pv 0) pe_int (fun _ _ => rfl)) (pv 1)) (pg_sub (pv 0) pe_int set_list))
      (pss_one (ps_ret (pv 2))))) pss_nil)
      (pss_cons (ps_asg (pe_op op_mod (pe_callTy call_int1 (by rfl) T.n_int (by decide +kernel) (pa_cons (pe_op op_add (pe_op op_mul (pe_ix (ixL K) (pv 0) pe_int (fun _ _ => rfl)) pe_int) pe_int) pa_nil)) pe_int) (pg_sub (pv 0) pe_int set_list))
      (pss_one (ps_ret (pe_op op_mod (pe_callTy call_int1 (by rfl) T.n_int (by decide +kernel) (pa_cons (pe_op op_fdivW (pe_op op_mod (pe_callTy call_int1 (by rfl) T.n_int (by decide +kernel) (pa_cons (pe_op op_mul (pe_ix (ixL K) (pv 0) pe_int (fun _ _ => rfl)) (pe_ix (ixL K) (pv 0) pe_int (fun _ _ => rfl))) pa_nil)) pe_int) pe_int) pa_nil)) (pv 1)))))), ?_⟩
  -- source[0] > 0
  refine ⟨.ref p, rfl, p, _, 0, .int a, rfl, rfl, SqL.of hp, atI0, a, 0, rfl, rfl, _, rfl, ite2 (fun c => ?_) (fun c => ?_)⟩
  · -- drawn = int(source[0]) % top; source[0] = source[0] // top; return drawn
    refine ⟨.ref p, rfl, p, _, 0, .int a, rfl, rfl, SqL.of hp, atI0, .inl ⟨a, rfl, .int t, rfl, a, t, rfl, rfl, ht, ?_⟩⟩
    refine ⟨.ref p, rfl, p, _, 0, .int a, rfl, rfl, SqL.of hp, atI0, .int t, rfl, a, t, rfl, rfl, wide_div (b := 64) ht (by omega) (by decide) (by decide), ?_⟩
    refine ⟨.ref p, rfl, p, _, 0, 0, rfl, rfl, hp, rfl, ?_⟩
    refine ⟨.int (a % t), rfl, ?_⟩
    exact q _ _ (Int.emod_nonneg _ (by omega)) (Int.emod_lt_of_pos _ ht) ⟨a / t, b, upd_same, Int.ediv_nonneg ha (by omega), hb, hb2⟩ Exb.at
  · refine ⟨.ref p, rfl, p, _, 1, .int b, rfl, rfl, SqL.of hp, atI1, b, 39373, rfl, rfl, .inl ⟨by omega, by omega⟩, _, 7, rfl, rfl, .inl ⟨_, rfl, _, 2147483647, rfl, rfl, by show (0 : Int) < 2147483647; decide, ?_⟩⟩
    refine ⟨.ref p, rfl, p, _, 1, 1, rfl, rfl, hp, rfl, ?_⟩
    have h1 : (0 : Int) ≤ (b * 39373 + 7) % 2147483647 := Int.emod_nonneg _ (by decide)
    have h2 : (b * 39373 + 7) % 2147483647 < 2147483647 := Int.emod_lt_of_pos _ (by decide)
    have hp2 : (upd H p (.lst [.int a, .int ((b * 39373 + 7) % 2147483647)])) p = some (.lst [.int a, .int ((b * 39373 + 7) % 2147483647)]) := upd_same
    refine ⟨.ref p, rfl, p, [.int a, .int ((b * 39373 + 7) % 2147483647)], 1, _, rfl, rfl, SqL.of hp2, atI1, .ref p, rfl, p, [.int a, .int ((b * 39373 + 7) % 2147483647)], 1, _, rfl, rfl, SqL.of hp2, atI1, _, _, rfl, rfl, .inl ⟨by omega, by omega⟩, ?_⟩
    refine .inl ⟨_, rfl, _, 2147483629, rfl, rfl, by show (0 : Int) < 2147483629; decide, _, 32, rfl, rfl, ⟨by decide, by decide⟩, .inl ⟨_, rfl, .int t, rfl, _, t, rfl, rfl, ht, ?_⟩⟩
    exact q _ _ (Int.emod_nonneg _ (by omega)) (Int.emod_lt_of_pos _ ht) ⟨a, _, hp2, ha, h1, h2⟩ Exb.at
def sp__law_one (K : PySem.W.Frag) : Sp := fun vs H Q _ => ∃ (p a : Addr) (xs : List V), vs = [.ref p, .ref a] ∧ Src H p ∧ H a = some (.lst xs) ∧ a ≠ p ∧ 0 < xs.length ∧ xs.length < 1000000 ∧ ∀ v H', v ∈ xs → Src H' p → Exb p H H' → Q v H'
theorem ok__law_one (F : Fun K "_law_one" "_law_one" s__law_one f fd) (T : Txt mg) (c__law_take : Cal P w K mg base CX0 1 "_law_take" ["source", "top"] s__law_take (sp__law_take K)) : FnOk P w K mg base CX0 2 f fd ["source", "things"] (sp__law_one K) := by
  refine F.ok sc__law_one (fun vs H Q E h => ?_) (fun cdv A outer s H vs Q E hr h => ?_)
  · obtain ⟨p, a, xs, rfl, _⟩ := h
    rfl
  obtain ⟨p, a, xs, rfl, hs, ha, hne, h0, h1, q⟩ := h
  refine ⟨_, (pss_one (ps_ret (pe_ix (ixL K) (pv 1) (pe_cal c__law_take (hr.mono (by decide)) pass0 (pa_cons (pv 0) (pa_cons (pe_callB (lenS K) (by rfl) T.n_len PySem.boot_len (pa_cons (pv 1) pa_nil)) pa_nil))) (fun _ _ => rfl)))), ?_⟩
  refine ⟨.ref a, rfl, .ref p, rfl, .ref a, rfl, a, xs, rfl, .inl (SqL.of ha), p, xs.length, rfl, hs, by omega, by omega, fun r H' r0 r1 s' e => ?_⟩
  obtain ⟨j, rfl⟩ : ∃ j : Nat, r = (j : Int) := ⟨r.toNat, by omega⟩
  have hj : j < xs.length := by omega
  refine ⟨a, xs, j, xs[j], rfl, rfl, SqL.of (e.lst hne ha), atI_nat (List.getElem?_eq_getElem hj), ?_⟩
  exact q _ _ (List.getElem_mem hj) s' e
def sp__law_rest (K : PySem.W.Frag) : Sp := fun vs H Q _ => ∃ (a : Addr) (ns : List Int), vs = [.ref a] ∧ SqT K H a (ns.map V.int) ∧ ns.length < 100000 ∧ ∀ p H', Same H H' → SqT K H' p ((strk ns).map V.int) → Q (.ref p) H'
theorem ok__law_rest (F : Fun K "_law_rest" "_law_rest" s__law_rest f fd) (T : Txt mg)  : FnOk P w K mg base CX0 1 f fd ["row"] (sp__law_rest K) := by
  refine F.ok sc__law_rest (fun vs H Q E h => ?_) (fun cdv A outer s H vs Q E hr h => ?_)
  · obtain ⟨a, ns, rfl, _⟩ := h
    rfl
  obtain ⟨a, ns, rfl, hS, hlen, q⟩ := h
  refine ⟨_, (pss_cons (ps_set (i := 1) sc__law_rest.nd rfl (Or.inl rfl) (pe_lst pa_nil))
      (pss_cons (ps_for PassesOwn.never rfl (piT K (pv 0)) (pg_name (i := 2) sc__law_rest.nd rfl (Or.inl rfl)) (pss_one (ps_if (PW.pt (pw_and (pt_cmpR op_gt (pe_callB (lenS K) (by rfl) T.n_len PySem.boot_len (pa_cons (pv 1) pa_nil)) pe_int (nomark _)) (pw_and1 (pt_cmpR op_eq (pe_ix (ixL K) (pv 1) (pe_un un_neg pe_int) (fun _ _ => rfl)) (pv 2) (nomark _))))) (pss_one (ps_expr (pe_bm0 PySem.F.plainAttrs_list PySem.F.slot_list_pop PySem.F.type_list_pop mt_pop (pv 1)))) (pss_one (ps_expr (pe_bm PySem.F.plainAttrs_list PySem.F.slot_list_append PySem.F.type_list_append mt_append (pv 1) (pa_cons (pv 2) pa_nil)))))))
      (pss_one (ps_ret (pe_callTy (tupOf K) (by rfl) T.n_tuple (by decide +kernel) (pa_cons (pv 1) pa_nil)))))), ?_⟩
  refine ⟨Nat.zero_le _, fun l nl => ?_⟩
  refine ⟨.ref a, rfl, a, rfl, ⟨_, (Same.new nl).tup hS⟩, for_tup (xs := ns.map V.int) (fun i σ H' => (∃ y, σ = [some (.ref a), some (.ref l), y]) ∧ Same H H' ∧ H' l = some (.lst ((strk (ns.take i)).map V.int)))
    ⟨⟨_, rfl⟩, Same.new nl, upd_same⟩ (fun i σ H' _ h => h.2.1.tup hS) ?_ ?_⟩
  · rintro i x σ H1 hi ⟨⟨y, rfl⟩, sm, hl⟩
    obtain ⟨hi2, rfl⟩ := num_map i ns x hi
    have hst : strk (ns.take (i + 1)) = stp (strk (ns.take i)) ns[i] := by
      unfold strk
      rw [List.take_add_one, List.getElem?_eq_getElem hi2, List.foldl_append]
      rfl
    have hz : (strk (ns.take i)).length ≤ i := Nat.le_trans (strk_len _) (by rw [List.length_take]; omega)
    generalize strk (ns.take i) = st at hl hst hz
    refine ⟨.ref l, rfl, l, _, rfl, .inl (SqL.of hl), _, 1, rfl, rfl, _, rfl, ?_⟩
    by_cases h1 : st.length > 1
    · refine itT (decide_eq_true (by rw [List.length_map]; omega)) ?_
      have g : (st.map V.int)[st.length - 2]? = some (.int (st[st.length - 2]'(by omega))) := by
        rw [List.getElem?_map, List.getElem?_eq_getElem (by omega)]
        rfl
      refine ⟨.ref l, rfl, 2, rfl, l, _, _, _, rfl, rfl, SqL.of hl, atNeg g (by rw [List.length_map]; omega), _, rfl, rfl, _, rfl, ite2 (fun e => ?_) (fun e => ?_)⟩
      · have e' : st[st.length - 2]? = some ns[i] := by
          rw [List.getElem?_eq_getElem (by omega)]
          exact congrArg some (V.int.inj (of_decide_eq_true e))
        refine ⟨.ref l, rfl, .inl ⟨rfl, _, SqL.of hl⟩, l, _, .int (st[st.length - 1]'(by omega)), rfl, rfl, hl, ?_, ?_⟩
        · rw [List.length_map, List.getElem?_map, List.getElem?_eq_getElem (by omega)]
          rfl
        · refine ⟨⟨_, rfl⟩, sm.mut nl, ?_⟩
          rw [upd_same, hst, stp, if_pos ⟨h1, e'⟩, List.map_dropLast]
      · have e' : ¬ st[st.length - 2]? = some ns[i] := fun z => by
          rw [List.getElem?_eq_getElem (by omega)] at z
          exact e (decide_eq_true (congrArg V.int (Option.some.inj z)))
        refine ⟨.ref l, rfl, .inl ⟨rfl, _, SqL.of hl⟩, _, rfl, l, _, _, rfl, rfl, hl, smallLt (by rw [List.length_map]; omega), ?_⟩
        refine ⟨⟨_, rfl⟩, sm.mut nl, ?_⟩
        rw [upd_same, hst, stp, if_neg (fun z => e' z.2), List.map_append]
        rfl
    · refine itF (decide_eq_false (by rw [List.length_map]; omega)) ?_
      refine iteF ?_
      refine ⟨.ref l, rfl, .inl ⟨rfl, _, SqL.of hl⟩, _, rfl, l, _, _, rfl, rfl, hl, smallLt (by rw [List.length_map]; omega), ?_⟩
      refine ⟨⟨_, rfl⟩, sm.mut nl, ?_⟩
      rw [upd_same, hst, stp, if_neg (fun z => h1 z.1), List.map_append]
      rfl
  · rintro σ H' ⟨⟨y, rfl⟩, sm, hl⟩
    rw [List.length_map, List.take_length] at hl
    refine ⟨.ref l, rfl, l, _, rfl, .inl ⟨SqL.of hl, fun p np => ?_⟩⟩
    exact q p _ (sm.trans (Same.new np)) (SqT.of upd_same)
def sp__law_ring (K : PySem.W.Frag) : Sp := fun vs H Q _ => ∃ (p : Addr) (n : Int), vs = [.ref p, .int n] ∧ Src H p ∧ 1 ≤ n ∧ n ≤ 8 ∧ ∀ (l : Addr) (ns : List Int) (c : Int) (H' : Hp), l ≠ p → H l = none → H' l = some (.lst (ns.map V.int)) → ns.length ≤ 13 → (∀ x ∈ ns, 0 ≤ x ∧ x ≤ 7) → ns.head? = some c → ns.getLast? = some c → Src H' p → Exb p H H' → Q (.ref l) H'
theorem ok__law_ring (F : Fun K "_law_ring" "_law_ring" s__law_ring f fd) (T : Txt mg) (c__law_take : Cal P w K mg base CX0 1 "_law_take" ["source", "top"] s__law_take (sp__law_take K)) (c__law_one : Cal P w K mg base CX0 2 "_law_one" ["source", "things"] s__law_one (sp__law_one K)) : FnOk P w K mg base CX0 3 f fd ["source", "coats"] (sp__law_ring K) := by
  refine F.ok sc__law_ring (fun vs H Q E h => ?_) (fun cdv A outer s H vs Q E hr h => ?_)
  · obtain ⟨p, n, rfl, _⟩ := h
    rfl
  obtain ⟨p, n, rfl, hs, n1, n2, q⟩ := h
  refine ⟨_, (pss_cons (ps_set (i := 2) sc__law_ring.nd rfl (Or.inl rfl) (pe_cal c__law_one (hr.mono (by decide)) pass0 (pa_cons (pv 0) (pa_cons (pe_lst (pa_cons pe_int (pa_cons pe_int (pa_cons pe_int (pa_cons pe_int (pa_cons pe_int (pa_cons pe_int pa_nil))))))) pa_nil))))
      (pss_cons (ps_setLc (i := 3) (own := [("k", 4)]) rfl sc__law_ring.nd rfl rfl (sw_true rfl rfl rfl (by decide +kernel)) (pi_range1 (by rfl) T.n_range (pa_cons (pv 2) pa_nil)) (blkOk_by (own := [("k", 4)]) (N := ["source", "coats", "size", "some", "k"]) (sc := defScope s__law_ring) (by decide +kernel)) (fun _ _ _ _ _ => pg_name (i := 4) sc__law_ring.nd rfl (Or.inl rfl)) (fun _ _ _ _ _ => pts_nil) (fun _ _ _ _ _ => (pe_cal c__law_take (hr.mono (by decide)) pass0 (pa_cons (pv 0) (pa_cons (pv 1) pa_nil)))))
      (pss_one (ps_ret (pe_ifExp (pt_cmpR op_gt (pe_cal c__law_take (hr.mono (by decide)) pass0 (pa_cons (pv 0) (pa_cons pe_int pa_nil))) pe_int (nomark _)) (pe_op op_rep (pe_op op_cat (pv 3) (pe_slice (slL K) (pv 3) poN (po_some pe_int))) pe_int) (pe_op op_cat (pe_op op_cat (pv 3) (pv 3)) (pe_slice (slL K) (pv 3) poN (po_some pe_int)))))))), ?_⟩
  refine ⟨.ref p, rfl, small (by show 6 ≤ 1000000; decide), fun a na => ?_⟩
  refine ⟨p, a, _, rfl, hs.put (hs.ne na), upd_same, hs.ne na, by show 0 < 6; decide, by show 6 < 1000000; decide, fun v H1 hv s1 e1 => ?_⟩
  have hm : ∃ m : Int, v = .int m ∧ 1 ≤ m ∧ m ≤ 6 := by
    simp only [List.mem_cons, List.not_mem_nil, or_false] at hv
    rcases hv with rfl | rfl | rfl | rfl | rfl | rfl <;> exact ⟨_, rfl, by decide, by decide⟩
  obtain ⟨m, rfl, m1, m2⟩ := hm
  have e1 : Exb p H H1 := (Exb.new na).trans e1
  -- some
  refine ⟨.int m, rfl, _, rfl, by omega, by omega, fun D nD => ?_⟩
  refine lc_draw n p nD s1 (by omega) (fun _ => rfl) (fun i hi H' Q s k => ⟨.ref p, rfl, .int n, rfl, p, n, rfl, s, by omega, by omega, k⟩) (fun ns H2 z hc nDp hl s2 e2 => ?_)
  have e2 : Exb p H H2 := e1.trans e2
  have nH : H D = none := e1.fresh nDp nD
  have zz : 1 ≤ ns.length ∧ ns.length ≤ 6 := by omega
  have hc7 : ∀ x ∈ ns, 0 ≤ x ∧ x ≤ 7 := fun x hx => ⟨(hc x hx).1, by have := (hc x hx).2; omega⟩
  obtain ⟨c, hhd⟩ : ∃ c, ns.head? = some c := by
    cases ns with
    | nil => exact absurd zz.1 (by decide)
    | cons x r => exact ⟨x, rfl⟩
  have cut1 : cutV (ns.map V.int) none (some 1) = (ns.take 1).map V.int := by
    rw [show (1 : Int) = ((1 : Nat) : Int) from rfl, cutV_to, List.map_take]
  have ht1 : ns.take 1 = [c] := by
    cases ns with
    | nil => cases hhd
    | cons x r => cases Option.some.inj hhd; rfl
  rw [ht1] at cut1
  refine ⟨.ref p, rfl, p, 3, rfl, s2, by decide, by decide, fun w H3 w0 w1 s3 e3 => ⟨_, _, rfl, rfl, _, rfl, ite2 (fun _ => ?_) (fun _ => ?_)⟩⟩
  · have hl3 : H3 D = some (.lst (ns.map V.int)) := e3.lst nDp hl
    refine ⟨.ref D, rfl, .ref D, rfl, 1, rfl, D, _, rfl, SqL.of hl3, fun b nb => ?_⟩
    rw [cut1]
    have nDb : D ≠ b := ne_of_none hl3 nb
    refine ⟨D, b, _, _, rfl, rfl, by rw [upd_ne nDb]; exact hl3, upd_same, small (by rw [List.length_map]; show ns.length + 1 ≤ 1000000; omega), fun d nd => ?_⟩
    have s4 := s3.put (o := .lst ([c].map V.int)) (s3.ne nb)
    have e4 : Exb p H (upd H3 b (.lst ([c].map V.int))) := (e2.trans e3).trans (Exb.new nb)
    refine ⟨d, 1, _, rfl, rfl, upd_same, by decide, by decide, small (by rw [List.length_append, List.length_map]; show (ns.length + 1) * 1 ≤ 1000000; omega), fun d2 nd2 => ?_⟩
    have s5 := s4.put (o := .lst (ns.map V.int ++ [c].map V.int)) (s4.ne nd)
    have e5 := e4.trans (Exb.new (o := .lst (ns.map V.int ++ [c].map V.int)) nd)
    refine q d2 (ns ++ [c]) c _ (s5.ne nd2) (e5.fresh (s5.ne nd2) nd2) (by rw [upd_same, ← List.map_append]; show some (HO.lst ((List.replicate 1 _).flatten)) = _; simp) (by rw [List.length_append]; show ns.length + 1 ≤ 13; omega) (fun x hx => ?_) ?_ (List.getLast?_concat) (s5.put (s5.ne nd2)) (e5.trans (Exb.new nd2))
    · rcases List.mem_append.mp hx with h | h
      · exact hc7 x h
      · rw [List.mem_singleton.mp h]; exact hc7 c (List.mem_of_head? hhd)
    · cases ns with
      | nil => cases hhd
      | cons x r => exact hhd
  · have hl3 : H3 D = some (.lst (ns.map V.int)) := e3.lst nDp hl
    refine ⟨.ref D, rfl, .ref D, rfl, D, D, _, _, rfl, rfl, hl3, hl3, small (by rw [List.length_map]; omega), fun b nb => ?_⟩
    have nDb : D ≠ b := ne_of_none hl3 nb
    have hl4 : (upd H3 b (.lst (ns.map V.int ++ ns.map V.int))) D = some (.lst (ns.map V.int)) := by rw [upd_ne nDb]; exact hl3
    refine ⟨.ref D, rfl, 1, rfl, D, _, rfl, SqL.of hl4, fun d nd => ?_⟩
    rw [cut1]
    have nbd : b ≠ d := ne_of_none upd_same nd
    refine ⟨b, d, _, _, rfl, rfl, by rw [upd_ne nbd]; exact upd_same, upd_same, small (by rw [List.length_append, List.length_map]; show ns.length + ns.length + 1 ≤ 1000000; omega), fun d2 nd2 => ?_⟩
    have s4 := s3.put (o := .lst (ns.map V.int ++ ns.map V.int)) (s3.ne nb)
    have e4 := (e2.trans e3).trans (Exb.new (o := .lst (ns.map V.int ++ ns.map V.int)) nb)
    have s5 := s4.put (o := .lst ([c].map V.int)) (s4.ne nd)
    have e5 := e4.trans (Exb.new (o := .lst ([c].map V.int)) nd)
    refine q d2 (ns ++ ns ++ [c]) c _ (s5.ne nd2) (e5.fresh (s5.ne nd2) nd2) (by rw [upd_same, List.map_append, List.map_append]) (by rw [List.length_append, List.length_append]; show ns.length + ns.length + 1 ≤ 13; omega) (fun x hx => ?_) ?_ (List.getLast?_concat) (s5.put (s5.ne nd2)) (e5.trans (Exb.new nd2))
    · rcases List.mem_append.mp hx with h | h
      · rcases List.mem_append.mp h with h | h
        · exact hc7 x h
        · exact hc7 x h
      · rw [List.mem_singleton.mp h]; exact hc7 c (List.mem_of_head? hhd)
    · cases ns with
      | nil => cases hhd
      | cons x r => exact hhd
def sp__law_shaken (K : PySem.W.Frag) : Sp := fun vs H Q _ => ∃ (p l : Addr) (ns : List Int) (n c : Int), vs = [.ref p, .ref l, .int n] ∧ Src H p ∧ l ≠ p ∧ H l = some (.lst (ns.map V.int)) ∧ ns.length ≤ 100 ∧ 1 ≤ n ∧ n ≤ 8 ∧ (∀ x ∈ ns, 0 ≤ x ∧ x ≤ 7) ∧ ns.head? = some c ∧ ns.getLast? = some c ∧ ∀ (l : Addr) (ns : List Int) (H' : Hp), l ≠ p → H' l = some (.lst (ns.map V.int)) → ns.length ≤ 108 → (∀ x ∈ ns, 0 ≤ x ∧ x ≤ 7) → ns.head? = some c → ns.getLast? = some c → Src H' p → Exb p H H' → Q (.ref l) H'
theorem ok__law_shaken (F : Fun K "_law_shaken" "_law_shaken" s__law_shaken f fd) (T : Txt mg) (c__law_take : Cal P w K mg base CX0 1 "_law_take" ["source", "top"] s__law_take (sp__law_take K)) : FnOk P w K mg base CX0 2 f fd ["source", "row", "coats"] (sp__law_shaken K) := by
  refine F.ok sc__law_shaken (fun vs H Q E h => ?_) (fun cdv A outer s H vs Q E hr h => ?_)
  · obtain ⟨p, l, ns, n, c, rfl, _⟩ := h
    rfl
  obtain ⟨p, l, ns, n, c, rfl, hs, nlp, hl, hz, n1, n2, hc, hh, hla, q⟩ := h
  refine ⟨_, (pss_cons (ps_for PassesOwn.never rfl (pi_range1 (by rfl) T.n_range (pa_cons (pe_cal c__law_take (hr.mono (by decide)) pass0 (pa_cons (pv 0) (pa_cons pe_int pa_nil))) pa_nil)) (pg_name (i := 3) sc__law_shaken.nd rfl (Or.inl rfl)) (pss_cons (ps_set (i := 4) sc__law_shaken.nd rfl (Or.inl rfl) (pe_cal c__law_take (hr.mono (by decide)) pass0 (pa_cons (pv 0) (pa_cons (pe_callB (lenS K) (by rfl) T.n_len PySem.boot_len (pa_cons (pv 1) pa_nil)) pa_nil))))
      (pss_one (ps_set (i := 1) sc__law_shaken.nd rfl (Or.inl rfl) (pe_op op_cat (pe_op op_cat (pe_slice (slL K) (pv 1) poN (po_some (pe_op op_add (pv 4) pe_int))) (pe_lst (pa_cons (pe_cal c__law_take (hr.mono (by decide)) pass0 (pa_cons (pv 0) (pa_cons (pv 2) pa_nil))) (pa_cons (pe_ix (ixL K) (pv 1) (pv 4) (fun _ _ => rfl)) pa_nil)))) (pe_slice (slL K) (pv 1) (po_some (pe_op op_add (pv 4) pe_int)) poN))))))
      (pss_one (ps_ret (pv 1)))), ?_⟩
  refine ⟨.ref p, rfl, p, 4, rfl, hs, by decide, by decide, fun k H1 k0 k1 s1 e1 => ⟨_, rfl, by omega, by omega, ?_⟩⟩
  refine for_range (fun i σ' H' => ∃ (l : Addr) (ns : List Int) (y1 y2 : Option V), σ' = [some (.ref p), some (.ref l), some (.int n), y1, y2] ∧ l ≠ p ∧ H' l = some (.lst (ns.map V.int)) ∧ ns.length ≤ 100 + 2 * i ∧ (∀ x ∈ ns, 0 ≤ x ∧ x ≤ 7) ∧ ns.head? = some c ∧ ns.getLast? = some c ∧ Src H' p ∧ Exb p H H')
    ⟨l, ns, none, none, rfl, nlp, e1.lst nlp hl, by omega, hc, hh, hla, s1, e1⟩ ?_ ?_
  · rintro i σ' H2 hi ⟨l, ns, y1, y2, rfl, nlp, hl, hz, hc, hh, hla, s2, e2⟩
    have hpos : 0 < ns.length := by
      cases ns with
      | nil => cases hh
      | cons x r => exact Nat.succ_pos _
    refine ⟨.ref p, rfl, .ref l, rfl, l, _, rfl, .inl (SqL.of hl), p, _, rfl, s2, by rw [List.length_map]; omega, by rw [List.length_map]; omega, fun a H3 a0 a1 s3 e3 => ?_⟩
    rw [List.length_map] at a1
    obtain ⟨j, rfl⟩ : ∃ j : Nat, a = (j : Int) := ⟨a.toNat, by omega⟩
    have hj : j < ns.length := by omega
    have hl3 : H3 l = some (.lst (ns.map V.int)) := e3.lst nlp hl
    have e3 := e2.trans e3
    -- row[:at + 1]
    refine ⟨.ref l, rfl, .int (j : Int), rfl, _, _, rfl, rfl, _, rfl, l, _, rfl, SqL.of hl3, fun b1 nb1 => ?_⟩
    rw [show (j : Int) + 1 = ((j + 1 : Nat) : Int) by omega, cutV_to, ← List.map_take]
    have nlb1 : l ≠ b1 := ne_of_none hl3 nb1
    have s4 := s3.put (o := .lst ((ns.take (j + 1)).map V.int)) (s3.ne nb1)
    have e4 := e3.trans (Exb.new (o := .lst ((ns.take (j + 1)).map V.int)) nb1)
    have hl4 : (upd H3 b1 (.lst ((ns.take (j + 1)).map V.int))) l = some (.lst (ns.map V.int)) := by rw [upd_ne nlb1]; exact hl3
    have hb4 : (upd H3 b1 (.lst ((ns.take (j + 1)).map V.int))) b1 = some (.lst ((ns.take (j + 1)).map V.int)) := upd_same
    have nb1p := s3.ne nb1
    generalize upd H3 b1 (.lst ((ns.take (j + 1)).map V.int)) = H4 at s4 e4 hl4 hb4
    -- [_law_take(source, coats), row[at]]
    refine ⟨.ref p, rfl, .int n, rfl, p, n, rfl, s4, by omega, by omega, fun r H5 r0 r1 s5 e5 => ?_⟩
    have hl5 : H5 l = some (.lst (ns.map V.int)) := e5.lst nlp hl4
    have hb5 : H5 b1 = some (.lst ((ns.take (j + 1)).map V.int)) := e5.lst nb1p hb4
    have e5 := e4.trans e5
    have gj : (ns.map V.int)[j]? = some (.int ns[j]) := by rw [List.getElem?_map, List.getElem?_eq_getElem hj]; rfl
    refine ⟨.ref l, rfl, .int (j : Int), rfl, l, _, _, _, rfl, rfl, SqL.of hl5, atI_nat gj, small (by show 2 ≤ 1000000; decide), fun b2 nb2 => ?_⟩
    have nb12 : b1 ≠ b2 := ne_of_none hb5 nb2
    refine ⟨b1, b2, _, _, rfl, rfl, by rw [upd_ne nb12]; exact hb5, upd_same, small (by rw [List.length_map, List.length_take]; show min (j + 1) ns.length + 2 ≤ 1000000; omega), fun b3 nb3 => ?_⟩
    have s6 := s5.put (o := .lst [.int r, .int ns[j]]) (s5.ne nb2)
    have e6 := e5.trans (Exb.new (o := .lst [.int r, .int ns[j]]) nb2)
    have nlb2 : l ≠ b2 := ne_of_none hl5 nb2
    have hl6 : (upd H5 b2 (.lst [.int r, .int ns[j]])) l = some (.lst (ns.map V.int)) := by rw [upd_ne nlb2]; exact hl5
    generalize upd H5 b2 (.lst [.int r, .int ns[j]]) = H6 at s6 e6 hl6 nb3
    have s7 := s6.put (o := .lst ((ns.take (j + 1)).map V.int ++ [.int r, .int ns[j]])) (s6.ne nb3)
    have e7 := e6.trans (Exb.new (o := .lst ((ns.take (j + 1)).map V.int ++ [.int r, .int ns[j]])) nb3)
    have nlb3 : l ≠ b3 := ne_of_none hl6 nb3
    have hl7 : (upd H6 b3 (.lst ((ns.take (j + 1)).map V.int ++ [.int r, .int ns[j]]))) l = some (.lst (ns.map V.int)) := by rw [upd_ne nlb3]; exact hl6
    have hb7 : (upd H6 b3 (.lst ((ns.take (j + 1)).map V.int ++ [.int r, .int ns[j]]))) b3 = some (.lst ((ns.take (j + 1)).map V.int ++ [.int r, .int ns[j]])) := upd_same
    generalize upd H6 b3 (.lst ((ns.take (j + 1)).map V.int ++ [.int r, .int ns[j]])) = H7 at s7 e7 hl7 hb7
    -- row[at + 1:]
    refine ⟨.ref l, rfl, .int (j : Int), rfl, _, _, rfl, rfl, _, rfl, l, _, rfl, SqL.of hl7, fun b4 nb4 => ?_⟩
    rw [show (j : Int) + 1 = ((j + 1 : Nat) : Int) by omega, cutV_from, ← List.map_drop]
    have nb34 : b3 ≠ b4 := ne_of_none hb7 nb4
    have hlenN : (ns.take (j + 1) ++ [r, ns[j]] ++ ns.drop (j + 1)).length = ns.length + 2 := by
      rw [List.length_append, List.length_append, List.length_take, List.length_drop]
      show min (j + 1) ns.length + 2 + (ns.length - (j + 1)) = ns.length + 2
      omega
    refine ⟨b3, b4, _, _, rfl, rfl, by rw [upd_ne nb34]; exact hb7, upd_same, small (by rw [List.length_append, List.length_map, List.length_map, List.length_take, List.length_drop]; show min (j + 1) ns.length + 2 + (ns.length - (j + 1)) ≤ 1000000; omega), fun b5 nb5 => ?_⟩
    have s8 := s7.put (o := .lst ((ns.drop (j + 1)).map V.int)) (s7.ne nb4)
    have e8 := e7.trans (Exb.new (o := .lst ((ns.drop (j + 1)).map V.int)) nb4)
    refine ⟨b5, ns.take (j + 1) ++ [r, ns[j]] ++ ns.drop (j + 1), _, _, rfl, s8.ne nb5, by rw [upd_same, List.map_append, List.map_append]; rfl, by omega, fun x hx => ?_, ?_, ?_, s8.put (s8.ne nb5), e8.trans (Exb.new nb5)⟩
    · rcases List.mem_append.mp hx with h | h
      · rcases List.mem_append.mp h with h | h
        · exact hc x (List.mem_of_mem_take h)
        · simp only [List.mem_cons, List.not_mem_nil, or_false] at h
          rcases h with rfl | rfl
          · exact ⟨r0, by omega⟩
          · exact hc _ (List.getElem_mem hj)
      · exact hc x (List.mem_of_mem_drop h)
    · cases ns with
      | nil => cases hh
      | cons x r => exact hh
    · by_cases hend : j + 1 < ns.length
      · have hne : ns.drop (j + 1) ≠ [] := fun z => by
          have := congrArg List.length z
          rw [List.length_drop] at this
          simp at this
          omega
        rw [List.getLast?_append, List.getLast?_drop, if_neg (by omega), hla]
        rfl
      · rw [List.drop_eq_nil_of_le (by omega), List.append_nil, show [r, ns[j]] = [r] ++ [ns[j]] from rfl, ← List.append_assoc, List.getLast?_concat]
        rw [List.getLast?_eq_getElem?, show ns.length - 1 = j by omega, List.getElem?_eq_getElem hj] at hla
        exact hla
  · rintro σ' H2 ⟨l, ns, y1, y2, rfl, nlp, hl, hz, hc, hh, hla, s2, e2⟩
    exact ⟨.ref l, rfl, q l ns H2 nlp hl (by omega) hc hh hla s2 e2⟩
def sp__law_closed (K : PySem.W.Frag) : Sp := fun vs H Q _ => ∃ (p : Addr), vs = [.ref p] ∧ Src H p ∧ ∀ (a : Addr) (ns : List Int) (c : Int) (H' : Hp), Row ns → ns.head? = some c → ns.getLast? = some c → Src H' p → Exb p H H' → SqT K H' a (ns.map V.int) → Q (.ref a) H'
theorem ok__law_closed (F : Fun K "_law_closed" "_law_closed" s__law_closed f fd) (T : Txt mg) (c__law_take : Cal P w K mg base CX0 1 "_law_take" ["source", "top"] s__law_take (sp__law_take K)) (c__law_one : Cal P w K mg base CX0 2 "_law_one" ["source", "things"] s__law_one (sp__law_one K)) (c__law_ring : Cal P w K mg base CX0 3 "_law_ring" ["source", "coats"] s__law_ring (sp__law_ring K)) (c__law_shaken : Cal P w K mg base CX0 2 "_law_shaken" ["source", "row", "coats"] s__law_shaken (sp__law_shaken K)) : FnOk P w K mg base CX0 4 f fd ["source"] (sp__law_closed K) := by
  refine F.ok sc__law_closed (fun vs H Q E h => ?_) (fun cdv A outer s H vs Q E hr h => ?_)
  · obtain ⟨p, rfl, _⟩ := h
    rfl
  obtain ⟨p, rfl, hs, q⟩ := h
  refine ⟨_, (pss_cons (ps_asg (pe_tup (pa_cons (pe_op op_add pe_int (pe_cal c__law_take (hr.mono (by decide)) pass0 (pa_cons (pv 0) (pa_cons pe_int pa_nil)))) (pa_cons (pe_cal c__law_take (hr.mono (by decide)) pass0 (pa_cons (pv 0) (pa_cons pe_int pa_nil))) pa_nil))) (pg_tup rfl (pgs_cons (pg_name (i := 1) sc__law_closed.nd rfl (Or.inr rfl)) (pgs_cons (pg_name (i := 2) sc__law_closed.nd rfl (Or.inl rfl)) pgs_nil))))
      (pss_cons (ps_setLc (i := 3) (own := [("k", 5)]) rfl sc__law_closed.nd rfl rfl (sw_true rfl rfl rfl (by decide +kernel)) (pi_range1 (by rfl) T.n_range (pa_cons (pe_cal c__law_take (hr.mono (by decide)) pass0 (pa_cons (pv 0) (pa_cons pe_int pa_nil))) pa_nil)) (blkOk_by (own := [("k", 5)]) (N := ["source", "coats", "way", "tail", "row", "k"]) (sc := defScope s__law_closed) (by decide +kernel)) (fun _ _ _ _ _ => pg_name (i := 5) sc__law_closed.nd rfl (Or.inl rfl)) (fun _ _ _ _ _ => pts_nil) (fun _ _ _ _ _ => (pe_cal c__law_take (hr.mono (by decide)) pass0 (pa_cons (pv 0) (pa_cons (pv 1) pa_nil)))))
      (pss_cons (ps_if (pt_cmpR op_eq (pv 2) pe_int (nomark _)) (pss_cons (ps_set (i := 4) sc__law_closed.nd rfl (Or.inl rfl) (pe_op op_cat (pv 3) (pe_lst (pa_cons (pe_cal c__law_take (hr.mono (by decide)) pass0 (pa_cons (pv 0) (pa_cons (pv 1) pa_nil))) pa_nil))))
      (pss_one (ps_ret (pe_callTy (tupOf K) (by rfl) T.n_tuple (by decide +kernel) (pa_cons (pe_cal c__law_shaken (hr.mono (by decide)) pass0 (pa_cons (pv 0) (pa_cons (pe_op op_cat (pv 4) (pe_slice (slL K) (pe_revL (pv 4)) (po_some pe_int) poN)) (pa_cons (pv 1) pa_nil)))) pa_nil))))) pss_nil)
      (pss_cons (ps_if (pt_cmpR op_eq (pv 2) pe_int (nomark _)) (pss_cons (ps_setLc (i := 4) (own := [("k", 5)]) rfl sc__law_closed.nd rfl rfl (sw_true rfl rfl rfl (by decide +kernel)) (pi_range1 (by rfl) T.n_range (pa_cons (pe_cal c__law_one (hr.mono (by decide)) pass0 (pa_cons (pv 0) (pa_cons (pe_lst (pa_cons pe_int (pa_cons pe_int (pa_cons pe_int (pa_cons pe_int (pa_cons pe_int pa_nil)))))) pa_nil))) pa_nil)) (blkOk_by (own := [("k", 5)]) (N := ["source", "coats", "way", "tail", "row", "k"]) (sc := defScope s__law_closed) (by decide +kernel)) (fun _ _ _ _ _ => pg_name (i := 5) sc__law_closed.nd rfl (Or.inl rfl)) (fun _ _ _ _ _ => pts_nil) (fun _ _ _ _ _ => (pe_cal c__law_take (hr.mono (by decide)) pass0 (pa_cons (pv 0) (pa_cons (pv 1) pa_nil)))))
      (pss_one (ps_ret (pe_callTy (tupOf K) (by rfl) T.n_tuple (by decide +kernel) (pa_cons (pe_op op_cat (pv 4) (pe_slice (slL K) (pv 4) poN (po_some pe_int))) pa_nil))))) pss_nil)
      (pss_cons (ps_set (i := 4) sc__law_closed.nd rfl (Or.inl rfl) (pe_op op_cat (pe_op op_cat (pv 3) (pe_cal c__law_ring (hr.mono (by decide)) pass0 (pa_cons (pv 0) (pa_cons (pv 1) pa_nil)))) (pe_revL (pv 3))))
      (pss_one (ps_ret (pe_callTy (tupOf K) (by rfl) T.n_tuple (by decide +kernel) (pa_cons (pe_cal c__law_shaken (hr.mono (by decide)) pass0 (pa_cons (pv 0) (pa_cons (pv 4) (pa_cons (pv 1) pa_nil)))) pa_nil))))))))), ?_⟩
  refine ⟨.ref p, rfl, p, 7, rfl, hs, by decide, by decide, fun n0 H1 n1 n2 s1 e1 => ⟨2, n0, rfl, rfl, .ref p, rfl, p, 4, rfl, s1, by decide, by decide, fun w H2 w0 w1 s2 e2 => ⟨small (by show 2 ≤ 1000000; decide), fun t nt => ⟨t, _, rfl, SqT.of upd_same, rfl, _, _, rfl, _, _, rfl, rfl, ?_⟩⟩⟩⟩
  have s3 := s2.put (o := .tup [.int (2 + n0), .int w]) (s2.ne nt)
  have e3 := (e1.trans e2).trans (Exb.new (o := .tup [.int (2 + n0), .int w]) nt)
  generalize upd H2 t (.tup [.int (2 + n0), .int w]) = H3 at s3 e3
  -- tail
  refine ⟨.ref p, rfl, p, 5, rfl, s3, by decide, by decide, fun k H4 k0 k1 s4 e4 => ⟨_, rfl, by omega, by omega, fun D nD => lc_draw (2 + n0) p nD s4 (by omega) (fun _ => rfl) (fun i hi H' Q s k => ⟨.ref p, rfl, .int (2 + n0), rfl, p, 2 + n0, rfl, s, by omega, by omega, k⟩) (fun ts H5 zt ht nDp hD s5 e5 => ?_)⟩⟩
  have e5 : Exb p H H5 := (e3.trans e4).trans e5
  have zt4 : ts.length ≤ 4 := by omega
  have ht7 : ∀ x ∈ ts, 0 ≤ x ∧ x ≤ 7 := fun x hx => ⟨(ht x hx).1, by have := (ht x hx).2; omega⟩
  refine ⟨.int w, rfl, rfl, _, rfl, ite2 (fun _ => ?_) (fun _ => ?_)⟩
  · -- there and back
    refine ⟨.ref D, rfl, .ref p, rfl, .int (2 + n0), rfl, p, 2 + n0, rfl, s5, by omega, by omega, fun r H6 r0 r1 s6 e6 => ⟨small (by show 1 ≤ 1000000; decide), fun b1 nb1 => ?_⟩⟩
    have hD6 : H6 D = some (.lst (ts.map V.int)) := e6.lst nDp hD
    have nDb : D ≠ b1 := ne_of_none hD6 nb1
    refine ⟨D, b1, _, _, rfl, rfl, by rw [upd_ne nDb]; exact hD6, upd_same, small (by rw [List.length_map]; show ts.length + 1 ≤ 1000000; omega), fun b2 nb2 => ?_⟩
    have s7 := s6.put (o := .lst [.int r]) (s6.ne nb1)
    have e7 := (e5.trans e6).trans (Exb.new (o := .lst [.int r]) nb1)
    have s8 := s7.put (o := .lst (ts.map V.int ++ [.int r])) (s7.ne nb2)
    have e8 := e7.trans (Exb.new (o := .lst (ts.map V.int ++ [.int r])) nb2)
    have h8 : (upd (upd H6 b1 (.lst [.int r])) b2 (.lst (ts.map V.int ++ [.int r]))) b2 = some (.lst ((ts ++ [r]).map V.int)) := by rw [upd_same, List.map_append]; rfl
    have n8 := s7.ne nb2
    generalize upd (upd H6 b1 (.lst [.int r])) b2 (.lst (ts.map V.int ++ [.int r])) = H8 at s8 e8 h8
    have hx7 : ∀ x ∈ ts ++ [r], 0 ≤ x ∧ x ≤ 7 := fun x hx => by
      rcases List.mem_append.mp hx with h | h
      · exact ht7 x h
      · rw [List.mem_singleton.mp h]; exact ⟨r0, by omega⟩
    have hxl : (ts ++ [r]).length ≤ 5 := by rw [List.length_append]; show ts.length + 1 ≤ 5; omega
    have hxp : 1 ≤ (ts ++ [r]).length := by rw [List.length_append]; exact Nat.le_add_left _ _
    generalize ts ++ [r] = xs at h8 hx7 hxl hxp
    obtain ⟨c, hc⟩ : ∃ c, xs.head? = some c := by
      cases xs with
      | nil => exact absurd hxp (by decide)
      | cons x r => exact ⟨x, rfl⟩
    refine ⟨.ref p, rfl, .ref b2, rfl, .ref b2, rfl, b2, _, rfl, SqL.of h8, fun b3 nb3 => ?_⟩
    refine ⟨1, rfl, b3, _, rfl, SqL.of upd_same, fun b4 nb4 => ?_⟩
    rw [show (1 : Int) = ((1 : Nat) : Int) from rfl, cutV_from, List.drop_one, ← List.map_reverse, ← List.map_tail]
    have n23 : b2 ≠ b3 := ne_of_none h8 nb3
    have h9 : (upd H8 b3 (.lst (xs.reverse.map V.int))) b2 = some (.lst (xs.map V.int)) := by rw [upd_ne n23]; exact h8
    rw [← List.map_reverse] at nb4
    have n24 : b2 ≠ b4 := ne_of_none h9 nb4
    have s9 := s8.put (o := .lst (xs.reverse.map V.int)) (s8.ne nb3)
    have e9 := e8.trans (Exb.new (o := .lst (xs.reverse.map V.int)) nb3)
    have s10 := s9.put (o := .lst (xs.reverse.tail.map V.int)) (s9.ne nb4)
    have e10 := e9.trans (Exb.new (o := .lst (xs.reverse.tail.map V.int)) nb4)
    have hrl : xs.reverse.tail.length ≤ 4 := by rw [List.length_tail, List.length_reverse]; omega
    refine ⟨b2, b4, _, _, rfl, rfl, by rw [upd_ne n24]; exact h9, upd_same, small (by rw [List.length_map, List.length_map]; omega), fun b5 nb5 => ?_⟩
    refine ⟨.int (2 + n0), rfl, p, b5, xs ++ xs.reverse.tail, 2 + n0, c, rfl, s10.put (s10.ne nb5), s10.ne nb5, by rw [upd_same, List.map_append], by rw [List.length_append]; omega, by omega, by omega, fun x hx => ?_, ?_, ?_, fun l ns H11 nlp hl hz hc' hh hla s11 e11 => ?_⟩
    · rcases List.mem_append.mp hx with h | h
      · exact hx7 x h
      · exact hx7 x (List.mem_reverse.mp (List.mem_of_mem_tail h))
    · cases xs with
      | nil => cases hc
      | cons x r => exact hc
    · rw [List.getLast?_append]
      cases xs with
      | nil => cases hc
      | cons x r =>
        cases Option.some.inj hc
        cases r with
        | nil => rfl
        | cons y r =>
          have : ((c :: y :: r).reverse.tail).getLast? = some c := by
            have e : (c :: y :: r).reverse.tail = (y :: r).reverse.tail ++ [c] := by
              rw [List.reverse_cons]
              cases w : (y :: r).reverse with
              | nil => exact absurd (congrArg List.length w) (by simp)
              | cons z s => rfl
            rw [e, List.getLast?_concat]
          rw [this]
          rfl
    · refine ⟨l, _, rfl, .inl ⟨SqL.of hl, fun a na => ?_⟩⟩
      have hp : 1 ≤ ns.length := by
        cases ns with
        | nil => cases hh
        | cons x r => exact Nat.succ_pos _
      exact q a ns c _ ⟨hp, by omega, hc'⟩ hh hla (s11.put (s11.ne na)) ((e10.trans (Exb.new nb5)).trans (e11.trans (Exb.new na))) (SqT.of upd_same)
  refine ⟨.int w, rfl, rfl, _, rfl, ite2 (fun _ => ?_) (fun _ => ?_)⟩
  · -- a drawn row, closed by its first stone
    refine ⟨.ref p, rfl, small (by show 5 ≤ 1000000; decide), fun a na => ?_⟩
    refine ⟨p, a, _, rfl, s5.put (s5.ne na), upd_same, s5.ne na, by show 0 < 5; decide, by show 5 < 1000000; decide, fun v H6 hv s6 e6 => ?_⟩
    have hm : ∃ m : Int, v = .int m ∧ 1 ≤ m ∧ m ≤ 20 := by
      simp only [List.mem_cons, List.not_mem_nil, or_false] at hv
      rcases hv with rfl | rfl | rfl | rfl | rfl <;> exact ⟨_, rfl, by decide, by decide⟩
    obtain ⟨m, rfl, m1, m2⟩ := hm
    have e6 : Exb p H H6 := (e5.trans (Exb.new na)).trans e6
    refine ⟨_, rfl, by omega, by omega, fun D2 nD2 => lc_draw (2 + n0) p nD2 s6 (by omega) (fun _ => rfl) (fun i hi H' Q s k => ⟨.ref p, rfl, .int (2 + n0), rfl, p, 2 + n0, rfl, s, by omega, by omega, k⟩) (fun xs H7 zx hx nDp2 hD2 s7 e7 => ?_)⟩
    have e7 := e6.trans e7
    have hx7 : ∀ x ∈ xs, 0 ≤ x ∧ x ≤ 7 := fun x h => ⟨(hx x h).1, by have := (hx x h).2; omega⟩
    have zx2 : 1 ≤ xs.length ∧ xs.length ≤ 20 := by omega
    obtain ⟨c, hc⟩ : ∃ c, xs.head? = some c := by
      cases xs with
      | nil => exact absurd zx2.1 (by decide)
      | cons x r => exact ⟨x, rfl⟩
    have ht1 : xs.take 1 = [c] := by
      cases xs with
      | nil => cases hc
      | cons x r => cases Option.some.inj hc; rfl
    refine ⟨.ref D2, rfl, .ref D2, rfl, 1, rfl, D2, _, rfl, SqL.of hD2, fun b1 nb1 => ?_⟩
    rw [show (1 : Int) = ((1 : Nat) : Int) from rfl, cutV_to, ← List.map_take, ht1]
    have nDb : D2 ≠ b1 := ne_of_none hD2 nb1
    refine ⟨D2, b1, _, _, rfl, rfl, by rw [upd_ne nDb]; exact hD2, upd_same, small (by rw [List.length_map]; show xs.length + 1 ≤ 1000000; omega), fun b2 nb2 => ?_⟩
    have s8 := s7.put (o := .lst ([c].map V.int)) (s7.ne nb1)
    have e8 := e7.trans (Exb.new (o := .lst ([c].map V.int)) nb1)
    have s9 := s8.put (o := .lst (xs.map V.int ++ [c].map V.int)) (s8.ne nb2)
    have e9 := e8.trans (Exb.new (o := .lst (xs.map V.int ++ [c].map V.int)) nb2)
    refine ⟨b2, _, rfl, .inl ⟨SqL.of upd_same, fun a2 na2 => ?_⟩⟩
    refine q a2 (xs ++ [c]) c _ ⟨by rw [List.length_append]; exact Nat.le_add_left _ _, by rw [List.length_append]; show xs.length + 1 ≤ 200; omega, fun x hx => ?_⟩ ?_ List.getLast?_concat (s9.put (s9.ne na2)) (e9.trans (Exb.new na2)) (SqT.of (by rw [upd_same, List.map_append]))
    · rcases List.mem_append.mp hx with h | h
      · exact hx7 x h
      · rw [List.mem_singleton.mp h]; exact hx7 c (List.mem_of_head? hc)
    · cases xs with
      | nil => cases hc
      | cons x r => exact hc
  · -- round a ring
    refine ⟨.ref D, rfl, .ref p, rfl, .int (2 + n0), rfl, p, 2 + n0, rfl, s5, by omega, by omega, fun l2 rs c2 H6 nl2p nl2 hl2 zr hr7 hrh hrl s6 e6 => ?_⟩
    have hD6 : H6 D = some (.lst (ts.map V.int)) := e6.lst nDp hD
    have e6 := e5.trans e6
    have zr1 : 1 ≤ rs.length := by
      cases rs with
      | nil => cases hrh
      | cons x r => exact Nat.succ_pos _
    refine ⟨D, l2, _, _, rfl, rfl, hD6, hl2, small (by rw [List.length_map, List.length_map]; omega), fun b1 nb1 => ?_⟩
    have nDb1 : D ≠ b1 := ne_of_none hD6 nb1
    have s7 := s6.put (o := .lst (ts.map V.int ++ rs.map V.int)) (s6.ne nb1)
    have e7 := e6.trans (Exb.new (o := .lst (ts.map V.int ++ rs.map V.int)) nb1)
    have hD7 : (upd H6 b1 (.lst (ts.map V.int ++ rs.map V.int))) D = some (.lst (ts.map V.int)) := by rw [upd_ne nDb1]; exact hD6
    have hb7 : (upd H6 b1 (.lst (ts.map V.int ++ rs.map V.int))) b1 = some (.lst (ts.map V.int ++ rs.map V.int)) := upd_same
    generalize upd H6 b1 (.lst (ts.map V.int ++ rs.map V.int)) = H7 at s7 e7 hD7 hb7
    refine ⟨.ref D, rfl, D, _, rfl, SqL.of hD7, fun b2 nb2 => ?_⟩
    have nb12 : b1 ≠ b2 := ne_of_none hb7 nb2
    refine ⟨b1, b2, _, _, rfl, rfl, by rw [upd_ne nb12]; exact hb7, upd_same, small (by rw [List.length_append, List.length_reverse, List.length_map, List.length_map]; omega), fun b3 nb3 => ?_⟩
    have s8 := s7.put (o := .lst (ts.map V.int).reverse) (s7.ne nb2)
    have e8 := e7.trans (Exb.new (o := .lst (ts.map V.int).reverse) nb2)
    obtain ⟨c, hc1, hc2⟩ : ∃ c, (ts ++ rs ++ ts.reverse).head? = some c ∧ (ts ++ rs ++ ts.reverse).getLast? = some c := by
      cases ts with
      | nil => exact ⟨c2, by rw [List.nil_append, List.reverse_nil, List.append_nil]; exact hrh, by rw [List.nil_append, List.reverse_nil, List.append_nil]; exact hrl⟩
      | cons x r => exact ⟨x, rfl, by rw [List.reverse_cons, ← List.append_assoc, List.getLast?_concat]⟩
    refine ⟨.ref p, rfl, .ref b3, rfl, .int (2 + n0), rfl, p, b3, ts ++ rs ++ ts.reverse, 2 + n0, c, rfl, s8.put (s8.ne nb3), s8.ne nb3, by rw [upd_same, List.map_append, List.map_append, List.map_reverse], by rw [List.length_append, List.length_append, List.length_reverse]; omega, by omega, by omega, fun x hx => ?_, hc1, hc2, fun l ns H11 nlp hl hz hc' hh hla s11 e11 => ?_⟩
    · rcases List.mem_append.mp hx with h | h
      · rcases List.mem_append.mp h with h | h
        · exact ht7 x h
        · exact hr7 x h
      · exact ht7 x (List.mem_reverse.mp h)
    · refine ⟨l, _, rfl, .inl ⟨SqL.of hl, fun a na => ?_⟩⟩
      have hp : 1 ≤ ns.length := by
        cases ns with
        | nil => cases hh
        | cons x r => exact Nat.succ_pos _
      exact q a ns c _ ⟨hp, by omega, hc'⟩ hh hla (s11.put (s11.ne na)) ((e8.trans (Exb.new nb3)).trans (e11.trans (Exb.new na))) (SqT.of upd_same)
def sp__law_taken (K : PySem.W.Frag) : Sp := fun vs H Q _ => ∃ (a : Addr) (ns : List Int), vs = [.ref a] ∧ SqT K H a (ns.map V.int) ∧ ns.length < 1000 ∧ 1 ≤ ns.length ∧ ∀ t p1 p2 H', Same H H' → SqT K H' t [.ref p1, .ref p2] → SqT K H' p1 ((coreOf (strk ns)).1.map V.int) → SqT K H' p2 ((coreOf (strk ns)).2.map V.int) → Q (.ref t) H'
theorem ok__law_taken (F : Fun K "_law_taken" "_law_taken" s__law_taken f fd) (T : Txt mg) (c__law_rest : Cal P w K mg base CX0 1 "_law_rest" ["row"] s__law_rest (sp__law_rest K)) : FnOk P w K mg base CX0 2 f fd ["row"] (sp__law_taken K) := by
  refine F.ok sc__law_taken (fun vs H Q E h => ?_) (fun cdv A outer s H vs Q E hr h => ?_)
  · obtain ⟨a, ns, rfl, _⟩ := h
    rfl
  obtain ⟨a, ns, rfl, hS, hz, hp, q⟩ := h
  refine ⟨_, (pss_cons (ps_set (i := 1) sc__law_taken.nd rfl (Or.inl rfl) (pe_callTy (listOf K) (by rfl) T.n_list (by decide +kernel) (pa_cons (pe_cal c__law_rest (hr.mono (by decide)) pass0 (pa_cons (pv 0) pa_nil)) pa_nil)))
      (pss_cons (ps_set (i := 2) sc__law_taken.nd rfl (Or.inl rfl) (pe_slice (slL K) (pv 1) poN (po_some pe_int)))
      (pss_cons (ps_while PassesOwn.never (PW.pt (pw_and (pt_cmpR op_gt (pe_callB (lenS K) (by rfl) T.n_len PySem.boot_len (pa_cons (pv 1) pa_nil)) pe_int (nomark _)) (pw_and1 (pt_cmpR op_eq (pe_ix (ixL K) (pv 1) pe_int (fun _ _ => rfl)) (pe_ix (ixL K) (pv 1) (pe_un un_neg pe_int) (fun _ _ => rfl)) (nomark _))))) (pss_cons (ps_set (i := 1) sc__law_taken.nd rfl (Or.inl rfl) (pe_slice (slL K) (pv 1) (po_some pe_int) (po_some (pe_un un_neg pe_int))))
      (pss_one (ps_expr (pe_bm PySem.F.plainAttrs_list PySem.F.slot_list_append PySem.F.type_list_append mt_append (pv 2) (pa_cons (pe_ix (ixL K) (pv 1) pe_int (fun _ _ => rfl)) pa_nil))))))
      (pss_one (ps_ret (pe_tup (pa_cons (pe_callTy (tupOf K) (by rfl) T.n_tuple (by decide +kernel) (pa_cons (pv 2) pa_nil)) (pa_cons (pe_callTy (tupOf K) (by rfl) T.n_tuple (by decide +kernel) (pa_cons (pv 1) pa_nil)) pa_nil)))))))), ?_⟩
  refine ⟨.ref a, rfl, a, ns, rfl, hS, by omega, fun lf0 H1 m1 h1 => ⟨lf0, _, rfl, .inr h1, fun lf nlf => ?_⟩⟩
  have hlen := strk_len ns
  have hpos := strk_pos hp
  obtain ⟨c, hc⟩ : ∃ c, (strk ns).head? = some c := by
    cases e : strk ns with
    | nil => rw [e] at hpos; exact absurd hpos (by decide)
    | cons x r => exact ⟨x, rfl⟩
  have ht1 : (strk ns).take 1 = [c] := by
    cases e : strk ns with
    | nil => rw [e] at hc; cases hc
    | cons x r => rw [e] at hc; cases Option.some.inj hc; rfl
  have hl2 : (upd H1 lf (.lst ((strk ns).map V.int))) lf = some (.lst ((strk ns).map V.int)) := upd_same
  have M2 : Same H1 (upd H1 lf (.lst ((strk ns).map V.int))) := Same.new nlf
  generalize upd H1 lf (.lst ((strk ns).map V.int)) = H2 at hl2 M2
  refine ⟨.ref lf, rfl, 1, rfl, lf, _, rfl, SqL.of hl2, fun tl ntl => ?_⟩
  rw [show (1 : Int) = ((1 : Nat) : Int) from rfl, cutV_to, ← List.map_take]
  have nlt : lf ≠ tl := ne_of_none hl2 ntl
  have MM : Same H H2 := Same.trans m1 M2
  refine ⟨fun m σ' H' => ∃ (lf : Addr) (t l : List Int), σ' = [some (.ref a), some (.ref lf), some (.ref tl)] ∧ Same H2 H' ∧ lf ≠ tl ∧ H' tl = some (.lst (t.map V.int)) ∧ H' lf = some (.lst (l.map V.int)) ∧ TC (strk ns) t l ∧ t.length + l.length ≤ 2000 ∧ m = l.length,
    ⟨_, lf, (strk ns).take 1, strk ns, rfl, Same.new ntl, nlt, upd_same, by rw [upd_ne nlt]; exact hl2, tc_start _, by rw [ht1]; show 1 + _ ≤ 2000; omega, rfl⟩, ?_⟩
  rintro m σ' H3 ⟨lf, t, l, rfl, m2, nlt, ht, hl, htc, hsum, rfl⟩
  have fin : ¬ nxt l = true → ∀ H4, Same H3 H4 → tRet (tTup (tCons (tCB (rTupOf K) (tCons (tVar 2) tNil)) (tCons (tCB (rTupOf K) (tCons (tVar 1) tNil)) tNil))) { nx := fun _ H' => Q .non H', rt := Q } [some (.ref a), some (.ref lf), some (.ref tl)] H4 := fun hn H4 m4 => by
    have e := tc_end htc hn
    refine ⟨.ref tl, rfl, tl, _, rfl, .inl ⟨SqL.of (m4 _ _ ht), fun p1 np1 => ⟨.ref lf, rfl, lf, _, rfl, .inl ⟨SqL.of (Same.new np1 _ _ (m4 _ _ hl)), fun p2 np2 => ⟨small (by show 2 ≤ 1000000; decide), fun t2 nt2 => ?_⟩⟩⟩⟩⟩
    have mm : Same H4 (upd (upd (upd H4 p1 (.tup (t.map V.int))) p2 (.tup (l.map V.int))) t2 (.tup [.ref p1, .ref p2])) := ((Same.new np1).trans (Same.new np2)).trans (Same.new nt2)
    refine q t2 p1 p2 _ ((MM.trans m2).trans (m4.trans mm)) (SqT.of upd_same) ?_ ?_
    · rw [e]
      exact (Same.new nt2).tup ((Same.new np2).tup (SqT.of upd_same))
    · rw [e]
      exact (Same.new nt2).tup (SqT.of upd_same)
  refine ⟨.ref lf, rfl, lf, _, rfl, .inl (SqL.of hl), _, 2, rfl, rfl, _, rfl, ite2 (fun c1 => ?_) (fun c1 => ?_)⟩
  · have c1' : l.length > 2 := by
      have := of_decide_eq_true c1
      rw [List.length_map] at this
      omega
    have g : ∀ i, (hi : i < l.length) → (l.map V.int)[i]? = some (.int l[i]) := fun i hi => by
      rw [List.getElem?_map, List.getElem?_eq_getElem hi]
      rfl
    refine ⟨.ref lf, rfl, lf, _, 1, _, rfl, rfl, SqL.of hl, atN (g 1 (by omega)) rfl, .ref lf, rfl, 2, rfl, lf, _, _, _, rfl, rfl, SqL.of hl, atNeg (g (l.length - 2) (by omega)) (by rw [List.length_map]; omega), rfl, _, rfl, ite2 (fun c2 => ?_) (fun c2 => ?_)⟩
    · have hn : nxt l = true := decide_eq_true ⟨c1', by
        rw [List.getElem?_eq_getElem (by omega), List.getElem?_eq_getElem (by omega)]
        exact congrArg some (V.int.inj (of_decide_eq_true c2))⟩
      have hil := inn_len l
      obtain ⟨d, hd⟩ : ∃ d, (inn l).head? = some d := by
        cases e : inn l with
        | nil => rw [e] at hil; simp at hil; omega
        | cons x r => exact ⟨x, rfl⟩
      have hcut : cutV (l.map V.int) (some 1) (some (-1)) = (inn l).map V.int := by
        rw [cutV_inn (by rw [List.length_map]; omega)]
        unfold inn
        rw [List.map_dropLast, List.map_tail]
      refine ⟨fun σ2 H4 => ∃ (lf : Addr), σ2 = [some (.ref a), some (.ref lf), some (.ref tl)] ∧ Same H2 H4 ∧ lf ≠ tl ∧ H4 tl = some (.lst ((t ++ (inn l).take 1).map V.int)) ∧ H4 lf = some (.lst ((inn l).map V.int)), fun σ2 H4 h => ?_, ?_⟩
      · obtain ⟨lf, e, a1, a2, a3, a4⟩ := h
        refine ⟨(inn l).length, by omega, lf, _, _, e, a1, a2, a3, a4, tc_step htc hn, ?_, rfl⟩
        rw [List.length_append, List.length_take]
        omega
      refine ⟨.ref lf, rfl, 1, rfl, 1, rfl, _, rfl, lf, _, rfl, SqL.of hl, fun lf2 nlf2 => ?_⟩
      rw [hcut]
      have nt2 : tl ≠ lf2 := ne_of_none ht nlf2
      have ht3 : (upd H3 lf2 (.lst ((inn l).map V.int))) tl = some (.lst (t.map V.int)) := by rw [upd_ne nt2]; exact ht
      have hl3 : (upd H3 lf2 (.lst ((inn l).map V.int))) lf2 = some (.lst ((inn l).map V.int)) := upd_same
      refine ⟨.ref tl, rfl, .inl ⟨rfl, _, SqL.of ht3⟩, .ref lf2, rfl, lf2, _, 0, .int d, rfl, rfl, SqL.of hl3, atHeadI hd, tl, _, _, rfl, rfl, ht3, smallLt (by rw [List.length_map]; omega), ?_⟩
      refine ⟨lf2, rfl, (m2.trans (Same.new nlf2)).mut ntl, nt2.symm, ?_, by rw [upd_ne nt2.symm]; exact hl3⟩
      rw [upd_same, List.map_append, List.map_take]
      cases e : inn l with
      | nil => rw [e] at hd; cases hd
      | cons x r =>
        rw [e] at hd
        cases Option.some.inj hd
        rfl
    · exact fin (fun z => c2 (decide_eq_true (by
        have := (of_decide_eq_true z).2
        rw [List.getElem?_eq_getElem (by omega), List.getElem?_eq_getElem (by omega)] at this
        exact congrArg V.int (Option.some.inj this)))) _ (Same.refl _)
  · refine iteF (fin (fun z => c1 (decide_eq_true ?_)) _ (Same.refl _))
    have := (of_decide_eq_true z).1
    rw [List.length_map]
    omega
def sp__law_right (K : PySem.W.Frag) : Sp := fun vs H Q _ => ∃ (a : Addr) (ns : List Int) (c : Int), vs = [.ref a] ∧ SqT K H a (ns.map V.int) ∧ Row ns ∧ ns.head? = some c ∧ ns.getLast? = some c ∧ ∀ H', Same H H' → Q (.bl true) H'
theorem ok__law_right (F : Fun K "_law_right" "_law_right" s__law_right f fd) (T : Txt mg) (c_rest : Cal P w K mg base CX0 2 "rest" ["row"] s_rest (sp_rest K)) (c_core : Cal P w K mg base CX0 3 "core" ["row"] s_core (sp_core K)) (c__law_rest : Cal P w K mg base CX0 1 "_law_rest" ["row"] s__law_rest (sp__law_rest K)) (c__law_taken : Cal P w K mg base CX0 2 "_law_taken" ["row"] s__law_taken (sp__law_taken K)) : FnOk P w K mg base CX0 4 f fd ["row"] (sp__law_right K) := by
  refine F.ok sc__law_right (fun vs H Q E h => ?_) (fun cdv A outer s H vs Q E hr h => ?_)
  · obtain ⟨a, ns, c, rfl, _⟩ := h
    rfl
  obtain ⟨a, ns, c, rfl, hS, hR, e1, e2, q⟩ := h
  refine ⟨_, (pss_cons (ps_set (i := 1) sc__law_right.nd rfl (Or.inl rfl) (pe_cal c_core (hr.mono (by decide)) pass0 (pa_cons (pv 0) pa_nil)))
      (pss_cons (ps_if (PW.pt (pw_or (pt_cmpR (neD K hr.units) (pv 1) (pe_cal c__law_taken (hr.mono (by decide)) pass0 (pa_cons (pv 0) pa_nil)) (nomark _)) (pw_or (pt_not (pt_val (pe_callB (isI K) (by rfl) T.n_isinstance (by decide +kernel) (pa_cons (pv 1) (pa_cons (pe_ty (T := "tuple") (by rfl) T.n_tuple (by decide +kernel)) pa_nil))))) (pw_or1 (pt_cmpR op_ne (pe_callB (lenS K) (by rfl) T.n_len PySem.boot_len (pa_cons (pv 1) pa_nil)) pe_int (nomark _)))))) (pss_one (ps_ret pe_bl)) pss_nil)
      (pss_cons (ps_asg (pv 1) (pg_tup rfl (pgs_cons (pg_name (i := 2) sc__law_right.nd rfl (Or.inl rfl)) (pgs_cons (pg_name (i := 3) sc__law_right.nd rfl (Or.inl rfl)) pgs_nil))))
      (pss_cons (ps_set (i := 4) sc__law_right.nd rfl (Or.inl rfl) (pe_cal c_rest (hr.mono (by decide)) pass0 (pa_cons (pv 0) pa_nil)))
      (pss_cons (ps_if (PW.pt (pw_or (pt_cmpR op_ne (pe_ix (ixT K) (pv 2) pe_int (fun _ _ => rfl)) (pe_ix (ixT K) (pv 0) pe_int (fun _ _ => rfl)) (nomark _)) (pw_or (pt_cmpR op_ne (pe_ix (ixT K) (pv 2) (pe_un un_neg pe_int) (fun _ _ => rfl)) (pe_ix (ixT K) (pv 3) pe_int (fun _ _ => rfl)) (nomark _)) (pw_or1 (pt_cmpR op_ne (pe_ix (ixT K) (pv 3) pe_int (fun _ _ => rfl)) (pe_ix (ixT K) (pv 3) (pe_un un_neg pe_int) (fun _ _ => rfl)) (nomark _)))))) (pss_one (ps_ret pe_bl)) pss_nil)
      (pss_cons (ps_if (PW.pt (pw_or (pt_cmpR (neD K hr.units) (pe_op (catA K) (pe_op (catA K) (pv 2) (pe_slice (slT K) (pv 3) (po_some pe_int) poN)) (pe_slice (slT K) (pe_revT (pv 2)) (po_some pe_int) poN)) (pv 4) (nomark _)) (pw_or (pt_cmpR (neD K hr.units) (pe_cal c__law_rest (hr.mono (by decide)) pass0 (pa_cons (pv 2) pa_nil)) (pv 2) (nomark _)) (pw_or1 (pt_cmpR (neD K hr.units) (pe_cal c__law_rest (hr.mono (by decide)) pass0 (pa_cons (pv 3) pa_nil)) (pv 3) (nomark _)))))) (pss_one (ps_ret pe_bl)) pss_nil)
      (pss_cons (ps_set (i := 5) sc__law_right.nd rfl (Or.inl rfl) (pe_op op_sub (pe_callB (lenS K) (by rfl) T.n_len PySem.boot_len (pa_cons (pv 3) pa_nil)) pe_int))
      (pss_cons (ps_if (PW.pt (pw_or (pt_cmpR op_ne (pe_op op_sub (pe_callB (lenS K) (by rfl) T.n_len PySem.boot_len (pa_cons (pv 4) pa_nil)) pe_int) (pe_op op_add (pe_op op_mul pe_int (pe_op op_sub (pe_callB (lenS K) (by rfl) T.n_len PySem.boot_len (pa_cons (pv 2) pa_nil)) pe_int)) (pv 5)) (nomark _)) (pw_or1 (pt_cmpR op_eq (pv 5) pe_int (nomark _))))) (pss_one (ps_ret pe_bl)) pss_nil)
      (pss_one (ps_ret (pe_and (pe_or (pe_cmpR op_lt (pv 5) pe_int (nomark _)) (pe_one (pe_cmpR op_ne (pe_ix (ixT K) (pv 3) pe_int (fun _ _ => rfl)) (pe_ix (ixT K) (pv 3) (pe_un un_neg pe_int) (fun _ _ => rfl)) (nomark _)))) (pe_and (pe_cmpR (eqD K hr.units) (pe_calK0 c_core kb_core_row (hr.mono (by decide)) pass0 (pk_cons (pv 4) pk_nil)) (pv 1) (nomark _)) (pe_one (pe_cmpR (eqD K hr.units) (pe_cal c_core (hr.mono (by decide)) pass0 (pa_cons (pv 3) pa_nil)) (pe_tup (pa_cons (pe_slice (slT K) (pv 3) poN (po_some pe_int)) (pa_cons (pv 3) pa_nil))) (nomark _))))))))))))))), ?_⟩
  have hz := hR.2.1
  have hsl := strk_len ns
  have hst := strk_str ns
  have hhd := (strk_head ns).trans e1
  have hla := (strk_last ns).trans e2
  obtain ⟨hC, hN⟩ := core_of hst hhd hla
  have hco : coreOf (strk ns) = ((coreOf (strk ns)).1, (coreOf (strk ns)).2) := rfl
  -- told
  refine ⟨.ref a, rfl, a, ns, c, rfl, hS, hR, e1, e2, fun t p1 p2 H1 m1 ht h1 h2 => ?_⟩
  have hS1 := Same.tup m1 hS
  generalize hT : (coreOf (strk ns)).1 = T1 at h1 hC hco
  generalize hL : (coreOf (strk ns)).2 = L1 at h2 hC hN hco
  have hd1 : Hd K H1 (.ref t) (Tup.mk T1, Tup.mk L1) := hdP ht (hdT h1) (hdT h2)
  refine ⟨.ref t, rfl, .ref a, rfl, a, ns, rfl, hS1, by omega, hR.1, fun t' p1' p2' H2 m2 ht' h1' h2' => ?_⟩
  rw [hT] at h1'
  rw [hL] at h2'
  refine neH (Hd.same m2 hd1) (hdP ht' (hdT h1') (hdT h2')) ⟨_, rfl, itF (by simp) ?_⟩
  have ht2 := Same.tup m2 ht
  refine ⟨.ref t, rfl, .ref t, .ty "tuple", .type "tuple", .type "tuple", true, rfl, .ty _, tyT ht2, kit_ty (by decide +kernel), _, rfl, iteF ?_⟩
  refine ⟨.ref t, rfl, t, _, rfl, .inr ht2, rfl, _, rfl, itF (by rfl) ?_⟩
  -- tail, inner = told
  refine ⟨.ref t, rfl, t, _, rfl, ht2, rfl, _, _, rfl, _, _, rfl, rfl, ?_⟩
  have hS2 := Same.tup m2 hS1
  have h12 := Same.tup m2 h1
  have h22 := Same.tup m2 h2
  refine ⟨.ref a, rfl, a, ns, rfl, hS2, hR, fun w H3 m3 hw => ?_⟩
  have hS3 := Same.tup m3 hS2
  have h13 := Same.tup m3 h12
  have h23 := Same.tup m3 h22
  obtain ⟨d, f1, f2, f3⟩ := hC.mid
  have f0 : T1.head? = some c := hC.hd.trans hhd
  have zT : T1.length + L1.length ≤ 402 ∧ (strk ns).length = T1.length + (L1.length - 1) + (T1.length - 1) ∧ 1 ≤ T1.length ∧ 1 ≤ L1.length := by
    have ha := congrArg List.length hC.all
    rw [List.length_append, List.length_append, List.length_tail, List.length_tail, List.length_reverse] at ha
    have hl := strk_len ns
    have p1 : 1 ≤ T1.length := by
      cases T1 with
      | nil => cases f0
      | cons x r => exact Nat.succ_pos _
    have p2 : 1 ≤ L1.length := by
      cases L1 with
      | nil => cases f2
      | cons x r => exact Nat.succ_pos _
    omega
  -- the ends
  refine ⟨.ref p1, rfl, p1, _, 0, .int c, rfl, rfl, h13, atHeadI f0, .ref a, rfl, a, _, 0, .int c, rfl, rfl, hS3, atHeadI e1, rfl, _, rfl, itF (by simp) ?_⟩
  refine ⟨.ref p1, rfl, 1, rfl, p1, _, _, .int d, rfl, rfl, h13, atLastI f1, .ref p2, rfl, p2, _, 0, .int d, rfl, rfl, h23, atHeadI f2, rfl, _, rfl, itF (by simp) ?_⟩
  refine ⟨.ref p2, rfl, p2, _, 0, .int d, rfl, rfl, h23, atHeadI f2, .ref p2, rfl, 1, rfl, p2, _, _, .int d, rfl, rfl, h23, atLastI f3, rfl, _, rfl, itF (by simp) ?_⟩
  -- tail + inner[1:] + tail[::-1][1:]
  have one : (1 : Int) = ((1 : Nat) : Int) := rfl
  refine ⟨.ref p1, rfl, .ref p2, rfl, 1, rfl, slA h23 fun x1 H4 m4 g1 => ?_⟩
  rw [one, cutV_from, ← List.map_drop, List.drop_one] at g1
  have zt1 : L1.tail.length ≤ 402 := by rw [List.length_tail]; omega
  refine ctA (Same.tup m4 h13) g1 (by rw [List.length_map, List.length_map]; omega) fun x2 H5 m5 g2 => ?_
  rw [← List.map_append] at g2
  refine ⟨.ref p1, rfl, p1, _, rfl, Same.tup m5 (Same.tup m4 h13), fun x3 nx3 => ?_⟩
  have g3 : SqT K (upd H5 x3 (.tup (T1.map V.int).reverse)) x3 (T1.reverse.map V.int) := SqT.of (by rw [upd_same, List.map_reverse])
  have g2' := (Same.new nx3 (o := .tup (T1.map V.int).reverse)).tup g2
  have m5' : Same H5 (upd H5 x3 (.tup (T1.map V.int).reverse)) := Same.new nx3
  generalize upd H5 x3 (.tup (T1.map V.int).reverse) = H6 at g3 g2' m5'
  refine ⟨1, rfl, slA g3 fun x4 H7 m7 g4 => ?_⟩
  rw [one, cutV_from, ← List.map_drop, List.drop_one] at g4
  refine ctA (Same.tup m7 g2') g4 (by rw [List.length_map, List.length_map, List.length_append, List.length_tail, List.length_tail, List.length_reverse]; omega) fun x5 H8 m8 g5 => ?_
  rw [← List.map_append, hC.all] at g5
  have M8 : Same H3 H8 := ((Same.trans m4 m5).trans m5').trans (Same.trans m7 m8)
  refine ⟨.ref w, rfl, neT g5 (M8.tup hw) ⟨_, rfl, itF (by simp) ?_⟩⟩
  -- both are straight
  refine ⟨.ref p1, rfl, p1, T1, rfl, M8.tup h13, by omega, fun y1 H9 m9 k1 => ⟨.ref p1, rfl, neT k1 (Same.tup m9 (M8.tup h13)) ⟨_, rfl, itF (by rw [strk_id (hC.tst hst)]; simp) ?_⟩⟩⟩
  have M9 : Same H3 H9 := M8.trans m9
  refine ⟨.ref p2, rfl, p2, L1, rfl, M9.tup h23, by omega, fun y2 H10 m10 k2 => ⟨.ref p2, rfl, neT k2 (Same.tup m10 (M9.tup h23)) ⟨_, rfl, itF (by rw [strk_id (hC.str hst)]; simp) ?_⟩⟩⟩
  have M10 : Same H3 H10 := M9.trans m10
  -- steps
  refine ⟨.ref p2, rfl, p2, _, rfl, .inr (M10.tup h23), _, _, rfl, rfl, ?_⟩
  have hne := cl_len hC hst
  refine ⟨.ref w, rfl, w, _, rfl, .inr (M10.tup hw), _, _, rfl, rfl, .ref p1, rfl, p1, _, rfl, .inr (M10.tup h13), _, _, rfl, rfl, _, _, rfl, rfl, .inl ⟨by decide, by decide⟩, _, rfl, _, _, rfl, rfl, rfl, _, rfl, itF ?_ ?_⟩
  · rw [List.length_map, List.length_map, List.length_map]
    have e : ((strk ns).length : Int) - 1 = 2 * ((T1.length : Int) - 1) + ((L1.length : Int) - 1) := by omega
    show (!decide (V.int (((strk ns).length : Int) - 1) = V.int (2 * ((T1.length : Int) - 1) + ((L1.length : Int) - 1)))) = false
    rw [e]; simp
  refine ⟨_, rfl, rfl, _, rfl, itF ?_ ?_⟩
  · rw [List.length_map]
    refine decide_eq_false fun z => hne ?_
    have := V.int.inj z
    omega
  -- the end
  have g : ∀ i, (hi : i < L1.length) → (L1.map V.int)[i]? = some (.int L1[i]) := fun i hi => by
    rw [List.getElem?_map, List.getElem?_eq_getElem hi]
    rfl
  have h2A := M10.tup h23
  have hlt : decide (((L1.map V.int).length : Int) - 1 < 3) = false → 4 ≤ L1.length := fun z => by
    have := of_decide_eq_false z
    rw [List.length_map] at this
    omega
  refine Evl.ev_orV (a := decide (((L1.map V.int).length : Int) - 1 < 3)) (b := true) (Evl.ev_op (Evl.ev_var rfl) Evl.ev_c Evl.rv_I0) (fun z => ?_) _ (Evl.Ex.refl _) _ fun H11 m11 => ⟨_, rfl, itT (by simp) ?_⟩
  · have h4 := hlt z
    refine Evl.ev_is (Evl.ev_op (Evl.ev_op (Evl.ev_var rfl) Evl.ev_c (Evl.rv_ixT h2A (atN (g 1 (by omega)) rfl))) (Evl.ev_op (Evl.ev_var rfl) (Evl.ev_un Evl.ev_c Evl.ru_neg) (Evl.rv_ixT h2A (atNeg (g (L1.length - 2) (by omega)) (by rw [List.length_map]; omega)))) (Evl.rv_ne rfl)) ?_
    refine congrArg V.bl ?_
    rw [Bool.not_eq_true', decide_eq_false_iff_not]
    intro e
    refine hN (decide_eq_true ⟨by omega, ?_⟩)
    rw [List.getElem?_eq_getElem (by omega), List.getElem?_eq_getElem (by omega)]
    exact congrArg some (V.int.inj e)
  have mF : Same H3 H11 := M10.trans m11
  refine ⟨.ref w, rfl, w, strk ns, c, rfl, mF.tup hw, hR.strk, hhd, hla, fun t2 q1 q2 H12 m12 u1 u2 u3 => ?_⟩
  rw [strk_idem, hT] at u2
  rw [strk_idem, hL] at u3
  have M12 : Same H3 H12 := mF.trans m12
  refine ⟨.ref t, rfl, eqH (hdP u1 (hdT u2) (hdT u3)) (Hd.same (Same.trans (Same.trans m2 m3) M12) hd1) ⟨_, rfl, itT (by simp) ?_⟩⟩
  have RL : Row L1 := ⟨by omega, by omega, fun x hx => hR.2.2 x (strk_mem ns (by
    have := hC.all
    rw [glue f1 f2] at this
    rw [← this]
    exact List.mem_append_left _ (List.mem_append_right _ hx)))⟩
  refine ⟨.ref p2, rfl, p2, L1, d, rfl, M12.tup h23, RL, f2, f3, fun t3 r1 r2 H13 m13 v1 v2 v3 => ?_⟩
  rw [strk_id (hC.str hst), core_id hN] at v2 v3
  refine ⟨.ref p2, rfl, 1, rfl, slA (Same.tup m13 (M12.tup h23)) fun z1 H14 m14 j1 => ?_⟩
  rw [one, cutV_to, ← List.map_take] at j1
  refine ⟨.ref p2, rfl, small (by show 2 ≤ 1000000; decide), fun z2 nz2 => ?_⟩
  refine eqH (a := (Tup.mk (L1.take 1), Tup.mk L1)) (b := (Tup.mk (L1.take 1), Tup.mk L1)) (Hd.same (Same.trans m14 (Same.new nz2)) (hdP v1 (hdT v2) (hdT v3))) (hdP (SqT.of upd_same) (hdT ((Same.new nz2).tup j1)) (hdT ((Same.new nz2).tup (Same.tup m14 (Same.tup m13 (M12.tup h23)))))) ?_
  rw [decide_eq_true rfl]
  exact q _ ((((m1.trans m2).trans m3).trans M12).trans ((Same.trans m13 m14).trans (Same.new nz2)))
def sp_law (K : PySem.W.Frag) : Sp := fun vs H Q _ => ∃ (a : Addr) (ns : List Int), vs = [.ref a] ∧ SqL K H a (ns.map V.int) ∧ ns.length ≤ 63 ∧ ∀ H', Q (.bl true) H'
theorem ok_law (F : Fun K "law" "law" s_law f fd) (T : Txt mg) (c__law_pool : Cal P w K mg base CX0 1 "_law_pool" ["script", "k"] s__law_pool (sp__law_pool K)) (c__law_take : Cal P w K mg base CX0 1 "_law_take" ["source", "top"] s__law_take (sp__law_take K)) (c__law_closed : Cal P w K mg base CX0 4 "_law_closed" ["source"] s__law_closed (sp__law_closed K)) (c__law_right : Cal P w K mg base CX0 4 "_law_right" ["row"] s__law_right (sp__law_right K)) : FnOk P w K mg base CX0 5 f fd ["script"] (sp_law K) := by
  refine F.ok sc_law (fun vs H Q E h => ?_) (fun cdv A outer s H vs Q E hr h => ?_)
  · obtain ⟨a, ns, rfl, _⟩ := h
    rfl
  obtain ⟨a, ns, rfl, hS, hz, q⟩ := h
  refine ⟨_, (pss_cons (ps_for PassesOwn.never rfl (pi_range1 (by rfl) T.n_range (pa_cons (pe_callB (call_max2 rfl) (by rfl) T.n_max (by decide +kernel) (pa_cons pe_int (pa_cons (pe_callB (call_min2 rfl) (by rfl) T.n_min (by decide +kernel) (pa_cons (pe_callB (lenS K) (by rfl) T.n_len PySem.boot_len (pa_cons (pv 0) pa_nil)) (pa_cons pe_int pa_nil))) pa_nil))) pa_nil)) (pg_name (i := 1) sc_law.nd rfl (Or.inl rfl)) (pss_cons (ps_set (i := 2) sc_law.nd rfl (Or.inr rfl) (pe_cal c__law_pool (hr.mono (by decide)) pass0 (pa_cons (pv 0) (pa_cons (pv 1) pa_nil))))
      (pss_one (ps_if (PW.pt (pw_or (pt_not (pt_val (pe_cal c__law_right (hr.mono (by decide)) pass0 (pa_cons (pe_cal c__law_closed (hr.mono (by decide)) pass0 (pa_cons (pv 2) pa_nil)) pa_nil)))) (pw_or1 (pt_not (pt_val (pe_cal c__law_right (hr.mono (by decide)) pass0 (pa_cons (pe_cal c__law_closed (hr.mono (by decide)) pass0 (pa_cons (pv 2) pa_nil)) pa_nil))))))) (pss_one (ps_ret pe_bl)) pss_nil))))
      (pss_cons (ps_set (i := 2) sc_law.nd rfl (Or.inr rfl) (pe_cal c__law_pool (hr.mono (by decide)) pass0 (pa_cons (pv 0) (pa_cons pe_int pa_nil))))
      (pss_cons (ps_setLc (i := 3) (own := [("place", 4)]) rfl sc_law.nd rfl rfl (sw_true rfl rfl rfl (by decide +kernel)) (pi_range1 (by rfl) T.n_range (pa_cons pe_int pa_nil)) (blkOk_by (own := [("place", 4)]) (N := ["script", "k", "source", "great", "place"]) (sc := defScope s_law) (by decide +kernel)) (fun _ _ _ _ _ => pg_name (i := 4) sc_law.nd rfl (Or.inl rfl)) (fun _ _ _ _ _ => pts_nil) (fun _ _ _ _ _ => (pe_cal c__law_take (hr.mono (by decide)) pass0 (pa_cons (pv 2) (pa_cons pe_int pa_nil)))))
      (pss_one (ps_ret (pe_cal c__law_right (hr.mono (by decide)) pass0 (pa_cons (pe_callTy (tupOf K) (by rfl) T.n_tuple (by decide +kernel) (pa_cons (pe_op op_cat (pv 3) (pe_slice (slL K) (pv 3) poN (po_some pe_int))) pa_nil)) pa_nil))))))), ?_⟩
  have hb := maxB ((ns.map V.int).length : Nat) (Int.natCast_nonneg _)
  refine ⟨.ref a, rfl, a, _, rfl, .inl hS, _, _, rfl, _, _, rfl, _, rfl, by omega, by omega, for_range (fun i σ H' => (∃ y1 y2, σ = [some (.ref a), y1, y2, none, none]) ∧ Same H H') ⟨⟨_, _, rfl⟩, Same.refl _⟩ ?_ ?_⟩
  · rintro i σ H1 hi ⟨⟨y1, y2, rfl⟩, m1⟩
    refine ⟨.ref a, rfl, .int (0 + (i : Int)), rfl, a, ns, _, rfl, m1.seq hS, by omega, by omega, fun p H2 np m2 s2 => ?_⟩
    refine ⟨.ref p, rfl, p, rfl, s2, fun b ms c H3 R1 d1 d2 s3 e3 hb1 => ⟨b, ms, c, rfl, hb1, R1, d1, d2, fun H4 m4 => ⟨_, rfl, iteF ?_⟩⟩⟩
    have s4 := Same.src m4 s3
    refine ⟨.ref p, rfl, p, rfl, s4, fun b2 ms2 c2 H5 R2 d3 d4 s5 e5 hb2 => ⟨b2, ms2, c2, rfl, hb2, R2, d3, d4, fun H6 m6 => ⟨_, rfl, iteF ?_⟩⟩⟩
    exact ⟨⟨_, _, rfl⟩, Same.used m1 np m2 (((e3.trans (Exb.of m4)).trans e5).trans (Exb.of m6))⟩
  · rintro σ H1 ⟨⟨y1, y2, rfl⟩, m1⟩
    refine ⟨.ref a, rfl, a, ns, 0, rfl, m1.seq hS, by decide, by decide, fun p H2 np m2 s2 => ?_⟩
    refine ⟨199, rfl, by decide, by decide, fun D nD => lc_draw 3 p nD s2 (by decide) (fun _ => rfl) (fun i hi H' Q s k => ⟨.ref p, rfl, p, 3, rfl, s, by decide, by decide, k⟩) (fun xs H3 zx hx nDp hD s3 e3 => ?_)⟩
    have zx : xs.length = 199 := zx
    obtain ⟨c, hc⟩ : ∃ c, xs.head? = some c := by
      cases xs with
      | nil => cases zx
      | cons x r => exact ⟨x, rfl⟩
    have ht1 : xs.take 1 = [c] := by
      cases xs with
      | nil => cases hc
      | cons x r => cases Option.some.inj hc; rfl
    refine ⟨.ref D, rfl, .ref D, rfl, 1, rfl, D, _, rfl, SqL.of hD, fun b1 nb1 => ?_⟩
    rw [show (1 : Int) = ((1 : Nat) : Int) from rfl, cutV_to, ← List.map_take, ht1]
    have nDb : D ≠ b1 := ne_of_none hD nb1
    refine ⟨D, b1, _, _, rfl, rfl, by rw [upd_ne nDb]; exact hD, upd_same, small (by rw [List.length_map]; show xs.length + 1 ≤ 1000000; omega), fun b2 nb2 => ?_⟩
    refine ⟨b2, _, rfl, .inl ⟨SqL.of upd_same, fun a2 na2 => ?_⟩⟩
    refine ⟨a2, xs ++ [c], c, rfl, SqT.of (by rw [upd_same, List.map_append]), ⟨by rw [List.length_append]; exact Nat.le_add_left _ _, by rw [List.length_append]; show xs.length + 1 ≤ 200; omega, fun x h => ?_⟩, ?_, List.getLast?_concat, fun H4 m4 => q _⟩
    · have : ∀ x ∈ xs, 0 ≤ x ∧ x ≤ 7 := fun x h => ⟨(hx x h).1, by have := (hx x h).2; omega⟩
      rcases List.mem_append.mp h with h | h
      · exact this x h
      · rw [List.mem_singleton.mp h]; exact this c (List.mem_of_head? hc)
    · cases xs with
      | nil => cases hc
      | cons x r => exact hc
end
theorem law_start {K : PySem.W.Frag} {H : Hp} (a : Addr) (ns : List Int) (hl : ns.length ≤ 63) (hS : SqL K H a (ns.map V.int)) : sp_law K [.ref a] H (fun v _ => v = .bl true) fun _ _ _ => False := ⟨a, ns, rfl, hS, hl, fun _ => rfl⟩
/-! ### what the top has written -/
theorem all_mk {l : PySem.W.OpenLaw} {w : World} {K : PySem.W.Frag} {h : Heap} {mg : Str → Option Value} {fa : Addr} (X : K.In h) (G : h.Ns mainGlobals mg) (hfa : mg "law" = some (.ref fa))
    {od0 an0 : Option Addr} {sl0 : Array (Option Value)} {oc0 kV0 dc0 pm0 cd0 ct0 : Value} {f0 : Addr}
    {od1 an1 : Option Addr} {sl1 : Array (Option Value)} {oc1 kV1 dc1 pm1 cd1 ct1 : Value} {f1 : Addr}
    {od2 an2 : Option Addr} {sl2 : Array (Option Value)} {oc2 kV2 dc2 pm2 cd2 ct2 : Value} {f2 : Addr}
    {od3 an3 : Option Addr} {sl3 : Array (Option Value)} {oc3 kV3 dc3 pm3 cd3 ct3 : Value} {f3 : Addr}
    {od4 an4 : Option Addr} {sl4 : Array (Option Value)} {oc4 kV4 dc4 pm4 cd4 ct4 : Value} {f4 : Addr}
    {od5 an5 : Option Addr} {sl5 : Array (Option Value)} {oc5 kV5 dc5 pm5 cd5 ct5 : Value} {f5 : Addr}
    {od6 an6 : Option Addr} {sl6 : Array (Option Value)} {oc6 kV6 dc6 pm6 cd6 ct6 : Value} {f6 : Addr}
    {od7 an7 : Option Addr} {sl7 : Array (Option Value)} {oc7 kV7 dc7 pm7 cd7 ct7 : Value} {f7 : Addr}
    {od8 an8 : Option Addr} {sl8 : Array (Option Value)} {oc8 kV8 dc8 pm8 cd8 ct8 : Value} {f8 : Addr}
    {od9 an9 : Option Addr} {sl9 : Array (Option Value)} {oc9 kV9 dc9 pm9 cd9 ct9 : Value} {f9 : Addr}
    {od10 an10 : Option Addr} {sl10 : Array (Option Value)} {oc10 kV10 dc10 pm10 cd10 ct10 : Value} {f10 : Addr}
    {od11 an11 : Option Addr} {sl11 : Array (Option Value)} {oc11 kV11 dc11 pm11 cd11 ct11 : Value} {f11 : Addr}
    {od12 an12 : Option Addr} {sl12 : Array (Option Value)} {oc12 kV12 dc12 pm12 cd12 ct12 : Value} {f12 : Addr}
    {od13 an13 : Option Addr} {sl13 : Array (Option Value)} {oc13 kV13 dc13 pm13 cd13 ct13 : Value} {f13 : Addr}
    {od14 an14 : Option Addr} {sl14 : Array (Option Value)} {oc14 kV14 dc14 pm14 cd14 ct14 : Value} {f14 : Addr}
    
    (a0 : PySem.W.nsIn K mainGlobals "check_row" = some (some (.ref f0))) (l0 : K.lookup f0 = some ⟨oc0, od0, .func (PySem.W.fnOf "check_row" "check_row" (defArgs s_check_row) (defBody s_check_row) (defScope s_check_row) .none kV0 dc0 pm0 an0 cd0 ct0), sl0⟩) (c0 : PySem.W.codeIn K cd0 "check_row" = true) (k0 : PySem.W.keepIn K (.ref f0) = true)
    (a1 : PySem.W.nsIn K mainGlobals "struck" = some (some (.ref f1))) (l1 : K.lookup f1 = some ⟨oc1, od1, .func (PySem.W.fnOf "struck" "struck" (defArgs s_struck) (defBody s_struck) (defScope s_struck) .none kV1 dc1 pm1 an1 cd1 ct1), sl1⟩) (c1 : PySem.W.codeIn K cd1 "struck" = true) (k1 : PySem.W.keepIn K (.ref f1) = true)
    (a2 : PySem.W.nsIn K mainGlobals "rest" = some (some (.ref f2))) (l2 : K.lookup f2 = some ⟨oc2, od2, .func (PySem.W.fnOf "rest" "rest" (defArgs s_rest) (defBody s_rest) (defScope s_rest) .none kV2 dc2 pm2 an2 cd2 ct2), sl2⟩) (c2 : PySem.W.codeIn K cd2 "rest" = true) (k2 : PySem.W.keepIn K (.ref f2) = true)
    (a3 : PySem.W.nsIn K mainGlobals "tail_and_core" = some (some (.ref f3))) (l3 : K.lookup f3 = some ⟨oc3, od3, .func (PySem.W.fnOf "tail_and_core" "tail_and_core" (defArgs s_tail_and_core) (defBody s_tail_and_core) (defScope s_tail_and_core) .none kV3 dc3 pm3 an3 cd3 ct3), sl3⟩) (c3 : PySem.W.codeIn K cd3 "tail_and_core" = true) (k3 : PySem.W.keepIn K (.ref f3) = true)
    (a4 : PySem.W.nsIn K mainGlobals "core" = some (some (.ref f4))) (l4 : K.lookup f4 = some ⟨oc4, od4, .func (PySem.W.fnOf "core" "core" (defArgs s_core) (defBody s_core) (defScope s_core) .none kV4 dc4 pm4 an4 cd4 ct4), sl4⟩) (c4 : PySem.W.codeIn K cd4 "core" = true) (k4 : PySem.W.keepIn K (.ref f4) = true)
    (a5 : PySem.W.nsIn K mainGlobals "_law_pool" = some (some (.ref f5))) (l5 : K.lookup f5 = some ⟨oc5, od5, .func (PySem.W.fnOf "_law_pool" "_law_pool" (defArgs s__law_pool) (defBody s__law_pool) (defScope s__law_pool) .none kV5 dc5 pm5 an5 cd5 ct5), sl5⟩) (c5 : PySem.W.codeIn K cd5 "_law_pool" = true) (k5 : PySem.W.keepIn K (.ref f5) = true)
    (a6 : PySem.W.nsIn K mainGlobals "_law_take" = some (some (.ref f6))) (l6 : K.lookup f6 = some ⟨oc6, od6, .func (PySem.W.fnOf "_law_take" "_law_take" (defArgs s__law_take) (defBody s__law_take) (defScope s__law_take) .none kV6 dc6 pm6 an6 cd6 ct6), sl6⟩) (c6 : PySem.W.codeIn K cd6 "_law_take" = true) (k6 : PySem.W.keepIn K (.ref f6) = true)
    (a7 : PySem.W.nsIn K mainGlobals "_law_one" = some (some (.ref f7))) (l7 : K.lookup f7 = some ⟨oc7, od7, .func (PySem.W.fnOf "_law_one" "_law_one" (defArgs s__law_one) (defBody s__law_one) (defScope s__law_one) .none kV7 dc7 pm7 an7 cd7 ct7), sl7⟩) (c7 : PySem.W.codeIn K cd7 "_law_one" = true) (k7 : PySem.W.keepIn K (.ref f7) = true)
    (a8 : PySem.W.nsIn K mainGlobals "_law_rest" = some (some (.ref f8))) (l8 : K.lookup f8 = some ⟨oc8, od8, .func (PySem.W.fnOf "_law_rest" "_law_rest" (defArgs s__law_rest) (defBody s__law_rest) (defScope s__law_rest) .none kV8 dc8 pm8 an8 cd8 ct8), sl8⟩) (c8 : PySem.W.codeIn K cd8 "_law_rest" = true) (k8 : PySem.W.keepIn K (.ref f8) = true)
    (a9 : PySem.W.nsIn K mainGlobals "_law_ring" = some (some (.ref f9))) (l9 : K.lookup f9 = some ⟨oc9, od9, .func (PySem.W.fnOf "_law_ring" "_law_ring" (defArgs s__law_ring) (defBody s__law_ring) (defScope s__law_ring) .none kV9 dc9 pm9 an9 cd9 ct9), sl9⟩) (c9 : PySem.W.codeIn K cd9 "_law_ring" = true) (k9 : PySem.W.keepIn K (.ref f9) = true)
    (a10 : PySem.W.nsIn K mainGlobals "_law_shaken" = some (some (.ref f10))) (l10 : K.lookup f10 = some ⟨oc10, od10, .func (PySem.W.fnOf "_law_shaken" "_law_shaken" (defArgs s__law_shaken) (defBody s__law_shaken) (defScope s__law_shaken) .none kV10 dc10 pm10 an10 cd10 ct10), sl10⟩) (c10 : PySem.W.codeIn K cd10 "_law_shaken" = true) (k10 : PySem.W.keepIn K (.ref f10) = true)
    (a11 : PySem.W.nsIn K mainGlobals "_law_closed" = some (some (.ref f11))) (l11 : K.lookup f11 = some ⟨oc11, od11, .func (PySem.W.fnOf "_law_closed" "_law_closed" (defArgs s__law_closed) (defBody s__law_closed) (defScope s__law_closed) .none kV11 dc11 pm11 an11 cd11 ct11), sl11⟩) (c11 : PySem.W.codeIn K cd11 "_law_closed" = true) (k11 : PySem.W.keepIn K (.ref f11) = true)
    (a12 : PySem.W.nsIn K mainGlobals "_law_taken" = some (some (.ref f12))) (l12 : K.lookup f12 = some ⟨oc12, od12, .func (PySem.W.fnOf "_law_taken" "_law_taken" (defArgs s__law_taken) (defBody s__law_taken) (defScope s__law_taken) .none kV12 dc12 pm12 an12 cd12 ct12), sl12⟩) (c12 : PySem.W.codeIn K cd12 "_law_taken" = true) (k12 : PySem.W.keepIn K (.ref f12) = true)
    (a13 : PySem.W.nsIn K mainGlobals "_law_right" = some (some (.ref f13))) (l13 : K.lookup f13 = some ⟨oc13, od13, .func (PySem.W.fnOf "_law_right" "_law_right" (defArgs s__law_right) (defBody s__law_right) (defScope s__law_right) .none kV13 dc13 pm13 an13 cd13 ct13), sl13⟩) (c13 : PySem.W.codeIn K cd13 "_law_right" = true) (k13 : PySem.W.keepIn K (.ref f13) = true)
    (a14 : PySem.W.nsIn K mainGlobals "law" = some (some (.ref f14))) (l14 : K.lookup f14 = some ⟨oc14, od14, .func (PySem.W.fnOf "law" "law" (defArgs s_law) (defBody s_law) (defScope s_law) .none kV14 dc14 pm14 an14 cd14 ct14), sl14⟩) (c14 : PySem.W.codeIn K cd14 "law" = true) (k14 : PySem.W.keepIn K (.ref f14) = true)
    (z_enumerate : PySem.W.nsIn K mainGlobals "enumerate" = some none)
    (z_int : PySem.W.nsIn K mainGlobals "int" = some none)
    (z_isinstance : PySem.W.nsIn K mainGlobals "isinstance" = some none)
    (z_len : PySem.W.nsIn K mainGlobals "len" = some none)
    (z_list : PySem.W.nsIn K mainGlobals "list" = some none)
    (z_max : PySem.W.nsIn K mainGlobals "max" = some none)
    (z_min : PySem.W.nsIn K mainGlobals "min" = some none)
    (z_range : PySem.W.nsIn K mainGlobals "range" = some none)
    (z_tuple : PySem.W.nsIn K mainGlobals "tuple" = some none)
    (y_LAST_COAT : ∃ t, PySem.W.nsIn K mainGlobals "LAST_COAT" = some (some (.int 7 t)))
    (y_MOST_STONES : ∃ t, PySem.W.nsIn K mainGlobals "MOST_STONES" = some (some (.int 200 t))) :
    ∃ fd : FuncData, (∀ (s : Shared) (v : Value), BindsTo s fd ⟨[v], []⟩ [("script", v)]) ∧ ∀ base : Heap, K.In base → base.Ns mainGlobals mg → FnOk l.prog w K mg base CX0 5 fa fd ["script"] (sp_law K) := by
  have e := hfa.symm.trans (PySem.W.mg_of X G a14)
  cases e
  have T : Txt mg := ⟨PySem.W.mg_none_of X G z_enumerate, PySem.W.mg_none_of X G z_int, PySem.W.mg_none_of X G z_isinstance, PySem.W.mg_none_of X G z_len, PySem.W.mg_none_of X G z_list, PySem.W.mg_none_of X G z_max, PySem.W.mg_none_of X G z_min, PySem.W.mg_none_of X G z_range, PySem.W.mg_none_of X G z_tuple, (let ⟨t, y⟩ := y_LAST_COAT; ⟨t, PySem.W.mg_of X G y⟩), (let ⟨t, y⟩ := y_MOST_STONES; ⟨t, PySem.W.mg_of X G y⟩)⟩
  have F0 := fun_mk (st := s_check_row) l0 c0 k0
  have b0 := F0.binds (ps := ["row"]) fun _ _ _ _ _ _ us hl => match us, hl with | [_], _ => rfl
  have F1 := fun_mk (st := s_struck) l1 c1 k1
  have b1 := F1.binds (ps := ["stones"]) fun _ _ _ _ _ _ us hl => match us, hl with | [_], _ => rfl
  have F2 := fun_mk (st := s_rest) l2 c2 k2
  have b2 := F2.binds (ps := ["row"]) fun _ _ _ _ _ _ us hl => match us, hl with | [_], _ => rfl
  have F3 := fun_mk (st := s_tail_and_core) l3 c3 k3
  have b3 := F3.binds (ps := ["row"]) fun _ _ _ _ _ _ us hl => match us, hl with | [_], _ => rfl
  have F4 := fun_mk (st := s_core) l4 c4 k4
  have b4 := F4.binds (ps := ["row"]) fun _ _ _ _ _ _ us hl => match us, hl with | [_], _ => rfl
  have F5 := fun_mk (st := s__law_pool) l5 c5 k5
  have b5 := F5.binds (ps := ["script", "k"]) fun _ _ _ _ _ _ us hl => match us, hl with | [_, _], _ => rfl
  have F6 := fun_mk (st := s__law_take) l6 c6 k6
  have b6 := F6.binds (ps := ["source", "top"]) fun _ _ _ _ _ _ us hl => match us, hl with | [_, _], _ => rfl
  have F7 := fun_mk (st := s__law_one) l7 c7 k7
  have b7 := F7.binds (ps := ["source", "things"]) fun _ _ _ _ _ _ us hl => match us, hl with | [_, _], _ => rfl
  have F8 := fun_mk (st := s__law_rest) l8 c8 k8
  have b8 := F8.binds (ps := ["row"]) fun _ _ _ _ _ _ us hl => match us, hl with | [_], _ => rfl
  have F9 := fun_mk (st := s__law_ring) l9 c9 k9
  have b9 := F9.binds (ps := ["source", "coats"]) fun _ _ _ _ _ _ us hl => match us, hl with | [_, _], _ => rfl
  have F10 := fun_mk (st := s__law_shaken) l10 c10 k10
  have b10 := F10.binds (ps := ["source", "row", "coats"]) fun _ _ _ _ _ _ us hl => match us, hl with | [_, _, _], _ => rfl
  have F11 := fun_mk (st := s__law_closed) l11 c11 k11
  have b11 := F11.binds (ps := ["source"]) fun _ _ _ _ _ _ us hl => match us, hl with | [_], _ => rfl
  have F12 := fun_mk (st := s__law_taken) l12 c12 k12
  have b12 := F12.binds (ps := ["row"]) fun _ _ _ _ _ _ us hl => match us, hl with | [_], _ => rfl
  have F13 := fun_mk (st := s__law_right) l13 c13 k13
  have b13 := F13.binds (ps := ["row"]) fun _ _ _ _ _ _ us hl => match us, hl with | [_], _ => rfl
  have F14 := fun_mk (st := s_law) l14 c14 k14
  refine ⟨PySem.W.fnOf "law" "law" (defArgs s_law) (defBody s_law) (defScope s_law) .none kV14 dc14 pm14 an14 cd14 ct14, fun s v => .of_eq rfl, fun base _ _ => ?_⟩
  have c_check_row : Cal l.prog w K mg base CX0 1 "check_row" ["row"] s_check_row (sp_check_row K) := ⟨_, _, ok_check_row F0 T , F0, PySem.W.mg_of X G a0, b0⟩
  have c_struck : Cal l.prog w K mg base CX0 1 "struck" ["stones"] s_struck (sp_struck K) := ⟨_, _, ok_struck F1 T , F1, PySem.W.mg_of X G a1, b1⟩
  have c_rest : Cal l.prog w K mg base CX0 2 "rest" ["row"] s_rest (sp_rest K) := ⟨_, _, ok_rest F2 T c_check_row c_struck, F2, PySem.W.mg_of X G a2, b2⟩
  have c_tail_and_core : Cal l.prog w K mg base CX0 2 "tail_and_core" ["row"] s_tail_and_core (sp_tail_and_core K) := ⟨_, _, ok_tail_and_core F3 T c_struck, F3, PySem.W.mg_of X G a3, b3⟩
  have c_core : Cal l.prog w K mg base CX0 3 "core" ["row"] s_core (sp_core K) := ⟨_, _, ok_core F4 T c_check_row c_tail_and_core, F4, PySem.W.mg_of X G a4, b4⟩
  have c__law_pool : Cal l.prog w K mg base CX0 1 "_law_pool" ["script", "k"] s__law_pool (sp__law_pool K) := ⟨_, _, ok__law_pool F5 T , F5, PySem.W.mg_of X G a5, b5⟩
  have c__law_take : Cal l.prog w K mg base CX0 1 "_law_take" ["source", "top"] s__law_take (sp__law_take K) := ⟨_, _, ok__law_take F6 T , F6, PySem.W.mg_of X G a6, b6⟩
  have c__law_one : Cal l.prog w K mg base CX0 2 "_law_one" ["source", "things"] s__law_one (sp__law_one K) := ⟨_, _, ok__law_one F7 T c__law_take, F7, PySem.W.mg_of X G a7, b7⟩
  have c__law_rest : Cal l.prog w K mg base CX0 1 "_law_rest" ["row"] s__law_rest (sp__law_rest K) := ⟨_, _, ok__law_rest F8 T , F8, PySem.W.mg_of X G a8, b8⟩
  have c__law_ring : Cal l.prog w K mg base CX0 3 "_law_ring" ["source", "coats"] s__law_ring (sp__law_ring K) := ⟨_, _, ok__law_ring F9 T c__law_take c__law_one, F9, PySem.W.mg_of X G a9, b9⟩
  have c__law_shaken : Cal l.prog w K mg base CX0 2 "_law_shaken" ["source", "row", "coats"] s__law_shaken (sp__law_shaken K) := ⟨_, _, ok__law_shaken F10 T c__law_take, F10, PySem.W.mg_of X G a10, b10⟩
  have c__law_closed : Cal l.prog w K mg base CX0 4 "_law_closed" ["source"] s__law_closed (sp__law_closed K) := ⟨_, _, ok__law_closed F11 T c__law_take c__law_one c__law_ring c__law_shaken, F11, PySem.W.mg_of X G a11, b11⟩
  have c__law_taken : Cal l.prog w K mg base CX0 2 "_law_taken" ["row"] s__law_taken (sp__law_taken K) := ⟨_, _, ok__law_taken F12 T c__law_rest, F12, PySem.W.mg_of X G a12, b12⟩
  have c__law_right : Cal l.prog w K mg base CX0 4 "_law_right" ["row"] s__law_right (sp__law_right K) := ⟨_, _, ok__law_right F13 T c_rest c_core c__law_rest c__law_taken, F13, PySem.W.mg_of X G a13, b13⟩
  exact ok_law F14 T c__law_pool c__law_take c__law_closed c__law_right
end K
open PySem PySem.W PyProof.Rows
set_option maxHeartbeats 0 in
theorem PySem.Challenge.cw_betweencoats_k10_cores_and_their_tails_holds : PySem.Challenge.rw_betweencoats_k10_cores_and_their_tails.Holds := by
  w_on; o_law; k_head; (case hw => w_witness2)
  k_fill
  refine L2.walk_of (l := PySem.Challenge.rw_betweencoats_k10_cores_and_their_tails) (n := 63) (k := 5) (x := "script") (CX := fun _ => L2.CX0) (sp := fun w => K.sp_law _) rfl (by decide) rfl ⟨rfl, by decide, by decide⟩ (fun w h Y => PySem.W.kIn_of Y) ?F (fun _ _ a ns hl _ hS => K.law_start a ns hl hS) (fun _ _ _ _ _ h => h)
  case F =>
    intro w mg fa h KX G hmg
    refine' K.all_mk KX G hmg ?a0 ?l0 ?c0 ?k0 ?a1 ?l1 ?c1 ?k1 ?a2 ?l2 ?c2 ?k2 ?a3 ?l3 ?c3 ?k3 ?a4 ?l4 ?c4 ?k4 ?a5 ?l5 ?c5 ?k5 ?a6 ?l6 ?c6 ?k6 ?a7 ?l7 ?c7 ?k7 ?a8 ?l8 ?c8 ?k8 ?a9 ?l9 ?c9 ?k9 ?a10 ?l10 ?c10 ?k10 ?a11 ?l11 ?c11 ?k11 ?a12 ?l12 ?c12 ?k12 ?a13 ?l13 ?c13 ?k13 ?a14 ?l14 ?c14 ?k14 ?z_enumerate ?z_int ?z_isinstance ?z_len ?z_list ?z_max ?z_min ?z_range ?z_tuple ?y_LAST_COAT ?y_MOST_STONES
    (case a0 => k_is)
    (case l0 => k_is)
    (case c0 => k_is)
    (case k0 => k_is)
    (case a1 => k_is)
    (case l1 => k_is)
    (case c1 => k_is)
    (case k1 => k_is)
    (case a2 => k_is)
    (case l2 => k_is)
    (case c2 => k_is)
    (case k2 => k_is)
    (case a3 => k_is)
    (case l3 => k_is)
    (case c3 => k_is)
    (case k3 => k_is)
    (case a4 => k_is)
    (case l4 => k_is)
    (case c4 => k_is)
    (case k4 => k_is)
    (case a5 => k_is)
    (case l5 => k_is)
    (case c5 => k_is)
    (case k5 => k_is)
    (case a6 => k_is)
    (case l6 => k_is)
    (case c6 => k_is)
    (case k6 => k_is)
    (case a7 => k_is)
    (case l7 => k_is)
    (case c7 => k_is)
    (case k7 => k_is)
    (case a8 => k_is)
    (case l8 => k_is)
    (case c8 => k_is)
    (case k8 => k_is)
    (case a9 => k_is)
    (case l9 => k_is)
    (case c9 => k_is)
    (case k9 => k_is)
    (case a10 => k_is)
    (case l10 => k_is)
    (case c10 => k_is)
    (case k10 => k_is)
    (case a11 => k_is)
    (case l11 => k_is)
    (case c11 => k_is)
    (case k11 => k_is)
    (case a12 => k_is)
    (case l12 => k_is)
    (case c12 => k_is)
    (case k12 => k_is)
    (case a13 => k_is)
    (case l13 => k_is)
    (case c13 => k_is)
    (case k13 => k_is)
    (case a14 => k_is)
    (case l14 => k_is)
    (case c14 => k_is)
    (case k14 => k_is)
    (case z_enumerate => k_is)
    (case z_int => k_is)
    (case z_isinstance => k_is)
    (case z_len => k_is)
    (case z_list => k_is)
    (case z_max => k_is)
    (case z_min => k_is)
    (case z_range => k_is)
    (case z_tuple => k_is)
    (case y_LAST_COAT => exact ⟨_, by k_is⟩)
    (case y_MOST_STONES => exact ⟨_, by k_is⟩)
