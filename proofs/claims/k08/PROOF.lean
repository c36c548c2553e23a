import PyProof.Rows.All
import Wide.All
import OpenK.AllK
import Wide.FinOn
import HandS.ForMost
import HandS.IsInst
import HandS.TupAny
import HandS.Style
import HandS.Wide
import HandS.Walk
import HandS.WordsExc
import KE.GoesEnum
import PyProof.ReprRoads
import HandS.Evl
import PySem.Challenge.RW_betweencoats_k08_rows_joined_and_gaps
set_option Elab.async false
set_option linter.all false
set_option maxRecDepth 100000
namespace Bw
open PySem PySem.Spec PyProof.Rows L2

/-! ### a def that is called by its name -/
structure Cal (P : Program) (w : World) (K : PySem.W.Frag) (mg : Str → Option Value) (base : Heap) (CX : CXT) (k : Nat) (x : Str) (ps : List Str) (st : Stmt) (sp : Sp) : Prop where
  ex : ∃ (f : Addr) (fd : FuncData), FnOk P w K mg base CX k f fd ps sp ∧ Fun K x x st f fd ∧ mg x = some (.ref f) ∧ Binds K fd ps []
section
variable {X : Cx} {CX : CXT} {k : Nat} {x : Str} {ps ks : List Str} {st : Stmt} {sp : Sp} {E : XK} {p pos : Pos} {e : Expr} {es : List Expr} {kws : List Keyword} {t tk : TA}
theorem pe_cal (c : Cal X.prog X.w X.K X.mg X.base CX k x ps st sp) (hr : Room k X.A) (hx : Passes CX X E) (ha : PA X (e :: es) t) (hg : Gl X x := by rfl) (hdb : (x == ("__debug__" : Str)) = false := by decide)
    (he : starEach (e :: es) X.env = (false, eval e X.env) :: starEach es X.env := by rfl) (hpl : (backTo pos (starEach es X.env)).any (·.1) = false := by rfl) : PE X (.Call (.Name x p) (e :: es) [] pos) (tCall sp [] E t) := by
  obtain ⟨f, fd, G, F, hm, hb⟩ := c.ex
  exact pe_call G hr hg hm F.kp hb .nil hx ha hdb he hpl
theorem pe_cal0 (c : Cal X.prog X.w X.K X.mg X.base CX k x ps st sp) (hr : Room k X.A) (hx : Passes CX X E) (hg : Gl X x := by rfl) (hdb : (x == ("__debug__" : Str)) = false := by decide) : PE X (.Call (.Name x p) [] [] pos) (tCall sp [] E tNil) := by
  obtain ⟨f, fd, G, F, hm, hb⟩ := c.ex
  exact pe_call0 G hr hg hm F.kp hb .nil hx hdb
/-- how a call with keywords binds, whatever the function object -/
structure KwB (x : Str) (st : Stmt) (ps ks : List Str) (g : List Value → List Value → List Value) (gV : List V → List V → List V) : Prop where
  to : ∀ (kV doc pm : Value) (an : Option Addr) (cdv ct : Value) (us ws : List Value), (g us ws).length = ps.length →
    bindArgs (PySem.W.fnOf x x (defArgs st) (defBody st) (defScope st) .none kV doc pm an cdv ct) ⟨us, ks.zip ws⟩ = pure (ps.zip (g us ws))
  rel : ∀ {vs : List V} {us : List Value} {zs : List V} {ws : List Value}, Vals vs us → Vals zs ws → Vals (gV vs zs) (g us ws)
variable {g : List Value → List Value → List Value} {gV : List V → List V → List V}
theorem KwB.binds {K : PySem.W.Frag} {f : Addr} {fd : FuncData} (B : KwB x st ps ks g gV) (F : Fun K x x st f fd) : KBinds K fd ps ks g gV := by
  obtain ⟨oc, od, kV, doc, pm, an, cdv, ct, osl, rfl, lk, hcd⟩ := F.ex
  exact ⟨fun s us ws _ hl => .of_eq (B.to kV doc pm an cdv ct us ws hl), fun r rz => B.rel r rz⟩
theorem pe_calK (c : Cal X.prog X.w X.K X.mg X.base CX k x ps st sp) (B : KwB x st ps ks g gV) (hr : Room k X.A) (hx : Passes CX X E) (ha : PA X (e :: es) t) (hkw : PK X kws tk) (hg : Gl X x := by rfl)
    (hall : (backToKw pos (keywordEach kws X.env)).all (·.1.isSome) = true := by rfl) (hks : (backToKw pos (keywordEach kws X.env)).filterMap (·.1) = ks := by rfl)
    (hdb : (x == ("__debug__" : Str)) = false := by decide) (he : starEach (e :: es) X.env = (false, eval e X.env) :: starEach es X.env := by rfl)
    (hpl : ((backTo pos (starEach (e :: es) X.env)).any (·.1) || (backToKw pos (keywordEach kws X.env)).any (·.1.isNone)) = false := by rfl) :
    PE X (.Call (.Name x p) (e :: es) kws pos) (tCallK sp gV E t tk) := by
  obtain ⟨f, fd, G, F, hm, hb⟩ := c.ex
  exact pe_callK G hr hg hm F.kp (B.binds F) hx ha hkw hall hks hdb he hpl
/-- keywords alone -/
theorem pe_calK0 (c : Cal X.prog X.w X.K X.mg X.base CX k x ps st sp) (B : KwB x st ps ks g gV) (hr : Room k X.A) (hx : Passes CX X E) (hkw : PK X kws tk) (hg : Gl X x := by rfl)
    (hall : (backToKw pos (keywordEach kws X.env)).all (·.1.isSome) = true := by rfl) (hks : (backToKw pos (keywordEach kws X.env)).filterMap (·.1) = ks := by rfl)
    (hdb : (x == ("__debug__" : Str)) = false := by decide)
    (hpl : ((backTo pos (starEach [] X.env)).any (·.1) || (backToKw pos (keywordEach kws X.env)).any (·.1.isNone)) = false := by rfl) :
    PE X (.Call (.Name x p) [] kws pos) (tCallK sp gV E tNil tk) := by
  obtain ⟨f, fd, G, F, hm, hb⟩ := c.ex
  refine ⟨fun pins s σ H Q I h => ?_⟩
  refine wpAny_Call_Name_kw (ld_glob I hg hm ?_ hdb)
  refine PySem.W.callWith_KW0 (h₀ := X.base) I.ok.mod.kin F.kp hall (thn (hkw.run pos pins s σ H _ I h) fun ws s2 ⟨zs, H2, I2, rz, q2⟩ => ⟨I2.kIn, ?_⟩) hpl
  rw [hks]
  exact run_fnk (us := []) (vs := []) G hr (B.binds F) hx I2 .nil rz q2
end

/-! ### enumerate of a tuple -/
def IteT (K : PySem.W.Frag) (a : Addr) : It :=
  ⟨fun i H => ∃ (xs : List V) (x : V), SqT K H a xs ∧ xs[i]? = some x, fun i H v H' => ∃ T x, v = .ref T ∧ H T = none ∧ H' = upd H T (.tup [.int (i : Nat), x]) ∧ ∀ xs, SqT K H a xs → xs[i]? = some x, fun i H => ∃ xs : List V, SqT K H a xs ∧ i = xs.length⟩
set_option maxHeartbeats 1000000 in
theorem meets_enum_tup {v : Value} {o : Obj} {H : Heap → Prop} (B : Begins v o H) :
    Meets (Builtin.«enumerate.__new__» ⟨[.type "enumerate", v], []⟩) (fun _ R s => H s.heap ∧
      R (.ok (.ret (.ref (s.heap.push o).objs.size))) { s with heap := (s.heap.push o).push { cls := .type "enumerate", data := .fields #[.none, .bool false, .ref s.heap.objs.size, rawInt 0, .none, .none] } }) :=
  .of_wp fun prog w A R s h => by
    obtain ⟨hp, g, d, tk, os⟩ := s; obtain ⟨h1, h⟩ := h
    have hsub := sub_enumerate
    have q1 : ∀ {A' : Around} {E : Value → Shared → Prop} {Q : Value → Shared → Prop}, Q (.ref hp.objs.size) ⟨hp.push o, g, d, tk, os⟩ → wpAny (model prog w) A' (pyIter v) Q E ⟨hp, g, d, tk, os⟩ :=
      fun q => B.iter prog w _ _ ⟨hp, g, d, tk, os⟩ _ h1 q
    wp_walk using q1
    refine wpAny_stack_any fun st => wpAny_pure ?_
    split
    · rename_i c _ _ _ _ _
      cases (c == Value.type "enumerate")
      · wp_walk using q1
        exact ⟨_, rfl, h⟩
      · wp_walk using q1
        exact ⟨_, rfl, h⟩
    · wp_walk using q1
      exact ⟨_, rfl, h⟩
end Bw

namespace HT
open PySem PySem.Spec PyProof.Rows
section
variable {prog : Program} {w : World} {A : Around} {E : Value → Shared → Prop} {s : Shared}
theorem sliceApplied_rev {sl : Addr} {vk : Value} {n : Nat} {Q : Int × Int × Nat → Shared → Prop} (hs : s.heap.IsSliceOf sl .none .none vk) (pk : IsPart vk (some (-1)))
    (h : Q ((n : Int) - 1, -1, n) s) : wpAny (model prog w) A (Builtin.Slice.sliceApplied (.ref sl) (pure (n : Int))) Q E s := by
  obtain ⟨os, hos, hcs, hds⟩ := id hs
  unfold Builtin.Slice.sliceApplied Builtin.Slice.sliceFields
  refine wpAny_bind (wpAny_bind (wpAny_field hos hds (x := .none) rfl (wpAny_bind (wpAny_field hos hds (x := .none) rfl (wpAny_bind (wpAny_field hos hds (x := vk) rfl (wpAny_pure ?_)))))))
  refine wpAny_bind (slicePart_ pk ?_)
  show wpAny _ _ (if ((-1 : Int) == 0) = true then _ else _) _ _ s
  rw [if_neg (by decide)]
  refine wpAny_bind (slicePart_ .none (wpAny_bind (slicePart_ .none (wpAny_bind (wpAny_pure ?_)))))
  show wpAny _ _ (pure ((n : Int) - 1, (-1 : Int), Builtin.Slice.slicePlaces ((n : Int) - 1) (-1) (-1))) _ _ s
  have e : Builtin.Slice.slicePlaces ((n : Int) - 1) (-1) (-1) = n := by
    unfold Builtin.Slice.slicePlaces
    rw [if_neg (by decide)]
    by_cases h0 : n = 0
    · subst h0; decide
    · rw [if_pos (show (n : Int) - 1 > -1 by omega), show (- -1 : Int) = 1 by decide, Int.ediv_one]
      omega
  rw [e]
  exact wpAny_pure h
theorem pick_rev (xs : Array Value) : ((List.range xs.size).filterMap fun (m : Nat) => xs[(((xs.size : Int) - 1) + (m : Int) * (-1)).toNat]?).toArray = xs.toList.reverse.toArray := by
  have e : (List.range xs.size).filterMap (fun (m : Nat) => xs[(((xs.size : Int) - 1) + (m : Int) * (-1)).toNat]?) = xs.toList.reverse := by
    apply List.ext_getElem?
    intro i
    have gen : ∀ l : List Nat, (∀ m ∈ l, m < xs.size) → l.filterMap (fun (m : Nat) => xs[(((xs.size : Int) - 1) + (m : Int) * (-1)).toNat]?) = l.map (fun m => xs[xs.size - 1 - m]?.getD .none) := by
      intro l
      induction l with
      | nil => intro _; rfl
      | cons m l ih =>
        intro hl
        have hm := hl m List.mem_cons_self
        have e2 : (((xs.size : Int) - 1) + (m : Int) * (-1)).toNat = xs.size - 1 - m := by omega
        have e3 : xs[xs.size - 1 - m]? = some (xs[xs.size - 1 - m]'(by omega)) := Array.getElem?_eq_getElem (by omega)
        rw [List.map_cons, ← ih fun k hk => hl k (List.mem_cons_of_mem _ hk)]
        simp only [List.filterMap_cons, e2, e3, Option.getD_some]
    have e1 := gen (List.range xs.size) fun m hm => List.mem_range.mp hm
    rw [e1]
    by_cases hi : i < xs.size
    · rw [List.getElem?_map, List.getElem?_range hi, List.getElem?_reverse (by simpa using hi)]
      simp only [Option.map_some, Array.length_toList, Array.getElem?_toList]
      rw [Array.getElem?_eq_getElem (by omega)]
      rfl
    · rw [List.getElem?_eq_none (by simpa using hi), List.getElem?_eq_none (by simpa using hi)]
  rw [e]
theorem getItem_tuple_rev {t sl : Addr} {items : Array Value} {vk : Value} {Q : Value → Shared → Prop} (ht : IsTup s.heap t items) (hs : s.heap.IsSliceOf sl .none .none vk) (pk : IsPart vk (some (-1)))
    (h : Q (.ref s.heap.objs.size) { s with heap := s.heap.push { cls := .type "tuple", data := .seq items.toList.reverse.toArray } })
    (hsz : items.size ≤ sizeLine) : wpAny (model prog w) A (getItem (.ref t) (.ref sl)) Q E s := by
  have htake : sizeOk (.seq items.toList.reverse.toArray) := by
    show items.toList.reverse.toArray.size ≤ sizeLine
    rw [List.size_toArray, List.length_reverse, Array.length_toList]
    exact hsz
  obtain ⟨os, hos, hcs, hds⟩ := id hs
  have hTs : s.TypeIs (.ref sl) "slice" := ⟨os, hos, hcs⟩
  unfold getItem
  try with_reducible refine wpAny_holding ?_
  first | refine wpAny_bind (wpAny_pure ?_) | skip
  refine wpAny_bind (wpAny_sequenceKey ht.typeIs (by decide) ?_)
  refine wpAny_bind (wpAny_callSpecial?_slot (name := Str.ofString "__getitem__") ht.typeIs PyProof.Rows.slot_tuple_getitem
    (wpAny_call_entry PyProof.Rows.slot_tuple_getitem ht.typeIs entry_tuple_getitem ?_ (args_tuple_getitem _ _)))
  show wpAny _ _ (Builtin.Tuple.tupleItemsOf (.ref t) >>= _) _ _ s
  refine wpAny_bind (tupleItemsOf_ ht ?_)
  refine wpAny_bind (wpAny_typeOf hTs ?_)
  rw [if_pos (by decide)]
  refine wpAny_bind (sliceApplied_rev hs pk ?_)
  have hno : ¬ (((((items.size : Int) - 1)) == 0 && (-1 : Int) == 1 && items.size == items.size) = true) := by
    intro q
    rw [Bool.and_eq_true, Bool.and_eq_true] at q
    exact absurd q.1.2 (by decide)
  show wpAny _ _ (if (((items.size : Int) - 1) == 0 && (-1 : Int) == 1 && items.size == items.size) = true then _ else _) _ _ s
  rw [if_neg hno, pick_rev]
  first
    | exact wpAny_bind (m := Builtin.Tuple.tupleExact _) (wpAny_newObj_type (wpAny_pure ⟨_, rfl, wpAny_pure h⟩) htake)
    | exact wpAny_bind (m := Builtin.Tuple.tupleExact _) (wpAny_newObj_type (wpAny_bind (wpAny_pure (wpAny_pure ⟨_, rfl, wpAny_pure h⟩))) htake)
    | exact wpAny_bind (wpAny_bind (m := Builtin.Tuple.tupleExact _) (wpAny_newObj_type (wpAny_pure (wpAny_pure ⟨_, rfl, wpAny_pure h⟩)) htake))
    | exact wpAny_bind (wpAny_bind (m := Builtin.Tuple.tupleExact _) (wpAny_newObj_type (wpAny_pure ⟨_, rfl, wpAny_pure h⟩) htake))
end
end HT
namespace Bw
open PySem PySem.Spec PyProof.Rows L2
/-! ### t[::-1] -/
def tRevT (K : PySem.W.Frag) (te : TE) : TE := fun σ H Q => te σ H fun x H1 => ∃ a xs, x = .ref a ∧ SqT K H1 a xs ∧ ∀ p, H1 p = none → Q (.ref p) (upd H1 p (.tup xs.reverse))
theorem pe_revT {X : Cx} {e : Expr} {te : TE} {k : Nat} {p1 p2 p3 pos : Pos} (he : PE X e te) : PE X (.Subscript e (.Slice none none (some (.UnaryOp .USub (.Constant (.int 1) k p1) p2)) p3) pos) (tRevT X.K te) := by
  refine ⟨fun pins s σ H Q I h => ?_⟩
  refine Subscript_ (thn (he.run pins s σ H _ I h) fun v s1 ⟨x, H1, I1, r1, q1⟩ => ?_)
  obtain ⟨a, xs, ex, hx, q⟩ := q1
  subst ex
  cases r1
  have hst : PO X (some (.UnaryOp .USub (.Constant (.int 1) k p1) p2)) (tPart (tUn (rU fun i => .int (-i)) (tC (.int 1)))) := po_some (pe_un un_neg pe_int)
  refine wpAny_Slice (thn (po_none.run pins s1 σ H1 (fun o H2 => o = none ∧ H2 = H1) I1 ⟨rfl, rfl⟩) fun vl s2 ⟨l, H2, I2, pl, el, e2⟩ => ?_)
  subst el e2
  refine thn (po_none.run pins s2 σ H2 (fun o H3 => o = none ∧ H3 = H2) I2 ⟨rfl, rfl⟩) fun vu s3 ⟨u, H3, I3, pu, eu, e3⟩ => ?_
  subst eu e3
  refine thn (hst.run pins s3 σ H3 (fun o H4 => o = some (-1) ∧ H4 = H3) I3 ⟨1, rfl, -1, rfl, rfl, rfl⟩) fun vs s4 ⟨o, H4, I4, ps, eo, e4⟩ => ?_
  subst eo e4
  cases pl
  cases pu
  have I5 : Inv X pins σ H4 { s4 with heap := s4.heap.push { cls := .type "slice", data := .fields #[.none, .none, vs] } } := I4.kept (t' := s4.toks) fun b ob q => Heap.get?_push_of_some _ q
  obtain ⟨its, r, ht, hz⟩ := I5.tuple hx
  have hlen := r.length
  show wpAny (model X.prog X.w) X.A (subscriptTail e (.Slice none none (some (.UnaryOp .USub (.Constant (.int 1) k p1) p2)) p3) (.ref a) (.ref s4.heap.objs.size)) (EP X pins σ Q) X.xe { s4 with heap := s4.heap.push { cls := .type "slice", data := .fields #[.none, .none, vs] } }
  refine tail_any (ops := [.ref a, .ref s4.heap.objs.size]) ht.typeIs (PyProof.Rows.slot_tuple_getitem.lookup) ?_ (by with_unfolding_all rfl)
  refine HT.getItem_tuple_rev ht (Heap.IsSliceOf.new _ .none .none vs) ps ?_ (by rw [List.size_toArray]; omega)
  refine ⟨.ref _, _, I5.laid (t' := s4.toks) (o := .tup xs.reverse) (fun b ob q => Heap.get?_push_of_some _ q) (Nat.le_refl _) ?_, rfl, q _ (I5.hok.fresh (Nat.le_refl _))⟩
  exact ⟨by rw [List.length_reverse]; exact hz, _, r.reverse, IsTup.new _ _⟩
/-! ### enumerate of a tuple -/
theorem turn_enumT {P : Program} {w : World} {K : PySem.W.Frag} {elts : List Expr} {kk : Nat} {tpos : Pos} (a e it : Addr) (hai : a ≠ it) (hea : e ≠ a) :
    Turn P w K (.Tuple elts kk tpos) (IteT K a) [e, it] e (fun i h => (∃ old, IsEnum h e it ((i : Nat) : Int) old) ∧ h.IsTupleIter it a i ∧ e ≠ it) where
  mem := by simp
  obj := fun i h st b hb => by
    obtain ⟨⟨old, he⟩, ⟨o, ho, hc, hd⟩, _⟩ := st
    have e' : b = e ∨ b = it := by simpa using hb
    rcases e' with z | z
    · rw [z]; exact ⟨_, he, fun v q => nomatch q⟩
    · rw [z]; exact ⟨o, ho, fun v q => by rw [hd] at q; cases q⟩
  keep := fun i h h' st k => let ⟨⟨old, he⟩, hi, hne⟩ := st; ⟨⟨old, k e (by simp) _ he⟩, hi.at fun o q => k it (by simp) o q, hne⟩
  item := by
    intro X hP hw hK hc i pins s σ H E I hf st hg
    subst hP hw hK
    obtain ⟨⟨old, he⟩, hit, hne⟩ := st
    obtain ⟨xs, x, hq, hx⟩ := hg
    obtain ⟨its, rv, p, hz⟩ := I.tuple hq
    obtain ⟨u, hu, ru⟩ := rv.get hx
    have hel : e < s.heap.objs.size := Heap.lt_size he
    have hil : it < s.heap.objs.size := by obtain ⟨_, q, _⟩ := hit; exact Heap.lt_size q
    have hD := Draws.tuple (prog := X.prog) (w := X.w) (A := X.A.in1) (show X.A.in1.handled = none from I.ok.hd hc) it a hai its.toArray
    have hlt : i < its.toArray.size := by
      have := (List.getElem?_eq_some_iff.mp hu).1
      simpa using this
    refine wpAny_pyNext_enum_itemD hD he ⟨hit, p⟩ hlt hne (by simp [hne, hea]) fun x' h' tk hx' ho hst' hT hsz hk => ?_
    have ex' : x' = u := by
      have := hx'.symm.trans (show its.toArray[i]? = some u by simpa using hu)
      exact Option.some.inj this
    subst ex'
    refine ⟨_, rfl, wpAny_letOwnedTupleGo_enum (s := { s with heap := h', toks := tk + 1 }) ho fun h'' he' sb => ?_⟩
    have hT2 : h''.get? s.heap.objs.size = some { cls := .type "tuple", data := .seq #[.int i tk, x'] } := (sb.2 _ (Nat.ne_of_gt hel)).trans hT
    have new : ObjOk X.prog X.w (upd H s.heap.objs.size (.tup [.int (i : Nat), x])) h'' s.heap.objs.size (.tup [.int (i : Nat), x]) :=
      ⟨by show 2 ≤ sizeLine; decide, [.int i tk, x'], .cons ⟨_, rfl⟩ (.cons ru .nil), ⟨_, hT2, rfl, _, rfl⟩⟩
    have I1 : Inv X pins σ (upd H s.heap.objs.size (.tup [.int (i : Nat), x])) { s with heap := h'', toks := tk + 1 } :=
      I.turnedNew (ch := [e, it]) (fun b ob hb q => (sb.2 b (fun z => hb (by simp [z]))).trans (hk b ob (fun z => hb (by simp [z])) (fun z => hb (by simp [z])) q)) hf (Nat.le_refl _) new
    refine ⟨.ref s.heap.objs.size, _, I1, rfl, ⟨_, x, rfl, I.hok.fresh (Nat.le_refl _), rfl, fun ys hy => by rw [I.tuple_inj hy hq]; exact hx⟩, ⟨⟨x', ?_⟩, hst'.1.at fun o q => (sb.2 it (Ne.symm hne)).trans q, hne⟩, fun b hb => ?_⟩
    · have e1 : ((i + 1 : Nat) : Int) = (i : Int) + 1 := by omega
      rw [e1]; exact he'
    · have hb' : b < s.heap.objs.size := by
        have e' : b = e ∨ b = it := by simpa using hb
        rcases e' with z | z
        · rw [z]; exact hel
        · rw [z]; exact hil
      rw [upd_ne (Nat.ne_of_lt hb')]
      exact (hf b hb).1
  done := by
    intro X hP hw hK hc i pins s σ H E I hf st hg
    subst hP hw hK
    obtain ⟨⟨old, he⟩, hit, hne⟩ := st
    obtain ⟨xs, hq, hx⟩ := hg
    obtain ⟨its, rv, p, hz⟩ := I.tuple hq
    obtain ⟨f0, f1, f2, f3, f4, f5⟩ := hf it (by simp)
    have hl := rv.length
    have hD := Draws.tuple (prog := X.prog) (w := X.w) (A := X.A.in1) (show X.A.in1.handled = none from I.ok.hd hc) it a hai its.toArray
    have hi : i = its.toArray.size := by rw [List.size_toArray]; omega
    subst hi
    exact wpAny_pyNext_enum_endD hD he ⟨hit, p⟩ fun h' eb => ⟨rfl, I.turned (t' := s.toks) (fun b o hb q => eb b o hb q) f0 f1 f3 f4 f5⟩
  self := fun A i s Q E st h => let ⟨⟨_, he⟩, _⟩ := st; wpAny_pyIter_enum he h
def iEnumT (K : PySem.W.Frag) (ta : TA) : TI := fun σ H R => ta σ H fun vs H1 => ∃ a xs, vs = [.ref a] ∧ SqT K H1 a xs ∧ R (IteT K a) H1
theorem pi_enumT {X : Cx} {e : Expr} {ta : TA} {p pos tpos : Pos} {elts : List Expr} {kk : Nat} (hg : Gl X "enumerate") (hm : X.mg "enumerate" = none) (ha : PA X [e] ta) (hs : starEach [e] X.env = [(false, eval e X.env)] := by rfl) :
    PI X (.Tuple elts kk tpos) (.Call (.Name "enumerate" p) [e] [] pos) (iEnumT X.K ta) := by
  refine ⟨fun pins s σ H R I h => ?_⟩
  refine Call_ (ld_blt I hg hm boot_enumerate (PyProof.Rows.callWith_type1 (thn (ha.run pos pins s σ H _ I h) fun us s1 ⟨vs, H1, I1, r1, q1⟩ => ?_) hs rfl))
  obtain ⟨a, xs, ex, hq, q⟩ := q1
  subst ex
  cases r1 with
  | cons r rr =>
    cases rr
    cases r
    obtain ⟨its, rv, p', hz⟩ := I1.tuple hq
    have hla : a < s1.heap.objs.size := by obtain ⟨o, ho, _⟩ := p'; exact Heap.lt_size ho
    refine callType_new F.called_enumerate (by decide) (F.typeCall_enumerate_1 _) (F.newCall_enumerate_1 _) (fun obj => F.args_object_init_2 obj _) F.entry_enumerate_new
      (meets_enum_tup (begins_tuple a its.toArray)) ⟨p', ?_⟩
    have hz1 : (s1.heap.push { cls := .type "tuple_iterator", data := .fields #[.ref a, .int 0 0] }).objs.size = s1.heap.objs.size + 1 := Heap.size_push ..
    have he : IsEnum ((s1.heap.push { cls := .type "tuple_iterator", data := .fields #[.ref a, .int 0 0] }).push
        { cls := .type "enumerate", data := .fields #[.none, .bool false, .ref s1.heap.objs.size, rawInt 0, .none, .none] }) (s1.heap.objs.size + 1) s1.heap.objs.size 0 .none := by
      have := Heap.get?_push_size (s1.heap.push { cls := .type "tuple_iterator", data := .fields #[.ref a, .int 0 0] })
        (o := { cls := .type "enumerate", data := .fields #[.none, .bool false, .ref s1.heap.objs.size, rawInt 0, .none, .none] }) rfl
      rw [hz1] at this; exact this
    have hit : ((s1.heap.push { cls := .type "tuple_iterator", data := .fields #[.ref a, .int 0 0] }).push
        { cls := .type "enumerate", data := .fields #[.none, .bool false, .ref s1.heap.objs.size, rawInt 0, .none, .none] }).IsTupleIter s1.heap.objs.size a 0 := ⟨_, Heap.get?_push_of_some _ (Heap.get?_push_size _ rfl), rfl, rfl⟩
    show _ ∧ _
    rw [hz1]
    refine ⟨⟨_, he, rfl⟩, wpAny_pyIter_enum he ?_⟩
    have I2 : Inv X pins σ H1 { s1 with heap := (s1.heap.push { cls := .type "tuple_iterator", data := .fields #[.ref a, .int 0 0] }).push { cls := .type "enumerate", data := .fields #[.none, .bool false, .ref s1.heap.objs.size, rawInt 0, .none, .none] } } :=
      I1.kept (t' := s1.toks) fun b o x => Heap.get?_push_of_some _ (Heap.get?_push_of_some _ x)
    refine ⟨s1.heap.objs.size + 1, [s1.heap.objs.size + 1, s1.heap.objs.size], _, _, H1, rfl, I2, turn_enumT a (s1.heap.objs.size + 1) s1.heap.objs.size (Nat.ne_of_lt hla) (Nat.ne_of_gt (Nat.lt_succ_of_lt hla)), ⟨⟨.none, he⟩, hit, Nat.succ_ne_self _⟩, fun b hb => ?_, q⟩
    have e' : b = s1.heap.objs.size + 1 ∨ b = s1.heap.objs.size := by simpa using hb
    have hle : s1.heap.objs.size ≤ b := by
      rcases e' with z | z
      · rw [z]; exact Nat.le_add_right _ _
      · rw [z]; exact Nat.le_refl _
    exact I1.fpOk hle (I1.hok.fresh hle)
theorem walk_enumT {K : PySem.W.Frag} {a : Addr} {xs : List V} : Walk (IteT K a) xs.length (fun H => SqT K H a xs) (YPair (fun i => some (.int (i : Nat))) (fun i => xs[i]?)) := by
  refine ⟨fun i _ hi q => ⟨xs, xs[i], q, by simp [hi]⟩, fun _ q => ⟨xs, q, rfl⟩, fun i H v H' _ q y => ?_⟩
  obtain ⟨T, x, h1, h2, h3, h4⟩ := y
  exact ⟨T, .int (i : Nat), x, h1, h2, h3, rfl, h4 xs q⟩
/-! ### repr of data -/
theorem call_reprD {X : Cx} (hg : X.A.guards = some []) (hu : X.A.units + 80 < cLine) : CallR X (.builtin "repr") (fun xs H Q => ∃ a d, xs = [.ref a] ∧ Dp X.K H (.ref a) d ∧ d.showable = true ∧ d.hasDict = false ∧ d.depth < 64 ∧ d.shown.length ≤ sizeLine ∧ Q (.str d.shown) H) := by
  intro pins s σ H xs us Q I r h
  obtain ⟨a, d, rfl, hd, hs, hn, hp, hz, q⟩ := h
  obtain ⟨u, rfl, ru⟩ := vals1 r
  obtain ⟨as, hr⟩ := Dp.reads I d _ _ hd ru
  cases ru
  exact repr_of_reads' hr hs (PyData.noDict_hsm hn) hg (by omega) (fun _ _ e => e) (fun h' u tk hk => ⟨.str _, H, I.kept (t' := tk) hk, ⟨_, rfl⟩, q⟩) hz
end Bw

namespace Bw
open PySem PySem.Spec PyProof.Rows L2
/-! ### the drawn source and what a def leaves -/
def Src (H : Hp) (p : Addr) : Prop := ∃ a b : Int, H p = some (.lst [.int a, .int b]) ∧ 0 ≤ a ∧ 0 ≤ b ∧ b < 2147483647
/-- all that was tracked but at p is as it was -/
def Exb (p : Addr) (H H' : Hp) : Prop := ∀ b o, b ≠ p → H b = some o → H' b = some o
section
variable {p q a : Addr} {H H1 H2 : Hp} {K : PySem.W.Frag} {xs : List V} {o : HO}
theorem Exb.refl : Exb p H H := fun _ _ _ h => h
theorem Exb.trans (e : Exb p H H1) (f : Exb p H1 H2) : Exb p H H2 := fun b o n h => f b o n (e b o n h)
theorem Exb.of (e : Same H H1) : Exb p H H1 := fun b o _ h => e b o h
theorem Exb.new (h : H q = none) : Exb p H (upd H q o) := fun b u _ e => by
  rw [upd_ne (ne_of_none e h)]
  exact e
theorem _root_.L2.Same.new (h : H q = none) : Same H (upd H q o) := fun b u e => by
  rw [upd_ne (ne_of_none e h)]
  exact e
theorem Exb.at : Exb p H (upd H p o) := fun b u n e => by
  rw [upd_ne n]
  exact e
theorem Exb.put (e : Exb p H H1) : Exb p H (upd H1 p o) := fun b u n h => by
  rw [upd_ne n]
  exact e b u n h
/-- an object that H did not know may change -/
theorem _root_.L2.Same.mut (e : Same H H1) (h : H q = none) : Same H (upd H1 q o) := fun b u hb => by
  rw [upd_ne (ne_of_none hb h)]
  exact e b u hb
theorem Exb.mut (e : Exb p H H1) (h : H q = none) : Exb p H (upd H1 q o) := fun b u n hb => by
  rw [upd_ne (ne_of_none hb h)]
  exact e b u n hb
theorem _root_.L2.Same.tup (e : Same H H1) (h : SqT K H a xs) : SqT K H1 a xs := by
  rcases h with (h | ⟨o, h⟩) | h
  · exact .inl (.inl (e _ _ h))
  · exact .inl (.inr ⟨o, e _ _ h⟩)
  · exact .inr h
theorem Exb.tup (e : Exb p H H1) (s : Src H p) (h : SqT K H a xs) : SqT K H1 a xs := by
  obtain ⟨x, y, hp, _⟩ := s
  rcases h with (h | ⟨o, h⟩) | h
  · exact .inl (.inl (e _ _ (fun z => by rw [z, hp] at h; cases h) h))
  · exact .inl (.inr ⟨o, e _ _ (fun z => by rw [z, hp] at h; cases h) h⟩)
  · exact .inr h
theorem Exb.lst (e : Exb p H H1) (n : q ≠ p) (h : H q = some (.lst xs)) : H1 q = some (.lst xs) := e _ _ n h
theorem _root_.L2.Same.src (e : Same H H1) (s : Src H p) : Src H1 p := by
  obtain ⟨x, y, hp, h⟩ := s
  exact ⟨x, y, e _ _ hp, h⟩
theorem Src.ne (s : Src H p) (h : H q = none) : q ≠ p := fun z => by
  obtain ⟨x, y, hp, _⟩ := s
  rw [z, hp] at h
  cases h
theorem Src.put (s : Src H p) (n : q ≠ p) : Src (upd H q o) p := by
  obtain ⟨x, y, hp, h⟩ := s
  exact ⟨x, y, by rw [upd_ne n.symm]; exact hp, h⟩
theorem Exb.fresh (e : Exb p H H1) (n : q ≠ p) (h : H1 q = none) : H q = none := by
  cases z : H q with
  | none => rfl
  | some o => rw [e q o n z] at h; cases h
end
theorem atI0 {x : V} {r : List V} : atI (x :: r) 0 = some x := atI_nat (j := 0) rfl
theorem atI1 {x y : V} {r : List V} : atI (x :: y :: r) 1 = some y := atI_nat (j := 1) rfl
theorem ixN_nat {n : Nat} {i : Int} {j : Nat} (e : i = (j : Int)) (h : j < n) : ixN n i = some j := by
  subst e
  unfold ixN
  rw [if_pos (by omega), if_pos (by omega)]; simp
theorem ixN_neg {n : Nat} {i : Int} {j : Nat} (e : i = (j : Int) - (n : Int)) (h : j < n) : ixN n i = some j := by
  subst e
  unfold ixN
  rw [if_neg (by omega), if_pos (by omega)]
  congr 1
  omega
theorem atN {α : Type} {xs : List α} {i : Int} {j : Nat} {v : α} (h : xs[j]? = some v) (e : i = (j : Int)) : atI xs i = some v := by
  subst e
  exact atI_nat h
theorem atNeg {α : Type} {xs : List α} {i : Int} {j : Nat} {v : α} (h : xs[j]? = some v) (e : i = (j : Int) - (xs.length : Int)) : atI xs i = some v := by
  unfold atI
  rw [ixN_neg e (List.getElem?_eq_some_iff.mp h).1]
  exact h
theorem num_map (i : Nat) (ns : List Int) (x : V) (h : (ns.map V.int)[i]? = some x) : ∃ (hi : i < ns.length), x = .int ns[i] := by
  rw [List.getElem?_map] at h
  cases e : ns[i]? with
  | none => rw [e] at h; cases h
  | some z =>
    obtain ⟨h1, h2⟩ := List.getElem?_eq_some_iff.mp e
    rw [e] at h
    exact ⟨h1, by rw [h2]; exact (Option.some.inj h).symm⟩
theorem itT {c : Bool} {A B : Prop} (hc : c = true) (h : A) : if c = true then A else B := by
  rw [if_pos hc]
  exact h
theorem itF {c : Bool} {A B : Prop} (hc : c = false) (h : B) : if c = true then A else B := by
  rw [hc, if_neg Bool.false_ne_true]
  exact h
theorem pe_gint {X : Cx} {x : Str} {pos : Pos} {i : Int} (hg : Gl X x) (h : ∃ t, X.mg x = some (.int i t)) (hd : (x == ("__debug__" : Str)) = false := by decide) : PE X (.Name x pos) (tC (.int i)) := by
  obtain ⟨t, y⟩ := h
  exact pe_glob hg y ⟨t, rfl⟩ hd
theorem pe_ty {X : Cx} {x : Str} {pos : Pos} {T : String} (hg : Gl X x) (hm : X.mg x = none) (hv : bootBuiltins x = some (.type T)) (hn : x ≠ "__name__" := by decide) (hd : (x == ("__debug__" : Str)) = false := by decide) : PE X (.Name x pos) (tC (.ty T)) :=
  pe_bltn hg hm hv rfl hn hd
theorem small {n : Nat} (h : n ≤ 1000000) : n ≤ sizeLine := Nat.le_trans h (by decide)
theorem smallLt {n : Nat} (h : n < 1000000) : n < sizeLine := Nat.lt_of_lt_of_le h (by decide)

/-! ### the layer's rules with the written part told -/
section
variable {X : Cx}
abbrev tNoP : TO := fun _ H Q => Q none H
theorem poN : PO X none tNoP := po_none
theorem ixL (K : PySem.W.Frag) (h : X.K = K := by rfl) : IxR X (rIxL K) := h ▸ ix_list
theorem ixT (K : PySem.W.Frag) (h : X.K = K := by rfl) : IxR X (rIxT K) := h ▸ ix_tup
theorem slT (K : PySem.W.Frag) (h : X.K = K := by rfl) : SlR X (rSlA K) := h ▸ sl_tupA
theorem slL (K : PySem.W.Frag) (h : X.K = K := by rfl) : SlR X (rSlL K) := h ▸ sl_list
theorem lenS (K : PySem.W.Frag) (h : X.K = K := by rfl) : CallR X (.builtin "len") (Evl.rLenS K) := by subst h; exact call_len_seq
def rTupOf (K : PySem.W.Frag) : List V → Hp → VK → Prop := fun xs H Q => ∃ p ys, xs = [.ref p] ∧ ((SqL K H p ys ∧ ∀ l, H l = none → Q (.ref l) (upd H l (.tup ys))) ∨ (SqT K H p ys ∧ Q (.ref p) H))
theorem tupOf (K : PySem.W.Frag) (h : X.K = K := by rfl) : CallR X (.type "tuple") (rTupOf K) := by subst h; exact call_tuple_of
def rListOf (K : PySem.W.Frag) : List V → Hp → VK → Prop := fun xs H Q => ∃ p ys, xs = [.ref p] ∧ (SqL K H p ys ∨ SqT K H p ys) ∧ ∀ l, H l = none → Q (.ref l) (upd H l (.lst ys))
theorem listOf (K : PySem.W.Frag) (h : X.K = K := by rfl) : CallR X (.type "list") (rListOf K) := by subst h; exact call_list_of
theorem catA (K : PySem.W.Frag) (h : X.K = K := by rfl) : OpR X (binaryOp .Add) (rCatA K) := h ▸ op_catA
theorem eqD (K : PySem.W.Frag) (hu : X.A.units + 64 < cLine) (h : X.K = K := by rfl) : OpR X (compareOp .Eq) (rEqD K) := h ▸ op_eqD hu
theorem neD (K : PySem.W.Frag) (hu : X.A.units + 64 < cLine) (h : X.K = K := by rfl) : OpR X (compareOp .NotEq) (rNeD K) := h ▸ op_neD hu
theorem inS (K : PySem.W.Frag) (h : X.K = K := by rfl) : OpR X (compareOp .In) (rIn K false) := h ▸ op_in_seq
theorem ninS (K : PySem.W.Frag) (h : X.K = K := by rfl) : OpR X (compareOp .NotIn) (rIn K true) := h ▸ op_notIn_seq
theorem isI (K : PySem.W.Frag) (h : X.K = K := by rfl) : CallR X (.builtin "isinstance") (rIsi K) := h ▸ call_isi
theorem maxL (K : PySem.W.Frag) (hc : X.calm = true) (h : X.K = K := by rfl) : CallR X (.builtin "max") (rMax K) := h ▸ cr_max hc
theorem minL (K : PySem.W.Frag) (hc : X.calm = true) (h : X.K = K := by rfl) : CallR X (.builtin "min") (rMin K) := h ▸ cr_min hc
theorem sortL (K : PySem.W.Frag) (h : X.K = K := by rfl) : CallR X (.builtin "sorted") (rSorted K) := h ▸ cr_sorted
theorem piL (K : PySem.W.Frag) {tg l : Expr} {tl : TE} (hl : PE X l tl) (h : X.K = K := by rfl) : PI X tg l (iList K tl) := h ▸ pi_list hl
theorem piT (K : PySem.W.Frag) {tg l : Expr} {tl : TE} (hl : PE X l tl) (h : X.K = K := by rfl) : PI X tg l (iTup K tl) := h ▸ pi_tup hl
end
/-! ### data in the heap -/
theorem dpAllI {K : PySem.W.Frag} {H : Hp} : ∀ ns : List Int, DpAll K H (ns.map V.int) (ns.map PyData.int)
  | [] => .nil
  | n :: ns => .cons (.int n) (dpAllI ns)
theorem dpT {K : PySem.W.Frag} {H : Hp} {a : Addr} {ns : List Int} (h : SqT K H a (ns.map V.int)) : Dp K H (.ref a) (.tuple (ns.map PyData.int)) := .tup h (dpAllI ns)
theorem dpL {K : PySem.W.Frag} {H : Hp} {a : Addr} {ns : List Int} (h : SqL K H a (ns.map V.int)) : Dp K H (.ref a) (.list (ns.map PyData.int)) := .lst h (dpAllI ns)

theorem shAll : ∀ ns : List Int, PyData.canLayAll0 (ns.map PyData.int) = true
  | [] => rfl
  | n :: ns => by rw [List.map_cons, PyData.canLayAll0, shAll ns]; rfl
theorem dpAll0 : ∀ ns : List Int, PyData.depthAll (ns.map PyData.int) = 0
  | [] => rfl
  | n :: ns => by rw [List.map_cons, PyData.depthAll, dpAll0 ns]; rfl
theorem shT (ns : List Int) : SeqAt.shaped (.tuple (ns.map PyData.int)) = true := by
  unfold SeqAt.shaped
  rw [PyData.canLay0, shAll, PyData.depth, dpAll0]
  rfl
theorem shL (ns : List Int) : SeqAt.shaped (.list (ns.map PyData.int)) = true := by
  unfold SeqAt.shaped
  rw [PyData.canLay0, shAll, PyData.depth, dpAll0]
  rfl
theorem eqvI : ∀ ns ms : List Int, PyData.eqvAll (ns.map PyData.int) (ms.map PyData.int) = decide (ns = ms)
  | [], [] => by simp only [List.map_nil, PyData.eqvAll, decide_true]
  | [], _ :: _ => by simp [PyData.eqvAll]
  | _ :: _, [] => by simp [PyData.eqvAll]
  | x :: xs, y :: ys => by
    rw [List.map_cons, List.map_cons, PyData.eqvAll, eqvI xs ys, PyData.eqv]
    have e : (x == y) = decide (x = y) := by rw [Bool.eq_iff_iff, beq_iff_eq, decide_eq_true_eq]
    rw [e, ← Bool.decide_and]
    exact decide_eq_decide.mpr (by rw [List.cons.injEq])
section
variable {K : PySem.W.Frag} {H : Hp} {a b : Addr} {ns ms : List Int} {Q : VK}
theorem eqT (ha : SqT K H a (ns.map V.int)) (hb : SqT K H b (ms.map V.int)) (q : Q (.bl (decide (ns = ms))) H) : rEqD K (.ref a) (.ref b) H Q :=
  ⟨_, _, dpT ha, dpT hb, shT _, shT _, by rw [PyData.eqv, eqvI]; exact q⟩
theorem neT (ha : SqT K H a (ns.map V.int)) (hb : SqT K H b (ms.map V.int)) (q : Q (.bl (!decide (ns = ms))) H) : rNeD K (.ref a) (.ref b) H Q :=
  ⟨_, _, dpT ha, dpT hb, shT _, shT _, by rw [PyData.eqv, eqvI]; exact q⟩
theorem eqL (ha : SqL K H a (ns.map V.int)) (hb : SqL K H b (ms.map V.int)) (q : Q (.bl (decide (ns = ms))) H) : rEqD K (.ref a) (.ref b) H Q :=
  ⟨_, _, dpL ha, dpL hb, shL _, shL _, by rw [PyData.eqv, eqvI]; exact q⟩
theorem neL (ha : SqL K H a (ns.map V.int)) (hb : SqL K H b (ms.map V.int)) (q : Q (.bl (!decide (ns = ms))) H) : rNeD K (.ref a) (.ref b) H Q :=
  ⟨_, _, dpL ha, dpL hb, shL _, shL _, by rw [PyData.eqv, eqvI]; exact q⟩
theorem tyT {xs : List V} (h : SqT K H a xs) : TyX K H (.ref a) (.type "tuple") := by
  rcases h with (h | ⟨o, h⟩) | ⟨o, its, n, h, c, _⟩
  · exact .base (.tup h)
  · exact .fTuple h
  · exact .kTuple h c
/-- isinstance(t, tuple) of a tuple -/
theorem isTup {xs : List V} (h : SqT K H a xs) (q : Q (.bl true) H) : rIsi K [.ref a, .ty "tuple"] H Q := ⟨.ref a, .ty "tuple", .type "tuple", .type "tuple", true, rfl, .ty _, tyT h, kit_ty (by decide +kernel), q⟩
end
theorem call_reprB {X : Cx} : CallR X (.builtin "repr") (fun xs H Q => ∃ b : Bool, xs = [.bl b] ∧ Q (.str (if b then "True" else "False")) H) := by
  intro pins s σ H xs us Q I r h
  obtain ⟨b, rfl, q⟩ := h
  obtain ⟨u, rfl, ru⟩ := vals1 r
  cases (show u = Value.bool b from ru)
  exact PySem.P.repr_of_bool ⟨.str _, H, I.tok _, ⟨_, rfl⟩, q⟩

/-! ### a comprehension whose test and element only read -/
open Evl in
theorem lc_pure {J : It} {n : Nat} {G : Hp → Prop} {Y : Nat → Hp → V → Hp → Prop} (u : Nat → V) (w : Walk J n G Y) (hY : ∀ i H x H', Y i H x H' → i < n → H' = H ∧ x = u i) {j : Nat} {vs : List Nat} {σ : L2.St} {H1 : Hp} {D : Addr} {tt : TT} {te : TE} {Qd : Hp → Prop} (f : Nat → Bool) (v : Nat → V)
    (hD : H1 D = none) (hn : n < 50000) (hG : ∀ H', Same H1 H' → G H') (hw : ∀ x, wipe ((wipe σ vs).set j (some x)) vs = wipe σ vs)
    (ht : ∀ i, i < n → EvT tt ((wipe σ vs).set j (some (u i))) H1 (f i)) (he : ∀ i, i < n → f i = true → Ev te ((wipe σ vs).set j (some (u i))) H1 (v i)) (hd : ∀ H', Same H1 H' → H' D = some (.lst (given n f v)) → Qd H') :
    ∃ W : Nat → Nat → Hp → Prop, (∃ m, W 0 m (upd H1 D (.lst []))) ∧ ∀ i m H, W i m H →
      (J.stop i H ∧ Qd H) ∨ (J.go i H ∧ ∃ Nx : Hp → Prop, (∀ H', Nx H' → ∃ m', m' < m ∧ W (i + 1) m' H') ∧ ∀ x H', J.yld i H x H' → gName j x (wipe σ vs) H' fun σ2 H2 => wipe σ2 vs = wipe σ vs ∧ tt σ2 H2 fun b H3 =>
        if b = true then te σ2 H3 fun y H4 => ∃ acc, H4 D = some (.lst acc) ∧ acc.length < sizeLine ∧ Nx (upd H4 D (.lst (acc ++ [y]))) else Nx H3) := by
  refine lc_it w (fun i H' => Cw H1 f v D i H') ⟨hD, Ex.new hD, upd_same⟩ (fun i H' _ p => hG H' p.2.1) (fun i x H H' hi p y => ?_) (fun H' p => hd H' p.2.1 p.2.2)
  obtain ⟨rfl, rfl⟩ := hY i H x H' y hi
  exact ⟨hw _, cw_turn p (by omega) (ht i hi) (he i hi)⟩
theorem b01 (c : Prop) [Decidable c] : (-(2 ^ 64) : Int) < (if c then 1 else 0) ∧ (if c then (1 : Int) else 0) < 2 ^ 64 := by
  split <;> decide
theorem b0 (c : Prop) [Decidable c] : (0 : Int) ≤ (if c then 1 else 0) := by
  split <;> decide
theorem mixB {x y j : Int} (h : 0 ≤ y ∧ y ≤ 7919000 * 1000) (h0 : 0 ≤ j) (h1 : j < 1000) : -(2 ^ 64) < x % 2147483629 + y + 31 * j + 17 ∧ x % 2147483629 + y + 31 * j + 17 < 2 ^ 64 := by
  omega
/-! ### slices and sums of tuples, whichever object they are -/
section
variable {K : PySem.W.Frag} {H : Hp} {a b : Addr} {xs ys : List V} {lo hi : Option Int} {Q : VK}
theorem cutV_whole (h : HT.sIx xs.length 0 lo = 0 ∧ HT.sIx xs.length xs.length hi = xs.length) : cutV xs lo hi = xs := by
  unfold cutV
  rw [h.1, h.2]
  exact List.take_length
theorem slA (h : SqT K H a xs) (q : ∀ p H', Same H H' → SqT K H' p (cutV xs lo hi) → Q (.ref p) H') : rSlA K (.ref a) lo hi H Q :=
  ⟨a, xs, rfl, h, fun hw => q a H (Same.refl H) (by rw [cutV_whole hw]; exact h), fun _ p np => q p _ (Same.new np) (SqT.of upd_same)⟩
theorem ctA (ha : SqT K H a xs) (hb : SqT K H b ys) (hz : xs.length + ys.length ≤ 1000000) (q : ∀ p H', Same H H' → SqT K H' p (xs ++ ys) → Q (.ref p) H') : rCatA K (.ref a) (.ref b) H Q := by
  refine ⟨a, b, xs, ys, rfl, rfl, ha, hb, small hz, fun e => ?_, fun _ e => ?_, fun _ _ p np => q p _ (Same.new np) (SqT.of upd_same)⟩
  · subst e
    exact q b H (Same.refl H) hb
  · subst e
    exact q a H (Same.refl H) (by rw [List.append_nil]; exact ha)
theorem cutV_from (i : Nat) : cutV xs (some (i : Int)) none = xs.drop i := by
  unfold cutV
  rw [HT.sIx_nat, HT.sIx_none]
  by_cases h : i ≤ xs.length
  · rw [Nat.min_eq_left h]
    exact List.take_of_length_le (by rw [List.length_drop]; omega)
  · rw [Nat.min_eq_right (by omega), List.drop_eq_nil_of_le (by omega), List.drop_eq_nil_of_le (by omega)]
    exact List.take_nil
theorem cutV_to (i : Nat) : cutV xs none (some (i : Int)) = xs.take i := by
  unfold cutV
  rw [HT.sIx_nat, HT.sIx_none, List.drop_zero, Nat.sub_zero]
  by_cases h : i ≤ xs.length
  · rw [Nat.min_eq_left h]
  · rw [Nat.min_eq_right (by omega), List.take_length, List.take_of_length_le (by omega)]
end
theorem maxB (x : Int) (h : 0 ≤ x) : 1 ≤ (if (if 3 < x then 3 else x) > 1 then (if 3 < x then 3 else x) else 1) ∧ (if (if 3 < x then 3 else x) > 1 then (if 3 < x then 3 else x) else 1) ≤ 3 := by
  split <;> split <;> omega
/-- a new source is used and left behind -/
theorem Same.used {p : Addr} {H H1 H2 H3 : Hp} (a : Same H H1) (np : H1 p = none) (b : Same H1 H2) (c : Exb p H2 H3) : Same H H3 := fun x o h =>
  c x o (fun z => by rw [z, a.free np] at h; cases h) (b x o (a x o h))
theorem atLastI {ns : List Int} {c : Int} (h : ns.getLast? = some c) : atI (ns.map V.int) (-1) = some (.int c) := by
  rcases List.eq_nil_or_concat ns with rfl | ⟨m, x, rfl⟩
  · cases h
  · rw [List.concat_eq_append] at *
    rw [List.getLast?_concat] at h
    cases Option.some.inj h
    rw [List.map_append]
    exact atI_last _ _
theorem atHeadI {ns : List Int} {c : Int} (h : ns.head? = some c) : atI (ns.map V.int) 0 = some (.int c) := by
  cases ns with
  | nil => cases h
  | cons x r =>
    cases Option.some.inj h
    exact atI0
theorem cutV_last {xs : List V} (h : 0 < xs.length) : cutV xs (some (-1)) none = xs.drop (xs.length - 1) := by
  unfold cutV
  rw [HT.sIx_none]
  have e : HT.sIx xs.length 0 (some (-1)) = xs.length - 1 := by
    show (if (-1 : Int) < 0 then (-1 + (xs.length : Int)).toNat else min (-1 : Int).toNat xs.length) = xs.length - 1
    rw [if_pos (by decide)]
    omega
  rw [e]
  exact List.take_of_length_le (by rw [List.length_drop]; omega)
theorem cutV_inn {xs : List V} (h : 2 ≤ xs.length) : cutV xs (some 1) (some (-1)) = xs.tail.dropLast := by
  unfold cutV
  have e1 : HT.sIx xs.length 0 (some 1) = 1 := by
    rw [show (1 : Int) = ((1 : Nat) : Int) from rfl, HT.sIx_nat]
    omega
  have e2 : HT.sIx xs.length xs.length (some (-1)) = xs.length - 1 := by
    show (if (-1 : Int) < 0 then (-1 + (xs.length : Int)).toNat else min (-1 : Int).toNat xs.length) = xs.length - 1
    rw [if_pos (by decide)]
    omega
  rw [e1, e2, List.drop_one, List.dropLast_eq_take, List.length_tail]
/-- a tuple is not where a list stands -/
theorem tup_upd {K : PySem.W.Frag} {H : Hp} {a q : Addr} {xs ys : List V} {o : HO} (h : SqT K H a xs) (hq : H q = some (.lst ys)) : SqT K (upd H q o) a xs := by
  rcases h with (h | ⟨f, h⟩) | h
  · exact .inl (.inl (by rw [upd_ne (fun z => by rw [z, hq] at h; cases h)]; exact h))
  · exact .inl (.inr ⟨f, by rw [upd_ne (fun z => by rw [z, hq] at h; cases h)]; exact h⟩)
  · exact .inr h
end Bw

namespace K
open PySem PySem.Spec PyProof.Rows L2 Bw
/-! ### rows and their rests -/
def Row (ns : List Int) : Prop := 1 ≤ ns.length ∧ ns.length ≤ 200 ∧ ∀ c ∈ ns, 0 ≤ c ∧ c ≤ 7
def stp (l : List Int) (c : Int) : List Int := if l.length > 1 ∧ l[l.length - 2]? = some c then l.dropLast else l ++ [c]
def strk (ns : List Int) : List Int := ns.foldl stp []
/-- the open places -/
def isOpn (ns : List Int) (i : Nat) : Bool := decide (ns[i]? = ns[i + 2]?)
def opn (ns : List Int) : List Int := ((List.range (ns.length - 2)).filter (isOpn ns)).map fun (i : Nat) => 1 + (i : Int)
theorem given_opn (ns : List Int) : Evl.given (ns.length - 2) (isOpn ns) (fun i => V.int (1 + (i : Int))) = (opn ns).map V.int := by
  unfold Evl.given opn
  rw [List.map_map]
  rfl
theorem stp_len (l : List Int) (c : Int) : (stp l c).length ≤ l.length + 1 := by
  unfold stp
  split
  · rw [List.length_dropLast]; omega
  · rw [List.length_append]; exact Nat.le_refl _
theorem foldl_stp_len : ∀ (ns l : List Int), (ns.foldl stp l).length ≤ l.length + ns.length
  | [], l => Nat.le_refl _
  | c :: ns, l => by
    have h := foldl_stp_len ns (stp l c)
    have h2 := stp_len l c
    show (ns.foldl stp (stp l c)).length ≤ l.length + (ns.length + 1)
    omega
theorem strk_len (ns : List Int) : (strk ns).length ≤ ns.length := by
  have h := foldl_stp_len ns []
  simpa [strk] using h

/-! ### striking, in any order -/
theorem stp_pop {m : List Int} {c x : Int} : stp (m ++ [c, x]) c = m ++ [c] := by
  unfold stp
  have h1 : (m ++ [c, x]).length > 1 := by rw [List.length_append]; show 1 < m.length + 2; omega
  have h2 : (m ++ [c, x])[(m ++ [c, x]).length - 2]? = some c := by
    rw [List.length_append, show m.length + [c, x].length - 2 = m.length from Nat.add_sub_cancel .., List.getElem?_append_right (Nat.le_refl _), Nat.sub_self]
    rfl
  rw [if_pos ⟨h1, h2⟩, show m ++ [c, x] = (m ++ [c]) ++ [x] by rw [List.append_assoc]; rfl, List.dropLast_concat]
theorem stp_cases (l : List Int) (c : Int) : (∃ m x, l = m ++ [c, x] ∧ stp l c = m ++ [c]) ∨ (stp l c = l ++ [c] ∧ ∀ m x, l ≠ m ++ [c, x]) := by
  by_cases h : l.length > 1 ∧ l[l.length - 2]? = some c
  · refine .inl ?_
    obtain ⟨h1, h2⟩ := h
    have e0 : l ≠ [] := fun z => by rw [z] at h1; exact absurd h1 (by decide)
    have e1 : l.dropLast ≠ [] := fun z => by
      have := congrArg List.length z
      rw [List.length_dropLast] at this
      simp at this
      omega
    have p1 := List.dropLast_concat_getLast e0
    have p2 := List.dropLast_concat_getLast e1
    have e2 : l.dropLast.getLast e1 = c := by
      have q : l.dropLast.getLast? = some c := by
        rw [List.getLast?_eq_getElem?, List.length_dropLast, List.getElem?_dropLast, if_pos (by omega), show l.length - 1 - 1 = l.length - 2 by omega]
        exact h2
      rw [List.getLast?_eq_getLast e1] at q
      exact Option.some.inj q
    refine ⟨l.dropLast.dropLast, l.getLast e0, ?_, ?_⟩
    · rw [show l.dropLast.dropLast ++ [c, l.getLast e0] = (l.dropLast.dropLast ++ [c]) ++ [l.getLast e0] by rw [List.append_assoc]; rfl, ← e2, p2, p1]
    · unfold stp
      rw [if_pos ⟨h1, h2⟩, ← e2, p2]
  · refine .inr ⟨?_, fun m x e => h ?_⟩
    · unfold stp
      rw [if_neg h]
    · subst e
      refine ⟨by rw [List.length_append]; show 1 < m.length + 2; omega, ?_⟩
      rw [List.length_append, show m.length + [c, x].length - 2 = m.length from Nat.add_sub_cancel .., List.getElem?_append_right (Nat.le_refl _), Nat.sub_self]
      rfl
/-- nothing to strike -/
def Str8 (l : List Int) : Prop := ∀ m t q p, l ≠ m ++ [t, q, t] ++ p
theorem stp_last (l : List Int) (c : Int) : ∃ m, stp l c = m ++ [c] := by
  rcases stp_cases l c with ⟨m, x, _, e⟩ | ⟨e, _⟩
  · exact ⟨m, e⟩
  · exact ⟨l, e⟩
theorem Str8.pre {l m : List Int} (h : Str8 (l ++ m)) : Str8 l := fun a t q p e => h a t q (p ++ m) (by rw [e, List.append_assoc])
theorem stp_str {l : List Int} {c : Int} (h : Str8 l) : Str8 (stp l c) := by
  rcases stp_cases l c with ⟨m, x, e, e2⟩ | ⟨e, hn⟩
  · rw [e2]
    exact Str8.pre (m := [x]) (by rw [List.append_assoc]; exact e ▸ h)
  · rw [e]
    intro m t q p z
    rcases List.eq_nil_or_concat p with rfl | ⟨p', y, rfl⟩
    · rw [List.append_nil, show m ++ [t, q, t] = (m ++ [t, q]) ++ [t] by rw [List.append_assoc]; rfl] at z
      obtain ⟨z1, z2⟩ := List.append_inj' z rfl
      have z3 : c = t := (List.cons.inj z2).1
      exact hn m q (by rw [z1, z3])
    · rw [List.concat_eq_append, ← List.append_assoc] at z
      obtain ⟨z1, _⟩ := List.append_inj' z rfl
      exact h m t q p' z1
theorem foldl_str : ∀ (ns l : List Int), Str8 l → Str8 (ns.foldl stp l)
  | [], _, h => h
  | _ :: ns, _, h => foldl_str ns _ (stp_str h)
theorem str_nil : Str8 [] := fun m t q p e => by
  have := congrArg List.length e
  simp at this
theorem strk_str (ns : List Int) : Str8 (strk ns) := foldl_str ns [] str_nil
/-- a coat and the one before it again: nothing is left of them -/
theorem stp_there_back {m : List Int} {t q : Int} (h : Str8 (m ++ [t])) : stp (stp (m ++ [t]) q) t = m ++ [t] := by
  rcases stp_cases (m ++ [t]) q with ⟨a, x, e, e2⟩ | ⟨e, _⟩
  · rw [show a ++ [q, x] = (a ++ [q]) ++ [x] by rw [List.append_assoc]; rfl] at e
    obtain ⟨e3, e4⟩ := List.append_inj' e rfl
    have e5 : t = x := (List.cons.inj e4).1
    rw [e2]
    rcases stp_cases (a ++ [q]) t with ⟨b, y, f, _⟩ | ⟨f, _⟩
    · refine absurd ?_ (h b t y [])
      rw [e3, f, List.append_nil, List.append_assoc]
      rfl
    · rw [f, ← e3]
  · rw [e, show m ++ [t] ++ [q] = m ++ [t, q] by rw [List.append_assoc]; rfl]
    exact stp_pop
/-- one strike -/
def Red (a b : List Int) : Prop := ∃ m t q p, a = m ++ [t, q, t] ++ p ∧ b = m ++ [t] ++ p
theorem strk_red {a b : List Int} (h : Red a b) : strk a = strk b := by
  obtain ⟨m, t, q, p, rfl, rfl⟩ := h
  unfold strk
  rw [List.foldl_append, List.foldl_append, List.foldl_append, List.foldl_append]
  show List.foldl stp (stp (stp (stp (List.foldl stp [] m) t) q) t) p = List.foldl stp (stp (List.foldl stp [] m) t) p
  have hs : Str8 (stp (List.foldl stp [] m) t) := stp_str (foldl_str m [] str_nil)
  obtain ⟨k, e⟩ := stp_last (List.foldl stp [] m) t
  rw [e] at hs ⊢
  rw [stp_there_back hs]
theorem strk_of_str : ∀ (ns l : List Int), Str8 (l ++ ns) → ns.foldl stp l = l ++ ns
  | [], l, _ => (List.append_nil l).symm
  | c :: ns, l, h => by
    have e : stp l c = l ++ [c] := by
      rcases stp_cases l c with ⟨m, x, f, _⟩ | ⟨f, _⟩
      · refine absurd ?_ (h m c x ns)
        rw [f, List.append_assoc, List.append_assoc]
        rfl
      · exact f
    show ns.foldl stp (stp l c) = l ++ c :: ns
    rw [e, strk_of_str ns (l ++ [c]) (by rw [List.append_assoc]; exact h), List.append_assoc]
    rfl
theorem strk_id {ns : List Int} (h : Str8 ns) : strk ns = ns := strk_of_str ns [] h
theorem red_inv {α : Type} {f : List Int → α} (hf : ∀ a b, Red a b → f a = f b) : ∀ (ns l : List Int), f (l ++ ns) = f (ns.foldl stp l)
  | [], l => by rw [List.append_nil]; rfl
  | c :: ns, l => by
    show f (l ++ c :: ns) = f (ns.foldl stp (stp l c))
    rw [← red_inv hf ns (stp l c)]
    rcases stp_cases l c with ⟨m, x, e, e2⟩ | ⟨e, _⟩
    · rw [e2, e]
      refine hf _ _ ⟨m, c, x, ns, ?_, rfl⟩
      rw [List.append_assoc, List.append_assoc]
      rfl
    · rw [e, List.append_assoc]
      rfl
theorem Red.rev {a b : List Int} (h : Red a b) : Red a.reverse b.reverse := by
  obtain ⟨m, t, q, p, rfl, rfl⟩ := h
  refine ⟨p.reverse, t, q, m.reverse, ?_, ?_⟩
  · simp
  · simp
theorem Str8.rev {l : List Int} (h : Str8 l) : Str8 l.reverse := fun m t q p e => h p.reverse t q m.reverse (by
  have := congrArg List.reverse e
  simpa using this)
theorem strk_rev (ns : List Int) : strk ns.reverse = (strk ns).reverse := by
  have h := red_inv (f := fun l : List Int => strk l.reverse) (fun a b r => strk_red r.rev) ns []
  exact h.trans (strk_id (strk_str ns).rev)
theorem strk_idem (ns : List Int) : strk (strk ns) = strk ns := strk_id (strk_str ns)
theorem strk_mem {c : Int} (ns : List Int) (h : c ∈ strk ns) : c ∈ ns := by
  have key : ∀ (ns l : List Int), (∀ x ∈ ns.foldl stp l, x ∈ l ∨ x ∈ ns) := by
    intro ns
    induction ns with
    | nil => intro l x hx; exact .inl hx
    | cons d ns ih =>
      intro l x hx
      rcases ih (stp l d) x hx with h | h
      · rcases stp_cases l d with ⟨m, y, e, e2⟩ | ⟨e, _⟩
        · rw [e2] at h
          rw [e]
          refine .inl ?_
          rcases List.mem_append.mp h with h | h
          · exact List.mem_append_left _ h
          · exact List.mem_append_right _ (by rw [List.mem_singleton.mp h]; exact List.mem_cons_self)
        · rw [e] at h
          rcases List.mem_append.mp h with h | h
          · exact .inl h
          · exact .inr (by rw [List.mem_singleton.mp h]; exact List.mem_cons_self)
      · exact .inr (List.mem_cons_of_mem _ h)
  rcases key ns [] c h with h | h
  · cases h
  · exact h
theorem strk_pos {ns : List Int} (h : 1 ≤ ns.length) : 1 ≤ (strk ns).length := by
  rcases List.eq_nil_or_concat ns with rfl | ⟨m, c, rfl⟩
  · exact absurd h (by decide)
  · unfold strk
    rw [List.concat_eq_append, List.foldl_append]
    obtain ⟨k, e⟩ := stp_last (List.foldl stp [] m) c
    show 1 ≤ (stp (List.foldl stp [] m) c).length
    rw [e, List.length_append]
    exact Nat.le_add_left _ _
theorem Row.strk {ns : List Int} (h : Row ns) : Row (strk ns) := ⟨strk_pos h.1, Nat.le_trans (strk_len ns) h.2.1, fun c hc => h.2.2 c (strk_mem ns hc)⟩
theorem Row.rev {ns : List Int} (h : Row ns) : Row ns.reverse := ⟨by rw [List.length_reverse]; exact h.1, by rw [List.length_reverse]; exact h.2.1, fun c hc => h.2.2 c (List.mem_reverse.mp hc)⟩
/-- an open place is a place where can be struck -/
theorem opn_red {ns : List Int} {i : Int} (h : i ∈ opn ns) : ∃ k : Nat, i = 1 + (k : Int) ∧ k + 2 < ns.length ∧ Red ns (ns.take (k + 1) ++ ns.drop (k + 3)) := by
  unfold opn at h
  obtain ⟨k, hk, rfl⟩ := List.mem_map.mp h
  obtain ⟨h1, h2⟩ := List.mem_filter.mp hk
  have h3 := List.mem_range.mp h1
  have h4 : ns[k]? = ns[k + 2]? := of_decide_eq_true h2
  have l2 : k + 2 < ns.length := by omega
  refine ⟨k, rfl, l2, ns.take k, ns[k], ns[k + 1], ns.drop (k + 3), ?_, ?_⟩
  · have e : ns[k + 2] = ns[k] := by
      rw [List.getElem?_eq_getElem (by omega), List.getElem?_eq_getElem l2] at h4
      exact (Option.some.inj h4).symm
    have d0 : ns.drop k = ns[k] :: ns.drop (k + 1) := List.drop_eq_getElem_cons (by omega)
    have d1 : ns.drop (k + 1) = ns[k + 1] :: ns.drop (k + 2) := List.drop_eq_getElem_cons (by omega)
    have d2 : ns.drop (k + 2) = ns[k + 2] :: ns.drop (k + 3) := List.drop_eq_getElem_cons l2
    rw [d2, e] at d1
    rw [d1] at d0
    have := List.take_append_drop k ns
    rw [d0] at this
    rw [List.append_assoc]
    exact this.symm
  · rw [List.take_add_one, List.getElem?_eq_getElem (by omega)]
    rfl
theorem opn_str {ns : List Int} (h : opn ns = []) : Str8 ns := fun m t q p e => by
  have h1 : (List.range (ns.length - 2)).filter (isOpn ns) = [] := List.map_eq_nil_iff.mp h
  have h2 := List.filter_eq_nil_iff.mp h1 m.length (List.mem_range.mpr (by
    rw [e, List.length_append, List.length_append]
    show m.length < m.length + 3 + p.length - 2
    omega))
  refine h2 (decide_eq_true ?_)
  have g : ∀ j, j < 3 → ns[m.length + j]? = [t, q, t][j]? := fun j hj => by
    rw [e, List.append_assoc, List.getElem?_append_right (Nat.le_add_right _ _), Nat.add_sub_cancel_left, List.getElem?_append_left hj]
  exact (g 0 (by decide)).trans (g 2 (by decide)).symm
theorem str_opn {ns : List Int} (h : Str8 ns) : opn ns = [] := by
  cases e : opn ns with
  | nil => rfl
  | cons i r =>
    obtain ⟨k, _, _, m, t, q, p, f, _⟩ := opn_red (ns := ns) (i := i) (by rw [e]; exact List.mem_cons_self)
    exact absurd f (h m t q p)
theorem red_len {a b : List Int} (h : Red a b) : b.length + 2 = a.length := by
  obtain ⟨m, t, q, p, rfl, rfl⟩ := h
  simp only [List.length_append, List.length_cons, List.length_nil]
  omega
theorem red_row {a b : List Int} (h : Red a b) (r : Row a) : Row b := by
  have hl := red_len h
  obtain ⟨m, t, q, p, rfl, rfl⟩ := h
  refine ⟨?_, by have := r.2.1; omega, fun c hc => r.2.2 c ?_⟩
  · simp only [List.length_append, List.length_cons, List.length_nil]
    omega
  · simp only [List.mem_append, List.mem_cons, List.not_mem_nil, or_false] at hc ⊢
    rcases hc with (hc | hc) | hc
    · exact .inl (.inl hc)
    · exact .inl (.inr (.inl hc))
    · exact .inr hc

/-! ### rows joined -/
theorem strk_app (a b : List Int) : strk (a ++ b) = strk (strk a ++ b) := by
  unfold strk
  rw [List.foldl_append, List.foldl_append]
  have h : List.foldl stp [] (List.foldl stp [] a) = List.foldl stp [] a := strk_idem a
  rw [h]
theorem strk_mid (a b : List Int) : strk (a ++ b) = strk (a ++ strk b) :=
  red_inv (f := fun l => strk (a ++ l)) (fun x y ⟨m, t, q, p, ex, ey⟩ => strk_red ⟨a ++ m, t, q, p, by rw [ex]; simp, by rw [ey]; simp⟩) b []
theorem head_stp (c : Int) (l : List Int) (d : Int) : (stp (c :: l) d).head? = some c := by
  rcases stp_cases (c :: l) d with ⟨m, x, e, e2⟩ | ⟨e, _⟩
  · rw [e2]
    cases m with
    | nil => exact (congrArg List.head? e).symm
    | cons y m => exact (congrArg List.head? e).symm
  · rw [e]
    rfl
theorem head_foldl : ∀ (ns : List Int) (c : Int) (l : List Int), (ns.foldl stp (c :: l)).head? = some c
  | [], _, _ => rfl
  | d :: ns, c, l => by
    have h := head_stp c l d
    cases e : stp (c :: l) d with
    | nil => rw [e] at h; cases h
    | cons x r =>
      rw [e] at h
      have ex : x = c := Option.some.inj h
      rw [ex] at e
      show (ns.foldl stp (stp (c :: l) d)).head? = some c
      rw [e]
      exact head_foldl ns c r
theorem strk_head : ∀ ns : List Int, (strk ns).head? = ns.head?
  | [] => rfl
  | c :: ns => head_foldl ns c []
theorem strk_last (ns : List Int) : (strk ns).getLast? = ns.getLast? := by
  rcases List.eq_nil_or_concat ns with rfl | ⟨m, c, rfl⟩
  · rfl
  · unfold strk
    rw [List.concat_eq_append, List.foldl_append]
    obtain ⟨k, e⟩ := stp_last (List.foldl stp [] m) c
    show (stp (List.foldl stp [] m) c).getLast? = _
    rw [e, List.getLast?_concat, List.getLast?_concat]
/-- a row's end and the next row's beginning are one stone -/
theorem glue {a b : List Int} {c : Int} (ha : a.getLast? = some c) (hb : b.head? = some c) : a ++ b.tail = a.dropLast ++ b := by
  rcases List.eq_nil_or_concat a with rfl | ⟨m, x, rfl⟩
  · cases ha
  · rw [List.concat_eq_append] at *
    rw [List.getLast?_concat] at ha
    cases Option.some.inj ha
    cases b with
    | nil => cases hb
    | cons y b =>
      cases Option.some.inj hb
      rw [List.dropLast_concat, List.append_assoc]
      rfl
/-- joining a rested row -/
theorem join_rest {a b : List Int} {c : Int} (ha : a.getLast? = some c) (hb : b.head? = some c) : strk (a ++ (strk b).tail) = strk (a ++ b.tail) := by
  rw [glue ha ((strk_head b).trans hb), glue ha hb, ← strk_mid]
theorem there_back : ∀ (a : List Int) (c : Int), a.getLast? = some c → strk (a.reverse ++ a.tail) = [c]
  | [], _, h => nomatch h
  | [x], c, h => by
    cases Option.some.inj h
    rfl
  | x :: y :: a, c, h => by
    rw [List.getLast?_cons_cons] at h
    rw [← there_back (y :: a) c h]
    exact strk_red ⟨a.reverse, y, x, a, by simp, by simp⟩
theorem str_ix {l : List Int} : Str8 l ↔ ∀ i, i + 2 < l.length → l[i]? ≠ l[i + 2]? := by
  constructor
  · intro h i hi e
    have z := str_opn h
    have : (1 + (i : Int)) ∈ opn l := List.mem_map.mpr ⟨i, List.mem_filter.mpr ⟨List.mem_range.mpr (by omega), decide_eq_true e⟩, rfl⟩
    rw [z] at this
    cases this
  · intro h
    refine opn_str ?_
    have z : (List.range (l.length - 2)).filter (isOpn l) = [] := List.filter_eq_nil_iff.mpr fun i hi e => h i (by have := List.mem_range.mp hi; omega) (of_decide_eq_true e)
    unfold opn
    rw [z]
    rfl
theorem str_mid {x y : List Int} {c : Int} (h1 : Str8 (x ++ [c])) (h2 : Str8 (c :: y)) (h3 : ∀ d, x.getLast? = some d → y.head? = some d → False) : Str8 (x ++ c :: y) := by
  rw [str_ix] at *
  intro i hi e
  rw [List.length_append, List.length_cons] at hi
  by_cases c1 : i + 2 ≤ x.length
  · refine h1 i (by rw [List.length_append]; show i + 2 < x.length + 1; omega) ?_
    have g : ∀ j, j ≤ x.length → (x ++ [c])[j]? = (x ++ c :: y)[j]? := fun j hj => by
      by_cases hj2 : j < x.length
      · rw [List.getElem?_append_left hj2, List.getElem?_append_left hj2]
      · rw [List.getElem?_append_right (by omega), List.getElem?_append_right (by omega), show j - x.length = 0 by omega]
        rfl
    rw [g i (by omega), g (i + 2) c1]
    exact e
  · by_cases c2 : x.length ≤ i
    · refine h2 (i - x.length) (by rw [List.length_cons]; omega) ?_
      rw [List.getElem?_append_right c2, List.getElem?_append_right (by omega), show i + 2 - x.length = i - x.length + 2 by omega] at e
      exact e
    · rw [List.getElem?_append_left (by omega), List.getElem?_append_right (by omega), show i + 2 - x.length = 1 by omega] at e
      have e2 : x.getLast? = y.head? := by
        rw [List.getLast?_eq_getElem?, show x.length - 1 = i by omega, e, List.head?_eq_getElem?]
        rfl
      cases f : y.head? with
      | none =>
        rw [List.head?_eq_none_iff] at f
        subst f
        simp at hi
        omega
      | some d => exact h3 d (e2.trans f) f
/-- how long two rows are alike -/
def lcp : List Int → List Int → Nat
  | a :: as, b :: bs => if a = b then lcp as bs + 1 else 0
  | _, _ => 0
theorem lcp_eq {a b : Int} {as bs : List Int} (h : a = b) : lcp (a :: as) (b :: bs) = lcp as bs + 1 := if_pos h
theorem lcp_ne {a b : Int} {as bs : List Int} (h : ¬ a = b) : lcp (a :: as) (b :: bs) = 0 := if_neg h
theorem lcp_comm : ∀ a b : List Int, lcp a b = lcp b a
  | [], [] => rfl
  | [], _ :: _ => rfl
  | _ :: _, [] => rfl
  | a :: as, b :: bs => by
    unfold lcp
    rw [lcp_comm as bs]
    by_cases h : a = b
    · rw [if_pos h, if_pos h.symm]
    · rw [if_neg h, if_neg (fun z => h z.symm)]
theorem lcp_self : ∀ a : List Int, lcp a a = a.length
  | [] => rfl
  | a :: as => by
    unfold lcp
    rw [if_pos rfl, lcp_self as]
    rfl
theorem lcp_nil (a : List Int) : lcp a [] = 0 := by cases a <;> rfl
theorem lcp_one {c : Int} : ∀ {b : List Int}, b.head? = some c → lcp [c] b = 1
  | [], h => nomatch h
  | x :: b, h => by
    cases Option.some.inj h
    unfold lcp
    rw [if_pos rfl]
    show lcp [] b + 1 = 1
    cases b <;> rfl
/-- the gap of two straight rows that begin alike -/
theorem gap_str : ∀ (a b : List Int) (c : Int), Str8 a → Str8 b → a.head? = some c → b.head? = some c → ((strk (a.reverse ++ b.tail)).length : Int) - 1 = a.length + b.length - 2 * lcp a b
  | [], _, _, _, _, h, _ => nomatch h
  | _ :: _, [], _, _, _, _, h => nomatch h
  | x :: a, y :: b, c, ha, hb, h1, h2 => by
    have ex : x = c := Option.some.inj h1
    have ey : y = c := Option.some.inj h2
    rw [ex] at ha h1 ⊢
    rw [ey] at hb h2 ⊢
    clear ex ey
    have ta : Str8 a := fun m t q p e => ha (c :: m) t q p (by rw [e]; rfl)
    have tb : Str8 b := fun m t q p e => hb (c :: m) t q p (by rw [e]; rfl)
    have el : lcp (c :: a) (c :: b) = lcp a b + 1 := by
      show (if c = c then lcp a b + 1 else 0) = _
      rw [if_pos rfl]
    have base : (∀ d, a.head? = some d → b.head? = some d → False) → lcp a b = 0 → ((strk ((c :: a).reverse ++ (c :: b).tail)).length : Int) - 1 = (c :: a).length + (c :: b).length - 2 * lcp (c :: a) (c :: b) := fun hd hl => by
      have hs : Str8 (a.reverse ++ c :: b) := str_mid (by
        have := ha.rev
        rw [List.reverse_cons] at this
        exact this) hb (fun d h3 h4 => hd d (by rw [List.getLast?_reverse] at h3; exact h3) h4)
      rw [List.reverse_cons, List.append_assoc]
      show ((strk (a.reverse ++ c :: b)).length : Int) - 1 = _
      rw [strk_id hs, el, hl, List.length_append, List.length_reverse, List.length_cons, List.length_cons]
      omega
    cases a with
    | nil => exact base (fun d h => nomatch h) (by cases b <;> rfl)
    | cons d a =>
      cases b with
      | nil => exact base (fun d _ h => nomatch h) rfl
      | cons e b =>
        by_cases hde : d = e
        · subst hde
          have ih := gap_str (d :: a) (d :: b) d ta tb rfl rfl
          have r : strk ((c :: d :: a).reverse ++ (c :: d :: b).tail) = strk ((d :: a).reverse ++ (d :: b).tail) := strk_red ⟨a.reverse, d, c, b, by simp, by simp⟩
          rw [r, el, ih, List.length_cons, List.length_cons, List.length_cons (a := c), List.length_cons (a := c), List.length_cons, List.length_cons]
          omega
        · refine base (fun f h3 h4 => hde ?_) ?_
          · exact (Option.some.inj h3).trans (Option.some.inj h4).symm
          · show (if d = e then lcp a b + 1 else 0) = 0
            rw [if_neg hde]
theorem gap_eq {a b : List Int} {c : Int} (ha : a.head? = some c) (hb : b.head? = some c) : ((strk (a.reverse ++ b.tail)).length : Int) - 1 = (strk a).length + (strk b).length - 2 * lcp (strk a) (strk b) := by
  have hl : a.reverse.getLast? = some c := by rw [List.getLast?_reverse]; exact ha
  rw [← join_rest hl hb, strk_app, strk_rev]
  exact gap_str _ _ c (strk_str a) (strk_str b) ((strk_head a).trans ha) ((strk_head b).trans hb)
theorem Row.last {ns : List Int} (h : Row ns) : ∃ c, ns.getLast? = some c ∧ 0 ≤ c ∧ c ≤ 7 := by
  rcases List.eq_nil_or_concat ns with rfl | ⟨m, c, rfl⟩
  · exact absurd h.1 (by decide)
  · rw [List.concat_eq_append] at *
    exact ⟨c, List.getLast?_concat, h.2.2 c (List.mem_append_right _ List.mem_cons_self)⟩
theorem Row.head {ns : List Int} (h : Row ns) : ∃ c, ns.head? = some c ∧ 0 ≤ c ∧ c ≤ 7 := by
  cases ns with
  | nil => exact absurd h.1 (by decide)
  | cons c r => exact ⟨c, rfl, h.2.2 c List.mem_cons_self⟩
theorem Row.join {a b : List Int} (ha : Row a) (hb : Row b) (h : a.length + b.length ≤ 201) : Row (K.strk (a ++ b.tail)) := by
  have hz : b.tail.length = b.length - 1 := List.length_tail ..
  have h1 := hb.1
  have h2 := ha.1
  have h3 := K.strk_len (a ++ b.tail)
  rw [List.length_append] at h3
  refine ⟨K.strk_pos (by rw [List.length_append]; omega), by omega, fun c hc => ?_⟩
  rcases List.mem_append.mp (K.strk_mem _ hc) with h | h
  · exact ha.2.2 c h
  · exact hb.2.2 c (List.mem_of_mem_tail h)
theorem join_head {a b : List Int} {c : Int} (h : a.head? = some c) : (strk (a ++ b.tail)).head? = some c := by
  rw [strk_head]
  cases a with
  | nil => cases h
  | cons x r => exact h
theorem join_last {a b : List Int} {c d : Int} (ha : a.getLast? = some c) (hb : b.head? = some c) (h : b.getLast? = some d) : (strk (a ++ b.tail)).getLast? = some d := by
  rw [strk_last, glue ha hb]
  rcases List.eq_nil_or_concat b with rfl | ⟨m, x, rfl⟩
  · cases h
  · rw [List.concat_eq_append, List.getLast?_concat] at h
    cases Option.some.inj h
    rw [List.concat_eq_append, ← List.append_assoc, List.getLast?_concat]
theorem rests_join {a b : List Int} {c : Int} (ha : a.getLast? = some c) (hb : b.head? = some c) : strk (strk a ++ (strk b).tail) = strk (a ++ b.tail) := by
  rw [← strk_app, join_rest ha hb]
theorem join3l (a b d : List Int) : strk (strk (a ++ b.tail) ++ d.tail) = strk (a ++ b.tail ++ d.tail) := (strk_app _ _).symm
theorem join3r {a b d : List Int} {c e : Int} (ha : a.getLast? = some c) (hb : b.head? = some c) (hb2 : b.getLast? = some e) (hd : d.head? = some e) : strk (a ++ (strk (b ++ d.tail)).tail) = strk (a ++ b.tail ++ d.tail) := by
  have h : (b ++ d.tail).head? = some c := by
    cases b with
    | nil => cases hb
    | cons x r => exact hb
  rw [join_rest ha h]
  cases b with
  | nil => cases hb
  | cons x r => rw [List.append_assoc]; rfl
theorem join_off {a b : List Int} {c d : Int} (ha : a.getLast? = some c) (hb : b.head? = some c) (hh : a.head? = some d) : strk ((strk a).reverse ++ (strk (a ++ b.tail)).tail) = strk b := by
  have hl : (strk a).reverse.getLast? = some d := by rw [List.getLast?_reverse, strk_head, hh]
  have hy : (a ++ b.tail).head? = some d := by
    cases a with
    | nil => cases hh
    | cons x r => exact hh
  rw [join_rest hl hy, ← strk_rev, ← strk_app]
  have e : a.reverse ++ (a ++ b.tail).tail = (a.reverse ++ a.tail) ++ b.tail := by
    cases a with
    | nil => cases hh
    | cons x r => rw [List.append_assoc]; rfl
  rw [e, strk_app, there_back a c ha]
  cases b with
  | nil => cases hb
  | cons x r =>
    cases Option.some.inj hb
    rfl
theorem join_back {a : List Int} {d : Int} (hh : a.head? = some d) : strk (a ++ a.reverse.tail) = a.take 1 := by
  have h := there_back a.reverse d (by rw [List.getLast?_reverse]; exact hh)
  rw [List.reverse_reverse] at h
  rw [h]
  cases a with
  | nil => cases hh
  | cons x r =>
    cases Option.some.inj hh
    rfl
theorem back_join {a : List Int} {c : Int} (ha : a.getLast? = some c) : strk (a.reverse ++ a.tail) = a.drop (a.length - 1) := by
  rw [there_back a c ha]
  rcases List.eq_nil_or_concat a with rfl | ⟨m, x, rfl⟩
  · cases ha
  · rw [List.concat_eq_append] at *
    rw [List.getLast?_concat] at ha
    cases Option.some.inj ha
    rw [List.length_append, show m.length + [c].length - 1 = m.length from rfl, List.drop_left]
theorem gap_self {a : List Int} {c : Int} (h : a.head? = some c) : ((strk (a.reverse ++ a.tail)).length : Int) - 1 = 0 := by
  rw [gap_eq h h, lcp_self]
  omega
theorem gap_comm {a b : List Int} {c : Int} (ha : a.head? = some c) (hb : b.head? = some c) : ((strk (b.reverse ++ a.tail)).length : Int) - 1 = ((strk (a.reverse ++ b.tail)).length : Int) - 1 := by
  rw [gap_eq ha hb, gap_eq hb ha, lcp_comm]
  omega
theorem gap_first {a : List Int} {c : Int} (ha : a.head? = some c) : ((strk ((a.take 1).reverse ++ a.tail)).length : Int) - 1 = (strk a).length - 1 := by
  cases a with
  | nil => cases ha
  | cons x r => rfl

def top (i : Nat) : Stmt := PySem.Challenge.pw_betweencoats_k08_rows_joined_and_gaps.main.body.getD i (.Pass ⟨0, 0, 0, 0⟩)
/-- what the module's names hold -/
structure Txt (mg : Str → Option Value) : Prop where
  n_enumerate : mg "enumerate" = none
  n_int : mg "int" = none
  n_len : mg "len" = none
  n_max : mg "max" = none
  n_min : mg "min" = none
  n_range : mg "range" = none
  n_tuple : mg "tuple" = none
  g_LAST_COAT : ∃ t, mg "LAST_COAT" = some (.int 7 t)
  g_MOST_STONES : ∃ t, mg "MOST_STONES" = some (.int 200 t)
abbrev s_check_row : Stmt := top 8
theorem sc_check_row : FnScope ["row", "at", "coat"] ["row"] (defScope s_check_row) := ⟨rfl, rfl, rfl, by decide +kernel, rfl, by decide +kernel, by decide +kernel⟩
abbrev s_struck : Stmt := top 9
theorem sc_struck : FnScope ["stones", "left", "coat"] ["stones"] (defScope s_struck) := ⟨rfl, rfl, rfl, by decide +kernel, rfl, by decide +kernel, by decide +kernel⟩
abbrev s_rest : Stmt := top 10
theorem sc_rest : FnScope ["row"] ["row"] (defScope s_rest) := ⟨rfl, rfl, rfl, by decide +kernel, rfl, by decide +kernel, by decide +kernel⟩
abbrev s_back : Stmt := top 11
theorem sc_back : FnScope ["row"] ["row"] (defScope s_back) := ⟨rfl, rfl, rfl, by decide +kernel, rfl, by decide +kernel, by decide +kernel⟩
abbrev s_run_on : Stmt := top 13
theorem sc_run_on : FnScope ["one", "two"] ["one", "two"] (defScope s_run_on) := ⟨rfl, rfl, rfl, by decide +kernel, rfl, by decide +kernel, by decide +kernel⟩
abbrev s_joined : Stmt := top 14
theorem sc_joined : FnScope ["one", "two"] ["one", "two"] (defScope s_joined) := ⟨rfl, rfl, rfl, by decide +kernel, rfl, by decide +kernel, by decide +kernel⟩
abbrev s_gap_of : Stmt := top 16
theorem sc_gap_of : FnScope ["one", "two"] ["one", "two"] (defScope s_gap_of) := ⟨rfl, rfl, rfl, by decide +kernel, rfl, by decide +kernel, by decide +kernel⟩
abbrev s_gap : Stmt := top 17
theorem sc_gap : FnScope ["one", "two"] ["one", "two"] (defScope s_gap) := ⟨rfl, rfl, rfl, by decide +kernel, rfl, by decide +kernel, by decide +kernel⟩
abbrev s__law_pool : Stmt := top 19
theorem sc__law_pool : FnScope ["script", "k", "cell", "big", "mixed"] ["script", "k"] (defScope s__law_pool) := ⟨rfl, rfl, rfl, by decide +kernel, rfl, by decide +kernel, by decide +kernel⟩
abbrev s__law_take : Stmt := top 20
theorem sc__law_take : FnScope ["source", "top", "drawn"] ["source", "top"] (defScope s__law_take) := ⟨rfl, rfl, rfl, by decide +kernel, rfl, by decide +kernel, by decide +kernel⟩
abbrev s__law_one : Stmt := top 21
theorem sc__law_one : FnScope ["source", "things"] ["source", "things"] (defScope s__law_one) := ⟨rfl, rfl, rfl, by decide +kernel, rfl, by decide +kernel, by decide +kernel⟩
abbrev s__law_rest : Stmt := top 22
theorem sc__law_rest : FnScope ["row", "kept", "coat"] ["row"] (defScope s__law_rest) := ⟨rfl, rfl, rfl, by decide +kernel, rfl, by decide +kernel, by decide +kernel⟩
abbrev s__law_drawn : Stmt := top 23
theorem sc__law_drawn : FnScope ["source", "first", "coats", "many", "row"] ["source", "first", "coats"] (defScope s__law_drawn) := ⟨rfl, rfl, rfl, by decide +kernel, rfl, by decide +kernel, by decide +kernel⟩
abbrev s__law_common : Stmt := top 24
theorem sc__law_common : FnScope ["one", "two", "k"] ["one", "two"] (defScope s__law_common) := ⟨rfl, rfl, rfl, by decide +kernel, rfl, by decide +kernel, by decide +kernel⟩
abbrev s__law_right : Stmt := top 25
theorem sc__law_right : FnScope ["source", "coats", "one", "two", "three", "due", "whole", "other", "told"] ["source"] (defScope s__law_right) := ⟨rfl, rfl, rfl, by decide +kernel, rfl, by decide +kernel, by decide +kernel⟩
abbrev s_law : Stmt := top 26
theorem sc_law : FnScope ["script", "k"] ["script"] (defScope s_law) := ⟨rfl, rfl, rfl, by decide +kernel, rfl, by decide +kernel, by decide +kernel⟩
def kb_gap_two_one_g {α : Type} : List α → List α → List α
  | [], [w0, w1] => [w1, w0]
  | _, _ => []
theorem kb_gap_two_one : KwB "gap" s_gap ["one", "two"] ["two", "one"] kb_gap_two_one_g kb_gap_two_one_g where
  to := fun _ _ _ _ _ _ us ws h => by
    match us, ws, h with
    | [], [_, _], _ => rfl
  rel := fun {vs us zs ws} r s => by
    unfold kb_gap_two_one_g
    cases r with
    | cons _ _ => exact .nil
    | nil =>
      cases s with
      | nil => exact .nil
      | cons s0 s =>
        cases s with
        | nil => exact .nil
        | cons s1 s =>
          cases s with
          | cons _ _ => exact .nil
          | nil =>
            exact (.cons s1 (.cons s0 .nil))
def kb_joined_two_one_g {α : Type} : List α → List α → List α
  | [], [w0, w1] => [w1, w0]
  | _, _ => []
theorem kb_joined_two_one : KwB "joined" s_joined ["one", "two"] ["two", "one"] kb_joined_two_one_g kb_joined_two_one_g where
  to := fun _ _ _ _ _ _ us ws h => by
    match us, ws, h with
    | [], [_, _], _ => rfl
  rel := fun {vs us zs ws} r s => by
    unfold kb_joined_two_one_g
    cases r with
    | cons _ _ => exact .nil
    | nil =>
      cases s with
      | nil => exact .nil
      | cons s0 s =>
        cases s with
        | nil => exact .nil
        | cons s1 s =>
          cases s with
          | cons _ _ => exact .nil
          | nil =>
            exact (.cons s1 (.cons s0 .nil))
section
variable {P : Program} {w : World} {K : PySem.W.Frag} {mg : Str → Option Value} {base : Heap} {f : Addr} {fd : FuncData}
def sp_check_row (K : PySem.W.Frag) : Sp := fun vs H Q _ => ∃ (a : Addr) (ns : List Int), vs = [.ref a] ∧ SqT K H a (ns.map V.int) ∧ Row ns ∧ ∀ H', Same H H' → Q .non H'
theorem ok_check_row (F : Fun K "check_row" "check_row" s_check_row f fd) (T : Txt mg)  : FnOk P w K mg base CX0 1 f fd ["row"] (sp_check_row K) := by
  refine F.ok sc_check_row (fun vs H Q E h => ?_) (fun cdv A outer s H vs Q E hr h => ?_)
  · obtain ⟨a, ns, rfl, _⟩ := h
    rfl
  obtain ⟨a, ns, rfl, hS, ⟨h1, h2, h3⟩, q⟩ := h
  refine ⟨_, (pss_cons (ps_if (pt_not (pt_chain op_le op_le pe_int (pe_callB (lenS K) (by rfl) T.n_len PySem.boot_len (pa_cons (pv 0) pa_nil)) (pe_gint rfl T.g_MOST_STONES))) (pss_one ps_never) pss_nil)
      (pss_one (ps_for PassesOwn.never rfl (pi_enumT (by rfl) T.n_enumerate (pa_cons (pv 0) pa_nil)) (pg_tup rfl (pgs_cons (pg_name (i := 1) sc_check_row.nd rfl (Or.inl rfl)) (pgs_cons (pg_name (i := 2) sc_check_row.nd rfl (Or.inl rfl)) pgs_nil))) (pss_one (ps_if (pt_not (pt_chain op_le op_le pe_int (pv 2) (pe_gint rfl T.g_LAST_COAT))) (pss_one ps_never) pss_nil))))), ?_⟩
  have e1 : decide ((1 : Int) ≤ ((ns.map V.int).length : Nat)) = true := decide_eq_true (by rw [List.length_map]; omega)
  have e2 : decide ((((ns.map V.int).length : Nat) : Int) ≤ 200) = true := decide_eq_true (by rw [List.length_map]; omega)
  refine ⟨.ref a, rfl, a, _, rfl, .inr hS, 1, _, rfl, rfl, _, rfl, itT e1 ⟨_, 200, rfl, rfl, _, rfl, ?_⟩⟩
  rw [e2]
  refine iteF ?_
  refine ⟨.ref a, rfl, a, _, rfl, hS, for_it walk_enumT (fun i σ H' => (∃ y1 y2, σ = [some (.ref a), y1, y2]) ∧ Same H H') ⟨⟨_, _, rfl⟩, Same.refl _⟩ (fun i σ H' _ h => Same.tup h.2 hS) ?_ ?_⟩
  · rintro i x σ H1 H2 hi ⟨⟨y1, y2, rfl⟩, sm⟩ ⟨T, x1, x2, rfl, nT, rfl, f1, f2⟩
    obtain ⟨hi2, rfl⟩ := num_map i ns x2 f2
    cases Option.some.inj f1
    refine ⟨T, _, rfl, .inl (.inl upd_same), rfl, _, _, rfl, _, _, rfl, rfl, ?_⟩
    have h4 := h3 _ (List.getElem_mem hi2)
    refine ⟨_, rfl, 0, _, rfl, rfl, _, rfl, itT (decide_eq_true h4.1) ⟨_, 7, rfl, rfl, _, rfl, ?_⟩⟩
    rw [decide_eq_true h4.2]
    refine iteF ?_
    exact ⟨⟨_, _, rfl⟩, sm.trans (Same.new nT)⟩
  · rintro σ H' ⟨_, sm⟩
    exact q _ sm
def sp_struck (K : PySem.W.Frag) : Sp := fun vs H Q _ => ∃ (a : Addr) (ns : List Int), vs = [.ref a] ∧ SqT K H a (ns.map V.int) ∧ ns.length < 100000 ∧ ∀ p H', Same H H' → SqT K H' p ((strk ns).map V.int) → Q (.ref p) H'
theorem ok_struck (F : Fun K "struck" "struck" s_struck f fd) (T : Txt mg)  : FnOk P w K mg base CX0 1 f fd ["stones"] (sp_struck K) := by
  refine F.ok sc_struck (fun vs H Q E h => ?_) (fun cdv A outer s H vs Q E hr h => ?_)
  · obtain ⟨a, ns, rfl, _⟩ := h
    rfl
  obtain ⟨a, ns, rfl, hS, hlen, q⟩ := h
  refine ⟨_, (pss_cons (ps_set (i := 1) sc_struck.nd rfl (Or.inl rfl) (pe_lst pa_nil))
      (pss_cons (ps_for PassesOwn.never rfl (piT K (pv 0)) (pg_name (i := 2) sc_struck.nd rfl (Or.inl rfl)) (pss_one (ps_if (PW.pt (pw_and (pt_cmpR op_gt (pe_callB (lenS K) (by rfl) T.n_len PySem.boot_len (pa_cons (pv 1) pa_nil)) pe_int (nomark _)) (pw_and1 (pt_cmpR op_eq (pe_ix (ixL K) (pv 1) (pe_un un_neg pe_int) (fun _ _ => rfl)) (pv 2) (nomark _))))) (pss_one (ps_expr (pe_bm0 PySem.F.plainAttrs_list PySem.F.slot_list_pop PySem.F.type_list_pop mt_pop (pv 1)))) (pss_one (ps_expr (pe_bm PySem.F.plainAttrs_list PySem.F.slot_list_append PySem.F.type_list_append mt_append (pv 1) (pa_cons (pv 2) pa_nil)))))))
      (pss_one (ps_ret (pe_callTy (tupOf K) (by rfl) T.n_tuple (by decide +kernel) (pa_cons (pv 1) pa_nil)))))), ?_⟩
  refine ⟨Nat.zero_le _, fun l nl => ?_⟩
  refine ⟨.ref a, rfl, a, rfl, ⟨_, (Same.new nl).tup hS⟩, for_tup (xs := ns.map V.int) (fun i σ H' => (∃ y, σ = [some (.ref a), some (.ref l), y]) ∧ Same H H' ∧ H' l = some (.lst ((strk (ns.take i)).map V.int)))
    ⟨⟨_, rfl⟩, Same.new nl, upd_same⟩ (fun i σ H' _ h => h.2.1.tup hS) ?_ ?_⟩
  · rintro i x σ H1 hi ⟨⟨y, rfl⟩, sm, hl⟩
    obtain ⟨hi2, rfl⟩ := num_map i ns x hi
    have hst : strk (ns.take (i + 1)) = stp (strk (ns.take i)) ns[i] := by
      unfold strk
      rw [List.take_add_one, List.getElem?_eq_getElem hi2, List.foldl_append]
      rfl
    have hz : (strk (ns.take i)).length ≤ i := Nat.le_trans (strk_len _) (by rw [List.length_take]; omega)
    generalize strk (ns.take i) = st at hl hst hz
    refine ⟨.ref l, rfl, l, _, rfl, .inl (SqL.of hl), _, 1, rfl, rfl, _, rfl, ?_⟩
    by_cases h1 : st.length > 1
    · refine itT (decide_eq_true (by rw [List.length_map]; omega)) ?_
      have g : (st.map V.int)[st.length - 2]? = some (.int (st[st.length - 2]'(by omega))) := by
        rw [List.getElem?_map, List.getElem?_eq_getElem (by omega)]
        rfl
      refine ⟨.ref l, rfl, 2, rfl, l, _, _, _, rfl, rfl, SqL.of hl, atNeg g (by rw [List.length_map]; omega), _, rfl, rfl, _, rfl, ite2 (fun e => ?_) (fun e => ?_)⟩
      · have e' : st[st.length - 2]? = some ns[i] := by
          rw [List.getElem?_eq_getElem (by omega)]
          exact congrArg some (V.int.inj (of_decide_eq_true e))
        refine ⟨.ref l, rfl, .inl ⟨rfl, _, SqL.of hl⟩, l, _, .int (st[st.length - 1]'(by omega)), rfl, rfl, hl, ?_, ?_⟩
        · rw [List.length_map, List.getElem?_map, List.getElem?_eq_getElem (by omega)]
          rfl
        · refine ⟨⟨_, rfl⟩, sm.mut nl, ?_⟩
          rw [upd_same, hst, stp, if_pos ⟨h1, e'⟩, List.map_dropLast]
      · have e' : ¬ st[st.length - 2]? = some ns[i] := fun z => by
          rw [List.getElem?_eq_getElem (by omega)] at z
          exact e (decide_eq_true (congrArg V.int (Option.some.inj z)))
        refine ⟨.ref l, rfl, .inl ⟨rfl, _, SqL.of hl⟩, _, rfl, l, _, _, rfl, rfl, hl, smallLt (by rw [List.length_map]; omega), ?_⟩
        refine ⟨⟨_, rfl⟩, sm.mut nl, ?_⟩
        rw [upd_same, hst, stp, if_neg (fun z => e' z.2), List.map_append]
        rfl
    · refine itF (decide_eq_false (by rw [List.length_map]; omega)) ?_
      refine iteF ?_
      refine ⟨.ref l, rfl, .inl ⟨rfl, _, SqL.of hl⟩, _, rfl, l, _, _, rfl, rfl, hl, smallLt (by rw [List.length_map]; omega), ?_⟩
      refine ⟨⟨_, rfl⟩, sm.mut nl, ?_⟩
      rw [upd_same, hst, stp, if_neg (fun z => h1 z.1), List.map_append]
      rfl
  · rintro σ H' ⟨⟨y, rfl⟩, sm, hl⟩
    rw [List.length_map, List.take_length] at hl
    refine ⟨.ref l, rfl, l, _, rfl, .inl ⟨SqL.of hl, fun p np => ?_⟩⟩
    exact q p _ (sm.trans (Same.new np)) (SqT.of upd_same)
def sp_rest (K : PySem.W.Frag) : Sp := fun vs H Q _ => ∃ (a : Addr) (ns : List Int), vs = [.ref a] ∧ SqT K H a (ns.map V.int) ∧ Row ns ∧ ∀ p H', Same H H' → SqT K H' p ((strk ns).map V.int) → Q (.ref p) H'
theorem ok_rest (F : Fun K "rest" "rest" s_rest f fd) (T : Txt mg) (c_check_row : Cal P w K mg base CX0 1 "check_row" ["row"] s_check_row (sp_check_row K)) (c_struck : Cal P w K mg base CX0 1 "struck" ["stones"] s_struck (sp_struck K)) : FnOk P w K mg base CX0 2 f fd ["row"] (sp_rest K) := by
  refine F.ok sc_rest (fun vs H Q E h => ?_) (fun cdv A outer s H vs Q E hr h => ?_)
  · obtain ⟨a, ns, rfl, _⟩ := h
    rfl
  obtain ⟨a, ns, rfl, hS, hR, q⟩ := h
  refine ⟨_, (pss_cons (ps_expr (pe_cal c_check_row (hr.mono (by decide)) pass0 (pa_cons (pv 0) pa_nil)))
      (pss_one (ps_ret (pe_cal c_struck (hr.mono (by decide)) pass0 (pa_cons (pv 0) pa_nil))))), ?_⟩
  refine ⟨.ref a, rfl, a, ns, rfl, hS, hR, fun H1 s1 => ?_⟩
  refine ⟨.ref a, rfl, a, ns, rfl, s1.tup hS, Nat.lt_of_le_of_lt hR.2.1 (by decide), fun p H2 s2 hp => ?_⟩
  exact q p H2 (s1.trans s2) hp
def sp_back (K : PySem.W.Frag) : Sp := fun vs H Q _ => ∃ (a : Addr) (ns : List Int), vs = [.ref a] ∧ SqT K H a (ns.map V.int) ∧ Row ns ∧ ∀ p H', Same H H' → SqT K H' p (ns.reverse.map V.int) → Q (.ref p) H'
theorem ok_back (F : Fun K "back" "back" s_back f fd) (T : Txt mg) (c_check_row : Cal P w K mg base CX0 1 "check_row" ["row"] s_check_row (sp_check_row K)) : FnOk P w K mg base CX0 2 f fd ["row"] (sp_back K) := by
  refine F.ok sc_back (fun vs H Q E h => ?_) (fun cdv A outer s H vs Q E hr h => ?_)
  · obtain ⟨a, ns, rfl, _⟩ := h
    rfl
  obtain ⟨a, ns, rfl, hS, hR, q⟩ := h
  refine ⟨_, (pss_cons (ps_expr (pe_cal c_check_row (hr.mono (by decide)) pass0 (pa_cons (pv 0) pa_nil)))
      (pss_one (ps_ret (pe_revT (pv 0))))), ?_⟩
  refine ⟨.ref a, rfl, a, ns, rfl, hS, hR, fun H1 s1 => ?_⟩
  refine ⟨.ref a, rfl, a, _, rfl, s1.tup hS, fun p np => ?_⟩
  exact q p _ (s1.trans (Same.new np)) (SqT.of (by rw [upd_same, List.map_reverse]))
def sp_run_on (K : PySem.W.Frag) : Sp := fun vs H Q _ => ∃ (a b : Addr) (ns ms : List Int), vs = [.ref a, .ref b] ∧ SqT K H a (ns.map V.int) ∧ SqT K H b (ms.map V.int) ∧ ns.length < 1000 ∧ ms.length < 1000 ∧ ∀ p H', Same H H' → SqT K H' p ((strk (ns ++ ms.tail)).map V.int) → Q (.ref p) H'
theorem ok_run_on (F : Fun K "run_on" "run_on" s_run_on f fd) (T : Txt mg) (c_struck : Cal P w K mg base CX0 1 "struck" ["stones"] s_struck (sp_struck K)) : FnOk P w K mg base CX0 2 f fd ["one", "two"] (sp_run_on K) := by
  refine F.ok sc_run_on (fun vs H Q E h => ?_) (fun cdv A outer s H vs Q E hr h => ?_)
  · obtain ⟨a, b, ns, ms, rfl, _⟩ := h
    rfl
  obtain ⟨a, b, ns, ms, rfl, ha, hb, z1, z2, q⟩ := h
  refine ⟨_, (pss_one (ps_ret (pe_cal c_struck (hr.mono (by decide)) pass0 (pa_cons (pe_op (catA K) (pv 0) (pe_slice (slT K) (pv 1) (po_some pe_int) poN)) pa_nil)))), ?_⟩
  refine ⟨.ref a, rfl, .ref b, rfl, 1, rfl, slA hb fun p1 H1 m1 h1 => ?_⟩
  rw [show (1 : Int) = ((1 : Nat) : Int) from rfl, cutV_from, ← List.map_drop, List.drop_one] at h1
  have hz : ms.tail.length ≤ ms.length := by rw [List.length_tail]; omega
  refine ctA (Same.tup m1 ha) h1 (by rw [List.length_map, List.length_map]; omega) fun p2 H2 m2 h2 => ?_
  rw [← List.map_append] at h2
  exact ⟨p2, _, rfl, h2, by rw [List.length_append]; omega, fun p3 H3 m3 h3 => q p3 H3 (Same.trans (Same.trans m1 m2) m3) h3⟩
def sp_joined (K : PySem.W.Frag) : Sp := fun vs H Q _ => ∃ (a b : Addr) (ns ms : List Int) (c : Int), vs = [.ref a, .ref b] ∧ SqT K H a (ns.map V.int) ∧ SqT K H b (ms.map V.int) ∧ Row ns ∧ Row ms ∧ ns.getLast? = some c ∧ ms.head? = some c ∧ ∀ p H', Same H H' → SqT K H' p ((strk (ns ++ ms.tail)).map V.int) → Q (.ref p) H'
theorem ok_joined (F : Fun K "joined" "joined" s_joined f fd) (T : Txt mg) (c_check_row : Cal P w K mg base CX0 1 "check_row" ["row"] s_check_row (sp_check_row K)) (c_run_on : Cal P w K mg base CX0 2 "run_on" ["one", "two"] s_run_on (sp_run_on K)) : FnOk P w K mg base CX0 3 f fd ["one", "two"] (sp_joined K) := by
  refine F.ok sc_joined (fun vs H Q E h => ?_) (fun cdv A outer s H vs Q E hr h => ?_)
  · obtain ⟨a, b, ns, ms, c, rfl, _⟩ := h
    rfl
  obtain ⟨a, b, ns, ms, c, rfl, ha, hb, r1, r2, e1, e2, q⟩ := h
  refine ⟨_, (pss_cons (ps_expr (pe_cal c_check_row (hr.mono (by decide)) pass0 (pa_cons (pv 0) pa_nil)))
      (pss_cons (ps_expr (pe_cal c_check_row (hr.mono (by decide)) pass0 (pa_cons (pv 1) pa_nil)))
      (pss_cons (ps_if (pt_cmpR op_ne (pe_ix (ixT K) (pv 0) (pe_un un_neg pe_int) (fun _ _ => rfl)) (pe_ix (ixT K) (pv 1) pe_int (fun _ _ => rfl)) (nomark _)) (pss_one ps_never) pss_nil)
      (pss_one (ps_ret (pe_cal c_run_on (hr.mono (by decide)) pass0 (pa_cons (pv 0) (pa_cons (pv 1) pa_nil)))))))), ?_⟩
  refine ⟨.ref a, rfl, a, ns, rfl, ha, r1, fun H1 m1 => ?_⟩
  refine ⟨.ref b, rfl, b, ms, rfl, m1.tup hb, r2, fun H2 m2 => ?_⟩
  have ha2 := Same.tup (Same.trans m1 m2) ha
  have hb2 := Same.tup (Same.trans m1 m2) hb
  refine ⟨.ref a, rfl, 1, rfl, a, _, _, .int c, rfl, rfl, ha2, atLastI e1, .ref b, rfl, b, _, 0, .int c, rfl, rfl, hb2, atHeadI e2, rfl, _, rfl, itF (by simp) ?_⟩
  exact ⟨.ref a, rfl, .ref b, rfl, a, b, ns, ms, rfl, ha2, hb2, Nat.lt_of_le_of_lt r1.2.1 (by decide), Nat.lt_of_le_of_lt r2.2.1 (by decide), fun p H3 m3 h3 => q p H3 (Same.trans (Same.trans m1 m2) m3) h3⟩
def sp_gap_of (K : PySem.W.Frag) : Sp := fun vs H Q _ => ∃ (a b : Addr) (ns ms : List Int), vs = [.ref a, .ref b] ∧ SqT K H a (ns.map V.int) ∧ SqT K H b (ms.map V.int) ∧ ns.length < 1000 ∧ ms.length < 1000 ∧ ∀ H', Same H H' → Q (.int (((strk (ns.reverse ++ ms.tail)).length : Int) - 1)) H'
theorem ok_gap_of (F : Fun K "gap_of" "gap_of" s_gap_of f fd) (T : Txt mg) (c_run_on : Cal P w K mg base CX0 2 "run_on" ["one", "two"] s_run_on (sp_run_on K)) : FnOk P w K mg base CX0 3 f fd ["one", "two"] (sp_gap_of K) := by
  refine F.ok sc_gap_of (fun vs H Q E h => ?_) (fun cdv A outer s H vs Q E hr h => ?_)
  · obtain ⟨a, b, ns, ms, rfl, _⟩ := h
    rfl
  obtain ⟨a, b, ns, ms, rfl, ha, hb, z1, z2, q⟩ := h
  refine ⟨_, (pss_one (ps_ret (pe_op op_sub (pe_callB (lenS K) (by rfl) T.n_len PySem.boot_len (pa_cons (pe_cal c_run_on (hr.mono (by decide)) pass0 (pa_cons (pe_revT (pv 0)) (pa_cons (pv 1) pa_nil))) pa_nil)) pe_int))), ?_⟩
  refine ⟨.ref a, rfl, a, _, rfl, ha, fun x nx => ?_⟩
  refine ⟨.ref b, rfl, x, b, ns.reverse, ms, rfl, SqT.of (by rw [upd_same, List.map_reverse]), (Same.new nx).tup hb, by rw [List.length_reverse]; exact z1, z2, fun p H1 m1 h1 => ?_⟩
  refine ⟨p, _, rfl, .inr h1, _, _, rfl, rfl, ?_⟩
  rw [List.length_map]
  exact q _ (Same.trans (Same.new nx) m1)
def sp_gap (K : PySem.W.Frag) : Sp := fun vs H Q _ => ∃ (a b : Addr) (ns ms : List Int) (c : Int), vs = [.ref a, .ref b] ∧ SqT K H a (ns.map V.int) ∧ SqT K H b (ms.map V.int) ∧ Row ns ∧ Row ms ∧ ns.head? = some c ∧ ms.head? = some c ∧ ∀ H', Same H H' → Q (.int (((strk (ns.reverse ++ ms.tail)).length : Int) - 1)) H'
theorem ok_gap (F : Fun K "gap" "gap" s_gap f fd) (T : Txt mg) (c_check_row : Cal P w K mg base CX0 1 "check_row" ["row"] s_check_row (sp_check_row K)) (c_gap_of : Cal P w K mg base CX0 3 "gap_of" ["one", "two"] s_gap_of (sp_gap_of K)) : FnOk P w K mg base CX0 4 f fd ["one", "two"] (sp_gap K) := by
  refine F.ok sc_gap (fun vs H Q E h => ?_) (fun cdv A outer s H vs Q E hr h => ?_)
  · obtain ⟨a, b, ns, ms, c, rfl, _⟩ := h
    rfl
  obtain ⟨a, b, ns, ms, c, rfl, ha, hb, r1, r2, e1, e2, q⟩ := h
  refine ⟨_, (pss_cons (ps_expr (pe_cal c_check_row (hr.mono (by decide)) pass0 (pa_cons (pv 0) pa_nil)))
      (pss_cons (ps_expr (pe_cal c_check_row (hr.mono (by decide)) pass0 (pa_cons (pv 1) pa_nil)))
      (pss_cons (ps_if (pt_cmpR op_ne (pe_ix (ixT K) (pv 0) pe_int (fun _ _ => rfl)) (pe_ix (ixT K) (pv 1) pe_int (fun _ _ => rfl)) (nomark _)) (pss_one ps_never) pss_nil)
      (pss_one (ps_ret (pe_cal c_gap_of (hr.mono (by decide)) pass0 (pa_cons (pv 0) (pa_cons (pv 1) pa_nil)))))))), ?_⟩
  refine ⟨.ref a, rfl, a, ns, rfl, ha, r1, fun H1 m1 => ?_⟩
  refine ⟨.ref b, rfl, b, ms, rfl, m1.tup hb, r2, fun H2 m2 => ?_⟩
  have ha2 := Same.tup (Same.trans m1 m2) ha
  have hb2 := Same.tup (Same.trans m1 m2) hb
  refine ⟨.ref a, rfl, a, _, 0, .int c, rfl, rfl, ha2, atHeadI e1, .ref b, rfl, b, _, 0, .int c, rfl, rfl, hb2, atHeadI e2, rfl, _, rfl, itF (by simp) ?_⟩
  exact ⟨.ref a, rfl, .ref b, rfl, a, b, ns, ms, rfl, ha2, hb2, Nat.lt_of_le_of_lt r1.2.1 (by decide), Nat.lt_of_le_of_lt r2.2.1 (by decide), fun H3 m3 => q H3 (Same.trans (Same.trans m1 m2) m3)⟩
def sp__law_pool (K : PySem.W.Frag) : Sp := fun vs H Q _ => ∃ (a : Addr) (ns : List Int) (k : Int), vs = [.ref a, .int k] ∧ SqL K H a (ns.map V.int) ∧ 0 ≤ k ∧ k < 1000 ∧ ∀ p H', H p = none → Same H H' → Src H' p → Q (.ref p) H'
theorem ok__law_pool (F : Fun K "_law_pool" "_law_pool" s__law_pool f fd) (T : Txt mg)  : FnOk P w K mg base CX0 1 f fd ["script", "k"] (sp__law_pool K) := by
  refine F.ok sc__law_pool (fun vs H Q E h => ?_) (fun cdv A outer s H vs Q E hr h => ?_)
  · obtain ⟨a, ns, k, rfl, _⟩ := h
    rfl
  obtain ⟨a, ns, k, rfl, hS, hk, hk2, q⟩ := h
  obtain ⟨j, rfl⟩ : ∃ j : Nat, k = (j : Int) := ⟨k.toNat, by omega⟩
  have hjj : (0 : Int) ≤ 7919 * (j : Int) * (j : Int) ∧ 7919 * (j : Int) * (j : Int) ≤ 7919000 * 1000 := by
    have h1 : (0 : Int) ≤ 7919 * (j : Int) := by omega
    have h2 : 7919 * (j : Int) ≤ 7919000 := by omega
    exact ⟨Int.mul_nonneg h1 hk, Int.mul_le_mul h2 (by omega) hk (by decide)⟩
  refine ⟨_, (pss_cons (ps_set (i := 2) sc__law_pool.nd rfl (Or.inl rfl) pe_int)
      (pss_cons (ps_if (pt_cmpR op_lt (pv 1) (pe_callB (lenS K) (by rfl) T.n_len PySem.boot_len (pa_cons (pv 0) pa_nil)) (nomark _)) (pss_one (ps_set (i := 2) sc__law_pool.nd rfl (Or.inl rfl) (pe_ix (ixL K) (pv 0) (pv 1) (fun _ _ => rfl)))) (pss_one (ps_if (pt_truth (pv 0) (by intro _; rfl)) (pss_one (ps_set (i := 2) sc__law_pool.nd rfl (Or.inl rfl) (pe_ix (ixL K) (pv 0) pe_int (fun _ _ => rfl)))) pss_nil)))
      (pss_cons (ps_set (i := 3) sc__law_pool.nd rfl (Or.inl rfl) (pe_callB (call_max2 rfl) (by rfl) T.n_max (by decide +kernel) (pa_cons (pe_callTy call_int1 (by rfl) T.n_int (by decide +kernel) (pa_cons (pv 2) pa_nil)) (pa_cons (pe_callTy call_int1 (by rfl) T.n_int (by decide +kernel) (pa_cons (pe_op op_sub (pe_un un_neg pe_int) (pv 2)) pa_nil)) pa_nil))))
      (pss_cons (ps_set (i := 4) sc__law_pool.nd rfl (Or.inl rfl) (pe_op op_mod (pe_callTy call_int1 (by rfl) T.n_int (by decide +kernel) (pa_cons (pe_op op_mul (pe_op op_add (pe_op op_add (pe_op op_add (pe_op op_mod (pe_callTy call_int1 (by rfl) T.n_int (by decide +kernel) (pa_cons (pv 3) pa_nil)) pe_int) (pe_op op_mul (pe_op op_mul pe_int (pv 1)) (pv 1))) (pe_op op_mul pe_int (pv 1))) pe_int) pe_int) pa_nil)) pe_int))
      (pss_one (ps_ret (pe_lst (pa_cons (pe_op op_mul (pv 3) (pe_callTy call_int1 (by rfl) T.n_int (by decide +kernel) (pa_cons (pe_cmpR op_ge (pv 3) (pe_op op_pow pe_int pe_int) (nomark _)) pa_nil))) (pa_cons (pv 4) pa_nil))))))))), ?_⟩
  refine ⟨.int j, rfl, .ref a, rfl, a, _, rfl, .inl hS, j, _, rfl, rfl, _, rfl, ite2
    (fun c => ⟨.ref a, rfl, .int j, rfl, a, _, j, .int (ns.getD j 0), rfl, rfl, hS, atI_nat ?_, ?_⟩)
    (fun c => ⟨.ref a, rfl, _, .inl ⟨_, hS, rfl⟩, ite2 (fun c2 => ⟨.ref a, rfl, a, _, 0, .int (ns.getD 0 0), rfl, rfl, hS, atN (j := 0) ?_ rfl, ?_⟩) (fun c2 => ?_)⟩)⟩
  · have h1 : j < ns.length := by
      have z := of_decide_eq_true c
      rw [List.length_map] at z
      omega
    rw [List.getElem?_map, List.getD_eq_getElem?_getD, List.getElem?_eq_getElem h1]
    rfl
  rotate_left
  · cases ns with
    | nil => cases c2
    | cons n ns => rfl
  all_goals
    refine ⟨_, rfl, .inl ⟨_, rfl, 1, rfl, _, rfl, _, _, rfl, rfl, .inl ⟨_, rfl, _, _, rfl, ?_⟩⟩⟩
    refine ⟨_, rfl, .inl ⟨_, rfl, _, 2147483629, rfl, rfl, by show (0 : Int) < 2147483629; decide, _, rfl, _, _, rfl, rfl, .inl ⟨by omega, by omega⟩, _, rfl, _, _, rfl, rfl, .inl ⟨by omega, by omega⟩, _, _, rfl, rfl, _, rfl, _, _, rfl, rfl, .inl ⟨by omega, by omega⟩, _, _, rfl, rfl, _, _, rfl, rfl, _, _, rfl, rfl, .inl ?_, .inl ⟨_, rfl, _, 2147483647, rfl, rfl, by show (0 : Int) < 2147483647; decide, ?_⟩⟩⟩
    · exact mixB hjj hk hk2
    · refine ⟨_, rfl, _, rfl, _, _, rfl, rfl, ⟨by decide, by decide, by decide⟩, _, _, rfl, rfl, .inr ⟨_, rfl, _, _, rfl, rfl, .inr (b01 _), _, rfl, by show 2 ≤ sizeLine; decide, fun p np => ?_⟩⟩
      refine q p _ np (Same.new np) ⟨_, _, upd_same, ?_, Int.emod_nonneg _ (by decide), Int.emod_lt_of_pos _ (by decide)⟩
      refine Int.mul_nonneg ?_ ?_
      · split <;> omega
      · exact b0 _
def sp__law_take (K : PySem.W.Frag) : Sp := fun vs H Q _ => ∃ (p : Addr) (t : Int), vs = [.ref p, .int t] ∧ Src H p ∧ 0 < t ∧ t < 1000000 ∧ ∀ r H', 0 ≤ r → r < t → Src H' p → Exb p H H' → Q (.int r) H'
theorem ok__law_take (F : Fun K "_law_take" "_law_take" s__law_take f fd) (T : Txt mg)  : FnOk P w K mg base CX0 1 f fd ["source", "top"] (sp__law_take K) := by
  refine F.ok sc__law_take (fun vs H Q E h => ?_) (fun cdv A outer s H vs Q E hr h => ?_)
  · obtain ⟨p, t, rfl, _⟩ := h
    rfl
  obtain ⟨p, t, rfl, ⟨a, b, hp, ha, hb, hb2⟩, ht, ht2, q⟩ := h
  refine ⟨_, (pss_cons (ps_if (pt_cmpR op_gt (pe_ix (ixL K) (pv 0) pe_int (fun _ _ => rfl)) pe_int (nomark _)) (pss_cons (ps_set (i := 2) sc__law_take.nd rfl (Or.inl rfl) (pe_op op_mod (pe_callTy call_int1 (by rfl) T.n_int (by decide +kernel) (pa_cons (pe_ix (ixL K) (pv 0) pe_int (fun _ _ => rfl)) pa_nil)) (pv 1)))
      (pss_cons (ps_asg (pe_op op_fdivW (pe_ix (ixL K) (pv 0) pe_int (fun _ _ => rfl)) (pv 1)) (pg_sub (pv 0) pe_int set_list))
      (pss_one (ps_ret (pv 2))))) pss_nil)
      (pss_cons (ps_asg (pe_op op_mod (pe_callTy call_int1 (by rfl) T.n_int (by decide +kernel) (pa_cons (pe_op op_add (pe_op op_mul (pe_ix (ixL K) (pv 0) pe_int (fun _ _ => rfl)) pe_int) pe_int) pa_nil)) pe_int) (pg_sub (pv 0) pe_int set_list))
      (pss_one (ps_ret (pe_op op_mod (pe_callTy call_int1 (by rfl) T.n_int (by decide +kernel) (pa_cons (pe_op op_fdivW (pe_op op_mod (pe_callTy call_int1 (by rfl) T.n_int (by decide +kernel) (pa_cons (pe_op op_mul (pe_ix (ixL K) (pv 0) pe_int (fun _ _ => rfl)) (pe_ix (ixL K) (pv 0) pe_int (fun _ _ => rfl))) pa_nil)) pe_int) pe_int) pa_nil)) (pv 1)))))), ?_⟩
  -- source[0] > 0
  refine ⟨.ref p, rfl, p, _, 0, .int a, rfl, rfl, SqL.of hp, atI0, a, 0, rfl, rfl, _, rfl, ite2 (fun c => ?_) (fun c => ?_)⟩
  · -- drawn = int(source[0]) % top; source[0] = source[0] // top; return drawn
    refine ⟨.ref p, rfl, p, _, 0, .int a, rfl, rfl, SqL.of hp, atI0, .inl ⟨a, rfl, .int t, rfl, a, t, rfl, rfl, ht, ?_⟩⟩
    refine ⟨.ref p, rfl, p, _, 0, .int a, rfl, rfl, SqL.of hp, atI0, .int t, rfl, a, t, rfl, rfl, wide_div (b := 64) ht (by omega) (by decide) (by decide), ?_⟩
    refine ⟨.ref p, rfl, p, _, 0, 0, rfl, rfl, hp, rfl, ?_⟩
    refine ⟨.int (a % t), rfl, ?_⟩
    exact q _ _ (Int.emod_nonneg _ (by omega)) (Int.emod_lt_of_pos _ ht) ⟨a / t, b, upd_same, Int.ediv_nonneg ha (by omega), hb, hb2⟩ Exb.at
  · refine ⟨.ref p, rfl, p, _, 1, .int b, rfl, rfl, SqL.of hp, atI1, b, 39373, rfl, rfl, .inl ⟨by omega, by omega⟩, _, 7, rfl, rfl, .inl ⟨_, rfl, _, 2147483647, rfl, rfl, by show (0 : Int) < 2147483647; decide, ?_⟩⟩
    refine ⟨.ref p, rfl, p, _, 1, 1, rfl, rfl, hp, rfl, ?_⟩
    have h1 : (0 : Int) ≤ (b * 39373 + 7) % 2147483647 := Int.emod_nonneg _ (by decide)
    have h2 : (b * 39373 + 7) % 2147483647 < 2147483647 := Int.emod_lt_of_pos _ (by decide)
    have hp2 : (upd H p (.lst [.int a, .int ((b * 39373 + 7) % 2147483647)])) p = some (.lst [.int a, .int ((b * 39373 + 7) % 2147483647)]) := upd_same
    refine ⟨.ref p, rfl, p, [.int a, .int ((b * 39373 + 7) % 2147483647)], 1, _, rfl, rfl, SqL.of hp2, atI1, .ref p, rfl, p, [.int a, .int ((b * 39373 + 7) % 2147483647)], 1, _, rfl, rfl, SqL.of hp2, atI1, _, _, rfl, rfl, .inl ⟨by omega, by omega⟩, ?_⟩
    refine .inl ⟨_, rfl, _, 2147483629, rfl, rfl, by show (0 : Int) < 2147483629; decide, _, 32, rfl, rfl, ⟨by decide, by decide⟩, .inl ⟨_, rfl, .int t, rfl, _, t, rfl, rfl, ht, ?_⟩⟩
    exact q _ _ (Int.emod_nonneg _ (by omega)) (Int.emod_lt_of_pos _ ht) ⟨a, _, hp2, ha, h1, h2⟩ Exb.at
def sp__law_one (K : PySem.W.Frag) : Sp := fun vs H Q _ => ∃ (p a : Addr) (xs : List V), vs = [.ref p, .ref a] ∧ Src H p ∧ H a = some (.lst xs) ∧ a ≠ p ∧ 0 < xs.length ∧ xs.length < 1000000 ∧ ∀ v H', v ∈ xs → Src H' p → Exb p H H' → Q v H'
theorem ok__law_one (F : Fun K "_law_one" "_law_one" s__law_one f fd) (T : Txt mg) (c__law_take : Cal P w K mg base CX0 1 "_law_take" ["source", "top"] s__law_take (sp__law_take K)) : FnOk P w K mg base CX0 2 f fd ["source", "things"] (sp__law_one K) := by
  refine F.ok sc__law_one (fun vs H Q E h => ?_) (fun cdv A outer s H vs Q E hr h => ?_)
  · obtain ⟨p, a, xs, rfl, _⟩ := h
    rfl
  obtain ⟨p, a, xs, rfl, hs, ha, hne, h0, h1, q⟩ := h
  refine ⟨_, (pss_one (ps_ret (pe_ix (ixL K) (pv 1) (pe_cal c__law_take (hr.mono (by decide)) pass0 (pa_cons (pv 0) (pa_cons (pe_callB (lenS K) (by rfl) T.n_len PySem.boot_len (pa_cons (pv 1) pa_nil)) pa_nil))) (fun _ _ => rfl)))), ?_⟩
  refine ⟨.ref a, rfl, .ref p, rfl, .ref a, rfl, a, xs, rfl, .inl (SqL.of ha), p, xs.length, rfl, hs, by omega, by omega, fun r H' r0 r1 s' e => ?_⟩
  obtain ⟨j, rfl⟩ : ∃ j : Nat, r = (j : Int) := ⟨r.toNat, by omega⟩
  have hj : j < xs.length := by omega
  refine ⟨a, xs, j, xs[j], rfl, rfl, SqL.of (e.lst hne ha), atI_nat (List.getElem?_eq_getElem hj), ?_⟩
  exact q _ _ (List.getElem_mem hj) s' e
def sp__law_rest (K : PySem.W.Frag) : Sp := fun vs H Q _ => ∃ (a : Addr) (ns : List Int), vs = [.ref a] ∧ SqT K H a (ns.map V.int) ∧ ns.length < 100000 ∧ ∀ p H', Same H H' → SqT K H' p ((strk ns).map V.int) → Q (.ref p) H'
theorem ok__law_rest (F : Fun K "_law_rest" "_law_rest" s__law_rest f fd) (T : Txt mg)  : FnOk P w K mg base CX0 1 f fd ["row"] (sp__law_rest K) := by
  refine F.ok sc__law_rest (fun vs H Q E h => ?_) (fun cdv A outer s H vs Q E hr h => ?_)
  · obtain ⟨a, ns, rfl, _⟩ := h
    rfl
  obtain ⟨a, ns, rfl, hS, hlen, q⟩ := h
  refine ⟨_, (pss_cons (ps_set (i := 1) sc__law_rest.nd rfl (Or.inl rfl) (pe_lst pa_nil))
      (pss_cons (ps_for PassesOwn.never rfl (piT K (pv 0)) (pg_name (i := 2) sc__law_rest.nd rfl (Or.inl rfl)) (pss_one (ps_if (PW.pt (pw_and (pt_cmpR op_gt (pe_callB (lenS K) (by rfl) T.n_len PySem.boot_len (pa_cons (pv 1) pa_nil)) pe_int (nomark _)) (pw_and1 (pt_cmpR op_eq (pe_ix (ixL K) (pv 1) (pe_un un_neg pe_int) (fun _ _ => rfl)) (pv 2) (nomark _))))) (pss_one (ps_expr (pe_bm0 PySem.F.plainAttrs_list PySem.F.slot_list_pop PySem.F.type_list_pop mt_pop (pv 1)))) (pss_one (ps_expr (pe_bm PySem.F.plainAttrs_list PySem.F.slot_list_append PySem.F.type_list_append mt_append (pv 1) (pa_cons (pv 2) pa_nil)))))))
      (pss_one (ps_ret (pe_callTy (tupOf K) (by rfl) T.n_tuple (by decide +kernel) (pa_cons (pv 1) pa_nil)))))), ?_⟩
  refine ⟨Nat.zero_le _, fun l nl => ?_⟩
  refine ⟨.ref a, rfl, a, rfl, ⟨_, (Same.new nl).tup hS⟩, for_tup (xs := ns.map V.int) (fun i σ H' => (∃ y, σ = [some (.ref a), some (.ref l), y]) ∧ Same H H' ∧ H' l = some (.lst ((strk (ns.take i)).map V.int)))
    ⟨⟨_, rfl⟩, Same.new nl, upd_same⟩ (fun i σ H' _ h => h.2.1.tup hS) ?_ ?_⟩
  · rintro i x σ H1 hi ⟨⟨y, rfl⟩, sm, hl⟩
    obtain ⟨hi2, rfl⟩ := num_map i ns x hi
    have hst : strk (ns.take (i + 1)) = stp (strk (ns.take i)) ns[i] := by
      unfold strk
      rw [List.take_add_one, List.getElem?_eq_getElem hi2, List.foldl_append]
      rfl
    have hz : (strk (ns.take i)).length ≤ i := Nat.le_trans (strk_len _) (by rw [List.length_take]; omega)
    generalize strk (ns.take i) = st at hl hst hz
    refine ⟨.ref l, rfl, l, _, rfl, .inl (SqL.of hl), _, 1, rfl, rfl, _, rfl, ?_⟩
    by_cases h1 : st.length > 1
    · refine itT (decide_eq_true (by rw [List.length_map]; omega)) ?_
      have g : (st.map V.int)[st.length - 2]? = some (.int (st[st.length - 2]'(by omega))) := by
        rw [List.getElem?_map, List.getElem?_eq_getElem (by omega)]
        rfl
      refine ⟨.ref l, rfl, 2, rfl, l, _, _, _, rfl, rfl, SqL.of hl, atNeg g (by rw [List.length_map]; omega), _, rfl, rfl, _, rfl, ite2 (fun e => ?_) (fun e => ?_)⟩
      · have e' : st[st.length - 2]? = some ns[i] := by
          rw [List.getElem?_eq_getElem (by omega)]
          exact congrArg some (V.int.inj (of_decide_eq_true e))
        refine ⟨.ref l, rfl, .inl ⟨rfl, _, SqL.of hl⟩, l, _, .int (st[st.length - 1]'(by omega)), rfl, rfl, hl, ?_, ?_⟩
        · rw [List.length_map, List.getElem?_map, List.getElem?_eq_getElem (by omega)]
          rfl
        · refine ⟨⟨_, rfl⟩, sm.mut nl, ?_⟩
          rw [upd_same, hst, stp, if_pos ⟨h1, e'⟩, List.map_dropLast]
      · have e' : ¬ st[st.length - 2]? = some ns[i] := fun z => by
          rw [List.getElem?_eq_getElem (by omega)] at z
          exact e (decide_eq_true (congrArg V.int (Option.some.inj z)))
        refine ⟨.ref l, rfl, .inl ⟨rfl, _, SqL.of hl⟩, _, rfl, l, _, _, rfl, rfl, hl, smallLt (by rw [List.length_map]; omega), ?_⟩
        refine ⟨⟨_, rfl⟩, sm.mut nl, ?_⟩
        rw [upd_same, hst, stp, if_neg (fun z => e' z.2), List.map_append]
        rfl
    · refine itF (decide_eq_false (by rw [List.length_map]; omega)) ?_
      refine iteF ?_
      refine ⟨.ref l, rfl, .inl ⟨rfl, _, SqL.of hl⟩, _, rfl, l, _, _, rfl, rfl, hl, smallLt (by rw [List.length_map]; omega), ?_⟩
      refine ⟨⟨_, rfl⟩, sm.mut nl, ?_⟩
      rw [upd_same, hst, stp, if_neg (fun z => h1 z.1), List.map_append]
      rfl
  · rintro σ H' ⟨⟨y, rfl⟩, sm, hl⟩
    rw [List.length_map, List.take_length] at hl
    refine ⟨.ref l, rfl, l, _, rfl, .inl ⟨SqL.of hl, fun p np => ?_⟩⟩
    exact q p _ (sm.trans (Same.new np)) (SqT.of upd_same)
def sp__law_drawn (K : PySem.W.Frag) : Sp := fun vs H Q _ => ∃ (p : Addr) (c n : Int), vs = [.ref p, .int c, .int n] ∧ Src H p ∧ 0 ≤ c ∧ c ≤ 7 ∧ 1 ≤ n ∧ n ≤ 8 ∧ ∀ a ns H', Row ns → ns.head? = some c → Src H' p → Exb p H H' → SqT K H' a (ns.map V.int) → Q (.ref a) H'
theorem ok__law_drawn (F : Fun K "_law_drawn" "_law_drawn" s__law_drawn f fd) (T : Txt mg) (c__law_take : Cal P w K mg base CX0 1 "_law_take" ["source", "top"] s__law_take (sp__law_take K)) (c__law_one : Cal P w K mg base CX0 2 "_law_one" ["source", "things"] s__law_one (sp__law_one K)) : FnOk P w K mg base CX0 3 f fd ["source", "first", "coats"] (sp__law_drawn K) := by
  refine F.ok sc__law_drawn (fun vs H Q E h => ?_) (fun cdv A outer s H vs Q E hr h => ?_)
  · obtain ⟨p, c, n, rfl, _⟩ := h
    rfl
  obtain ⟨p, c0, n, rfl, hs, c1, c2, n1, n2, q⟩ := h
  refine ⟨_, (pss_cons (ps_set (i := 3) sc__law_drawn.nd rfl (Or.inl rfl) (pe_cal c__law_one (hr.mono (by decide)) pass0 (pa_cons (pv 0) (pa_cons (pe_lst (pa_cons pe_int (pa_cons pe_int (pa_cons pe_int (pa_cons pe_int (pa_cons pe_int (pa_cons pe_int pa_nil))))))) pa_nil))))
      (Evl.pss_cut (ps_if (pt_cmpR op_eq (pe_cal c__law_take (hr.mono (by decide)) pass0 (pa_cons (pv 0) (pa_cons pe_int pa_nil))) pe_int (nomark _)) (pss_one (ps_set (i := 3) sc__law_drawn.nd rfl (Or.inl rfl) pe_int)) pss_nil)
      (pss_cons (ps_set (i := 4) sc__law_drawn.nd rfl (Or.inl rfl) (pe_lst (pa_cons (pv 1) pa_nil)))
      (pss_cons (ps_while PassesOwn.never (pt_cmpR op_lt (pe_callB (lenS K) (by rfl) T.n_len PySem.boot_len (pa_cons (pv 4) pa_nil)) (pv 3) (nomark _)) (pss_one (ps_expr (pe_bm PySem.F.plainAttrs_list PySem.F.slot_list_append PySem.F.type_list_append mt_append (pv 4) (pa_cons (pe_ifExp (PW.pt (pw_and (pt_cmpR op_gt (pe_callB (lenS K) (by rfl) T.n_len PySem.boot_len (pa_cons (pv 4) pa_nil)) pe_int (nomark _)) (pw_and1 (pt_cmpR op_eq (pe_cal c__law_take (hr.mono (by decide)) pass0 (pa_cons (pv 0) (pa_cons pe_int pa_nil))) pe_int (nomark _))))) (pe_ix (ixL K) (pv 4) (pe_un un_neg pe_int) (fun _ _ => rfl)) (pe_cal c__law_take (hr.mono (by decide)) pass0 (pa_cons (pv 0) (pa_cons (pv 2) pa_nil)))) pa_nil)))))
      (pss_one (ps_ret (pe_callTy (tupOf K) (by rfl) T.n_tuple (by decide +kernel) (pa_cons (pv 4) pa_nil)))))))), ?_⟩
  refine ⟨.ref p, rfl, small (by show 6 ≤ 1000000; decide), fun a na => ?_⟩
  refine ⟨p, a, _, rfl, hs.put (hs.ne na), upd_same, hs.ne na, by show 0 < 6; decide, by show 6 < 1000000; decide, fun v H1 hv s1 e1 => ?_⟩
  have hm : ∃ m : Int, v = .int m ∧ 1 ≤ m ∧ m ≤ 200 := by
    simp only [List.mem_cons, List.not_mem_nil, or_false] at hv
    rcases hv with rfl | rfl | rfl | rfl | rfl | rfl <;> exact ⟨_, rfl, by decide, by decide⟩
  obtain ⟨m, rfl, m1, m2⟩ := hm
  have e1 : Exb p H H1 := (Exb.new na).trans e1
  refine ⟨fun σ' H' => ∃ m : Int, σ' = [some (.ref p), some (.int c0), some (.int n), some (.int m), none] ∧ 1 ≤ m ∧ m ≤ 200 ∧ Src H' p ∧ Exb p H H', ?_, ?_⟩
  · refine ⟨.ref p, rfl, p, 60, rfl, s1, by decide, by decide, fun r H3 r0 r1 s3 e3 => ⟨rfl, _, rfl, ite2 (fun c => ?_) (fun c => ?_)⟩⟩
    · exact ⟨200, rfl, by omega, by omega, s3, e1.trans e3⟩
    · exact ⟨m, rfl, m1, m2, s3, e1.trans e3⟩
  rintro σ' H4 ⟨m, rfl, m1, m2, s4, e4⟩
  refine ⟨.int c0, rfl, small (by show 1 ≤ 1000000; decide), fun l nl => ?_⟩
  refine ⟨fun k σ' H' => ∃ (l : Addr) (ns : List Int), σ' = [some (.ref p), some (.int c0), some (.int n), some (.int m), some (.ref l)] ∧ H l = none ∧ l ≠ p ∧ H' l = some (.lst (ns.map V.int)) ∧ Src H' p ∧ Exb p H H' ∧ 1 ≤ ns.length ∧ (ns.length : Int) ≤ 200 ∧ (∀ c ∈ ns, 0 ≤ c ∧ c ≤ 7) ∧ ns.head? = some c0 ∧ k = 200 - ns.length,
    ⟨199, l, [c0], rfl, e4.fresh (s4.ne nl) nl, s4.ne nl, upd_same, s4.put (s4.ne nl), e4.trans (Exb.new nl), by show 1 ≤ 1; decide, by show ((1 : Nat) : Int) ≤ 200; decide, ?_, rfl, rfl⟩, ?_⟩
  · intro c hc
    rw [List.mem_singleton.mp hc]
    exact ⟨c1, c2⟩
  rintro k σ' H5 ⟨l, ns, rfl, nl, nlp, hl, s5, e5, z1, z2, hc, hh, rfl⟩
  have hlen : ((ns.map V.int).length : Int) = ns.length := by rw [List.length_map]
  refine ⟨.ref l, rfl, l, _, rfl, .inl (SqL.of hl), .int m, rfl, _, _, rfl, rfl, _, rfl, ite2 (fun c => ?_) (fun c => ?_)⟩
  · have zm : (ns.length : Int) < m := by
      have := of_decide_eq_true c
      omega
    refine ⟨fun σ2 H2 => ∃ (l : Addr) (ns2 : List Int), σ2 = [some (.ref p), some (.int c0), some (.int n), some (.int m), some (.ref l)] ∧ H l = none ∧ l ≠ p ∧ H2 l = some (.lst (ns2.map V.int)) ∧ Src H2 p ∧ Exb p H H2 ∧ ns.length < ns2.length ∧ (ns2.length : Int) ≤ 200 ∧ (∀ c ∈ ns2, 0 ≤ c ∧ c ≤ 7) ∧ ns2.head? = some c0, fun σ2 H2 h => ?_, ?_⟩
    · obtain ⟨l, ns2, e, a1, a2, a3, a4, a5, a6, a7, a8, a9⟩ := h
      exact ⟨200 - ns2.length, by omega, l, ns2, e, a1, a2, a3, a4, a5, by omega, a7, a8, a9, rfl⟩
    have more : ∀ (x : Int) (H' : Hp), 0 ≤ x → x ≤ 7 → H' l = some (.lst (ns.map V.int)) → Src H' p → Exb p H H' →
        ∃ (l' : Addr) (ns2 : List Int), [some (V.ref p), some (.int c0), some (.int n), some (.int m), some (.ref l)] = [some (V.ref p), some (.int c0), some (.int n), some (.int m), some (.ref l')] ∧ H l' = none ∧ l' ≠ p ∧
          (upd H' l (.lst (ns.map V.int ++ [.int x]))) l' = some (.lst (ns2.map V.int)) ∧ Src (upd H' l (.lst (ns.map V.int ++ [.int x]))) p ∧ Exb p H (upd H' l (.lst (ns.map V.int ++ [.int x]))) ∧ ns.length < ns2.length ∧ (ns2.length : Int) ≤ 200 ∧ (∀ c ∈ ns2, 0 ≤ c ∧ c ≤ 7) ∧ ns2.head? = some c0 := fun x H' x0 x1 hl s e => by
      refine ⟨l, ns ++ [x], rfl, nl, nlp, by rw [upd_same, List.map_append]; rfl, s.put nlp, e.mut nl, ?_, ?_, fun c hc' => ?_, ?_⟩
      · rw [List.length_append]; exact Nat.lt_succ_self _
      · rw [List.length_append]; show ((ns.length + 1 : Nat) : Int) ≤ 200; omega
      · rcases List.mem_append.mp hc' with h | h
        · exact hc c h
        · rw [List.mem_singleton.mp h]; exact ⟨x0, x1⟩
      · cases ns with
        | nil => exact absurd z1 (by decide)
        | cons y ns => exact hh
    have hat : ∀ i, (hi : i < ns.length) → (ns.map V.int)[i]? = some (.int ns[i]) := fun i hi => by
      rw [List.getElem?_map, List.getElem?_eq_getElem hi]
      rfl
    have hin : ∀ i, (hi : i < ns.length) → 0 ≤ ns[i] ∧ ns[i] ≤ 7 := fun i hi => hc _ (List.getElem_mem hi)
    have hsz : (ns.map V.int).length < sizeLine := smallLt (by rw [List.length_map]; omega)
    refine ⟨.ref l, rfl, .inl ⟨rfl, _, SqL.of hl⟩, .ref l, rfl, l, _, rfl, .inl (SqL.of hl), _, 1, rfl, rfl, _, rfl, ite2 (fun c2 => ?_) (fun c2 => ?_)⟩
    · have c2' := of_decide_eq_true c2
      refine ⟨.ref p, rfl, p, 3, rfl, s5, by decide, by decide, fun w H6 w0 w1 s6 e6 => ⟨rfl, _, rfl, ite2 (fun c3 => ?_) (fun c3 => ?_)⟩⟩
      · have hl6 : H6 l = some (.lst (ns.map V.int)) := e6.lst nlp hl
        refine ⟨.ref l, rfl, 2, rfl, l, _, _, _, rfl, rfl, SqL.of hl6, atNeg (hat (ns.length - 2) (by omega)) (by rw [List.length_map]; omega), l, _, _, rfl, rfl, hl6, hsz, ?_⟩
        exact more _ _ (hin _ _).1 (hin _ _).2 hl6 s6 (e5.trans e6)
      · refine ⟨.ref p, rfl, .int n, rfl, p, n, rfl, s6, by omega, by omega, fun r H7 r0 r1 s7 e7 => ?_⟩
        have hl7 : H7 l = some (.lst (ns.map V.int)) := e7.lst nlp (e6.lst nlp hl)
        refine ⟨l, _, _, rfl, rfl, hl7, hsz, ?_⟩
        exact more _ _ r0 (by omega) hl7 s7 ((e5.trans e6).trans e7)
    · refine iteF ?_
      refine ⟨.ref p, rfl, .int n, rfl, p, n, rfl, s5, by omega, by omega, fun r H7 r0 r1 s7 e7 => ?_⟩
      have hl7 : H7 l = some (.lst (ns.map V.int)) := e7.lst nlp hl
      refine ⟨l, _, _, rfl, rfl, hl7, hsz, ?_⟩
      exact more _ _ r0 (by omega) hl7 s7 (e5.trans e7)
  · refine ⟨.ref l, rfl, l, _, rfl, .inl ⟨SqL.of hl, fun a na => ?_⟩⟩
    exact q a ns _ ⟨z1, by omega, hc⟩ hh (s5.put (s5.ne na)) (e5.trans (Exb.new na)) (SqT.of upd_same)
def sp__law_common (K : PySem.W.Frag) : Sp := fun vs H Q _ => ∃ (a b : Addr) (ns ms : List Int), vs = [.ref a, .ref b] ∧ SqT K H a (ns.map V.int) ∧ SqT K H b (ms.map V.int) ∧ ∀ H', Same H H' → Q (.int ((ns.length : Int) + ms.length - 2 * lcp ns ms)) H'
theorem ok__law_common (F : Fun K "_law_common" "_law_common" s__law_common f fd) (T : Txt mg)  : FnOk P w K mg base CX0 1 f fd ["one", "two"] (sp__law_common K) := by
  refine F.ok sc__law_common (fun vs H Q E h => ?_) (fun cdv A outer s H vs Q E hr h => ?_)
  · obtain ⟨a, b, ns, ms, rfl, _⟩ := h
    rfl
  obtain ⟨a, b, ns, ms, rfl, ha, hb, q⟩ := h
  refine ⟨_, (pss_cons (ps_set (i := 2) sc__law_common.nd rfl (Or.inl rfl) pe_int)
      (pss_cons (ps_while PassesOwn.never (PW.pt (pw_and (pt_cmpR op_lt (pv 2) (pe_callB (call_min2 rfl) (by rfl) T.n_min (by decide +kernel) (pa_cons (pe_callB (lenS K) (by rfl) T.n_len PySem.boot_len (pa_cons (pv 0) pa_nil)) (pa_cons (pe_callB (lenS K) (by rfl) T.n_len PySem.boot_len (pa_cons (pv 1) pa_nil)) pa_nil))) (nomark _)) (pw_and1 (pt_cmpR op_eq (pe_ix (ixT K) (pv 0) (pv 2) (fun _ _ => rfl)) (pe_ix (ixT K) (pv 1) (pv 2) (fun _ _ => rfl)) (nomark _))))) (pss_one (ps_set (i := 2) sc__law_common.nd rfl (Or.inl rfl) (pe_op op_add (pv 2) pe_int))))
      (pss_one (ps_ret (pe_op op_sub (pe_op op_add (pe_callB (lenS K) (by rfl) T.n_len PySem.boot_len (pa_cons (pv 0) pa_nil)) (pe_callB (lenS K) (by rfl) T.n_len PySem.boot_len (pa_cons (pv 1) pa_nil))) (pe_op op_mul pe_int (pv 2))))))), ?_⟩
  refine ⟨fun m σ' H' => ∃ k : Nat, σ' = [some (.ref a), some (.ref b), some (.int k)] ∧ H' = H ∧ k ≤ ns.length ∧ k ≤ ms.length ∧ lcp ns ms = k + lcp (ns.drop k) (ms.drop k) ∧ m = ns.length - k, ⟨_, 0, rfl, rfl, Nat.zero_le _, Nat.zero_le _, by rw [List.drop_zero, List.drop_zero, Nat.zero_add], rfl⟩, ?_⟩
  rintro m σ' H' ⟨k, rfl, rfl, k1, k2, hl, rfl⟩
  have fin : lcp (ns.drop k) (ms.drop k) = 0 → tRet (tOp (rI0 fun i j => V.int (i - j)) (tOp (rI0 fun i j => V.int (i + j)) (tCB (Evl.rLenS K) (tCons (tVar 0) tNil)) (tCB (Evl.rLenS K) (tCons (tVar 1) tNil))) (tOp (rI (fun i j => (-(2 ^ 64) < i ∧ i < 2 ^ 64) ∨ (-(2 ^ 64) < j ∧ j < 2 ^ 64)) fun i j => V.int (i * j)) (tC (V.int 2)) (tVar 2))) { nx := fun _ H' => Q .non H', rt := Q } [some (.ref a), some (.ref b), some (.int k)] H' := fun hz => by
    refine ⟨.ref a, rfl, a, _, rfl, .inr ha, .ref b, rfl, b, _, rfl, .inr hb, _, _, rfl, rfl, _, rfl, _, _, rfl, rfl, .inl ⟨by decide, by decide⟩, _, _, rfl, rfl, ?_⟩
    rw [List.length_map, List.length_map]
    have := q H' (Same.refl _)
    rw [hl, hz, Nat.add_zero] at this
    exact this
  refine ⟨.int k, rfl, .ref a, rfl, a, _, rfl, .inr ha, .ref b, rfl, b, _, rfl, .inr hb, _, _, rfl, _, _, rfl, rfl, _, rfl, ite2 (fun c => ?_) (fun c => ?_)⟩
  · have c' := of_decide_eq_true c
    rw [List.length_map, List.length_map] at c'
    have h1 : k < ns.length := by
      by_cases z : (ms.length : Int) < ns.length
      · rw [if_pos z] at c'; omega
      · rw [if_neg z] at c'; omega
    have h2 : k < ms.length := by
      by_cases z : (ms.length : Int) < ns.length
      · rw [if_pos z] at c'; omega
      · rw [if_neg z] at c'; omega
    have g1 : (ns.map V.int)[k]? = some (.int ns[k]) := by rw [List.getElem?_map, List.getElem?_eq_getElem h1]; rfl
    have g2 : (ms.map V.int)[k]? = some (.int ms[k]) := by rw [List.getElem?_map, List.getElem?_eq_getElem h2]; rfl
    have d1 : ns.drop k = ns[k] :: ns.drop (k + 1) := List.drop_eq_getElem_cons h1
    have d2 : ms.drop k = ms[k] :: ms.drop (k + 1) := List.drop_eq_getElem_cons h2
    refine ⟨.ref a, rfl, .int k, rfl, a, _, k, _, rfl, rfl, ha, atI_nat g1, .ref b, rfl, .int k, rfl, b, _, k, _, rfl, rfl, hb, atI_nat g2, rfl, _, rfl, ite2 (fun c3 => ?_) (fun c3 => ?_)⟩
    · have c4 : ns[k] = ms[k] := V.int.inj (of_decide_eq_true c3)
      refine ⟨fun σ2 H2 => σ2 = [some (.ref a), some (.ref b), some (.int ((k : Int) + 1))] ∧ H2 = H', fun σ2 H2 h => ?_, ?_⟩
      · refine ⟨ns.length - (k + 1), by omega, k + 1, by rw [h.1]; rfl, h.2, h1, h2, ?_, rfl⟩
        rw [hl, d1, d2, lcp_eq c4]
        omega
      · exact ⟨.int k, rfl, _, _, rfl, rfl, rfl, rfl⟩
    · refine fin ?_
      rw [d1, d2]
      exact lcp_ne fun z => c3 (decide_eq_true (congrArg V.int z))
  · refine iteF (fin ?_)
    have c' : ¬ (k : Int) < (if ((ms.map V.int).length : Int) < (ns.map V.int).length then ((ms.map V.int).length : Int) else (ns.map V.int).length) := fun z => c (decide_eq_true z)
    rw [List.length_map, List.length_map] at c'
    by_cases z : (ms.length : Int) < ns.length
    · rw [if_pos z] at c'
      rw [List.drop_eq_nil_of_le (as := ms) (by omega)]
      exact lcp_nil _
    · rw [if_neg z] at c'
      rw [List.drop_eq_nil_of_le (as := ns) (by omega)]
      cases ms.drop k <;> rfl
def sp__law_right (K : PySem.W.Frag) : Sp := fun vs H Q _ => ∃ (p : Addr), vs = [.ref p] ∧ Src H p ∧ ∀ H', Exb p H H' → Q (.bl true) H'
theorem ok__law_right (F : Fun K "_law_right" "_law_right" s__law_right f fd) (T : Txt mg) (c_rest : Cal P w K mg base CX0 2 "rest" ["row"] s_rest (sp_rest K)) (c_back : Cal P w K mg base CX0 2 "back" ["row"] s_back (sp_back K)) (c_joined : Cal P w K mg base CX0 3 "joined" ["one", "two"] s_joined (sp_joined K)) (c_gap : Cal P w K mg base CX0 4 "gap" ["one", "two"] s_gap (sp_gap K)) (c__law_take : Cal P w K mg base CX0 1 "_law_take" ["source", "top"] s__law_take (sp__law_take K)) (c__law_rest : Cal P w K mg base CX0 1 "_law_rest" ["row"] s__law_rest (sp__law_rest K)) (c__law_drawn : Cal P w K mg base CX0 3 "_law_drawn" ["source", "first", "coats"] s__law_drawn (sp__law_drawn K)) (c__law_common : Cal P w K mg base CX0 1 "_law_common" ["one", "two"] s__law_common (sp__law_common K)) : FnOk P w K mg base CX0 5 f fd ["source"] (sp__law_right K) := by
  refine F.ok sc__law_right (fun vs H Q E h => ?_) (fun cdv A outer s H vs Q E hr h => ?_)
  · obtain ⟨p, rfl, _⟩ := h
    rfl
  obtain ⟨p, rfl, hs, q⟩ := h
  refine ⟨_, (pss_cons (ps_set (i := 1) sc__law_right.nd rfl (Or.inl rfl) (pe_op op_add pe_int (pe_cal c__law_take (hr.mono (by decide)) pass0 (pa_cons (pv 0) (pa_cons pe_int pa_nil)))))
      (pss_cons (ps_set (i := 2) sc__law_right.nd rfl (Or.inl rfl) (pe_cal c__law_drawn (hr.mono (by decide)) pass0 (pa_cons (pv 0) (pa_cons (pe_cal c__law_take (hr.mono (by decide)) pass0 (pa_cons (pv 0) (pa_cons (pv 1) pa_nil))) (pa_cons (pv 1) pa_nil)))))
      (pss_cons (ps_set (i := 3) sc__law_right.nd rfl (Or.inl rfl) (pe_cal c__law_drawn (hr.mono (by decide)) pass0 (pa_cons (pv 0) (pa_cons (pe_ix (ixT K) (pv 2) (pe_un un_neg pe_int) (fun _ _ => rfl)) (pa_cons (pv 1) pa_nil)))))
      (pss_cons (ps_set (i := 4) sc__law_right.nd rfl (Or.inl rfl) (pe_cal c__law_drawn (hr.mono (by decide)) pass0 (pa_cons (pv 0) (pa_cons (pe_ix (ixT K) (pv 3) (pe_un un_neg pe_int) (fun _ _ => rfl)) (pa_cons (pv 1) pa_nil)))))
      (pss_cons (ps_set (i := 5) sc__law_right.nd rfl (Or.inl rfl) (pe_cal c__law_rest (hr.mono (by decide)) pass0 (pa_cons (pe_op (catA K) (pv 2) (pe_slice (slT K) (pv 3) (po_some pe_int) poN)) pa_nil)))
      (pss_cons (ps_if (PW.pt (pw_or (pt_cmpR (neD K hr.units) (pe_cal c_joined (hr.mono (by decide)) pass0 (pa_cons (pv 2) (pa_cons (pv 3) pa_nil))) (pv 5) (nomark _)) (pw_or1 (pt_cmpR (neD K hr.units) (pe_calK0 c_joined kb_joined_two_one (hr.mono (by decide)) pass0 (pk_cons (pe_cal c_rest (hr.mono (by decide)) pass0 (pa_cons (pv 3) pa_nil)) (pk_cons (pe_cal c_rest (hr.mono (by decide)) pass0 (pa_cons (pv 2) pa_nil)) pk_nil))) (pv 5) (nomark _))))) (pss_one (ps_ret pe_bl)) pss_nil)
      (pss_cons (ps_set (i := 6) sc__law_right.nd rfl (Or.inl rfl) (pe_cal c__law_rest (hr.mono (by decide)) pass0 (pa_cons (pe_op (catA K) (pe_op (catA K) (pv 2) (pe_slice (slT K) (pv 3) (po_some pe_int) poN)) (pe_slice (slT K) (pv 4) (po_some pe_int) poN)) pa_nil)))
      (Evl.pss_cut (ps_if (pt_cmpR op_lt (pe_op op_add (pe_op op_add (pe_callB (lenS K) (by rfl) T.n_len PySem.boot_len (pa_cons (pv 2) pa_nil)) (pe_callB (lenS K) (by rfl) T.n_len PySem.boot_len (pa_cons (pv 3) pa_nil))) (pe_callB (lenS K) (by rfl) T.n_len PySem.boot_len (pa_cons (pv 4) pa_nil))) pe_int (nomark _)) (pss_cons (ps_if (PW.pt (pw_or (pt_cmpR (neD K hr.units) (pe_cal c_joined (hr.mono (by decide)) pass0 (pa_cons (pe_cal c_joined (hr.mono (by decide)) pass0 (pa_cons (pv 2) (pa_cons (pv 3) pa_nil))) (pa_cons (pv 4) pa_nil))) (pv 6) (nomark _)) (pw_or1 (pt_cmpR (neD K hr.units) (pe_cal c_joined (hr.mono (by decide)) pass0 (pa_cons (pv 2) (pa_cons (pe_cal c_joined (hr.mono (by decide)) pass0 (pa_cons (pv 3) (pa_cons (pv 4) pa_nil))) pa_nil))) (pv 6) (nomark _))))) (pss_one (ps_ret pe_bl)) pss_nil)
      (pss_one (ps_if (pt_cmpR (neD K hr.units) (pe_cal c_joined (hr.mono (by decide)) pass0 (pa_cons (pe_cal c_back (hr.mono (by decide)) pass0 (pa_cons (pe_cal c_rest (hr.mono (by decide)) pass0 (pa_cons (pv 2) pa_nil)) pa_nil)) (pa_cons (pe_cal c_joined (hr.mono (by decide)) pass0 (pa_cons (pv 2) (pa_cons (pv 3) pa_nil))) pa_nil))) (pe_cal c_rest (hr.mono (by decide)) pass0 (pa_cons (pv 3) pa_nil)) (nomark _)) (pss_one (ps_ret pe_bl)) pss_nil))) pss_nil)
      (pss_cons (ps_if (PW.pt (pw_or (pt_cmpR (neD K hr.units) (pe_cal c_joined (hr.mono (by decide)) pass0 (pa_cons (pv 2) (pa_cons (pe_cal c_back (hr.mono (by decide)) pass0 (pa_cons (pv 2) pa_nil)) pa_nil))) (pe_slice (slT K) (pv 2) poN (po_some pe_int)) (nomark _)) (pw_or1 (pt_cmpR (neD K hr.units) (pe_cal c_joined (hr.mono (by decide)) pass0 (pa_cons (pe_cal c_back (hr.mono (by decide)) pass0 (pa_cons (pv 2) pa_nil)) (pa_cons (pv 2) pa_nil))) (pe_slice (slT K) (pv 2) (po_some (pe_un un_neg pe_int)) poN) (nomark _))))) (pss_one (ps_ret pe_bl)) pss_nil)
      (pss_cons (ps_set (i := 7) sc__law_right.nd rfl (Or.inl rfl) (pe_slice (slT K) (pv 2) poN (po_some (pe_op op_add pe_int (pe_cal c__law_take (hr.mono (by decide)) pass0 (pa_cons (pv 0) (pa_cons (pe_callB (lenS K) (by rfl) T.n_len PySem.boot_len (pa_cons (pv 2) pa_nil)) pa_nil)))))))
      (pss_cons (ps_set (i := 7) sc__law_right.nd rfl (Or.inl rfl) (pe_op (catA K) (pv 7) (pe_cal c__law_drawn (hr.mono (by decide)) pass0 (pa_cons (pv 0) (pa_cons (pe_cal c__law_take (hr.mono (by decide)) pass0 (pa_cons (pv 0) (pa_cons (pv 1) pa_nil))) (pa_cons (pv 1) pa_nil))))))
      (pss_cons (ps_set (i := 7) sc__law_right.nd rfl (Or.inl rfl) (pe_slice (slT K) (pv 7) poN (po_some pe_int)))
      (pss_cons (ps_set (i := 8) sc__law_right.nd rfl (Or.inl rfl) (pe_cal c_gap (hr.mono (by decide)) pass0 (pa_cons (pv 2) (pa_cons (pv 7) pa_nil))))
      (pss_cons (ps_if (PW.pt (pw_or (pt_cmpR op_ne (pv 8) (pe_op op_sub (pe_callB (lenS K) (by rfl) T.n_len PySem.boot_len (pa_cons (pe_cal c__law_rest (hr.mono (by decide)) pass0 (pa_cons (pe_op (catA K) (pe_revT (pv 2)) (pe_slice (slT K) (pv 7) (po_some pe_int) poN)) pa_nil)) pa_nil)) pe_int) (nomark _)) (pw_or1 (pt_cmpR op_ne (pv 8) (pe_cal c__law_common (hr.mono (by decide)) pass0 (pa_cons (pe_cal c__law_rest (hr.mono (by decide)) pass0 (pa_cons (pv 2) pa_nil)) (pa_cons (pe_cal c__law_rest (hr.mono (by decide)) pass0 (pa_cons (pv 7) pa_nil)) pa_nil))) (nomark _))))) (pss_one (ps_ret pe_bl)) pss_nil)
      (pss_one (ps_ret (pe_and (pe_cmpR op_eq (pe_calK0 c_gap kb_gap_two_one (hr.mono (by decide)) pass0 (pk_cons (pv 2) (pk_cons (pv 7) pk_nil))) (pv 8) (nomark _)) (pe_and (pe_cmpR op_eq (pe_cal c_gap (hr.mono (by decide)) pass0 (pa_cons (pv 2) (pa_cons (pv 2) pa_nil))) pe_int (nomark _)) (pe_one (pe_cmpR op_eq (pe_cal c_gap (hr.mono (by decide)) pass0 (pa_cons (pe_slice (slT K) (pv 2) poN (po_some pe_int)) (pa_cons (pv 2) pa_nil))) (pe_op op_sub (pe_callB (lenS K) (by rfl) T.n_len PySem.boot_len (pa_cons (pe_cal c_rest (hr.mono (by decide)) pass0 (pa_cons (pv 2) pa_nil)) pa_nil)) pe_int) (nomark _))))))))))))))))))))), ?_⟩
  refine ⟨.ref p, rfl, p, 8, rfl, hs, by decide, by decide, fun n0 H1 n1 n2 s1 e1 => ⟨1, n0, rfl, rfl, ?_⟩⟩
  -- one, two, three
  refine ⟨.ref p, rfl, .ref p, rfl, .int (1 + n0), rfl, p, 1 + n0, rfl, s1, by omega, by omega, fun f0 H2 f1 f2 s2 e2 => ⟨.int (1 + n0), rfl, p, f0, 1 + n0, rfl, s2, f1, by omega, by omega, by omega, fun a1 r1 H3 R1 hd1 s3 e3 t1 => ?_⟩⟩
  obtain ⟨l1, k1, b1, b2⟩ := R1.last
  refine ⟨.ref p, rfl, .ref a1, rfl, 1, rfl, a1, _, _, .int l1, rfl, rfl, t1, atLastI k1, .int (1 + n0), rfl, p, l1, 1 + n0, rfl, s3, b1, b2, by omega, by omega, fun a2 r2 H4 R2 hd2 s4 e4 t2 => ?_⟩
  obtain ⟨l2, k2, b3, b4⟩ := R2.last
  refine ⟨.ref p, rfl, .ref a2, rfl, 1, rfl, a2, _, _, .int l2, rfl, rfl, t2, atLastI k2, .int (1 + n0), rfl, p, l2, 1 + n0, rfl, s4, b3, b4, by omega, by omega, fun a3 r3 H5 R3 hd3 s5 e5 t3 => ?_⟩
  obtain ⟨l3, k3, _, _⟩ := R3.last
  have t2 : SqT K H5 a2 (r2.map V.int) := e5.tup s4 t2
  have t1 : SqT K H5 a1 (r1.map V.int) := e5.tup s4 (e4.tup s3 t1)
  have eH : Exb p H H5 := (((e1.trans e2).trans e3).trans e4).trans e5
  have z1 := R1.2.1
  have z2 := R2.2.1
  have z3 := R3.2.1
  have w2 : r2.tail.length ≤ 200 := by rw [List.length_tail]; omega
  have w3 : r3.tail.length ≤ 200 := by rw [List.length_tail]; omega
  have one : (1 : Int) = ((1 : Nat) : Int) := rfl
  -- due
  refine ⟨.ref a1, rfl, .ref a2, rfl, 1, rfl, slA t2 fun x1 H6 m6 h6 => ?_⟩
  rw [one, cutV_from, ← List.map_drop, List.drop_one] at h6
  refine ctA (Same.tup m6 t1) h6 (by rw [List.length_map, List.length_map]; omega) fun x2 H7 m7 h7 => ?_
  rw [← List.map_append] at h7
  refine ⟨x2, _, rfl, h7, by rw [List.length_append]; omega, fun du H8 m8 hdu => ?_⟩
  have M8 : Same H5 H8 := Same.trans (Same.trans m6 m7) m8
  have t18 := M8.tup t1
  have t28 := M8.tup t2
  have t38 := M8.tup t3
  refine ⟨.ref a1, rfl, .ref a2, rfl, a1, a2, r1, r2, l1, rfl, t18, t28, R1, R2, k1, hd2, fun x3 H9 m9 h9 => ⟨.ref du, rfl, neT h9 (Same.tup m9 hdu) ⟨_, rfl, itF (by simp) ?_⟩⟩⟩
  refine ⟨.ref a2, rfl, a2, r2, rfl, Same.tup m9 t28, R2, fun x4 H10 m10 h10 => ⟨.ref a1, rfl, a1, r1, rfl, Same.tup m10 (Same.tup m9 t18), R1, fun x5 H11 m11 h11 => ?_⟩⟩
  refine ⟨x5, x4, strk r1, strk r2, l1, rfl, h11, Same.tup m11 h10, R1.strk, R2.strk, (strk_last r1).trans k1, (strk_head r2).trans hd2, fun x6 H12 m12 h12 => ⟨.ref du, rfl, neT h12 (Same.tup m12 (Same.tup m11 (Same.tup m10 (Same.tup m9 hdu)))) ⟨_, rfl, itF (by rw [rests_join k1 hd2]; simp) ?_⟩⟩⟩
  have M12 : Same H5 H12 := (((M8.trans m9).trans m10).trans m11).trans m12
  have t1C := M12.tup t1
  have t2C := M12.tup t2
  have t3C := M12.tup t3
  -- whole
  refine ⟨.ref a1, rfl, .ref a2, rfl, 1, rfl, slA t2C fun y1 H13 m13 g13 => ?_⟩
  rw [one, cutV_from, ← List.map_drop, List.drop_one] at g13
  refine ctA (Same.tup m13 t1C) g13 (by rw [List.length_map, List.length_map]; omega) fun y2 H14 m14 g14 => ?_
  rw [← List.map_append] at g14
  have t3E := Same.tup m14 (Same.tup m13 t3C)
  refine ⟨.ref a3, rfl, 1, rfl, slA t3E fun y3 H15 m15 g15 => ?_⟩
  rw [one, cutV_from, ← List.map_drop, List.drop_one] at g15
  refine ctA (Same.tup m15 g14) g15 (by rw [List.length_map, List.length_map, List.length_append]; omega) fun y4 H16 m16 g16 => ?_
  rw [← List.map_append] at g16
  refine ⟨y4, _, rfl, g16, by rw [List.length_append, List.length_append]; omega, fun wh H17 m17 hwh => ?_⟩
  have M17 : Same H5 H17 := ((((M12.trans m13).trans m14).trans m15).trans m16).trans m17
  have t1D := M17.tup t1
  have t2D := M17.tup t2
  have t3D := M17.tup t3
  -- the small ones
  refine ⟨fun σ' H' => (∃ y1 y2 y3 y4, σ' = [some (.ref p), some (.int (1 + n0)), some (.ref a1), y1, y2, y3, y4, none, none]) ∧ Same H17 H', ?_, ?_⟩
  · refine ⟨.ref a1, rfl, a1, _, rfl, .inr t1D, .ref a2, rfl, a2, _, rfl, .inr t2D, _, _, rfl, rfl, .ref a3, rfl, a3, _, rfl, .inr t3D, _, _, rfl, rfl, _, 200, rfl, rfl, _, rfl, ite2 (fun c => ?_) (fun c => ?_)⟩
    · have c' := of_decide_eq_true c
      rw [List.length_map, List.length_map, List.length_map] at c'
      have q1 := R1.1
      have q2 := R2.1
      have q3 := R3.1
      have J12 : Row (strk (r1 ++ r2.tail)) := R1.join R2 (by omega)
      have J23 : Row (strk (r2 ++ r3.tail)) := R2.join R3 (by omega)
      refine ⟨.ref a1, rfl, .ref a2, rfl, a1, a2, r1, r2, l1, rfl, t1D, t2D, R1, R2, k1, hd2, fun u1 H18 m18 v1 => ⟨.ref a3, rfl, u1, a3, _, r3, l2, rfl, v1, Same.tup m18 t3D, J12, R3, join_last k1 hd2 k2, hd3, fun u2 H19 m19 v2 => ⟨.ref wh, rfl, neT v2 (Same.tup m19 (Same.tup m18 hwh)) ⟨_, rfl, itF (by rw [join3l]; simp) ?_⟩⟩⟩⟩
      have N19 : Same H17 H19 := Same.trans m18 m19
      refine ⟨.ref a1, rfl, .ref a2, rfl, .ref a3, rfl, a2, a3, r2, r3, l2, rfl, N19.tup t2D, N19.tup t3D, R2, R3, k2, hd3, fun u3 H20 m20 v3 => ⟨a1, u3, r1, _, l1, rfl, Same.tup m20 (N19.tup t1D), v3, R1, J23, k1, join_head hd2, fun u4 H21 m21 v4 => ⟨.ref wh, rfl, neT v4 (Same.tup m21 (Same.tup m20 (N19.tup hwh))) ⟨_, rfl, itF (by rw [join3r k1 hd2 k2 hd3]; simp) ?_⟩⟩⟩⟩
      have N21 : Same H17 H21 := (N19.trans m20).trans m21
      refine ⟨.ref a1, rfl, a1, r1, rfl, N21.tup t1D, R1, fun u5 H22 m22 v5 => ⟨u5, _, rfl, v5, R1.strk, fun u6 H23 m23 v6 => ?_⟩⟩
      have N23 : Same H17 H23 := (N21.trans m22).trans m23
      refine ⟨.ref a1, rfl, .ref a2, rfl, a1, a2, r1, r2, l1, rfl, N23.tup t1D, N23.tup t2D, R1, R2, k1, hd2, fun u7 H24 m24 v7 => ⟨u6, u7, _, _, f0, rfl, Same.tup m24 v6, v7, R1.strk.rev, J12, by rw [List.getLast?_reverse, strk_head, hd1], join_head hd1, fun u8 H25 m25 v8 => ?_⟩⟩
      have N25 : Same H17 H25 := (N23.trans m24).trans m25
      refine ⟨.ref a2, rfl, a2, r2, rfl, N25.tup t2D, R2, fun u9 H26 m26 v9 => neT (Same.tup m26 v8) v9 ⟨_, rfl, itF (by rw [join_off k1 hd2 hd1]; simp) ?_⟩⟩
      exact ⟨⟨_, _, _, _, rfl⟩, N25.trans m26⟩
    · exact ⟨⟨_, _, _, _, rfl⟩, Same.refl _⟩
  rintro σ' H27 ⟨⟨_, _, _, _, rfl⟩, m27⟩
  have M27 : Same H5 H27 := M17.trans m27
  have t1F := M27.tup t1
  -- there and back
  refine ⟨.ref a1, rfl, .ref a1, rfl, a1, r1, rfl, t1F, R1, fun u1 H28 m28 v1 => ⟨a1, u1, r1, _, l1, rfl, Same.tup m28 t1F, v1, R1, R1.rev, k1, by rw [List.head?_reverse, k1], fun u2 H29 m29 v2 => ?_⟩⟩
  have M29 : Same H5 H29 := (M27.trans m28).trans m29
  refine ⟨.ref a1, rfl, _, rfl, slA (M29.tup t1) fun u3 H30 m30 v3 => ?_⟩
  rw [one, cutV_to, ← List.map_take] at v3
  refine neT (Same.tup m30 v2) v3 ⟨_, rfl, itF (by rw [join_back hd1]; simp) ?_⟩
  have M30 : Same H5 H30 := M29.trans m30
  refine ⟨.ref a1, rfl, a1, r1, rfl, M30.tup t1, R1, fun u4 H31 m31 v4 => ⟨.ref a1, rfl, u4, a1, _, r1, f0, rfl, v4, Same.tup m31 (M30.tup t1), R1.rev, R1, by rw [List.getLast?_reverse, hd1], hd1, fun u5 H32 m32 v5 => ?_⟩⟩
  have M32 : Same H5 H32 := (M30.trans m31).trans m32
  refine ⟨.ref a1, rfl, 1, rfl, _, rfl, slA (M32.tup t1) fun u6 H33 m33 v6 => ?_⟩
  rw [cutV_last (by rw [List.length_map]; exact R1.1), List.length_map, ← List.map_drop] at v6
  refine neT (Same.tup m33 v5) v6 ⟨_, rfl, itF (by rw [back_join k1]; simp) ?_⟩
  have M33 : Same H5 H33 := M32.trans m33
  have s33 := M33.src s5
  have t1G := M33.tup t1
  -- other
  refine ⟨.ref a1, rfl, .ref p, rfl, .ref a1, rfl, a1, _, rfl, .inr t1G, p, _, rfl, s33, by rw [List.length_map]; have := R1.1; omega, by rw [List.length_map]; omega, fun c0 H34 c1 c2 s34 e34 => ⟨1, c0, rfl, rfl, _, rfl, slA (e34.tup s33 t1G) fun o1 H35 m35 ho1 => ?_⟩⟩
  rw [List.length_map] at c2
  obtain ⟨j, rfl⟩ : ∃ j : Nat, c0 = (j : Int) := ⟨c0.toNat, by omega⟩
  rw [show (1 : Int) + (j : Int) = ((j + 1 : Nat) : Int) by omega, cutV_to, ← List.map_take] at ho1
  have s35 := Same.src m35 s34
  refine ⟨.ref o1, rfl, .ref p, rfl, .ref p, rfl, .int (1 + n0), rfl, p, 1 + n0, rfl, s35, by omega, by omega, fun g0 H36 g1 g2 s36 e36 => ⟨.int (1 + n0), rfl, p, g0, 1 + n0, rfl, s36, g1, by omega, by omega, by omega, fun o2 w2 H37 RW hdW s37 e37 ho2 => ?_⟩⟩
  have zW := RW.2.1
  have ho1' : SqT K H37 o1 ((r1.take (j + 1)).map V.int) := e37.tup s36 (e36.tup s35 ho1)
  refine ctA ho1' ho2 (by rw [List.length_map, List.length_map, List.length_take]; omega) fun o3 H38 m38 ho3 => ?_
  rw [← List.map_append] at ho3
  refine ⟨.ref o3, rfl, _, rfl, slA ho3 fun o4 H39 m39 ho4 => ?_⟩
  rw [show (200 : Int) = ((200 : Nat) : Int) from rfl, cutV_to, ← List.map_take] at ho4
  have E39 : Exb p H5 H39 := (((((Exb.of M33).trans e34).trans (Exb.of m35)).trans e36).trans e37).trans ((Exb.of m38).trans (Exb.of m39))
  have t1H : SqT K H39 a1 (r1.map V.int) := E39.tup s5 t1
  have hdo : ((r1.take (j + 1) ++ w2).take 200).head? = some f0 := by
    cases r1 with
    | nil => cases hd1
    | cons x r => exact hd1
  have RO : Row ((r1.take (j + 1) ++ w2).take 200) := by
    refine ⟨?_, ?_, fun c hc => ?_⟩
    · rw [List.length_take, List.length_append, List.length_take]
      have := R1.1
      omega
    · rw [List.length_take]
      omega
    · rcases List.mem_append.mp (List.mem_of_mem_take hc) with h | h
      · exact R1.2.2 c (List.mem_of_mem_take h)
      · exact RW.2.2 c h
  generalize (r1.take (j + 1) ++ w2).take 200 = ro at ho4 hdo RO
  have zO := RO.2.1
  have wO : ro.tail.length ≤ 200 := by rw [List.length_tail]; omega
  have eF : Exb p H H39 := eH.trans E39
  -- told
  refine ⟨.ref a1, rfl, .ref o4, rfl, a1, o4, r1, ro, f0, rfl, t1H, ho4, R1, RO, hd1, hdo, fun H40 m40 => ?_⟩
  have t1I := Same.tup m40 t1H
  have oI := Same.tup m40 ho4
  refine ⟨_, rfl, .ref a1, rfl, a1, _, rfl, t1I, fun d1 nd1 => ?_⟩
  have k41 := Same.new nd1 (o := .tup (r1.map V.int).reverse)
  refine ⟨.ref o4, rfl, 1, rfl, slA (k41.tup oI) fun d2 H42 m42 hd2 => ?_⟩
  rw [one, cutV_from, ← List.map_drop, List.drop_one] at hd2
  have hd1' : SqT K H42 d1 (r1.reverse.map V.int) := Same.tup m42 (SqT.of (by rw [upd_same, List.map_reverse]))
  refine ctA hd1' hd2 (by rw [List.length_map, List.length_map, List.length_reverse]; omega) fun d3 H43 m43 hd3' => ?_
  rw [← List.map_append] at hd3'
  refine ⟨d3, _, rfl, hd3', by rw [List.length_append, List.length_reverse]; omega, fun d4 H44 m44 hd4 => ⟨d4, _, rfl, .inr hd4, _, _, rfl, rfl, rfl, _, rfl, itF (by rw [List.length_map]; simp) ?_⟩⟩
  have M44 : Same H40 H44 := Same.trans (Same.trans (k41.trans m42) m43) m44
  refine ⟨_, rfl, .ref a1, rfl, a1, r1, rfl, M44.tup t1I, by omega, fun d5 H45 m45 hd5 => ⟨.ref o4, rfl, o4, ro, rfl, Same.tup m45 (M44.tup oI), by omega, fun d6 H46 m46 hd6 => ⟨d5, d6, strk r1, strk ro, rfl, Same.tup m46 hd5, hd6, fun H47 m47 => ⟨rfl, _, rfl, itF (by rw [gap_eq hd1 hdo]; simp) ?_⟩⟩⟩⟩
  have M47 : Same H40 H47 := ((M44.trans m45).trans m46).trans m47
  have t1J := M47.tup t1I
  have oJ := M47.tup oI
  -- the end
  refine ⟨.ref a1, rfl, .ref o4, rfl, o4, a1, ro, r1, f0, rfl, oJ, t1J, RO, R1, hdo, hd1, fun H48 m48 => ⟨_, rfl, rfl, _, rfl, itT (by rw [gap_comm hd1 hdo]; simp) ?_⟩⟩
  have t1K := Same.tup m48 t1J
  refine ⟨.ref a1, rfl, .ref a1, rfl, a1, a1, r1, r1, f0, rfl, t1K, t1K, R1, R1, hd1, hd1, fun H49 m49 => ⟨rfl, _, rfl, itT (by rw [gap_self hd1]; simp) ?_⟩⟩
  have t1L := Same.tup m49 t1K
  refine ⟨.ref a1, rfl, _, rfl, slA t1L fun e1 H50 m50 he1 => ?_⟩
  rw [one, cutV_to, ← List.map_take] at he1
  have RT1 : Row (r1.take 1) := ⟨by rw [List.length_take]; have := R1.1; omega, by rw [List.length_take]; omega, fun c hc => R1.2.2 c (List.mem_of_mem_take hc)⟩
  have hdT : (r1.take 1).head? = some f0 := by
    cases r1 with
    | nil => cases hd1
    | cons x r => exact hd1
  refine ⟨.ref a1, rfl, e1, a1, _, r1, f0, rfl, he1, Same.tup m50 t1L, RT1, R1, hdT, hd1, fun H51 m51 => ?_⟩
  refine ⟨.ref a1, rfl, a1, r1, rfl, Same.tup m51 (Same.tup m50 t1L), R1, fun e2 H52 m52 he2 => ⟨e2, _, rfl, .inr he2, _, _, rfl, rfl, rfl, ?_⟩⟩
  rw [List.length_map, gap_first hd1, decide_eq_true rfl]
  exact q _ (eF.trans (Exb.of (((((Same.trans m40 M47).trans m48).trans m49).trans m50).trans m51 |>.trans m52)))
def sp_law (K : PySem.W.Frag) : Sp := fun vs H Q _ => ∃ (a : Addr) (ns : List Int), vs = [.ref a] ∧ SqL K H a (ns.map V.int) ∧ ns.length ≤ 63 ∧ ∀ H', Q (.bl true) H'
theorem ok_law (F : Fun K "law" "law" s_law f fd) (T : Txt mg) (c__law_pool : Cal P w K mg base CX0 1 "_law_pool" ["script", "k"] s__law_pool (sp__law_pool K)) (c__law_right : Cal P w K mg base CX0 5 "_law_right" ["source"] s__law_right (sp__law_right K)) : FnOk P w K mg base CX0 6 f fd ["script"] (sp_law K) := by
  refine F.ok sc_law (fun vs H Q E h => ?_) (fun cdv A outer s H vs Q E hr h => ?_)
  · obtain ⟨a, ns, rfl, _⟩ := h
    rfl
  obtain ⟨a, ns, rfl, hS, hz, q⟩ := h
  refine ⟨_, (pss_cons (ps_for PassesOwn.never rfl (pi_range1 (by rfl) T.n_range (pa_cons (pe_callB (call_max2 rfl) (by rfl) T.n_max (by decide +kernel) (pa_cons pe_int (pa_cons (pe_callB (call_min2 rfl) (by rfl) T.n_min (by decide +kernel) (pa_cons (pe_callB (lenS K) (by rfl) T.n_len PySem.boot_len (pa_cons (pv 0) pa_nil)) (pa_cons pe_int pa_nil))) pa_nil))) pa_nil)) (pg_name (i := 1) sc_law.nd rfl (Or.inl rfl)) (pss_one (ps_if (pt_not (pt_val (pe_cal c__law_right (hr.mono (by decide)) pass0 (pa_cons (pe_cal c__law_pool (hr.mono (by decide)) pass0 (pa_cons (pv 0) (pa_cons (pv 1) pa_nil))) pa_nil)))) (pss_one (ps_ret pe_bl)) pss_nil)))
      (pss_one (ps_ret pe_bl))), ?_⟩
  have hb := maxB ((ns.map V.int).length : Nat) (Int.natCast_nonneg _)
  refine ⟨.ref a, rfl, a, _, rfl, .inl hS, _, _, rfl, _, _, rfl, _, rfl, by omega, by omega, for_range (fun i σ H' => (∃ y, σ = [some (.ref a), y]) ∧ Same H H') ⟨⟨_, rfl⟩, Same.refl _⟩ ?_ ?_⟩
  · rintro i σ H1 hi ⟨⟨y, rfl⟩, m1⟩
    refine ⟨.ref a, rfl, .int (0 + (i : Int)), rfl, a, ns, _, rfl, m1.seq hS, by omega, by omega, fun p H2 np m2 s2 => ?_⟩
    refine ⟨p, rfl, s2, fun H3 e3 => ⟨_, rfl, iteF ?_⟩⟩
    exact ⟨⟨_, rfl⟩, Same.used m1 np m2 e3⟩
  · rintro σ H1 ⟨⟨y, rfl⟩, m1⟩
    exact q _
end
theorem law_start {K : PySem.W.Frag} {H : Hp} (a : Addr) (ns : List Int) (hl : ns.length ≤ 63) (hS : SqL K H a (ns.map V.int)) : sp_law K [.ref a] H (fun v _ => v = .bl true) fun _ _ _ => False := ⟨a, ns, rfl, hS, hl, fun _ => rfl⟩
/-! ### what the top has written -/
theorem all_mk {l : PySem.W.OpenLaw} {w : World} {K : PySem.W.Frag} {h : Heap} {mg : Str → Option Value} {fa : Addr} (X : K.In h) (G : h.Ns mainGlobals mg) (hfa : mg "law" = some (.ref fa))
    {od0 an0 : Option Addr} {sl0 : Array (Option Value)} {oc0 kV0 dc0 pm0 cd0 ct0 : Value} {f0 : Addr}
    {od1 an1 : Option Addr} {sl1 : Array (Option Value)} {oc1 kV1 dc1 pm1 cd1 ct1 : Value} {f1 : Addr}
    {od2 an2 : Option Addr} {sl2 : Array (Option Value)} {oc2 kV2 dc2 pm2 cd2 ct2 : Value} {f2 : Addr}
    {od3 an3 : Option Addr} {sl3 : Array (Option Value)} {oc3 kV3 dc3 pm3 cd3 ct3 : Value} {f3 : Addr}
    {od4 an4 : Option Addr} {sl4 : Array (Option Value)} {oc4 kV4 dc4 pm4 cd4 ct4 : Value} {f4 : Addr}
    {od5 an5 : Option Addr} {sl5 : Array (Option Value)} {oc5 kV5 dc5 pm5 cd5 ct5 : Value} {f5 : Addr}
    {od6 an6 : Option Addr} {sl6 : Array (Option Value)} {oc6 kV6 dc6 pm6 cd6 ct6 : Value} {f6 : Addr}
    {od7 an7 : Option Addr} {sl7 : Array (Option Value)} {oc7 kV7 dc7 pm7 cd7 ct7 : Value} {f7 : Addr}
    {od8 an8 : Option Addr} {sl8 : Array (Option Value)} {oc8 kV8 dc8 pm8 cd8 ct8 : Value} {f8 : Addr}
    {od9 an9 : Option Addr} {sl9 : Array (Option Value)} {oc9 kV9 dc9 pm9 cd9 ct9 : Value} {f9 : Addr}
    {od10 an10 : Option Addr} {sl10 : Array (Option Value)} {oc10 kV10 dc10 pm10 cd10 ct10 : Value} {f10 : Addr}
    {od11 an11 : Option Addr} {sl11 : Array (Option Value)} {oc11 kV11 dc11 pm11 cd11 ct11 : Value} {f11 : Addr}
    {od12 an12 : Option Addr} {sl12 : Array (Option Value)} {oc12 kV12 dc12 pm12 cd12 ct12 : Value} {f12 : Addr}
    {od13 an13 : Option Addr} {sl13 : Array (Option Value)} {oc13 kV13 dc13 pm13 cd13 ct13 : Value} {f13 : Addr}
    {od14 an14 : Option Addr} {sl14 : Array (Option Value)} {oc14 kV14 dc14 pm14 cd14 ct14 : Value} {f14 : Addr}
    {od15 an15 : Option Addr} {sl15 : Array (Option Value)} {oc15 kV15 dc15 pm15 cd15 ct15 : Value} {f15 : Addr}
    
    (a0 : PySem.W.nsIn K mainGlobals "check_row" = some (some (.ref f0))) (l0 : K.lookup f0 = some ⟨oc0, od0, .func (PySem.W.fnOf "check_row" "check_row" (defArgs s_check_row) (defBody s_check_row) (defScope s_check_row) .none kV0 dc0 pm0 an0 cd0 ct0), sl0⟩) (c0 : PySem.W.codeIn K cd0 "check_row" = true) (k0 : PySem.W.keepIn K (.ref f0) = true)
    (a1 : PySem.W.nsIn K mainGlobals "struck" = some (some (.ref f1))) (l1 : K.lookup f1 = some ⟨oc1, od1, .func (PySem.W.fnOf "struck" "struck" (defArgs s_struck) (defBody s_struck) (defScope s_struck) .none kV1 dc1 pm1 an1 cd1 ct1), sl1⟩) (c1 : PySem.W.codeIn K cd1 "struck" = true) (k1 : PySem.W.keepIn K (.ref f1) = true)
    (a2 : PySem.W.nsIn K mainGlobals "rest" = some (some (.ref f2))) (l2 : K.lookup f2 = some ⟨oc2, od2, .func (PySem.W.fnOf "rest" "rest" (defArgs s_rest) (defBody s_rest) (defScope s_rest) .none kV2 dc2 pm2 an2 cd2 ct2), sl2⟩) (c2 : PySem.W.codeIn K cd2 "rest" = true) (k2 : PySem.W.keepIn K (.ref f2) = true)
    (a3 : PySem.W.nsIn K mainGlobals "back" = some (some (.ref f3))) (l3 : K.lookup f3 = some ⟨oc3, od3, .func (PySem.W.fnOf "back" "back" (defArgs s_back) (defBody s_back) (defScope s_back) .none kV3 dc3 pm3 an3 cd3 ct3), sl3⟩) (c3 : PySem.W.codeIn K cd3 "back" = true) (k3 : PySem.W.keepIn K (.ref f3) = true)
    (a4 : PySem.W.nsIn K mainGlobals "run_on" = some (some (.ref f4))) (l4 : K.lookup f4 = some ⟨oc4, od4, .func (PySem.W.fnOf "run_on" "run_on" (defArgs s_run_on) (defBody s_run_on) (defScope s_run_on) .none kV4 dc4 pm4 an4 cd4 ct4), sl4⟩) (c4 : PySem.W.codeIn K cd4 "run_on" = true) (k4 : PySem.W.keepIn K (.ref f4) = true)
    (a5 : PySem.W.nsIn K mainGlobals "joined" = some (some (.ref f5))) (l5 : K.lookup f5 = some ⟨oc5, od5, .func (PySem.W.fnOf "joined" "joined" (defArgs s_joined) (defBody s_joined) (defScope s_joined) .none kV5 dc5 pm5 an5 cd5 ct5), sl5⟩) (c5 : PySem.W.codeIn K cd5 "joined" = true) (k5 : PySem.W.keepIn K (.ref f5) = true)
    (a6 : PySem.W.nsIn K mainGlobals "gap_of" = some (some (.ref f6))) (l6 : K.lookup f6 = some ⟨oc6, od6, .func (PySem.W.fnOf "gap_of" "gap_of" (defArgs s_gap_of) (defBody s_gap_of) (defScope s_gap_of) .none kV6 dc6 pm6 an6 cd6 ct6), sl6⟩) (c6 : PySem.W.codeIn K cd6 "gap_of" = true) (k6 : PySem.W.keepIn K (.ref f6) = true)
    (a7 : PySem.W.nsIn K mainGlobals "gap" = some (some (.ref f7))) (l7 : K.lookup f7 = some ⟨oc7, od7, .func (PySem.W.fnOf "gap" "gap" (defArgs s_gap) (defBody s_gap) (defScope s_gap) .none kV7 dc7 pm7 an7 cd7 ct7), sl7⟩) (c7 : PySem.W.codeIn K cd7 "gap" = true) (k7 : PySem.W.keepIn K (.ref f7) = true)
    (a8 : PySem.W.nsIn K mainGlobals "_law_pool" = some (some (.ref f8))) (l8 : K.lookup f8 = some ⟨oc8, od8, .func (PySem.W.fnOf "_law_pool" "_law_pool" (defArgs s__law_pool) (defBody s__law_pool) (defScope s__law_pool) .none kV8 dc8 pm8 an8 cd8 ct8), sl8⟩) (c8 : PySem.W.codeIn K cd8 "_law_pool" = true) (k8 : PySem.W.keepIn K (.ref f8) = true)
    (a9 : PySem.W.nsIn K mainGlobals "_law_take" = some (some (.ref f9))) (l9 : K.lookup f9 = some ⟨oc9, od9, .func (PySem.W.fnOf "_law_take" "_law_take" (defArgs s__law_take) (defBody s__law_take) (defScope s__law_take) .none kV9 dc9 pm9 an9 cd9 ct9), sl9⟩) (c9 : PySem.W.codeIn K cd9 "_law_take" = true) (k9 : PySem.W.keepIn K (.ref f9) = true)
    (a10 : PySem.W.nsIn K mainGlobals "_law_one" = some (some (.ref f10))) (l10 : K.lookup f10 = some ⟨oc10, od10, .func (PySem.W.fnOf "_law_one" "_law_one" (defArgs s__law_one) (defBody s__law_one) (defScope s__law_one) .none kV10 dc10 pm10 an10 cd10 ct10), sl10⟩) (c10 : PySem.W.codeIn K cd10 "_law_one" = true) (k10 : PySem.W.keepIn K (.ref f10) = true)
    (a11 : PySem.W.nsIn K mainGlobals "_law_rest" = some (some (.ref f11))) (l11 : K.lookup f11 = some ⟨oc11, od11, .func (PySem.W.fnOf "_law_rest" "_law_rest" (defArgs s__law_rest) (defBody s__law_rest) (defScope s__law_rest) .none kV11 dc11 pm11 an11 cd11 ct11), sl11⟩) (c11 : PySem.W.codeIn K cd11 "_law_rest" = true) (k11 : PySem.W.keepIn K (.ref f11) = true)
    (a12 : PySem.W.nsIn K mainGlobals "_law_drawn" = some (some (.ref f12))) (l12 : K.lookup f12 = some ⟨oc12, od12, .func (PySem.W.fnOf "_law_drawn" "_law_drawn" (defArgs s__law_drawn) (defBody s__law_drawn) (defScope s__law_drawn) .none kV12 dc12 pm12 an12 cd12 ct12), sl12⟩) (c12 : PySem.W.codeIn K cd12 "_law_drawn" = true) (k12 : PySem.W.keepIn K (.ref f12) = true)
    (a13 : PySem.W.nsIn K mainGlobals "_law_common" = some (some (.ref f13))) (l13 : K.lookup f13 = some ⟨oc13, od13, .func (PySem.W.fnOf "_law_common" "_law_common" (defArgs s__law_common) (defBody s__law_common) (defScope s__law_common) .none kV13 dc13 pm13 an13 cd13 ct13), sl13⟩) (c13 : PySem.W.codeIn K cd13 "_law_common" = true) (k13 : PySem.W.keepIn K (.ref f13) = true)
    (a14 : PySem.W.nsIn K mainGlobals "_law_right" = some (some (.ref f14))) (l14 : K.lookup f14 = some ⟨oc14, od14, .func (PySem.W.fnOf "_law_right" "_law_right" (defArgs s__law_right) (defBody s__law_right) (defScope s__law_right) .none kV14 dc14 pm14 an14 cd14 ct14), sl14⟩) (c14 : PySem.W.codeIn K cd14 "_law_right" = true) (k14 : PySem.W.keepIn K (.ref f14) = true)
    (a15 : PySem.W.nsIn K mainGlobals "law" = some (some (.ref f15))) (l15 : K.lookup f15 = some ⟨oc15, od15, .func (PySem.W.fnOf "law" "law" (defArgs s_law) (defBody s_law) (defScope s_law) .none kV15 dc15 pm15 an15 cd15 ct15), sl15⟩) (c15 : PySem.W.codeIn K cd15 "law" = true) (k15 : PySem.W.keepIn K (.ref f15) = true)
    (z_enumerate : PySem.W.nsIn K mainGlobals "enumerate" = some none)
    (z_int : PySem.W.nsIn K mainGlobals "int" = some none)
    (z_len : PySem.W.nsIn K mainGlobals "len" = some none)
    (z_max : PySem.W.nsIn K mainGlobals "max" = some none)
    (z_min : PySem.W.nsIn K mainGlobals "min" = some none)
    (z_range : PySem.W.nsIn K mainGlobals "range" = some none)
    (z_tuple : PySem.W.nsIn K mainGlobals "tuple" = some none)
    (y_LAST_COAT : ∃ t, PySem.W.nsIn K mainGlobals "LAST_COAT" = some (some (.int 7 t)))
    (y_MOST_STONES : ∃ t, PySem.W.nsIn K mainGlobals "MOST_STONES" = some (some (.int 200 t))) :
    ∃ fd : FuncData, (∀ (s : Shared) (v : Value), BindsTo s fd ⟨[v], []⟩ [("script", v)]) ∧ ∀ base : Heap, K.In base → base.Ns mainGlobals mg → FnOk l.prog w K mg base CX0 6 fa fd ["script"] (sp_law K) := by
  have e := hfa.symm.trans (PySem.W.mg_of X G a15)
  cases e
  have T : Txt mg := ⟨PySem.W.mg_none_of X G z_enumerate, PySem.W.mg_none_of X G z_int, PySem.W.mg_none_of X G z_len, PySem.W.mg_none_of X G z_max, PySem.W.mg_none_of X G z_min, PySem.W.mg_none_of X G z_range, PySem.W.mg_none_of X G z_tuple, (let ⟨t, y⟩ := y_LAST_COAT; ⟨t, PySem.W.mg_of X G y⟩), (let ⟨t, y⟩ := y_MOST_STONES; ⟨t, PySem.W.mg_of X G y⟩)⟩
  have F0 := fun_mk (st := s_check_row) l0 c0 k0
  have b0 := F0.binds (ps := ["row"]) fun _ _ _ _ _ _ us hl => match us, hl with | [_], _ => rfl
  have F1 := fun_mk (st := s_struck) l1 c1 k1
  have b1 := F1.binds (ps := ["stones"]) fun _ _ _ _ _ _ us hl => match us, hl with | [_], _ => rfl
  have F2 := fun_mk (st := s_rest) l2 c2 k2
  have b2 := F2.binds (ps := ["row"]) fun _ _ _ _ _ _ us hl => match us, hl with | [_], _ => rfl
  have F3 := fun_mk (st := s_back) l3 c3 k3
  have b3 := F3.binds (ps := ["row"]) fun _ _ _ _ _ _ us hl => match us, hl with | [_], _ => rfl
  have F4 := fun_mk (st := s_run_on) l4 c4 k4
  have b4 := F4.binds (ps := ["one", "two"]) fun _ _ _ _ _ _ us hl => match us, hl with | [_, _], _ => rfl
  have F5 := fun_mk (st := s_joined) l5 c5 k5
  have b5 := F5.binds (ps := ["one", "two"]) fun _ _ _ _ _ _ us hl => match us, hl with | [_, _], _ => rfl
  have F6 := fun_mk (st := s_gap_of) l6 c6 k6
  have b6 := F6.binds (ps := ["one", "two"]) fun _ _ _ _ _ _ us hl => match us, hl with | [_, _], _ => rfl
  have F7 := fun_mk (st := s_gap) l7 c7 k7
  have b7 := F7.binds (ps := ["one", "two"]) fun _ _ _ _ _ _ us hl => match us, hl with | [_, _], _ => rfl
  have F8 := fun_mk (st := s__law_pool) l8 c8 k8
  have b8 := F8.binds (ps := ["script", "k"]) fun _ _ _ _ _ _ us hl => match us, hl with | [_, _], _ => rfl
  have F9 := fun_mk (st := s__law_take) l9 c9 k9
  have b9 := F9.binds (ps := ["source", "top"]) fun _ _ _ _ _ _ us hl => match us, hl with | [_, _], _ => rfl
  have F10 := fun_mk (st := s__law_one) l10 c10 k10
  have b10 := F10.binds (ps := ["source", "things"]) fun _ _ _ _ _ _ us hl => match us, hl with | [_, _], _ => rfl
  have F11 := fun_mk (st := s__law_rest) l11 c11 k11
  have b11 := F11.binds (ps := ["row"]) fun _ _ _ _ _ _ us hl => match us, hl with | [_], _ => rfl
  have F12 := fun_mk (st := s__law_drawn) l12 c12 k12
  have b12 := F12.binds (ps := ["source", "first", "coats"]) fun _ _ _ _ _ _ us hl => match us, hl with | [_, _, _], _ => rfl
  have F13 := fun_mk (st := s__law_common) l13 c13 k13
  have b13 := F13.binds (ps := ["one", "two"]) fun _ _ _ _ _ _ us hl => match us, hl with | [_, _], _ => rfl
  have F14 := fun_mk (st := s__law_right) l14 c14 k14
  have b14 := F14.binds (ps := ["source"]) fun _ _ _ _ _ _ us hl => match us, hl with | [_], _ => rfl
  have F15 := fun_mk (st := s_law) l15 c15 k15
  refine ⟨PySem.W.fnOf "law" "law" (defArgs s_law) (defBody s_law) (defScope s_law) .none kV15 dc15 pm15 an15 cd15 ct15, fun s v => .of_eq rfl, fun base _ _ => ?_⟩
  have c_check_row : Cal l.prog w K mg base CX0 1 "check_row" ["row"] s_check_row (sp_check_row K) := ⟨_, _, ok_check_row F0 T , F0, PySem.W.mg_of X G a0, b0⟩
  have c_struck : Cal l.prog w K mg base CX0 1 "struck" ["stones"] s_struck (sp_struck K) := ⟨_, _, ok_struck F1 T , F1, PySem.W.mg_of X G a1, b1⟩
  have c_rest : Cal l.prog w K mg base CX0 2 "rest" ["row"] s_rest (sp_rest K) := ⟨_, _, ok_rest F2 T c_check_row c_struck, F2, PySem.W.mg_of X G a2, b2⟩
  have c_back : Cal l.prog w K mg base CX0 2 "back" ["row"] s_back (sp_back K) := ⟨_, _, ok_back F3 T c_check_row, F3, PySem.W.mg_of X G a3, b3⟩
  have c_run_on : Cal l.prog w K mg base CX0 2 "run_on" ["one", "two"] s_run_on (sp_run_on K) := ⟨_, _, ok_run_on F4 T c_struck, F4, PySem.W.mg_of X G a4, b4⟩
  have c_joined : Cal l.prog w K mg base CX0 3 "joined" ["one", "two"] s_joined (sp_joined K) := ⟨_, _, ok_joined F5 T c_check_row c_run_on, F5, PySem.W.mg_of X G a5, b5⟩
  have c_gap_of : Cal l.prog w K mg base CX0 3 "gap_of" ["one", "two"] s_gap_of (sp_gap_of K) := ⟨_, _, ok_gap_of F6 T c_run_on, F6, PySem.W.mg_of X G a6, b6⟩
  have c_gap : Cal l.prog w K mg base CX0 4 "gap" ["one", "two"] s_gap (sp_gap K) := ⟨_, _, ok_gap F7 T c_check_row c_gap_of, F7, PySem.W.mg_of X G a7, b7⟩
  have c__law_pool : Cal l.prog w K mg base CX0 1 "_law_pool" ["script", "k"] s__law_pool (sp__law_pool K) := ⟨_, _, ok__law_pool F8 T , F8, PySem.W.mg_of X G a8, b8⟩
  have c__law_take : Cal l.prog w K mg base CX0 1 "_law_take" ["source", "top"] s__law_take (sp__law_take K) := ⟨_, _, ok__law_take F9 T , F9, PySem.W.mg_of X G a9, b9⟩
  have c__law_one : Cal l.prog w K mg base CX0 2 "_law_one" ["source", "things"] s__law_one (sp__law_one K) := ⟨_, _, ok__law_one F10 T c__law_take, F10, PySem.W.mg_of X G a10, b10⟩
  have c__law_rest : Cal l.prog w K mg base CX0 1 "_law_rest" ["row"] s__law_rest (sp__law_rest K) := ⟨_, _, ok__law_rest F11 T , F11, PySem.W.mg_of X G a11, b11⟩
  have c__law_drawn : Cal l.prog w K mg base CX0 3 "_law_drawn" ["source", "first", "coats"] s__law_drawn (sp__law_drawn K) := ⟨_, _, ok__law_drawn F12 T c__law_take c__law_one, F12, PySem.W.mg_of X G a12, b12⟩
  have c__law_common : Cal l.prog w K mg base CX0 1 "_law_common" ["one", "two"] s__law_common (sp__law_common K) := ⟨_, _, ok__law_common F13 T , F13, PySem.W.mg_of X G a13, b13⟩
  have c__law_right : Cal l.prog w K mg base CX0 5 "_law_right" ["source"] s__law_right (sp__law_right K) := ⟨_, _, ok__law_right F14 T c_rest c_back c_joined c_gap c__law_take c__law_rest c__law_drawn c__law_common, F14, PySem.W.mg_of X G a14, b14⟩
  exact ok_law F15 T c__law_pool c__law_right
end K
open PySem PySem.W PyProof.Rows
set_option maxHeartbeats 0 in
theorem PySem.Challenge.cw_betweencoats_k08_rows_joined_and_gaps_holds : PySem.Challenge.rw_betweencoats_k08_rows_joined_and_gaps.Holds := by
  w_on; o_law; k_head; (case hw => w_witness2)
  k_fill
  refine L2.walk_of (l := PySem.Challenge.rw_betweencoats_k08_rows_joined_and_gaps) (n := 63) (k := 6) (x := "script") (CX := fun _ => L2.CX0) (sp := fun w => K.sp_law _) rfl (by decide) rfl ⟨rfl, by decide, by decide⟩ (fun w h Y => PySem.W.kIn_of Y) ?F (fun _ _ a ns hl _ hS => K.law_start a ns hl hS) (fun _ _ _ _ _ h => h)
  case F =>
    intro w mg fa h KX G hmg
    refine' K.all_mk KX G hmg ?a0 ?l0 ?c0 ?k0 ?a1 ?l1 ?c1 ?k1 ?a2 ?l2 ?c2 ?k2 ?a3 ?l3 ?c3 ?k3 ?a4 ?l4 ?c4 ?k4 ?a5 ?l5 ?c5 ?k5 ?a6 ?l6 ?c6 ?k6 ?a7 ?l7 ?c7 ?k7 ?a8 ?l8 ?c8 ?k8 ?a9 ?l9 ?c9 ?k9 ?a10 ?l10 ?c10 ?k10 ?a11 ?l11 ?c11 ?k11 ?a12 ?l12 ?c12 ?k12 ?a13 ?l13 ?c13 ?k13 ?a14 ?l14 ?c14 ?k14 ?a15 ?l15 ?c15 ?k15 ?z_enumerate ?z_int ?z_len ?z_max ?z_min ?z_range ?z_tuple ?y_LAST_COAT ?y_MOST_STONES
    (case a0 => k_is)
    (case l0 => k_is)
    (case c0 => k_is)
    (case k0 => k_is)
    (case a1 => k_is)
    (case l1 => k_is)
    (case c1 => k_is)
    (case k1 => k_is)
    (case a2 => k_is)
    (case l2 => k_is)
    (case c2 => k_is)
    (case k2 => k_is)
    (case a3 => k_is)
    (case l3 => k_is)
    (case c3 => k_is)
    (case k3 => k_is)
    (case a4 => k_is)
    (case l4 => k_is)
    (case c4 => k_is)
    (case k4 => k_is)
    (case a5 => k_is)
    (case l5 => k_is)
    (case c5 => k_is)
    (case k5 => k_is)
    (case a6 => k_is)
    (case l6 => k_is)
    (case c6 => k_is)
    (case k6 => k_is)
    (case a7 => k_is)
    (case l7 => k_is)
    (case c7 => k_is)
    (case k7 => k_is)
    (case a8 => k_is)
    (case l8 => k_is)
    (case c8 => k_is)
    (case k8 => k_is)
    (case a9 => k_is)
    (case l9 => k_is)
    (case c9 => k_is)
    (case k9 => k_is)
    (case a10 => k_is)
    (case l10 => k_is)
    (case c10 => k_is)
    (case k10 => k_is)
    (case a11 => k_is)
    (case l11 => k_is)
    (case c11 => k_is)
    (case k11 => k_is)
    (case a12 => k_is)
    (case l12 => k_is)
    (case c12 => k_is)
    (case k12 => k_is)
    (case a13 => k_is)
    (case l13 => k_is)
    (case c13 => k_is)
    (case k13 => k_is)
    (case a14 => k_is)
    (case l14 => k_is)
    (case c14 => k_is)
    (case k14 => k_is)
    (case a15 => k_is)
    (case l15 => k_is)
    (case c15 => k_is)
    (case k15 => k_is)
    (case z_enumerate => k_is)
    (case z_int => k_is)
    (case z_len => k_is)
    (case z_max => k_is)
    (case z_min => k_is)
    (case z_range => k_is)
    (case z_tuple => k_is)
    (case y_LAST_COAT => exact ⟨_, by k_is⟩)
    (case y_MOST_STONES => exact ⟨_, by k_is⟩)
