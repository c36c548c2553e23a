import PyProof.Rows.All
import Wide.All
import OpenK.AllK
import Wide.FinOn
import HandS.ForMost
import HandS.IsInst
import HandS.TupAny
import HandS.Style
import HandS.Wide
import HandS.Walk
import HandS.WordsExc
import KE.GoesEnum
import PyProof.ReprRoads
import HandS.Evl
import KE.Datum
import HandS.ForExc
import HandS.ExcInit
import HandS.ExcField
import KE.KExcIs
import HandS.Conv
import HandS.TupLe
import HandS.Deep
import HandS.SortRule
import HandS.Flow
import HandS.More
import HandS.SetFor
import HandS.TupMul
import HandS.Gcd
import KE.KMathGC
import HandS.Lambda
import HandS.EndTab
import KE.KNestM
import PySem.Challenge.RW_betweencoats_k11_refusals_of_rows
set_option Elab.async false
set_option linter.all false
set_option maxRecDepth 100000
namespace Bw
open PySem PySem.Spec PyProof.Rows L2

/-! ### a def that is called by its name -/
structure Cal (P : Program) (w : World) (K : PySem.W.Frag) (mg : Str → Option Value) (base : Heap) (CX : CXT) (k : Nat) (x : Str) (ps : List Str) (st : Stmt) (sp : Sp) : Prop where
  ex : ∃ (f : Addr) (fd : FuncData), FnOk P w K mg base CX k f fd ps sp ∧ Fun K x x st f fd ∧ mg x = some (.ref f) ∧ Binds K fd ps []
section
variable {X : Cx} {CX : CXT} {k : Nat} {x : Str} {ps ks : List Str} {st : Stmt} {sp : Sp} {E : XK} {p pos : Pos} {e : Expr} {es : List Expr} {kws : List Keyword} {t tk : TA}
theorem pe_cal (c : Cal X.prog X.w X.K X.mg X.base CX k x ps st sp) (hr : Room k X.A) (hx : Passes CX X E) (ha : PA X (e :: es) t) (hg : Gl X x := by rfl) (hdb : (x == ("__debug__" : Str)) = false := by decide)
    (he : starEach (e :: es) X.env = (false, eval e X.env) :: starEach es X.env := by rfl) (hpl : (backTo pos (starEach es X.env)).any (·.1) = false := by rfl) : PE X (.Call (.Name x p) (e :: es) [] pos) (tCall sp [] E t) := by
  obtain ⟨f, fd, G, F, hm, hb⟩ := c.ex
  exact pe_call G hr hg hm F.kp hb .nil hx ha hdb he hpl
theorem pe_cal0 (c : Cal X.prog X.w X.K X.mg X.base CX k x ps st sp) (hr : Room k X.A) (hx : Passes CX X E) (hg : Gl X x := by rfl) (hdb : (x == ("__debug__" : Str)) = false := by decide) : PE X (.Call (.Name x p) [] [] pos) (tCall sp [] E tNil) := by
  obtain ⟨f, fd, G, F, hm, hb⟩ := c.ex
  exact pe_call0 G hr hg hm F.kp hb .nil hx hdb
/-- how a call with keywords binds, whatever the function object -/
structure KwB (x : Str) (st : Stmt) (ps ks : List Str) (g : List Value → List Value → List Value) (gV : List V → List V → List V) : Prop where
  to : ∀ (kV doc pm : Value) (an : Option Addr) (cdv ct : Value) (us ws : List Value), (g us ws).length = ps.length →
    bindArgs (PySem.W.fnOf x x (defArgs st) (defBody st) (defScope st) .none kV doc pm an cdv ct) ⟨us, ks.zip ws⟩ = pure (ps.zip (g us ws))
  rel : ∀ {vs : List V} {us : List Value} {zs : List V} {ws : List Value}, Vals vs us → Vals zs ws → Vals (gV vs zs) (g us ws)
variable {g : List Value → List Value → List Value} {gV : List V → List V → List V}
theorem KwB.binds {K : PySem.W.Frag} {f : Addr} {fd : FuncData} (B : KwB x st ps ks g gV) (F : Fun K x x st f fd) : KBinds K fd ps ks g gV := by
  obtain ⟨oc, od, kV, doc, pm, an, cdv, ct, osl, rfl, lk, hcd⟩ := F.ex
  exact ⟨fun s us ws _ hl => .of_eq (B.to kV doc pm an cdv ct us ws hl), fun r rz => B.rel r rz⟩
theorem pe_calK (c : Cal X.prog X.w X.K X.mg X.base CX k x ps st sp) (B : KwB x st ps ks g gV) (hr : Room k X.A) (hx : Passes CX X E) (ha : PA X (e :: es) t) (hkw : PK X kws tk) (hg : Gl X x := by rfl)
    (hall : (backToKw pos (keywordEach kws X.env)).all (·.1.isSome) = true := by rfl) (hks : (backToKw pos (keywordEach kws X.env)).filterMap (·.1) = ks := by rfl)
    (hdb : (x == ("__debug__" : Str)) = false := by decide) (he : starEach (e :: es) X.env = (false, eval e X.env) :: starEach es X.env := by rfl)
    (hpl : ((backTo pos (starEach (e :: es) X.env)).any (·.1) || (backToKw pos (keywordEach kws X.env)).any (·.1.isNone)) = false := by rfl) :
    PE X (.Call (.Name x p) (e :: es) kws pos) (tCallK sp gV E t tk) := by
  obtain ⟨f, fd, G, F, hm, hb⟩ := c.ex
  exact pe_callK G hr hg hm F.kp (B.binds F) hx ha hkw hall hks hdb he hpl
/-- keywords alone -/
theorem pe_calK0 (c : Cal X.prog X.w X.K X.mg X.base CX k x ps st sp) (B : KwB x st ps ks g gV) (hr : Room k X.A) (hx : Passes CX X E) (hkw : PK X kws tk) (hg : Gl X x := by rfl)
    (hall : (backToKw pos (keywordEach kws X.env)).all (·.1.isSome) = true := by rfl) (hks : (backToKw pos (keywordEach kws X.env)).filterMap (·.1) = ks := by rfl)
    (hdb : (x == ("__debug__" : Str)) = false := by decide)
    (hpl : ((backTo pos (starEach [] X.env)).any (·.1) || (backToKw pos (keywordEach kws X.env)).any (·.1.isNone)) = false := by rfl) :
    PE X (.Call (.Name x p) [] kws pos) (tCallK sp gV E tNil tk) := by
  obtain ⟨f, fd, G, F, hm, hb⟩ := c.ex
  refine ⟨fun pins s σ H Q I h => ?_⟩
  refine wpAny_Call_Name_kw (ld_glob I hg hm ?_ hdb)
  refine PySem.W.callWith_KW0 (h₀ := X.base) I.ok.mod.kin F.kp hall (thn (hkw.run pos pins s σ H _ I h) fun ws s2 ⟨zs, H2, I2, rz, q2⟩ => ⟨I2.kIn, ?_⟩) hpl
  rw [hks]
  exact run_fnk (us := []) (vs := []) G hr (B.binds F) hx I2 .nil rz q2
end

/-! ### enumerate of a tuple -/
def IteT (K : PySem.W.Frag) (a : Addr) : It :=
  ⟨fun i H => ∃ (xs : List V) (x : V), SqT K H a xs ∧ xs[i]? = some x, fun i H v H' => ∃ T x, v = .ref T ∧ H T = none ∧ H' = upd H T (.tup [.int (i : Nat), x]) ∧ ∀ xs, SqT K H a xs → xs[i]? = some x, fun i H => ∃ xs : List V, SqT K H a xs ∧ i = xs.length⟩
set_option maxHeartbeats 1000000 in
theorem meets_enum_tup {v : Value} {o : Obj} {H : Heap → Prop} (B : Begins v o H) :
    Meets (Builtin.«enumerate.__new__» ⟨[.type "enumerate", v], []⟩) (fun _ R s => H s.heap ∧
      R (.ok (.ret (.ref (s.heap.push o).objs.size))) { s with heap := (s.heap.push o).push { cls := .type "enumerate", data := .fields #[.none, .bool false, .ref s.heap.objs.size, rawInt 0, .none, .none] } }) :=
  .of_wp fun prog w A R s h => by
    obtain ⟨hp, g, d, tk, os⟩ := s; obtain ⟨h1, h⟩ := h
    have hsub := sub_enumerate
    have q1 : ∀ {A' : Around} {E : Value → Shared → Prop} {Q : Value → Shared → Prop}, Q (.ref hp.objs.size) ⟨hp.push o, g, d, tk, os⟩ → wpAny (model prog w) A' (pyIter v) Q E ⟨hp, g, d, tk, os⟩ :=
      fun q => B.iter prog w _ _ ⟨hp, g, d, tk, os⟩ _ h1 q
    wp_walk using q1
    refine wpAny_stack_any fun st => wpAny_pure ?_
    split
    · rename_i c _ _ _ _ _
      cases (c == Value.type "enumerate")
      · wp_walk using q1
        exact ⟨_, rfl, h⟩
      · wp_walk using q1
        exact ⟨_, rfl, h⟩
    · wp_walk using q1
      exact ⟨_, rfl, h⟩
end Bw

namespace HT
open PySem PySem.Spec PyProof.Rows
section
variable {prog : Program} {w : World} {A : Around} {E : Value → Shared → Prop} {s : Shared}
theorem sliceApplied_rev {sl : Addr} {vk : Value} {n : Nat} {Q : Int × Int × Nat → Shared → Prop} (hs : s.heap.IsSliceOf sl .none .none vk) (pk : IsPart vk (some (-1)))
    (h : Q ((n : Int) - 1, -1, n) s) : wpAny (model prog w) A (Builtin.Slice.sliceApplied (.ref sl) (pure (n : Int))) Q E s := by
  obtain ⟨os, hos, hcs, hds⟩ := id hs
  unfold Builtin.Slice.sliceApplied Builtin.Slice.sliceFields
  refine wpAny_bind (wpAny_bind (wpAny_field hos hds (x := .none) rfl (wpAny_bind (wpAny_field hos hds (x := .none) rfl (wpAny_bind (wpAny_field hos hds (x := vk) rfl (wpAny_pure ?_)))))))
  refine wpAny_bind (slicePart_ pk ?_)
  show wpAny _ _ (if ((-1 : Int) == 0) = true then _ else _) _ _ s
  rw [if_neg (by decide)]
  refine wpAny_bind (slicePart_ .none (wpAny_bind (slicePart_ .none (wpAny_bind (wpAny_pure ?_)))))
  show wpAny _ _ (pure ((n : Int) - 1, (-1 : Int), Builtin.Slice.slicePlaces ((n : Int) - 1) (-1) (-1))) _ _ s
  have e : Builtin.Slice.slicePlaces ((n : Int) - 1) (-1) (-1) = n := by
    unfold Builtin.Slice.slicePlaces
    rw [if_neg (by decide)]
    by_cases h0 : n = 0
    · subst h0; decide
    · rw [if_pos (show (n : Int) - 1 > -1 by omega), show (- -1 : Int) = 1 by decide, Int.ediv_one]
      omega
  rw [e]
  exact wpAny_pure h
theorem pick_rev (xs : Array Value) : ((List.range xs.size).filterMap fun (m : Nat) => xs[(((xs.size : Int) - 1) + (m : Int) * (-1)).toNat]?).toArray = xs.toList.reverse.toArray := by
  have e : (List.range xs.size).filterMap (fun (m : Nat) => xs[(((xs.size : Int) - 1) + (m : Int) * (-1)).toNat]?) = xs.toList.reverse := by
    apply List.ext_getElem?
    intro i
    have gen : ∀ l : List Nat, (∀ m ∈ l, m < xs.size) → l.filterMap (fun (m : Nat) => xs[(((xs.size : Int) - 1) + (m : Int) * (-1)).toNat]?) = l.map (fun m => xs[xs.size - 1 - m]?.getD .none) := by
      intro l
      induction l with
      | nil => intro _; rfl
      | cons m l ih =>
        intro hl
        have hm := hl m List.mem_cons_self
        have e2 : (((xs.size : Int) - 1) + (m : Int) * (-1)).toNat = xs.size - 1 - m := by omega
        have e3 : xs[xs.size - 1 - m]? = some (xs[xs.size - 1 - m]'(by omega)) := Array.getElem?_eq_getElem (by omega)
        rw [List.map_cons, ← ih fun k hk => hl k (List.mem_cons_of_mem _ hk)]
        simp only [List.filterMap_cons, e2, e3, Option.getD_some]
    have e1 := gen (List.range xs.size) fun m hm => List.mem_range.mp hm
    rw [e1]
    by_cases hi : i < xs.size
    · rw [List.getElem?_map, List.getElem?_range hi, List.getElem?_reverse (by simpa using hi)]
      simp only [Option.map_some, Array.length_toList, Array.getElem?_toList]
      rw [Array.getElem?_eq_getElem (by omega)]
      rfl
    · rw [List.getElem?_eq_none (by simpa using hi), List.getElem?_eq_none (by simpa using hi)]
  rw [e]
theorem getItem_tuple_rev {t sl : Addr} {items : Array Value} {vk : Value} {Q : Value → Shared → Prop} (ht : IsTup s.heap t items) (hs : s.heap.IsSliceOf sl .none .none vk) (pk : IsPart vk (some (-1)))
    (h : Q (.ref s.heap.objs.size) { s with heap := s.heap.push { cls := .type "tuple", data := .seq items.toList.reverse.toArray } })
    (hsz : items.size ≤ sizeLine) : wpAny (model prog w) A (getItem (.ref t) (.ref sl)) Q E s := by
  have htake : sizeOk (.seq items.toList.reverse.toArray) := by
    show items.toList.reverse.toArray.size ≤ sizeLine
    rw [List.size_toArray, List.length_reverse, Array.length_toList]
    exact hsz
  obtain ⟨os, hos, hcs, hds⟩ := id hs
  have hTs : s.TypeIs (.ref sl) "slice" := ⟨os, hos, hcs⟩
  unfold getItem
  try with_reducible refine wpAny_holding ?_
  first | refine wpAny_bind (wpAny_pure ?_) | skip
  refine wpAny_bind (wpAny_sequenceKey ht.typeIs (by decide) ?_)
  refine wpAny_bind (wpAny_callSpecial?_slot (name := Str.ofString "__getitem__") ht.typeIs PyProof.Rows.slot_tuple_getitem
    (wpAny_call_entry PyProof.Rows.slot_tuple_getitem ht.typeIs entry_tuple_getitem ?_ (args_tuple_getitem _ _)))
  show wpAny _ _ (Builtin.Tuple.tupleItemsOf (.ref t) >>= _) _ _ s
  refine wpAny_bind (tupleItemsOf_ ht ?_)
  refine wpAny_bind (wpAny_typeOf hTs ?_)
  rw [if_pos (by decide)]
  refine wpAny_bind (sliceApplied_rev hs pk ?_)
  have hno : ¬ (((((items.size : Int) - 1)) == 0 && (-1 : Int) == 1 && items.size == items.size) = true) := by
    intro q
    rw [Bool.and_eq_true, Bool.and_eq_true] at q
    exact absurd q.1.2 (by decide)
  show wpAny _ _ (if (((items.size : Int) - 1) == 0 && (-1 : Int) == 1 && items.size == items.size) = true then _ else _) _ _ s
  rw [if_neg hno, pick_rev]
  first
    | exact wpAny_bind (m := Builtin.Tuple.tupleExact _) (wpAny_newObj_type (wpAny_pure ⟨_, rfl, wpAny_pure h⟩) htake)
    | exact wpAny_bind (m := Builtin.Tuple.tupleExact _) (wpAny_newObj_type (wpAny_bind (wpAny_pure (wpAny_pure ⟨_, rfl, wpAny_pure h⟩))) htake)
    | exact wpAny_bind (wpAny_bind (m := Builtin.Tuple.tupleExact _) (wpAny_newObj_type (wpAny_pure (wpAny_pure ⟨_, rfl, wpAny_pure h⟩)) htake))
    | exact wpAny_bind (wpAny_bind (m := Builtin.Tuple.tupleExact _) (wpAny_newObj_type (wpAny_pure ⟨_, rfl, wpAny_pure h⟩) htake))
end
end HT
namespace Bw
open PySem PySem.Spec PyProof.Rows L2
/-! ### t[::-1] -/
def tRevT (K : PySem.W.Frag) (te : TE) : TE := fun σ H Q => te σ H fun x H1 => ∃ a xs, x = .ref a ∧ SqT K H1 a xs ∧ ∀ p, H1 p = none → Q (.ref p) (upd H1 p (.tup xs.reverse))
theorem pe_revT {X : Cx} {e : Expr} {te : TE} {k : Nat} {p1 p2 p3 pos : Pos} (he : PE X e te) : PE X (.Subscript e (.Slice none none (some (.UnaryOp .USub (.Constant (.int 1) k p1) p2)) p3) pos) (tRevT X.K te) := by
  refine ⟨fun pins s σ H Q I h => ?_⟩
  refine Subscript_ (thn (he.run pins s σ H _ I h) fun v s1 ⟨x, H1, I1, r1, q1⟩ => ?_)
  obtain ⟨a, xs, ex, hx, q⟩ := q1
  subst ex
  cases r1
  have hst : PO X (some (.UnaryOp .USub (.Constant (.int 1) k p1) p2)) (tPart (tUn (rU fun i => .int (-i)) (tC (.int 1)))) := po_some (pe_un un_neg pe_int)
  refine wpAny_Slice (thn (po_none.run pins s1 σ H1 (fun o H2 => o = none ∧ H2 = H1) I1 ⟨rfl, rfl⟩) fun vl s2 ⟨l, H2, I2, pl, el, e2⟩ => ?_)
  subst el e2
  refine thn (po_none.run pins s2 σ H2 (fun o H3 => o = none ∧ H3 = H2) I2 ⟨rfl, rfl⟩) fun vu s3 ⟨u, H3, I3, pu, eu, e3⟩ => ?_
  subst eu e3
  refine thn (hst.run pins s3 σ H3 (fun o H4 => o = some (-1) ∧ H4 = H3) I3 ⟨1, rfl, -1, rfl, rfl, rfl⟩) fun vs s4 ⟨o, H4, I4, ps, eo, e4⟩ => ?_
  subst eo e4
  cases pl
  cases pu
  have I5 : Inv X pins σ H4 { s4 with heap := s4.heap.push { cls := .type "slice", data := .fields #[.none, .none, vs] } } := I4.kept (t' := s4.toks) fun b ob q => Heap.get?_push_of_some _ q
  obtain ⟨its, r, ht, hz⟩ := I5.tuple hx
  have hlen := r.length
  show wpAny (model X.prog X.w) X.A (subscriptTail e (.Slice none none (some (.UnaryOp .USub (.Constant (.int 1) k p1) p2)) p3) (.ref a) (.ref s4.heap.objs.size)) (EP X pins σ Q) X.xe { s4 with heap := s4.heap.push { cls := .type "slice", data := .fields #[.none, .none, vs] } }
  refine tail_any (ops := [.ref a, .ref s4.heap.objs.size]) ht.typeIs (PyProof.Rows.slot_tuple_getitem.lookup) ?_ (by with_unfolding_all rfl)
  refine HT.getItem_tuple_rev ht (Heap.IsSliceOf.new _ .none .none vs) ps ?_ (by rw [List.size_toArray]; omega)
  refine ⟨.ref _, _, I5.laid (t' := s4.toks) (o := .tup xs.reverse) (fun b ob q => Heap.get?_push_of_some _ q) (Nat.le_refl _) ?_, rfl, q _ (I5.hok.fresh (Nat.le_refl _))⟩
  exact ⟨by rw [List.length_reverse]; exact hz, _, r.reverse, IsTup.new _ _⟩
/-! ### enumerate of a tuple -/
theorem turn_enumT {P : Program} {w : World} {K : PySem.W.Frag} {elts : List Expr} {kk : Nat} {tpos : Pos} (a e it : Addr) (hai : a ≠ it) (hea : e ≠ a) :
    Turn P w K (.Tuple elts kk tpos) (IteT K a) [e, it] e (fun i h => (∃ old, IsEnum h e it ((i : Nat) : Int) old) ∧ h.IsTupleIter it a i ∧ e ≠ it) where
  mem := by simp
  obj := fun i h st b hb => by
    obtain ⟨⟨old, he⟩, ⟨o, ho, hc, hd⟩, _⟩ := st
    have e' : b = e ∨ b = it := by simpa using hb
    rcases e' with z | z
    · rw [z]; exact ⟨_, he, fun v q => nomatch q⟩
    · rw [z]; exact ⟨o, ho, fun v q => by rw [hd] at q; cases q⟩
  keep := fun i h h' st k => let ⟨⟨old, he⟩, hi, hne⟩ := st; ⟨⟨old, k e (by simp) _ he⟩, hi.at fun o q => k it (by simp) o q, hne⟩
  item := by
    intro X hP hw hK hc i pins s σ H E I hf st hg
    subst hP hw hK
    obtain ⟨⟨old, he⟩, hit, hne⟩ := st
    obtain ⟨xs, x, hq, hx⟩ := hg
    obtain ⟨its, rv, p, hz⟩ := I.tuple hq
    obtain ⟨u, hu, ru⟩ := rv.get hx
    have hel : e < s.heap.objs.size := Heap.lt_size he
    have hil : it < s.heap.objs.size := by obtain ⟨_, q, _⟩ := hit; exact Heap.lt_size q
    have hD := Draws.tuple (prog := X.prog) (w := X.w) (A := X.A.in1) (show X.A.in1.handled = none from I.ok.hd hc) it a hai its.toArray
    have hlt : i < its.toArray.size := by
      have := (List.getElem?_eq_some_iff.mp hu).1
      simpa using this
    refine wpAny_pyNext_enum_itemD hD he ⟨hit, p⟩ hlt hne (by simp [hne, hea]) fun x' h' tk hx' ho hst' hT hsz hk => ?_
    have ex' : x' = u := by
      have := hx'.symm.trans (show its.toArray[i]? = some u by simpa using hu)
      exact Option.some.inj this
    subst ex'
    refine ⟨_, rfl, wpAny_letOwnedTupleGo_enum (s := { s with heap := h', toks := tk + 1 }) ho fun h'' he' sb => ?_⟩
    have hT2 : h''.get? s.heap.objs.size = some { cls := .type "tuple", data := .seq #[.int i tk, x'] } := (sb.2 _ (Nat.ne_of_gt hel)).trans hT
    have new : ObjOk X.prog X.w (upd H s.heap.objs.size (.tup [.int (i : Nat), x])) h'' s.heap.objs.size (.tup [.int (i : Nat), x]) :=
      ⟨by show 2 ≤ sizeLine; decide, [.int i tk, x'], .cons ⟨_, rfl⟩ (.cons ru .nil), ⟨_, hT2, rfl, _, rfl⟩⟩
    have I1 : Inv X pins σ (upd H s.heap.objs.size (.tup [.int (i : Nat), x])) { s with heap := h'', toks := tk + 1 } :=
      I.turnedNew (ch := [e, it]) (fun b ob hb q => (sb.2 b (fun z => hb (by simp [z]))).trans (hk b ob (fun z => hb (by simp [z])) (fun z => hb (by simp [z])) q)) hf (Nat.le_refl _) new
    refine ⟨.ref s.heap.objs.size, _, I1, rfl, ⟨_, x, rfl, I.hok.fresh (Nat.le_refl _), rfl, fun ys hy => by rw [I.tuple_inj hy hq]; exact hx⟩, ⟨⟨x', ?_⟩, hst'.1.at fun o q => (sb.2 it (Ne.symm hne)).trans q, hne⟩, fun b hb => ?_⟩
    · have e1 : ((i + 1 : Nat) : Int) = (i : Int) + 1 := by omega
      rw [e1]; exact he'
    · have hb' : b < s.heap.objs.size := by
        have e' : b = e ∨ b = it := by simpa using hb
        rcases e' with z | z
        · rw [z]; exact hel
        · rw [z]; exact hil
      rw [upd_ne (Nat.ne_of_lt hb')]
      exact (hf b hb).1
  done := by
    intro X hP hw hK hc i pins s σ H E I hf st hg
    subst hP hw hK
    obtain ⟨⟨old, he⟩, hit, hne⟩ := st
    obtain ⟨xs, hq, hx⟩ := hg
    obtain ⟨its, rv, p, hz⟩ := I.tuple hq
    obtain ⟨f0, f1, f2, f3, f4, f5⟩ := hf it (by simp)
    have hl := rv.length
    have hD := Draws.tuple (prog := X.prog) (w := X.w) (A := X.A.in1) (show X.A.in1.handled = none from I.ok.hd hc) it a hai its.toArray
    have hi : i = its.toArray.size := by rw [List.size_toArray]; omega
    subst hi
    exact wpAny_pyNext_enum_endD hD he ⟨hit, p⟩ fun h' eb => ⟨rfl, I.turned (t' := s.toks) (fun b o hb q => eb b o hb q) f0 f1 f3 f4 f5⟩
  self := fun A i s Q E st h => let ⟨⟨_, he⟩, _⟩ := st; wpAny_pyIter_enum he h
def iEnumT (K : PySem.W.Frag) (ta : TA) : TI := fun σ H R => ta σ H fun vs H1 => ∃ a xs, vs = [.ref a] ∧ SqT K H1 a xs ∧ R (IteT K a) H1
theorem pi_enumT {X : Cx} {e : Expr} {ta : TA} {p pos tpos : Pos} {elts : List Expr} {kk : Nat} (hg : Gl X "enumerate") (hm : X.mg "enumerate" = none) (ha : PA X [e] ta) (hs : starEach [e] X.env = [(false, eval e X.env)] := by rfl) :
    PI X (.Tuple elts kk tpos) (.Call (.Name "enumerate" p) [e] [] pos) (iEnumT X.K ta) := by
  refine ⟨fun pins s σ H R I h => ?_⟩
  refine Call_ (ld_blt I hg hm boot_enumerate (PyProof.Rows.callWith_type1 (thn (ha.run pos pins s σ H _ I h) fun us s1 ⟨vs, H1, I1, r1, q1⟩ => ?_) hs rfl))
  obtain ⟨a, xs, ex, hq, q⟩ := q1
  subst ex
  cases r1 with
  | cons r rr =>
    cases rr
    cases r
    obtain ⟨its, rv, p', hz⟩ := I1.tuple hq
    have hla : a < s1.heap.objs.size := by obtain ⟨o, ho, _⟩ := p'; exact Heap.lt_size ho
    refine callType_new F.called_enumerate (by decide) (F.typeCall_enumerate_1 _) (F.newCall_enumerate_1 _) (fun obj => F.args_object_init_2 obj _) F.entry_enumerate_new
      (meets_enum_tup (begins_tuple a its.toArray)) ⟨p', ?_⟩
    have hz1 : (s1.heap.push { cls := .type "tuple_iterator", data := .fields #[.ref a, .int 0 0] }).objs.size = s1.heap.objs.size + 1 := Heap.size_push ..
    have he : IsEnum ((s1.heap.push { cls := .type "tuple_iterator", data := .fields #[.ref a, .int 0 0] }).push
        { cls := .type "enumerate", data := .fields #[.none, .bool false, .ref s1.heap.objs.size, rawInt 0, .none, .none] }) (s1.heap.objs.size + 1) s1.heap.objs.size 0 .none := by
      have := Heap.get?_push_size (s1.heap.push { cls := .type "tuple_iterator", data := .fields #[.ref a, .int 0 0] })
        (o := { cls := .type "enumerate", data := .fields #[.none, .bool false, .ref s1.heap.objs.size, rawInt 0, .none, .none] }) rfl
      rw [hz1] at this; exact this
    have hit : ((s1.heap.push { cls := .type "tuple_iterator", data := .fields #[.ref a, .int 0 0] }).push
        { cls := .type "enumerate", data := .fields #[.none, .bool false, .ref s1.heap.objs.size, rawInt 0, .none, .none] }).IsTupleIter s1.heap.objs.size a 0 := ⟨_, Heap.get?_push_of_some _ (Heap.get?_push_size _ rfl), rfl, rfl⟩
    show _ ∧ _
    rw [hz1]
    refine ⟨⟨_, he, rfl⟩, wpAny_pyIter_enum he ?_⟩
    have I2 : Inv X pins σ H1 { s1 with heap := (s1.heap.push { cls := .type "tuple_iterator", data := .fields #[.ref a, .int 0 0] }).push { cls := .type "enumerate", data := .fields #[.none, .bool false, .ref s1.heap.objs.size, rawInt 0, .none, .none] } } :=
      I1.kept (t' := s1.toks) fun b o x => Heap.get?_push_of_some _ (Heap.get?_push_of_some _ x)
    refine ⟨s1.heap.objs.size + 1, [s1.heap.objs.size + 1, s1.heap.objs.size], _, _, H1, rfl, I2, turn_enumT a (s1.heap.objs.size + 1) s1.heap.objs.size (Nat.ne_of_lt hla) (Nat.ne_of_gt (Nat.lt_succ_of_lt hla)), ⟨⟨.none, he⟩, hit, Nat.succ_ne_self _⟩, fun b hb => ?_, q⟩
    have e' : b = s1.heap.objs.size + 1 ∨ b = s1.heap.objs.size := by simpa using hb
    have hle : s1.heap.objs.size ≤ b := by
      rcases e' with z | z
      · rw [z]; exact Nat.le_add_right _ _
      · rw [z]; exact Nat.le_refl _
    exact I1.fpOk hle (I1.hok.fresh hle)
theorem walk_enumT {K : PySem.W.Frag} {a : Addr} {xs : List V} : Walk (IteT K a) xs.length (fun H => SqT K H a xs) (YPair (fun i => some (.int (i : Nat))) (fun i => xs[i]?)) := by
  refine ⟨fun i _ hi q => ⟨xs, xs[i], q, by simp [hi]⟩, fun _ q => ⟨xs, q, rfl⟩, fun i H v H' _ q y => ?_⟩
  obtain ⟨T, x, h1, h2, h3, h4⟩ := y
  exact ⟨T, .int (i : Nat), x, h1, h2, h3, rfl, h4 xs q⟩
/-! ### repr of data -/
theorem call_reprD {X : Cx} (hg : X.A.guards = some []) (hu : X.A.units + 80 < cLine) : CallR X (.builtin "repr") (fun xs H Q => ∃ a d, xs = [.ref a] ∧ Dp X.K H (.ref a) d ∧ d.showable = true ∧ d.hasDict = false ∧ d.depth < 64 ∧ d.shown.length ≤ sizeLine ∧ Q (.str d.shown) H) := by
  intro pins s σ H xs us Q I r h
  obtain ⟨a, d, rfl, hd, hs, hn, hp, hz, q⟩ := h
  obtain ⟨u, rfl, ru⟩ := vals1 r
  obtain ⟨as, hr⟩ := Dp.reads I d _ _ hd ru
  cases ru
  exact repr_of_reads' hr hs (PyData.noDict_hsm hn) hg (by omega) (fun _ _ e => e) (fun h' u tk hk => ⟨.str _, H, I.kept (t' := tk) hk, ⟨_, rfl⟩, q⟩) hz
end Bw

namespace Bw
open PySem PySem.Spec PyProof.Rows L2
/-! ### the drawn source and what a def leaves -/
def Src (H : Hp) (p : Addr) : Prop := ∃ a b : Int, H p = some (.lst [.int a, .int b]) ∧ 0 ≤ a ∧ 0 ≤ b ∧ b < 2147483647
/-- all that was tracked but at p is as it was -/
def Exb (p : Addr) (H H' : Hp) : Prop := ∀ b o, b ≠ p → H b = some o → H' b = some o
section
variable {p q a : Addr} {H H1 H2 : Hp} {K : PySem.W.Frag} {xs : List V} {o : HO}
theorem Exb.refl : Exb p H H := fun _ _ _ h => h
theorem Exb.trans (e : Exb p H H1) (f : Exb p H1 H2) : Exb p H H2 := fun b o n h => f b o n (e b o n h)
theorem Exb.of (e : Same H H1) : Exb p H H1 := fun b o _ h => e b o h
theorem Exb.new (h : H q = none) : Exb p H (upd H q o) := fun b u _ e => by
  rw [upd_ne (ne_of_none e h)]
  exact e
theorem _root_.L2.Same.new (h : H q = none) : Same H (upd H q o) := fun b u e => by
  rw [upd_ne (ne_of_none e h)]
  exact e
theorem Exb.at : Exb p H (upd H p o) := fun b u n e => by
  rw [upd_ne n]
  exact e
theorem Exb.put (e : Exb p H H1) : Exb p H (upd H1 p o) := fun b u n h => by
  rw [upd_ne n]
  exact e b u n h
/-- an object that H did not know may change -/
theorem _root_.L2.Same.mut (e : Same H H1) (h : H q = none) : Same H (upd H1 q o) := fun b u hb => by
  rw [upd_ne (ne_of_none hb h)]
  exact e b u hb
theorem Exb.mut (e : Exb p H H1) (h : H q = none) : Exb p H (upd H1 q o) := fun b u n hb => by
  rw [upd_ne (ne_of_none hb h)]
  exact e b u n hb
theorem _root_.L2.Same.tup (e : Same H H1) (h : SqT K H a xs) : SqT K H1 a xs := by
  rcases h with (h | ⟨o, h⟩) | h
  · exact .inl (.inl (e _ _ h))
  · exact .inl (.inr ⟨o, e _ _ h⟩)
  · exact .inr h
theorem Exb.tup (e : Exb p H H1) (s : Src H p) (h : SqT K H a xs) : SqT K H1 a xs := by
  obtain ⟨x, y, hp, _⟩ := s
  rcases h with (h | ⟨o, h⟩) | h
  · exact .inl (.inl (e _ _ (fun z => by rw [z, hp] at h; cases h) h))
  · exact .inl (.inr ⟨o, e _ _ (fun z => by rw [z, hp] at h; cases h) h⟩)
  · exact .inr h
theorem Exb.lst (e : Exb p H H1) (n : q ≠ p) (h : H q = some (.lst xs)) : H1 q = some (.lst xs) := e _ _ n h
theorem _root_.L2.Same.src (e : Same H H1) (s : Src H p) : Src H1 p := by
  obtain ⟨x, y, hp, h⟩ := s
  exact ⟨x, y, e _ _ hp, h⟩
theorem Src.ne (s : Src H p) (h : H q = none) : q ≠ p := fun z => by
  obtain ⟨x, y, hp, _⟩ := s
  rw [z, hp] at h
  cases h
theorem Src.put (s : Src H p) (n : q ≠ p) : Src (upd H q o) p := by
  obtain ⟨x, y, hp, h⟩ := s
  exact ⟨x, y, by rw [upd_ne n.symm]; exact hp, h⟩
theorem Exb.fresh (e : Exb p H H1) (n : q ≠ p) (h : H1 q = none) : H q = none := by
  cases z : H q with
  | none => rfl
  | some o => rw [e q o n z] at h; cases h
end
theorem atI0 {x : V} {r : List V} : atI (x :: r) 0 = some x := atI_nat (j := 0) rfl
theorem atI1 {x y : V} {r : List V} : atI (x :: y :: r) 1 = some y := atI_nat (j := 1) rfl
theorem ixN_nat {n : Nat} {i : Int} {j : Nat} (e : i = (j : Int)) (h : j < n) : ixN n i = some j := by
  subst e
  unfold ixN
  rw [if_pos (by omega), if_pos (by omega)]; simp
theorem ixN_neg {n : Nat} {i : Int} {j : Nat} (e : i = (j : Int) - (n : Int)) (h : j < n) : ixN n i = some j := by
  subst e
  unfold ixN
  rw [if_neg (by omega), if_pos (by omega)]
  congr 1
  omega
theorem atN {α : Type} {xs : List α} {i : Int} {j : Nat} {v : α} (h : xs[j]? = some v) (e : i = (j : Int)) : atI xs i = some v := by
  subst e
  exact atI_nat h
theorem atNeg {α : Type} {xs : List α} {i : Int} {j : Nat} {v : α} (h : xs[j]? = some v) (e : i = (j : Int) - (xs.length : Int)) : atI xs i = some v := by
  unfold atI
  rw [ixN_neg e (List.getElem?_eq_some_iff.mp h).1]
  exact h
theorem num_map (i : Nat) (ns : List Int) (x : V) (h : (ns.map V.int)[i]? = some x) : ∃ (hi : i < ns.length), x = .int ns[i] := by
  rw [List.getElem?_map] at h
  cases e : ns[i]? with
  | none => rw [e] at h; cases h
  | some z =>
    obtain ⟨h1, h2⟩ := List.getElem?_eq_some_iff.mp e
    rw [e] at h
    exact ⟨h1, by rw [h2]; exact (Option.some.inj h).symm⟩
theorem itT {c : Bool} {A B : Prop} (hc : c = true) (h : A) : if c = true then A else B := by
  rw [if_pos hc]
  exact h
theorem itF {c : Bool} {A B : Prop} (hc : c = false) (h : B) : if c = true then A else B := by
  rw [hc, if_neg Bool.false_ne_true]
  exact h
theorem pe_gint {X : Cx} {x : Str} {pos : Pos} {i : Int} (hg : Gl X x) (h : ∃ t, X.mg x = some (.int i t)) (hd : (x == ("__debug__" : Str)) = false := by decide) : PE X (.Name x pos) (tC (.int i)) := by
  obtain ⟨t, y⟩ := h
  exact pe_glob hg y ⟨t, rfl⟩ hd
theorem pe_ty {X : Cx} {x : Str} {pos : Pos} {T : String} (hg : Gl X x) (hm : X.mg x = none) (hv : bootBuiltins x = some (.type T)) (hn : x ≠ "__name__" := by decide) (hd : (x == ("__debug__" : Str)) = false := by decide) : PE X (.Name x pos) (tC (.ty T)) :=
  pe_bltn hg hm hv rfl hn hd
theorem small {n : Nat} (h : n ≤ 1000000) : n ≤ sizeLine := Nat.le_trans h (by decide)
theorem smallLt {n : Nat} (h : n < 1000000) : n < sizeLine := Nat.lt_of_lt_of_le h (by decide)

/-! ### the layer's rules with the written part told -/
section
variable {X : Cx}
abbrev tNoP : TO := fun _ H Q => Q none H
theorem poN : PO X none tNoP := po_none
theorem ixL (K : PySem.W.Frag) (h : X.K = K := by rfl) : IxR X (rIxL K) := h ▸ ix_list
theorem ixT (K : PySem.W.Frag) (h : X.K = K := by rfl) : IxR X (rIxT K) := h ▸ ix_tup
theorem slT (K : PySem.W.Frag) (h : X.K = K := by rfl) : SlR X (rSlA K) := h ▸ sl_tupA
theorem slL (K : PySem.W.Frag) (h : X.K = K := by rfl) : SlR X (rSlL K) := h ▸ sl_list
theorem lenS (K : PySem.W.Frag) (h : X.K = K := by rfl) : CallR X (.builtin "len") (Evl.rLenS K) := by subst h; exact call_len_seq
def rTupOf (K : PySem.W.Frag) : List V → Hp → VK → Prop := fun xs H Q => ∃ p ys, xs = [.ref p] ∧ ((SqL K H p ys ∧ ∀ l, H l = none → Q (.ref l) (upd H l (.tup ys))) ∨ (SqT K H p ys ∧ Q (.ref p) H))
theorem tupOf (K : PySem.W.Frag) (h : X.K = K := by rfl) : CallR X (.type "tuple") (rTupOf K) := by subst h; exact call_tuple_of
def rListOf (K : PySem.W.Frag) : List V → Hp → VK → Prop := fun xs H Q => ∃ p ys, xs = [.ref p] ∧ (SqL K H p ys ∨ SqT K H p ys) ∧ ∀ l, H l = none → Q (.ref l) (upd H l (.lst ys))
theorem listOf (K : PySem.W.Frag) (h : X.K = K := by rfl) : CallR X (.type "list") (rListOf K) := by subst h; exact call_list_of
theorem catA (K : PySem.W.Frag) (h : X.K = K := by rfl) : OpR X (binaryOp .Add) (rCatA K) := h ▸ op_catA
theorem eqD (K : PySem.W.Frag) (hu : X.A.units + 64 < cLine) (h : X.K = K := by rfl) : OpR X (compareOp .Eq) (rEqD K) := h ▸ op_eqD hu
theorem neD (K : PySem.W.Frag) (hu : X.A.units + 64 < cLine) (h : X.K = K := by rfl) : OpR X (compareOp .NotEq) (rNeD K) := h ▸ op_neD hu
theorem inS (K : PySem.W.Frag) (h : X.K = K := by rfl) : OpR X (compareOp .In) (rIn K false) := h ▸ op_in_seq
theorem ninS (K : PySem.W.Frag) (h : X.K = K := by rfl) : OpR X (compareOp .NotIn) (rIn K true) := h ▸ op_notIn_seq
theorem isI (K : PySem.W.Frag) (h : X.K = K := by rfl) : CallR X (.builtin "isinstance") (rIsi K) := h ▸ call_isi
theorem maxL (K : PySem.W.Frag) (hc : X.calm = true) (h : X.K = K := by rfl) : CallR X (.builtin "max") (rMax K) := h ▸ cr_max hc
theorem minL (K : PySem.W.Frag) (hc : X.calm = true) (h : X.K = K := by rfl) : CallR X (.builtin "min") (rMin K) := h ▸ cr_min hc
theorem sortL (K : PySem.W.Frag) (h : X.K = K := by rfl) : CallR X (.builtin "sorted") (rSorted K) := h ▸ cr_sorted
theorem piL (K : PySem.W.Frag) {tg l : Expr} {tl : TE} (hl : PE X l tl) (h : X.K = K := by rfl) : PI X tg l (iList K tl) := h ▸ pi_list hl
theorem piT (K : PySem.W.Frag) {tg l : Expr} {tl : TE} (hl : PE X l tl) (h : X.K = K := by rfl) : PI X tg l (iTup K tl) := h ▸ pi_tup hl
end
/-! ### data in the heap -/
theorem dpAllI {K : PySem.W.Frag} {H : Hp} : ∀ ns : List Int, DpAll K H (ns.map V.int) (ns.map PyData.int)
  | [] => .nil
  | n :: ns => .cons (.int n) (dpAllI ns)
theorem dpT {K : PySem.W.Frag} {H : Hp} {a : Addr} {ns : List Int} (h : SqT K H a (ns.map V.int)) : Dp K H (.ref a) (.tuple (ns.map PyData.int)) := .tup h (dpAllI ns)
theorem dpL {K : PySem.W.Frag} {H : Hp} {a : Addr} {ns : List Int} (h : SqL K H a (ns.map V.int)) : Dp K H (.ref a) (.list (ns.map PyData.int)) := .lst h (dpAllI ns)

theorem shAll : ∀ ns : List Int, PyData.canLayAll0 (ns.map PyData.int) = true
  | [] => rfl
  | n :: ns => by rw [List.map_cons, PyData.canLayAll0, shAll ns]; rfl
theorem dpAll0 : ∀ ns : List Int, PyData.depthAll (ns.map PyData.int) = 0
  | [] => rfl
  | n :: ns => by rw [List.map_cons, PyData.depthAll, dpAll0 ns]; rfl
theorem shT (ns : List Int) : SeqAt.shaped (.tuple (ns.map PyData.int)) = true := by
  unfold SeqAt.shaped
  rw [PyData.canLay0, shAll, PyData.depth, dpAll0]
  rfl
theorem shL (ns : List Int) : SeqAt.shaped (.list (ns.map PyData.int)) = true := by
  unfold SeqAt.shaped
  rw [PyData.canLay0, shAll, PyData.depth, dpAll0]
  rfl
theorem eqvI : ∀ ns ms : List Int, PyData.eqvAll (ns.map PyData.int) (ms.map PyData.int) = decide (ns = ms)
  | [], [] => by simp only [List.map_nil, PyData.eqvAll, decide_true]
  | [], _ :: _ => by simp [PyData.eqvAll]
  | _ :: _, [] => by simp [PyData.eqvAll]
  | x :: xs, y :: ys => by
    rw [List.map_cons, List.map_cons, PyData.eqvAll, eqvI xs ys, PyData.eqv]
    have e : (x == y) = decide (x = y) := by rw [Bool.eq_iff_iff, beq_iff_eq, decide_eq_true_eq]
    rw [e, ← Bool.decide_and]
    exact decide_eq_decide.mpr (by rw [List.cons.injEq])
section
variable {K : PySem.W.Frag} {H : Hp} {a b : Addr} {ns ms : List Int} {Q : VK}
theorem eqT (ha : SqT K H a (ns.map V.int)) (hb : SqT K H b (ms.map V.int)) (q : Q (.bl (decide (ns = ms))) H) : rEqD K (.ref a) (.ref b) H Q :=
  ⟨_, _, dpT ha, dpT hb, shT _, shT _, by rw [PyData.eqv, eqvI]; exact q⟩
theorem neT (ha : SqT K H a (ns.map V.int)) (hb : SqT K H b (ms.map V.int)) (q : Q (.bl (!decide (ns = ms))) H) : rNeD K (.ref a) (.ref b) H Q :=
  ⟨_, _, dpT ha, dpT hb, shT _, shT _, by rw [PyData.eqv, eqvI]; exact q⟩
theorem eqL (ha : SqL K H a (ns.map V.int)) (hb : SqL K H b (ms.map V.int)) (q : Q (.bl (decide (ns = ms))) H) : rEqD K (.ref a) (.ref b) H Q :=
  ⟨_, _, dpL ha, dpL hb, shL _, shL _, by rw [PyData.eqv, eqvI]; exact q⟩
theorem neL (ha : SqL K H a (ns.map V.int)) (hb : SqL K H b (ms.map V.int)) (q : Q (.bl (!decide (ns = ms))) H) : rNeD K (.ref a) (.ref b) H Q :=
  ⟨_, _, dpL ha, dpL hb, shL _, shL _, by rw [PyData.eqv, eqvI]; exact q⟩
theorem tyT {xs : List V} (h : SqT K H a xs) : TyX K H (.ref a) (.type "tuple") := by
  rcases h with (h | ⟨o, h⟩) | ⟨o, its, n, h, c, _⟩
  · exact .base (.tup h)
  · exact .fTuple h
  · exact .kTuple h c
/-- isinstance(t, tuple) of a tuple -/
theorem isTup {xs : List V} (h : SqT K H a xs) (q : Q (.bl true) H) : rIsi K [.ref a, .ty "tuple"] H Q := ⟨.ref a, .ty "tuple", .type "tuple", .type "tuple", true, rfl, .ty _, tyT h, kit_ty (by decide +kernel), q⟩
end
theorem call_reprB {X : Cx} : CallR X (.builtin "repr") (fun xs H Q => ∃ b : Bool, xs = [.bl b] ∧ Q (.str (if b then "True" else "False")) H) := by
  intro pins s σ H xs us Q I r h
  obtain ⟨b, rfl, q⟩ := h
  obtain ⟨u, rfl, ru⟩ := vals1 r
  cases (show u = Value.bool b from ru)
  exact PySem.P.repr_of_bool ⟨.str _, H, I.tok _, ⟨_, rfl⟩, q⟩

/-! ### a comprehension whose test and element only read -/
open Evl in
theorem lc_pure {J : It} {n : Nat} {G : Hp → Prop} {Y : Nat → Hp → V → Hp → Prop} (u : Nat → V) (w : Walk J n G Y) (hY : ∀ i H x H', Y i H x H' → i < n → H' = H ∧ x = u i) {j : Nat} {vs : List Nat} {σ : L2.St} {H1 : Hp} {D : Addr} {tt : TT} {te : TE} {Qd : Hp → Prop} (f : Nat → Bool) (v : Nat → V)
    (hD : H1 D = none) (hn : n < 50000) (hG : ∀ H', Same H1 H' → G H') (hw : ∀ x, wipe ((wipe σ vs).set j (some x)) vs = wipe σ vs)
    (ht : ∀ i, i < n → EvT tt ((wipe σ vs).set j (some (u i))) H1 (f i)) (he : ∀ i, i < n → f i = true → Ev te ((wipe σ vs).set j (some (u i))) H1 (v i)) (hd : ∀ H', Same H1 H' → H' D = some (.lst (given n f v)) → Qd H') :
    ∃ W : Nat → Nat → Hp → Prop, (∃ m, W 0 m (upd H1 D (.lst []))) ∧ ∀ i m H, W i m H →
      (J.stop i H ∧ Qd H) ∨ (J.go i H ∧ ∃ Nx : Hp → Prop, (∀ H', Nx H' → ∃ m', m' < m ∧ W (i + 1) m' H') ∧ ∀ x H', J.yld i H x H' → gName j x (wipe σ vs) H' fun σ2 H2 => wipe σ2 vs = wipe σ vs ∧ tt σ2 H2 fun b H3 =>
        if b = true then te σ2 H3 fun y H4 => ∃ acc, H4 D = some (.lst acc) ∧ acc.length < sizeLine ∧ Nx (upd H4 D (.lst (acc ++ [y]))) else Nx H3) := by
  refine lc_it w (fun i H' => Cw H1 f v D i H') ⟨hD, Ex.new hD, upd_same⟩ (fun i H' _ p => hG H' p.2.1) (fun i x H H' hi p y => ?_) (fun H' p => hd H' p.2.1 p.2.2)
  obtain ⟨rfl, rfl⟩ := hY i H x H' y hi
  exact ⟨hw _, cw_turn p (by omega) (ht i hi) (he i hi)⟩
theorem b01 (c : Prop) [Decidable c] : (-(2 ^ 64) : Int) < (if c then 1 else 0) ∧ (if c then (1 : Int) else 0) < 2 ^ 64 := by
  split <;> decide
theorem b0 (c : Prop) [Decidable c] : (0 : Int) ≤ (if c then 1 else 0) := by
  split <;> decide
theorem mixB {x y j : Int} (h : 0 ≤ y ∧ y ≤ 7919000 * 1000) (h0 : 0 ≤ j) (h1 : j < 1000) : -(2 ^ 64) < x % 2147483629 + y + 31 * j + 17 ∧ x % 2147483629 + y + 31 * j + 17 < 2 ^ 64 := by
  omega
/-! ### slices and sums of tuples, whichever object they are -/
section
variable {K : PySem.W.Frag} {H : Hp} {a b : Addr} {xs ys : List V} {lo hi : Option Int} {Q : VK}
theorem cutV_whole (h : HT.sIx xs.length 0 lo = 0 ∧ HT.sIx xs.length xs.length hi = xs.length) : cutV xs lo hi = xs := by
  unfold cutV
  rw [h.1, h.2]
  exact List.take_length
theorem slA (h : SqT K H a xs) (q : ∀ p H', Same H H' → SqT K H' p (cutV xs lo hi) → Q (.ref p) H') : rSlA K (.ref a) lo hi H Q :=
  ⟨a, xs, rfl, h, fun hw => q a H (Same.refl H) (by rw [cutV_whole hw]; exact h), fun _ p np => q p _ (Same.new np) (SqT.of upd_same)⟩
theorem ctA (ha : SqT K H a xs) (hb : SqT K H b ys) (hz : xs.length + ys.length ≤ 1000000) (q : ∀ p H', Same H H' → SqT K H' p (xs ++ ys) → Q (.ref p) H') : rCatA K (.ref a) (.ref b) H Q := by
  refine ⟨a, b, xs, ys, rfl, rfl, ha, hb, small hz, fun e => ?_, fun _ e => ?_, fun _ _ p np => q p _ (Same.new np) (SqT.of upd_same)⟩
  · subst e
    exact q b H (Same.refl H) hb
  · subst e
    exact q a H (Same.refl H) (by rw [List.append_nil]; exact ha)
theorem cutV_from (i : Nat) : cutV xs (some (i : Int)) none = xs.drop i := by
  unfold cutV
  rw [HT.sIx_nat, HT.sIx_none]
  by_cases h : i ≤ xs.length
  · rw [Nat.min_eq_left h]
    exact List.take_of_length_le (by rw [List.length_drop]; omega)
  · rw [Nat.min_eq_right (by omega), List.drop_eq_nil_of_le (by omega), List.drop_eq_nil_of_le (by omega)]
    exact List.take_nil
theorem cutV_to (i : Nat) : cutV xs none (some (i : Int)) = xs.take i := by
  unfold cutV
  rw [HT.sIx_nat, HT.sIx_none, List.drop_zero, Nat.sub_zero]
  by_cases h : i ≤ xs.length
  · rw [Nat.min_eq_left h]
  · rw [Nat.min_eq_right (by omega), List.take_length, List.take_of_length_le (by omega)]
end
theorem maxB (x : Int) (h : 0 ≤ x) : 1 ≤ (if (if 3 < x then 3 else x) > 1 then (if 3 < x then 3 else x) else 1) ∧ (if (if 3 < x then 3 else x) > 1 then (if 3 < x then 3 else x) else 1) ≤ 3 := by
  split <;> split <;> omega
/-- a new source is used and left behind -/
theorem Same.used {p : Addr} {H H1 H2 H3 : Hp} (a : Same H H1) (np : H1 p = none) (b : Same H1 H2) (c : Exb p H2 H3) : Same H H3 := fun x o h =>
  c x o (fun z => by rw [z, a.free np] at h; cases h) (b x o (a x o h))
theorem atLastI {ns : List Int} {c : Int} (h : ns.getLast? = some c) : atI (ns.map V.int) (-1) = some (.int c) := by
  rcases List.eq_nil_or_concat ns with rfl | ⟨m, x, rfl⟩
  · cases h
  · rw [List.concat_eq_append] at *
    rw [List.getLast?_concat] at h
    cases Option.some.inj h
    rw [List.map_append]
    exact atI_last _ _
theorem atHeadI {ns : List Int} {c : Int} (h : ns.head? = some c) : atI (ns.map V.int) 0 = some (.int c) := by
  cases ns with
  | nil => cases h
  | cons x r =>
    cases Option.some.inj h
    exact atI0
theorem cutV_last {xs : List V} (h : 0 < xs.length) : cutV xs (some (-1)) none = xs.drop (xs.length - 1) := by
  unfold cutV
  rw [HT.sIx_none]
  have e : HT.sIx xs.length 0 (some (-1)) = xs.length - 1 := by
    show (if (-1 : Int) < 0 then (-1 + (xs.length : Int)).toNat else min (-1 : Int).toNat xs.length) = xs.length - 1
    rw [if_pos (by decide)]
    omega
  rw [e]
  exact List.take_of_length_le (by rw [List.length_drop]; omega)
theorem cutV_inn {xs : List V} (h : 2 ≤ xs.length) : cutV xs (some 1) (some (-1)) = xs.tail.dropLast := by
  unfold cutV
  have e1 : HT.sIx xs.length 0 (some 1) = 1 := by
    rw [show (1 : Int) = ((1 : Nat) : Int) from rfl, HT.sIx_nat]
    omega
  have e2 : HT.sIx xs.length xs.length (some (-1)) = xs.length - 1 := by
    show (if (-1 : Int) < 0 then (-1 + (xs.length : Int)).toNat else min (-1 : Int).toNat xs.length) = xs.length - 1
    rw [if_pos (by decide)]
    omega
  rw [e1, e2, List.drop_one, List.dropLast_eq_take, List.length_tail]
/-- a tuple is not where a list stands -/
theorem tup_upd {K : PySem.W.Frag} {H : Hp} {a q : Addr} {xs ys : List V} {o : HO} (h : SqT K H a xs) (hq : H q = some (.lst ys)) : SqT K (upd H q o) a xs := by
  rcases h with (h | ⟨f, h⟩) | h
  · exact .inl (.inl (by rw [upd_ne (fun z => by rw [z, hq] at h; cases h)]; exact h))
  · exact .inl (.inr ⟨f, by rw [upd_ne (fun z => by rw [z, hq] at h; cases h)]; exact h⟩)
  · exact .inr h
end Bw

namespace Bw
open PySem PySem.Spec PyProof.Rows L2
open PySem.W (Datum Tup)
/-! ### data by its Lean type -/
class Lay (α : Type) [DecidableEq α] [Datum α] : Prop where
  lay : ∀ a : α, (Datum.toD a).canLay0 = true
theorem layAll {α : Type} [DecidableEq α] [Datum α] [Lay α] : ∀ xs : List α, PyData.canLayAll0 (xs.map Datum.toD) = true
  | [] => rfl
  | x :: xs => by rw [List.map_cons, PyData.canLayAll0, Lay.lay x, layAll xs]; rfl
instance : Lay Int := ⟨fun _ => rfl⟩
instance : Lay Bool := ⟨fun _ => rfl⟩
instance {α : Type} [DecidableEq α] [Datum α] [Lay α] : Lay (Tup α) := ⟨fun t => by
  show PyData.canLay0 (.tuple (t.items.map Datum.toD)) = true
  rw [PyData.canLay0]
  exact layAll t.items⟩
instance {α : Type} [DecidableEq α] [Datum α] [Lay α] : Lay (List α) := ⟨fun t => by
  show PyData.canLay0 (.list (t.map Datum.toD)) = true
  rw [PyData.canLay0]
  exact layAll t⟩
instance {α β : Type} [DecidableEq α] [Datum α] [Lay α] [DecidableEq β] [Datum β] [Lay β] : Lay (α × β) := ⟨fun p => by
  show PyData.canLay0 (.tuple [Datum.toD p.1, Datum.toD p.2]) = true
  rw [PyData.canLay0, PyData.canLayAll0, PyData.canLayAll0, PyData.canLayAll0, Lay.lay, Lay.lay]
  rfl⟩
/-- v holds the datum a -/
def Hd {α : Type} [DecidableEq α] [Datum α] (K : PySem.W.Frag) (H : Hp) (v : V) (a : α) : Prop := Dp K H v (Datum.toD a)
section
variable {α β : Type} [DecidableEq α] [Datum α] [Lay α] [DecidableEq β] [Datum β] [Lay β] {K : PySem.W.Frag} {H : Hp} {x y : V} {a b : α} {Q : VK}
theorem shaped_of (a : α) (h : Datum.depth α ≤ 64) : SeqAt.shaped (Datum.toD a) = true := by
  unfold SeqAt.shaped
  rw [Lay.lay a, decide_eq_true (Nat.le_trans (Datum.depth_le a) h)]
  rfl
theorem eqH (ha : Hd K H x a) (hb : Hd K H y b) (q : Q (.bl (decide (a = b))) H) (hd : Datum.depth α ≤ 64 := by decide) : rEqD K x y H Q :=
  ⟨_, _, ha, hb, shaped_of a hd, shaped_of b hd, by rw [Datum.eqv]; exact q⟩
theorem neH (ha : Hd K H x a) (hb : Hd K H y b) (q : Q (.bl (!decide (a = b))) H) (hd : Datum.depth α ≤ 64 := by decide) : rNeD K x y H Q :=
  ⟨_, _, ha, hb, shaped_of a hd, shaped_of b hd, by rw [Datum.eqv]; exact q⟩
theorem hdI (i : Int) : Hd K H (.int i) i := .int i
theorem hdB (i : Bool) : Hd K H (.bl i) i := .bl i
theorem hdT {p : Addr} {ns : List Int} (h : SqT K H p (ns.map V.int)) : Hd K H (.ref p) (Tup.mk ns) := dpT h
theorem hdL {p : Addr} {ns : List Int} (h : SqL K H p (ns.map V.int)) : Hd K H (.ref p) ns := dpL h
theorem hdP {p : Addr} {c : β} (h : SqT K H p [x, y]) (ha : Hd K H x a) (hb : Hd K H y c) : Hd K H (.ref p) (a, c) := .tup h (.cons ha (.cons hb .nil))
end
/-! ### what stays under a change elsewhere -/
mutual
theorem dp_same {K : PySem.W.Frag} {H H1 : Hp} (e : Same H H1) : ∀ (d : PyData) (v : V), Dp K H v d → Dp K H1 v d
  | .none, _, h => by cases h; exact .non
  | .bool _, _, h => by cases h; exact .bl _
  | .int _, _, h => by cases h; exact .int _
  | .str _, _, h => by cases h; exact .str _
  | .list ds, _, h => by
    cases h with
    | lst hs ha => exact .lst (e.seq hs) (dp_sameAll e ds _ ha)
  | .tuple ds, _, h => by
    cases h with
    | tup hs ha => exact .tup (e.tup hs) (dp_sameAll e ds _ ha)
  | .dict _, _, h => by cases h
theorem dp_sameAll {K : PySem.W.Frag} {H H1 : Hp} (e : Same H H1) : ∀ (ds : List PyData) (vs : List V), DpAll K H vs ds → DpAll K H1 vs ds
  | [], _, h => by cases h; exact .nil
  | d :: ds, _, h => by
    cases h with
    | cons a b => exact .cons (dp_same e d _ a) (dp_sameAll e ds _ b)
end
theorem Hd.same {α : Type} [DecidableEq α] [Datum α] {K : PySem.W.Frag} {H H1 : Hp} {v : V} {a : α} (e : Same H H1) (h : Hd K H v a) : Hd K H1 v a := dp_same e _ _ h
/-! ### a list of draws -/
/-- what an expression that draws below t from the source at p gives -/
def Dr (te : TE) (σ : L2.St) (p : Addr) (t : Int) : Prop := ∀ (H : Hp) (Q : VK), Src H p → (∀ r H', 0 ≤ r → r < t → Src H' p → Exb p H H' → Q (.int r) H') → te σ H Q
theorem tYes_i {σ : L2.St} {H : Hp} {Q : Bool → Hp → Prop} (h : Q true H) : tYes σ H Q := h
theorem lc_draw {n j : Nat} {vs : List Nat} {σ : L2.St} {H1 : Hp} {D : Addr} {te : TE} {Qd : Hp → Prop} (t : Int) (p : Addr) (hD : H1 D = none) (s : Src H1 p) (hn : n < 100000) (hw : ∀ x, wipe ((wipe σ vs).set j (some x)) vs = wipe σ vs)
    (hd : ∀ i : Nat, i < n → Dr te ((wipe σ vs).set j (some (.int (0 + (i : Int))))) p t)
    (fin : ∀ (ns : List Int) H', ns.length = n → (∀ c ∈ ns, 0 ≤ c ∧ c < t) → D ≠ p → H' D = some (.lst (ns.map V.int)) → Src H' p → Exb p H1 H' → Qd H') :
    ∃ W : Nat → Nat → Hp → Prop, (∃ m, W 0 m (upd H1 D (.lst []))) ∧ ∀ i m H, W i m H →
      ((Itr 0 n).stop i H ∧ Qd H) ∨ ((Itr 0 n).go i H ∧ ∃ Nx : Hp → Prop, (∀ H', Nx H' → ∃ m', m' < m ∧ W (i + 1) m' H') ∧ ∀ x H', (Itr 0 n).yld i H x H' → gName j x (wipe σ vs) H' fun σ2 H2 => wipe σ2 vs = wipe σ vs ∧ tYes σ2 H2 fun b H3 =>
        if b = true then te σ2 H3 fun y H4 => ∃ acc, H4 D = some (.lst acc) ∧ acc.length < sizeLine ∧ Nx (upd H4 D (.lst (acc ++ [y]))) else Nx H3) := by
  have nDp := s.ne hD
  refine lc_it walk_range (fun i H' => ∃ ns : List Int, H' D = some (.lst (ns.map V.int)) ∧ ns.length = i ∧ (∀ c ∈ ns, 0 ≤ c ∧ c < t) ∧ Src H' p ∧ Exb p H1 H') ⟨[], upd_same, rfl, (fun c hc => by cases hc), s.put nDp, Exb.new hD⟩ (fun _ _ _ _ => trivial) (fun i x H2 H3 hi h y => ?_) (fun H' h => ?_)
  · obtain ⟨ns, h1, h2, h3, h4, h5⟩ := h
    obtain ⟨rfl, rfl⟩ := y
    refine ⟨hw _, ?_⟩
    refine tYes_i ?_
    refine iteT ?_
    refine hd i hi H3 _ h4 fun r H4 r0 r1 s4 e4 => ⟨_, e4.lst nDp h1, smallLt (by rw [List.length_map]; omega), ns ++ [r], by rw [upd_same, List.map_append]; rfl, by rw [List.length_append, h2]; rfl, fun c hc => ?_, s4.put nDp, (h5.trans e4).mut hD⟩
    rcases List.mem_append.mp hc with h | h
    · exact h3 c h
    · rw [List.mem_singleton.mp h]; exact ⟨r0, r1⟩
  · obtain ⟨ns, h1, h2, h3, h4, h5⟩ := h
    exact fin ns H' h2 h3 nDp h1 h4 h5
end Bw

set_option maxHeartbeats 1000000
namespace Bw
open PySem PySem.Spec PyProof.Rows L2
/-! ### defs that are run where no repr is under way -/
structure FnG (P : Program) (w : World) (K : PySem.W.Frag) (mg : Str → Option Value) (base : Heap) (CX : CXT) (k : Nat) (f : Addr) (fd : FuncData) (ps : List Str) (sp : Sp) : Prop where
  len : ∀ vs H Q E, sp vs H Q E → vs.length = ps.length
  go : ∀ (A : Around) (outer : List Env) (s : Shared) (H : Hp) (args : Args) (us : List Value) (vs : List V) (Q : VK) (E : XK), A.guards = some [] → Room k A → Env0 P w K mg base A outer s H → BindsTo s fd args (ps.zip us) → Vals vs us → sp vs H Q E →
    codeAny (model P w) A (.call (.ref f) args) (CR CX outer P w H s Q E) s
theorem FnG.of {P : Program} {w : World} {K : PySem.W.Frag} {mg : Str → Option Value} {base : Heap} {CX : CXT} {k : Nat} {f : Addr} {fd : FuncData} {ps : List Str} {sp : Sp} (F : FnOk P w K mg base CX k f fd ps sp) : FnG P w K mg base CX k f fd ps sp :=
  ⟨F.len, fun A outer s H args us vs Q E _ hr => F.run A outer s H args us vs Q E hr⟩
/-- a def by its body, as Fun.ok and Fun.okX, where no repr is under way -/
theorem fnG_of {CX : CXT} {P : Program} {w : World} {K : PySem.W.Frag} {mg : Str → Option Value} {base : Heap} {k : Nat} {x qual : Str} {st : Stmt} {f : Addr} {fd : FuncData} {N ps : List Str} {sp : Sp} (F : Fun K x qual st f fd) (S : FnScope N ps (defScope st))
    (len : ∀ vs H Q E, sp vs H Q E → vs.length = ps.length)
    (hbody : ∀ (cdv : Value) (A : Around) (outer : List Env) (s : Shared) (H : Hp) (vs : List V) (Q : VK) (E : XK), (A.deeper (envOfC qual (defScope st) s.heap.objs.size f cdv)).guards = some [] → Room k (A.deeper (envOfC qual (defScope st) s.heap.objs.size f cdv)) → sp vs H Q E →
      ∃ t, PSs (cxOf CX P w K mg base N qual (defScope st) f cdv A outer s H E) (defBody st) t ∧ t { nx := fun _ H' => Q .non H', rt := Q } (start N vs) H) : FnG P w K mg base CX (k + 1) f fd ps sp := by
  obtain ⟨oc, od, kV, doc, pm, an, cdv, ct, osl, rfl, lk, hcd⟩ := F.ex
  refine ⟨len, fun A outer s H args us vs Q E hg hr e0 hb r hsp => ?_⟩
  have stays : ∀ (b : Addr) (o : Obj), base.get? b = some o → s.heap.get? b = some o := fun b o z => (e0.bs b o z).1
  have inK : K.In s.heap := e0.mod.kin.keeps stays
  have pars : ∀ y ∈ ps.zip us, (defScope st).names.lookup y.1 = some .local ∨ ((defScope st).names.lookup y.1 = some .cell ∧ ((cellsFrom (s.heap.objs.size + 1) (defScope st).names []).lookup y.1).isSome = true) := by
    intro y hy
    rcases S.par y.1 (List.of_mem_zip (a := y.1) (b := y.2) hy).1 with z | z
    · exact .inl z
    · exact .inr ⟨z, PySem.W.cellsFrom_some _ _ _ (.inl z)⟩
  refine codeAny_call_function hr.depth (inK _ _ lk) rfl S.co S.gen rfl (PySem.W.codeRec_of inK hcd) (hb _ _ _ _ ?_)
  refine wpAny_newFunctionEnv_cells S.kind pars fun env he s1 x => ?_
  subst he
  refine ⟨(e0.mod.nolimit.keeps stays).keeps x.toInCall.keep, codeAny_func ?_⟩
  obtain ⟨t, ht, hq⟩ := hbody cdv A outer s H vs Q E hg (hr.deeper _) hsp
  have I := inv_start (CX := CX) (E := E) S hr.hd e0 (len _ _ _ _ hsp) r x
  refine wpAny_mono (ht.run [] s1 (start N vs) H _ I hq) ?_ (fun _ _ z => z)
  intro fl s' hs
  cases fl with
  | next =>
    obtain ⟨σ', H', J, z⟩ := hs
    exact ⟨.non, H', J.os, J.bare, J.base, J.hok, rfl, z⟩
  | ret u =>
    obtain ⟨v, σ', H', J, rv, z⟩ := hs
    exact ⟨v, H', J.os, J.bare, J.base, J.hok, rv, z⟩
  | brk => exact hs.elim fun _ h => h.elim fun _ h => h.2.elim
  | cont => exact hs.elim fun _ h => h.elim fun _ h => h.2.elim
/-- such a def, called by its name -/
structure CalG (P : Program) (w : World) (K : PySem.W.Frag) (mg : Str → Option Value) (base : Heap) (CX : CXT) (k : Nat) (x : Str) (ps : List Str) (st : Stmt) (sp : Sp) : Prop where
  ex : ∃ (f : Addr) (fd : FuncData), FnG P w K mg base CX k f fd ps sp ∧ Fun K x x st f fd ∧ mg x = some (.ref f) ∧ Binds K fd ps []
section
variable {X : Cx} {CX : CXT} {k : Nat} {x : Str} {ps : List Str} {st : Stmt} {sp : Sp} {E : XK} {p pos : Pos} {e : Expr} {es : List Expr} {t : TA}
theorem pe_calG (c : CalG X.prog X.w X.K X.mg X.base CX k x ps st sp) (hG : X.A.guards = some []) (hr : Room k X.A) (hx : Passes CX X E) (ha : PA X (e :: es) t) (hg : Gl X x := by rfl) (hdb : (x == ("__debug__" : Str)) = false := by decide)
    (he : starEach (e :: es) X.env = (false, eval e X.env) :: starEach es X.env := by rfl) (hpl : (backTo pos (starEach es X.env)).any (·.1) = false := by rfl) : PE X (.Call (.Name x p) (e :: es) [] pos) (tCall sp [] E t) := by
  obtain ⟨f, fd, G, F, hm, hb⟩ := c.ex
  refine ⟨fun pins s σ H Q I h => ?_⟩
  refine wpAny_Call_Name_kw (ld_glob I hg hm ?_ hdb)
  refine PySem.W.callWith_K (h₀ := X.base) I.ok.mod.kin F.kp (thn (ha.run pos pins s σ H _ I h) fun us s1 z => ?_) he hpl
  obtain ⟨vs, H1, I1, r, q⟩ := z
  refine ⟨I1.kIn, ?_⟩
  have r2 : Vals (vs ++ []) us := by rw [List.append_nil]; exact r
  have hl : us.length = ps.length := by rw [← r2.length]; exact G.len _ _ _ _ q
  have hb2 := hb s1 us I1.kIn (by rw [List.append_nil]; exact hl)
  rw [List.append_nil] at hb2
  refine wpAny_call (codeAny_mono (G.go X.A X.stack s1 H1 ⟨us, []⟩ us (vs ++ []) Q E hG hr I1.env0 hb2 r2 q) fun r' s' hq => ?_)
  match r', hq with
  | .error e, hq => exact hx pins σ H1 s1 e s' I1 hq
  | .ok (.ret u), hq => exact I1.after hq
  | .ok .next, hq => exact False.elim hq
  | .ok .brk, hq => exact False.elim hq
  | .ok .cont, hq => exact False.elim hq
end
end Bw

set_option maxHeartbeats 1000000
namespace Bw
open PySem PySem.Spec PyProof.Rows L2
/-- the heap that a law meets: nothing is tracked but the script -/
theorem first_heap {P : Program} {w : World} {K : PySem.W.Frag} {h : Heap} {a : Addr} {vs : List Value} {ns : List Int} (KX : K.In h) (ha : h.get? a = some { cls := .type "list", data := .seq vs.toArray }) (hi : IntsAre vs ns) (hl : ns.length ≤ sizeLine) :
    ∃ H : Hp, Only H ∧ SqL K H a (ns.map V.int) ∧ HOk P w H h ∧ (∀ b u, H b = some u → b = a ∧ K.lookup b = none) := by
  have rv := vals_ints hi
  by_cases hk : K.lookup a = none
  · let u : HO := .frz { cls := .type "list", data := .seq vs.toArray } (.lst (ns.map V.int))
    have ev : ∀ b z, (if b = a then some u else none) = some z → b = a ∧ z = u := fun b z e => by
      by_cases hb : b = a
      · rw [if_pos hb] at e
        exact ⟨hb, (Option.some.inj e).symm⟩
      · rw [if_neg hb] at e
        cases e
    refine ⟨fun b => if b = a then some u else none, fun b => ?_, .inl (.inr ⟨_, if_pos rfl⟩), fun b z e => ?_, fun b z e => ?_⟩
    · by_cases hb : b = a
      · exact .inr ⟨_, _, if_pos hb⟩
      · exact .inl (if_neg hb)
    · obtain ⟨rfl, rfl⟩ := ev b z e
      exact ⟨ha, by rw [List.length_map]; exact hl, vs, _, rv, ha⟩
    · obtain ⟨rfl, rfl⟩ := ev b z e
      exact ⟨rfl, hk⟩
  · obtain ⟨o, ho⟩ := Option.ne_none_iff_exists'.mp hk
    have e := KX a o ho
    rw [ha] at e
    cases e
    exact ⟨fun _ => none, fun _ => .inl rfl, .inr ⟨_, vs.toArray, _, ho, rfl, rfl, rfl, by rw [List.size_toArray, hi.length]; exact hl, by simpa using rv⟩, fun _ _ z => (by cases z), fun _ _ z => (by cases z)⟩
theorem law_callG {P : Program} {w : World} {K : PySem.W.Frag} {mg mb : Str → Option Value} {CX : CXT} {k : Nat} {fa a : Addr} {fd : FuncData} {x : Str} {sp : Sp} {s₁ : Shared} {vs : List Value} {ns : List Int}
    (KX : K.In s₁.heap) (hns : s₁.heap.Ns mainGlobals mg) (hb : s₁.heap.Ns builtinsNs mb) (hbb : ∀ x : Str, x ≠ "__name__" → mb x = bootBuiltins x) (hlim : s₁.heap.NoLimit) (hg : s₁.gens = #[])
    (ha : s₁.heap.get? a = some { cls := .type "list", data := .seq vs.toArray }) (hi : IntsAre vs ns) (hl : ns.length ≤ sizeLine) (hr : Room k callerA)
    (F : ∀ base : Heap, K.In base → base.Ns mainGlobals mg → FnG P w K mg base CX k fa fd [x] sp) (hbind : ∀ (s : Shared) (u : Value), BindsTo s fd ⟨[u], []⟩ [(x, u)])
    (hsp : ∀ H : Hp, SqL K H a (ns.map V.int) → sp [.ref a] H (fun v _ => v = .bl true) fun _ _ _ => False)
    (hCX : ∀ H e s', CX [] H s₁ (fun _ _ _ => False) e s' → False) :
    codeAny (model P w) callerA (.call (.ref fa) ⟨[.ref a], []⟩) (fun r s' => r = .ok (.ret (.bool true)) ∧ OldK s₁.heap s'.heap ∧ s'.os = s₁.os ∧ AllBare s'.gens) s₁ := by
  obtain ⟨H, hO, hS, hok, hA⟩ := first_heap (P := P) (w := w) KX ha hi hl
  let B := hidT s₁.heap H
  have inB : ∀ {b : Addr} {o : Obj}, s₁.heap.get? b = some o → (∀ u, H b ≠ some u) → B.get? b = some o := fun {b o} e n => hidT_get e (by
    cases q : H b with
    | none => rfl
    | some u => exact absurd q (n u))
  have nsB : ∀ {b : Addr} {m : Str → Option Value}, s₁.heap.Ns b m → B.Ns b m := fun {b m} hm => by
    obtain ⟨o, es, ep, e, dt, r⟩ := hm
    refine ⟨o, es, ep, inB e fun u q => ?_, dt, r⟩
    obtain ⟨rfl, _⟩ := hA b u q
    rw [ha] at e
    cases e
    cases dt
  have kB : K.In B := fun b o e => inB (KX b o e) fun u q => by
    rw [(hA b u q).2] at e
    cases e
  have limB : B.NoLimit := by
    obtain ⟨mc, h1, h2⟩ := hlim
    exact ⟨mc, nsB h1, h2⟩
  have e0 : Env0 P w K mg B callerA [] s₁ H := ⟨rfl, ⟨kB, nsB hns, ⟨mb, nsB hb, hbb⟩, limB⟩, fun b o e => of_hidT e, Nat.le_of_eq (hidT_size _ _), trivial, fun b hb => absurd (show b ∈ ([] : List Addr) from hb) (by simp), hok, .of_eq hg⟩
  have run := (F B kB (nsB hns)).go callerA [] s₁ H ⟨[.ref a], []⟩ [.ref a] [.ref a] _ _ rfl hr e0 (hbind s₁ (.ref a)) (.cons rfl .nil) (hsp H hS)
  refine codeAny_mono run fun r s' h => ?_
  match r, h with
  | .error e, h => exact (hCX H e s' h).elim
  | .ok .next, h => exact False.elim h
  | .ok .brk, h => exact False.elim h
  | .ok .cont, h => exact False.elim h
  | .ok (.ret u), h =>
    obtain ⟨v, H', os, bare, un, hok', r', q⟩ := h
    have q' : v = .bl true := q
    subst q'
    obtain rfl : u = Value.bool true := r'
    refine ⟨rfl, OldK.of_keep fun b o e => ?_, os, bare⟩
    rcases hO b with z | ⟨ob, xs, z⟩
    · exact un.keep b o e z (fun w => absurd (show b ∈ ([] : List Addr) from w) (by simp)) (by simp)
    · have z1 := (hok b _ z).1
      have z2 := (hok' b _ (un.frzs b ob _ z)).1
      rw [e] at z1
      cases z1
      exact z2
theorem walk_ofG {l : PySem.W.OpenLaw} {n k : Nat} {q : Program} {loose : List Str} {XP : (Str → Option Value) → Heap → Prop} {YP : World → Heap → Prop} {d : DefRec} {K : Params → PySem.W.Frag} {CX : World → CXT} {sp : World → Sp} {x : Str}
    (hn : l.most = some n) (hn2 : n ≤ sizeLine) (hdf : d.params.defaults = []) (hr : Room k callerA) (hY : ∀ (w : World) (h : Heap), YP w h → (K w.params).In h)
    (F : ∀ (w : World) (mg : Str → Option Value) (fa : Addr) (h : Heap), (K w.params).In h → h.Ns mainGlobals mg → mg d.name = some (.ref fa) →
      ∃ fd : FuncData, (∀ (s : Shared) (u : Value), BindsTo s fd ⟨[u], []⟩ [(x, u)]) ∧ ∀ base : Heap, (K w.params).In base → base.Ns mainGlobals mg → FnG l.prog w (K w.params) mg base (CX w) k fa fd [x] (sp w))
    (hsp : ∀ (w : World) (H : Hp) (a : Addr) (ns : List Int), ns.length ≤ n → SqL (K w.params) H a (ns.map V.int) → sp w [.ref a] H (fun v _ => v = .bl true) fun _ _ _ => False)
    (hCX : ∀ (w : World) (H : Hp) (s : Shared) (e : Value) (s' : Shared), CX w [] H s (fun _ _ _ => False) e s' → False) :
    PySem.W.WalkO q loose XP YP l.row.toRowW d [] (fun f vs => PySem.call f vs) := by
  refine Att.attach_call hn hdf fun w s₀ s₁ mg mb fa o pm cd doc a vs ns G Y ho hd hcd hmg hobj hints hlen hg => ?_
  obtain ⟨fd, hb, hF⟩ := F w mg fa _ (hY w _ Y) G.T.g hmg
  exact law_callG (hY w _ Y) G.T.g G.T.b G.T.builtins G.T.nolimit hg hobj hints (Nat.le_trans hlen hn2) hr hF hb (fun H hS => hsp w H a ns hlen hS) fun H e s' => hCX w H s₁ e s'
end Bw

set_option maxHeartbeats 1000000
namespace Bw
open PySem PySem.Spec PyProof.Rows L2
/-! ### the errors of the program: classes under Refused, which keep one thing in what -/
structure XC (K : PySem.W.Frag) (C : Addr) : Prop where
  oex : OexC K C
  noW : PySem.W.findIn K (.ref C) "what" = some none
  xf : XfC K C
  hcl : (PySem.W.clsIn K C).isSome = true
  ha : PySem.W.findIn K (.ref C) "__class__" = some (some (.builtin "object.__class__"))
  hn : PySem.W.specialIn K (.builtin "object.__class__") "__get__" = some (some (.builtin "getset_descriptor.__get__"))
  ht : PySem.W.takesIn K (.builtin "object.__class__") = some true
  hm : PySem.W.mroIn K C (.type "object") = some true
/-- the promise of their __init__ -/
def sp_init (K : PySem.W.Frag) : Sp := fun vs H Q _ => ∃ (a C : Addr) (v : V), vs = [.ref a, v] ∧ OexC K C ∧ PySem.W.findIn K (.ref C) "what" = some none ∧ H a = some (exo a C none) ∧
  ∀ d, H d = none → d ≠ a → Q .non (upd (upd H d (exd d [("what", v)])) a (exo a C (some d)))
/-- an error's class and its __init__ -/
structure XM (P : Program) (w : World) (K : PySem.W.Frag) (mg : Str → Option Value) (base : Heap) (x : Str) (C : Addr) : Prop where
  gm : mg x = some (.ref C)
  c : XC K C
  init : ∃ (f : Addr) (fd : FuncData), PySem.W.findIn K (.ref C) "__init__" = some (some (.ref f)) ∧ PySem.W.typeIn K (.ref f) = some (.type "function") ∧ FnOk P w K mg base CX0 1 f fd ["self", "what"] (sp_init K) ∧ Binds K fd ["self", "what"] []
/-- what making such an error wants behind its argument -/
theorem made_what {K : PySem.W.Frag} {C : Addr} {v : V} {H : Hp} {Q : XK} (T : XC K C) (q : ∀ d, H d = none → Q (.ref C) (some d) (upd H d (.xd [("what", v)]))) :
    [v].length ≤ 1000 ∧ ∀ a, H a = none → sp_init K (.ref a :: ([v] ++ [])) (upd H a (exo a C none))
      (fun u H2 => u = .non ∧ ∃ (d : Addr) (fs : List (Str × V)), H2 a = some (exo a C (some d)) ∧ H2 d = some (exd d fs) ∧ H d = none ∧ Q (.ref C) (some d) (upd (del H2 a) d (.xd fs))) (fun _ _ _ => False) := by
  refine ⟨by show 1 ≤ 1000; decide, fun a na => ⟨a, C, v, rfl, T.oex, T.noW, upd_same, fun d nd nda => ⟨rfl, d, [("what", v)], upd_same, by rw [upd_ne nda, upd_same], by rw [upd_ne nda] at nd; exact nd, ?_⟩⟩⟩
  rw [upd_ne nda] at nd
  have e : upd (del (upd (upd (upd H a (exo a C none)) d (exd d [("what", v)])) a (exo a C (some d))) a) d (.xd [("what", v)]) = upd H d (.xd [("what", v)]) := by
    funext b
    by_cases hd : b = d
    · rw [hd, upd_same, upd_same]
    · rw [upd_ne hd, upd_ne hd]
      by_cases ha : b = a
      · rw [ha, del_same, na]
      · rw [del_ne ha, upd_ne ha, upd_ne hd, upd_ne ha]
  rw [e]
  exact q d nd
section
variable {X : Cx} {x : Str} {C : Addr} {e : Expr} {ta : TA} {p pos pos2 : Pos} {E : XK} {W : WX}
/-- raise X(e) -/
theorem ps_raiseW (hc : X.calm = true) (T : XM X.prog X.w X.K X.mg X.base x C) (hr : Room 2 X.A) (tk : Takes X W) (ha : PA X [e] ta) (hg : Gl X x := by rfl) (hdb : (x == ("__debug__" : Str)) = false := by decide)
    (he : starEach [e] X.env = (false, eval e X.env) :: starEach [] X.env := by rfl) (hpl : (backTo pos (starEach [] X.env)).any (·.1) = false := by rfl) :
    PS X (.Raise (some (.Call (.Name x p) [e] [] pos)) none pos2) (fun _ σ H => tMkO C (sp_init X.K) [] ta σ H fun cls d H' => W cls d σ H') := by
  obtain ⟨f, fd, hi, ht, F, b⟩ := T.init
  exact ps_raise hc tk (pmk_oex T.c.oex hi ht F hr b .nil pass0 hg T.gm ha hdb he hpl)
/-- isinstance(e, c), e the error that the suite holds -/
def rIsX (K : PySem.W.Frag) (a : Addr) (cls : Value) (d : Option Addr) : List V → Hp → VK → Prop := fun xs H Q => ∃ (D : Addr) (c : V) (cv : Value) (b : Bool) (dd : Addr) (fs : List (Str × V)),
  xs = [.ref a, c] ∧ cls = .ref D ∧ XC K D ∧ (∀ u, RelV c u → u = cv) ∧ PySem.W.kitOne K (.ref D) cv = some b ∧ d = some dd ∧ H dd = some (.xd fs) ∧ Q (.bl b) H
theorem call_isX {a : Addr} {oe : Obj} {cls : Value} {d : Option Addr} {pn : List (Addr × Obj)} (hz : Zc cls d oe) (hf : ∃ vs, oe.data = .fields vs) : CallR (X.suite a ((a, oe) :: pn)) (.builtin "isinstance") (rIsX X.K a cls d) := by
  intro pins s σ H xs us Q I r h
  obtain ⟨D, c, cv, b, dd, fs, rfl, rfl, T, hcv, hk, rfl, hx, q⟩ := h
  obtain ⟨u1, u2, rfl, r1, r2⟩ := vals2 r
  cases (show u1 = Value.ref a from r1)
  cases hcv _ r2
  obtain ⟨vs, hv⟩ := hf
  obtain ⟨ha, _⟩ := I.pin (a, oe) (List.mem_append_left _ List.mem_cons_self)
  have hxo : ObjOk X.prog X.w H s.heap dd (.xd fs) := I.hok dd _ hx
  obtain ⟨mA, hns, _⟩ := hxo
  obtain ⟨od, ho, _⟩ := lookIn_ns hns
  have J : PySem.W.InstAt s.heap a oe D (some od) := ⟨ha, hz.1, by unfold PySem.W.notCls; rw [hv] <;> rfl, by rw [hz.2]; exact ho⟩
  exact PySem.W.kia_one (PySem.W.kitx_exc T.hcl T.xf.ga T.xf.gg T.xf.exC T.ha T.hn T.ht T.hm) I.kIn J hk (fun z => nomatch z) fun tk => ⟨.bl b, H, I.kept (t' := tk) fun _ _ z => z, rfl, q⟩
/-- e.what, e the error that the suite holds -/
def tWhat (K : PySem.W.Frag) (a : Addr) (cls : Value) (d : Option Addr) (te : TE) : TE := fun σ H Q => te σ H fun x H1 => x = .ref a ∧ ∃ (D dd : Addr) (v : V), cls = .ref D ∧ XC K D ∧ d = some dd ∧ H1 dd = some (.xd [("what", v)]) ∧ Q v H1
theorem pe_what {a : Addr} {oe : Obj} {cls : Value} {d : Option Addr} {pn : List (Addr × Obj)} {te : TE} (hz : Zc cls d oe) (hf : ∃ vs, oe.data = .fields vs) (he : PE (X.suite a ((a, oe) :: pn)) e te)
    (hb : attributeBase e "what" X.env (eval e X.env) = eval e X.env := by rfl) : PE (X.suite a ((a, oe) :: pn)) (.Attribute e "what" pos) (tWhat X.K a cls d te) := by
  refine ⟨fun pins s σ H Q I h => ?_⟩
  refine attr_of hb (thn (he.run pins s σ H _ I h) fun u s1 z => ?_)
  obtain ⟨x, H1, I1, rx, rfl, D, dd, v, rfl, T, rfl, ea, q⟩ := z
  cases (show u = Value.ref a from rx)
  obtain ⟨ha, _⟩ := I1.pin (a, oe) (List.mem_append_left _ List.mem_cons_self)
  obtain ⟨vs, hd⟩ := hf
  have hx : ObjOk X.prog X.w H1 s1.heap dd (.xd [("what", v)]) := I1.hok dd _ ea
  obtain ⟨mA, hns, hr⟩ := hx
  obtain ⟨od, ho, hl⟩ := lookIn_ns hns
  obtain ⟨u, hu, ru⟩ := RelO.some_of (v := v) (o := mA "what") (by
    have := hr "what"
    simpa [List.lookup] using this)
  have J : PySem.W.InstAt s1.heap a oe D (some od) := ⟨ha, hz.1, by unfold PySem.W.notCls; rw [hd] <;> rfl, by rw [hz.2]; exact ho⟩
  exact HandSPX.exc_get I1.kIn J T.xf.ga T.xf.gg T.xf.exC (PySem.W.findObj_own T.xf.hdC T.noW rfl (by rw [hl, hu])) (handed_of ru) ⟨v, H1, I1.tok _, ru, q⟩
end
end Bw

set_option maxHeartbeats 1000000
namespace Bw
open PySem PySem.Spec PyProof.Rows L2
/-! ### a class of the program, made by its __init__ -/
structure CalC (P : Program) (w : World) (K : PySem.W.Frag) (mg : Str → Option Value) (base : Heap) (k : Nat) (x : Str) (C : Addr) (ps : List Str) (sp : Sp) : Prop where
  ex : ∃ (f : Addr) (fd : FuncData), Mk K C f ∧ FnOk P w K mg base CX0 k f fd ps sp ∧ mg x = some (.ref C) ∧ Binds K fd ps []
section
variable {X : Cx} {CX : CXT} {k : Nat} {x f : Str} {C : Addr} {ps ks : List Str} {st : Stmt} {sp : Sp} {E : XK} {p pos : Pos} {e : Expr} {es : List Expr} {kws : List Keyword} {t tk : TA} {ta : TE} {W : WX}
theorem pe_mk (c : CalC X.prog X.w X.K X.mg X.base k x C ps sp) (hr : Room (k + 1) X.A) (ha : PA X (e :: es) t) (hg : Gl X x := by rfl) (hdb : (x == ("__debug__" : Str)) = false := by decide)
    (he : starEach (e :: es) X.env = (false, eval e X.env) :: starEach es X.env := by rfl) (hpl : (backTo pos (starEach es X.env)).any (·.1) = false := by rfl) : PE X (.Call (.Name x p) (e :: es) [] pos) (tMake C sp [] E0 t) := by
  obtain ⟨f, fd, M, F, hm, hb⟩ := c.ex
  exact pe_make M F hr hg hm hb .nil pass0 ha hdb he hpl
/-- o.f, the written part told -/
theorem peF (K : PySem.W.Frag) (he : PE X e ta) (h : X.K = K := by rfl) (hb : attributeBase e f X.env (eval e X.env) = eval e X.env := by rfl) : PE X (.Attribute e f pos) (tFld K ta f) := h ▸ pe_fld he hb
/-- in a try's body: a call that may raise -/
theorem pe_calS (c : Cal X.prog X.w X.K X.mg X.base (L2.CX X.prog X.w) k x ps st sp) (hr : Room k X.A) (tk : Takes X W) (ha : PA X (e :: es) t) (hg : Gl X x := by rfl) (hdb : (x == ("__debug__" : Str)) = false := by decide)
    (he : starEach (e :: es) X.env = (false, eval e X.env) :: starEach es X.env := by rfl) (hpl : (backTo pos (starEach es X.env)).any (·.1) = false := by rfl) : PE X (.Call (.Name x p) (e :: es) [] pos) (tCallS sp (WE W) t) := by
  obtain ⟨f, fd, G, F, hm, hb⟩ := c.ex
  exact pe_callS G hr hg hm F.kp hb (fun σ => passAt tk σ) ha hdb he hpl
def tCallKS (sp : Sp) (gV : List V → List V → List V) (E : L2.St → XK) (tk : TA) : TE := fun σ H Q => tk σ H fun zs H2 => sp (gV [] zs) H2 Q (E σ)
theorem pe_calKS0 {g : List Value → List Value → List Value} {gV : List V → List V → List V} (c : Cal X.prog X.w X.K X.mg X.base (L2.CX X.prog X.w) k x ps st sp) (B : KwB x st ps ks g gV) (hr : Room k X.A) (tkW : Takes X W) (hkw : PK X kws tk) (hg : Gl X x := by rfl)
    (hall : (backToKw pos (keywordEach kws X.env)).all (·.1.isSome) = true := by rfl) (hks : (backToKw pos (keywordEach kws X.env)).filterMap (·.1) = ks := by rfl)
    (hdb : (x == ("__debug__" : Str)) = false := by decide)
    (hpl : ((backTo pos (starEach [] X.env)).any (·.1) || (backToKw pos (keywordEach kws X.env)).any (·.1.isNone)) = false := by rfl) :
    PE X (.Call (.Name x p) [] kws pos) (tCallKS sp gV (WE W) tk) := by
  obtain ⟨f, fd, G, F, hm, hb⟩ := c.ex
  refine ⟨fun pins s σ H Q I h => ?_⟩
  refine wpAny_Call_Name_kw (ld_glob I hg hm ?_ hdb)
  refine PySem.W.callWith_KW0 (h₀ := X.base) I.ok.mod.kin F.kp hall (thn (hkw.run pos pins s σ H _ I h) fun ws s2 z => ?_) hpl
  obtain ⟨zs, H2, I2, rz, q2⟩ := z
  refine ⟨I2.kIn, ?_⟩
  rw [hks]
  have kb := B.binds F
  have r2 := kb.rel (vs := []) (us := []) .nil rz
  have hl : (g [] ws).length = ps.length := by rw [← r2.length]; exact G.len _ _ _ _ q2
  refine wpAny_call (codeAny_mono (G.run X.A X.stack s2 H2 ⟨[], ks.zip ws⟩ (g [] ws) (gV [] zs) Q (WE W σ) hr I2.env0 (kb.to s2 [] ws I2.kIn hl) r2 q2) fun r' s' hq => ?_)
  match r', hq with
  | .error e, hq => exact passAt tkW σ pins H2 s2 e s' I2 hq
  | .ok (.ret u), hq => exact I2.after hq
  | .ok .next, hq => exact False.elim hq
  | .ok .brk, hq => exact False.elim hq
  | .ok .cont, hq => exact False.elim hq
theorem isX (K : PySem.W.Frag) {a : Addr} {oe : Obj} {cls : Value} {d : Option Addr} {pn : List (Addr × Obj)} (hz : Zc cls d oe) (hf : ∃ vs, oe.data = .fields vs) (h : X.K = K := by rfl) : CallR (X.suite a ((a, oe) :: pn)) (.builtin "isinstance") (rIsX K a cls d) := h ▸ call_isX hz hf
theorem whatX (K : PySem.W.Frag) {a : Addr} {oe : Obj} {cls : Value} {d : Option Addr} {pn : List (Addr × Obj)} {te : TE} (hz : Zc cls d oe) (hf : ∃ vs, oe.data = .fields vs) (he : PE (X.suite a ((a, oe) :: pn)) e te) (h : X.K = K := by rfl)
    (hb : attributeBase e "what" X.env (eval e X.env) = eval e X.env := by rfl) : PE (X.suite a ((a, oe) :: pn)) (.Attribute e "what" pos) (tWhat K a cls d te) := h ▸ pe_what hz hf he hb
def rReprD (K : PySem.W.Frag) : List V → Hp → VK → Prop := fun xs H Q => ∃ a d, xs = [.ref a] ∧ Dp K H (.ref a) d ∧ d.showable = true ∧ d.hasDict = false ∧ d.depth < 64 ∧ d.shown.length ≤ sizeLine ∧ Q (.str d.shown) H
theorem reprD (K : PySem.W.Frag) (hG : X.A.guards = some []) {j : Nat} (hr : Room j X.A) (h : X.K = K := by rfl) : CallR X (.builtin "repr") (rReprD K) := h ▸ call_reprD hG (by have := hr.un; omega)
end
/-! ### tuples of tuples of ints -/
def rowD (r : List Int) : PyData := .tuple (r.map .int)
def TT (K : PySem.W.Frag) (H : Hp) (a : Addr) (rows : List (List Int)) : Prop := Dp K H (.ref a) (.tuple (rows.map rowD))
theorem dpAll_int {K : PySem.W.Frag} {H : Hp} : ∀ {vs : List V} {ns : List Int}, DpAll K H vs (ns.map PyData.int) → vs = ns.map V.int
  | [], [], _ => rfl
  | [], _ :: _, h => by cases h
  | _ :: _, [], h => by cases h
  | v :: vs, n :: ns, h => by
    cases h with
    | cons a b =>
      cases a
      rw [dpAll_int b]
      rfl
theorem dp_row {K : PySem.W.Frag} {H : Hp} {v : V} {r : List Int} (h : Dp K H v (rowD r)) : ∃ b, v = .ref b ∧ SqT K H b (r.map V.int) := by
  cases h with
  | tup hs ha =>
    cases dpAll_int ha
    exact ⟨_, rfl, hs⟩
theorem row_dp {K : PySem.W.Frag} {H : Hp} {b : Addr} {r : List Int} (h : SqT K H b (r.map V.int)) : Dp K H (.ref b) (rowD r) := dpT h
theorem dpAll_get {K : PySem.W.Frag} {H : Hp} : ∀ {vs : List V} {ds : List PyData}, DpAll K H vs ds → ∀ {i : Nat} {d : PyData}, ds[i]? = some d → ∃ v, vs[i]? = some v ∧ Dp K H v d
  | [], [], _, i, d, h => by simp at h
  | [], _ :: _, h, _, _, _ => by cases h
  | _ :: _, [], h, _, _, _ => by cases h
  | v :: vs, e :: ds, h, i, d, hi => by
    cases h with
    | cons a b =>
      cases i with
      | zero => cases Option.some.inj hi; exact ⟨v, rfl, a⟩
      | succ i => exact dpAll_get b (i := i) hi
theorem dpAll_len {K : PySem.W.Frag} {H : Hp} : ∀ {vs : List V} {ds : List PyData}, DpAll K H vs ds → vs.length = ds.length
  | [], [], _ => rfl
  | [], _ :: _, h => by cases h
  | _ :: _, [], h => by cases h
  | v :: vs, e :: ds, h => by
    cases h with
    | cons a b => rw [List.length_cons, List.length_cons, dpAll_len b]
theorem dpAll_app {K : PySem.W.Frag} {H : Hp} : ∀ {vs ws : List V} {ds es : List PyData}, DpAll K H vs ds → DpAll K H ws es → DpAll K H (vs ++ ws) (ds ++ es)
  | [], _, [], _, _, h => h
  | [], _, _ :: _, _, h, _ => by cases h
  | _ :: _, _, [], _, h, _ => by cases h
  | _ :: vs, _, _ :: ds, _, h, k => by
    cases h with
    | cons a b => exact .cons a (dpAll_app b k)
theorem TT.seq {K : PySem.W.Frag} {H : Hp} {a : Addr} {rows : List (List Int)} (h : TT K H a rows) : ∃ vs, SqT K H a vs ∧ vs.length = rows.length ∧ ∀ (i : Nat) (r : List Int), rows[i]? = some r → ∃ b, vs[i]? = some (.ref b) ∧ SqT K H b (r.map V.int) := by
  cases h with
  | tup hs ha =>
    refine ⟨_, hs, by rw [dpAll_len ha, List.length_map], fun i r hr => ?_⟩
    obtain ⟨v, hv, hd⟩ := dpAll_get ha (i := i) (d := rowD r) (by rw [List.getElem?_map, hr]; rfl)
    obtain ⟨b, rfl, hb⟩ := dp_row hd
    exact ⟨b, hv, hb⟩
theorem TT.same {K : PySem.W.Frag} {H H1 : Hp} {a : Addr} {rows : List (List Int)} (e : Same H H1) (h : TT K H a rows) : TT K H1 a rows := dp_same e _ _ h
end Bw

set_option maxHeartbeats 1000000
namespace Bw
open PySem PySem.Spec PyProof.Rows L2
section
variable {X : Cx}
theorem allL (K : PySem.W.Frag) (hc : X.calm = true) (h : X.K = K := by rfl) : CallR X (.builtin "all") (rAll K) := h ▸ cr_all hc
end
/-! ### a list of what an expression that only reads gives, over any walk; what is new in the heap may stay -/
/-- te gives at σ a value that stands for u, and leaves what stood -/
def Rd (te : TE) (σ : L2.St) (H0 : Hp) (P : V → Hp → Prop) : Prop := ∀ (H : Hp) (Q : VK), Same H0 H → (∀ v H', Same H H' → P v H' → Q v H') → te σ H Q
theorem lc_rd {J : It} {n j : Nat} {G : Hp → Prop} {Y : Nat → Hp → V → Hp → Prop} (u : Nat → V) (w : Walk J n G Y) (hY : ∀ i H x H', Y i H x H' → i < n → H' = H ∧ x = u i) {vs : List Nat} {σ : L2.St} {H1 : Hp} {D : Addr} {te : TE} {Qd : Hp → Prop} (P : Nat → V → Hp → Prop)
    (hD : H1 D = none) (hn : n < 100000) (hw : ∀ x, wipe ((wipe σ vs).set j (some x)) vs = wipe σ vs) (hG : ∀ H', Same H1 H' → G H')
    (hP : ∀ i v H H', Same H H' → P i v H → P i v H')
    (hd : ∀ i : Nat, i < n → Rd te ((wipe σ vs).set j (some (u i))) H1 (P i))
    (fin : ∀ (xs : List V) H', xs.length = n → H' D = some (.lst xs) → Same H1 H' → (∀ i v, xs[i]? = some v → P i v H') → Qd H') (hPm : ∀ i v H (x : List V) y, P i v H → H D = some (.lst x) → P i v (upd H D y)) :
    ∃ W : Nat → Nat → Hp → Prop, (∃ m, W 0 m (upd H1 D (.lst []))) ∧ ∀ i m H, W i m H →
      (J.stop i H ∧ Qd H) ∨ (J.go i H ∧ ∃ Nx : Hp → Prop, (∀ H', Nx H' → ∃ m', m' < m ∧ W (i + 1) m' H') ∧ ∀ x H', J.yld i H x H' → gName j x (wipe σ vs) H' fun σ2 H2 => wipe σ2 vs = wipe σ vs ∧ tYes σ2 H2 fun b H3 =>
        if b = true then te σ2 H3 fun y H4 => ∃ acc, H4 D = some (.lst acc) ∧ acc.length < sizeLine ∧ Nx (upd H4 D (.lst (acc ++ [y]))) else Nx H3) := by
  refine lc_it w (fun i H' => ∃ xs : List V, xs.length = i ∧ H' D = some (.lst xs) ∧ Same H1 H' ∧ ∀ k v, xs[k]? = some v → P k v H') ⟨[], rfl, upd_same, Same.new hD, fun k v e => by simp at e⟩ (fun i H' _ h => hG _ (by obtain ⟨_, _, _, s, _⟩ := h; exact s)) (fun i x H2 H3 hi h y => ?_) (fun H' h => ?_)
  · obtain ⟨xs, h1, h2, h3, h4⟩ := h
    obtain ⟨rfl, rfl⟩ := hY i H2 x H3 y hi
    refine ⟨hw _, ?_⟩
    refine tYes_i ?_
    refine iteT ?_
    refine hd i hi H3 _ h3 fun v H4 s4 p4 => ⟨xs, s4 _ _ h2, smallLt (by omega), xs ++ [v], by rw [List.length_append, h1]; rfl, upd_same, (h3.trans s4).mut hD, fun k v' e => ?_⟩
    rcases Nat.lt_trichotomy k xs.length with hk | hk | hk
    · rw [List.getElem?_append_left hk] at e
      exact hPm _ _ _ _ _ (hP _ _ _ _ s4 (h4 k v' e)) (s4 _ _ h2)
    · subst hk
      rw [List.getElem?_append_right (Nat.le_refl _), Nat.sub_self] at e
      cases Option.some.inj e
      rw [h1]
      exact hPm _ _ _ _ _ p4 (s4 _ _ h2)
    · rw [List.getElem?_eq_none (by rw [List.length_append]; show xs.length + 1 ≤ k; omega)] at e
      cases e
  · obtain ⟨xs, h1, h2, h3, h4⟩ := h
    exact fin xs H' h1 h2 h3 h4
/-! ### tables -/
theorem TT.of {K : PySem.W.Frag} {H : Hp} {a : Addr} {vs : List V} {rows : List (List Int)} (h : SqT K H a vs) (hl : vs.length = rows.length) (hr : ∀ (i : Nat) (v : V) (r : List Int), vs[i]? = some v → rows[i]? = some r → ∃ b, v = .ref b ∧ SqT K H b (r.map V.int)) : TT K H a rows := by
  refine .tup h ?_
  clear h
  induction vs generalizing rows with
  | nil =>
    cases rows with
    | nil => exact .nil
    | cons r rs => cases hl
  | cons v vs ih =>
    cases rows with
    | nil => cases hl
    | cons r rs =>
      obtain ⟨b, rfl, hb⟩ := hr 0 v r rfl rfl
      exact .cons (row_dp hb) (ih (by simpa using hl) fun i v r e1 e2 => hr (i + 1) v r e1 e2)
/-- a table at t, of the class C -/
def TB (K : PySem.W.Frag) (C : Addr) (H : Hp) (t : Addr) (rows : List (List Int)) : Prop := ∃ dx r, H t = some (.ins C dx [("many", .int (rows.length : Nat)), ("beside", .ref r)]) ∧ TT K H r rows
theorem TB.same {K : PySem.W.Frag} {C t : Addr} {H H1 : Hp} {rows : List (List Int)} (e : Same H H1) (h : TB K C H t rows) : TB K C H1 t rows := by
  obtain ⟨dx, r, h1, h2⟩ := h
  exact ⟨dx, r, e _ _ h1, h2.same e⟩
end Bw
namespace Bw
open PySem PySem.Spec PyProof.Rows L2
/-! ### data that may be shown -/
structure Sh (b k : Nat) (d : PyData) : Prop where
  sh : d.showable = true
  nod : d.hasDict = false
  lv : d.leavesShort 64 = true
  dp : d.depth ≤ k
  bk : d.bulk ≤ b
theorem int_shown {n : Int} (h : n.natAbs < 2 ^ 60) : (PyData.shown (.int n)).length ≤ 64 := by
  have e := nat_repr_length_le (n := n.natAbs) (k := 60) (by decide) h
  show (Str.ofString (toString n)).length ≤ 64
  have : (Str.ofString (toString n)).length = (toString n).length := PySem.ofString_length _
  rw [this]
  cases n with
  | ofNat m =>
    have e2 : (Nat.repr m).length ≤ 60 := e
    show (Nat.repr m).length ≤ 64
    omega
  | negSucc m =>
    have e2 : (Nat.repr (m + 1)).length ≤ 60 := e
    show ("-" ++ Nat.repr (m + 1)).length ≤ 64
    rw [String.length_append]
    show 1 + _ ≤ 64
    omega
theorem Sh.int {n : Int} (h : n.natAbs < 2 ^ 60) : Sh 0 0 (.int n) := by
  refine ⟨?_, rfl, ?_, Nat.le_of_eq rfl, Nat.le_of_eq rfl⟩
  · have : n.natAbs.log2 < 1920 := by
      rcases Nat.eq_zero_or_pos n.natAbs with z | z
      · rw [z]; decide
      · have := (Nat.log2_lt (k := 60) (Nat.pos_iff_ne_zero.mp z)).mpr h
        omega
    simp [PyData.showable, this]
  · simp only [PyData.leavesShort, decide_eq_true_eq]
    exact int_shown h
theorem Sh.non : Sh 0 0 .none := ⟨rfl, rfl, rfl, Nat.le_of_eq rfl, Nat.le_of_eq rfl⟩
theorem Sh.bl (b : Bool) : Sh 0 0 (.bool b) := ⟨rfl, rfl, rfl, Nat.le_of_eq rfl, Nat.le_of_eq rfl⟩
theorem Sh.le {b k b' k' : Nat} {d : PyData} (h : Sh b k d) (hb : b ≤ b') (hk : k ≤ k') : Sh b' k' d := ⟨h.sh, h.nod, h.lv, Nat.le_trans h.dp hk, Nat.le_trans h.bk hb⟩
theorem shAll_of {b k : Nat} : ∀ ds : List PyData, (∀ d ∈ ds, Sh b k d) → PyData.showableAll ds = true ∧ PyData.hasDictAll ds = false ∧ PyData.leavesShortAll 64 ds = true ∧ PyData.depthAll ds ≤ k ∧ PyData.bulkAll ds ≤ ds.length * (b + 1)
  | [], _ => ⟨rfl, rfl, rfl, Nat.zero_le _, Nat.zero_le _⟩
  | d :: ds, h => by
    have h1 := h d List.mem_cons_self
    obtain ⟨i1, i2, i3, i4, i5⟩ := shAll_of ds fun x hx => h x (List.mem_cons_of_mem _ hx)
    have g4 := h1.dp
    have g5 := h1.bk
    refine ⟨by rw [PyData.showableAll, h1.sh, i1]; rfl, by rw [PyData.hasDictAll, h1.nod, i2]; rfl, by rw [PyData.leavesShortAll, h1.lv, i3]; rfl, by rw [PyData.depthAll]; omega, ?_⟩
    rw [PyData.bulkAll, List.length_cons, Nat.add_mul, Nat.one_mul]
    omega
theorem Sh.tup {b k m : Nat} {ds : List PyData} (h : ∀ d ∈ ds, Sh b k d) (hm : ds.length ≤ m) : Sh (m * (b + 1)) (k + 1) (.tuple ds) := by
  obtain ⟨i1, i2, i3, i4, i5⟩ := shAll_of ds h
  refine ⟨by rw [PyData.showable]; exact i1, by rw [PyData.hasDict]; exact i2, by rw [PyData.leavesShort]; exact i3, by rw [PyData.depth]; omega, ?_⟩
  rw [PyData.bulk]
  exact Nat.le_trans i5 (Nat.mul_le_mul_right _ hm)
theorem Sh.lst {b k m : Nat} {ds : List PyData} (h : ∀ d ∈ ds, Sh b k d) (hm : ds.length ≤ m) : Sh (m * (b + 1)) (k + 1) (.list ds) := by
  obtain ⟨i1, i2, i3, i4, i5⟩ := shAll_of ds h
  refine ⟨by rw [PyData.showable]; exact i1, by rw [PyData.hasDict]; exact i2, by rw [PyData.leavesShort]; exact i3, by rw [PyData.depth]; omega, ?_⟩
  rw [PyData.bulk]
  exact Nat.le_trans i5 (Nat.mul_le_mul_right _ hm)
theorem Sh.pair {b k : Nat} {x y : PyData} (hx : Sh b k x) (hy : Sh b k y) : Sh (2 * (b + 1)) (k + 1) (.tuple [x, y]) := Sh.tup (fun d hd => by
  rcases List.mem_cons.mp hd with e | e
  · rw [e]; exact hx
  · rw [List.mem_singleton.mp e]; exact hy) (Nat.le_refl _)
theorem Sh.row {r : List Int} {m : Nat} (h : ∀ c ∈ r, c.natAbs < 2 ^ 60) (hm : r.length ≤ m) : Sh m 1 (rowD r) := by
  have := Sh.tup (b := 0) (k := 0) (m := m) (ds := r.map PyData.int) (fun d hd => by
    obtain ⟨c, hc, rfl⟩ := List.mem_map.mp hd
    exact Sh.int (h c hc)) (by rw [List.length_map]; exact hm)
  rw [Nat.zero_add, Nat.mul_one] at this
  exact this
theorem Sh.rows {rows : List (List Int)} {m n : Nat} (h : ∀ r ∈ rows, r.length ≤ m ∧ ∀ c ∈ r, c.natAbs < 2 ^ 60) (hn : rows.length ≤ n) : Sh (n * (m + 1)) 2 (.tuple (rows.map rowD)) :=
  Sh.tup (fun d hd => by
    obtain ⟨r, hr, rfl⟩ := List.mem_map.mp hd
    exact Sh.row (h r hr).2 (h r hr).1) (by rw [List.length_map]; exact hn)
theorem Sh.fits {b k : Nat} {d : PyData} (h : Sh b k d) (hb : b ≤ 200000) : d.shown.length ≤ sizeLine := by
  have e := PyData.shown_le_bulk 64 (by decide) d h.lv
  have := h.bk
  rw [sizeLine_eq]
  omega
theorem Sh.rep {K : PySem.W.Frag} {b k : Nat} {d : PyData} {H : Hp} {a : Addr} {Q : VK} (h : Sh b k d) (hb : b ≤ 200000) (hk : k < 64) (hd : Dp K H (.ref a) d) (q : Q (.str d.shown) H) : rReprD K [.ref a] H Q :=
  ⟨a, d, rfl, hd, h.sh, h.nod, Nat.lt_of_le_of_lt h.dp hk, h.fits hb, q⟩
end Bw

set_option maxHeartbeats 1000000
namespace Bw
open PySem PySem.Spec PyProof.Rows L2
/-! ### comprehensions with two for -/
section
variable {J : It} {n : Nat} {G : Hp → Prop} {Y : Nat → Hp → V → Hp → Prop}
theorem lc2_it (w : Walk J n G Y) {g : TG} {tt : L2.TT} {wi1 : TI} {g1 : TG} {tt1 : L2.TT} {te : TE} {vs vs1 : List Nat} {σ : L2.St} {H1 : Hp} {D : Addr} {Qd : Hp → Prop} (Pv : Nat → Hp → Prop) (h0 : Pv 0 (upd H1 D (.lst []))) (hG : ∀ i H, i ≤ n → Pv i H → G H)
    (hs : ∀ i x H H', i < n → Pv i H → Y i H x H' → g x (wipe σ vs) H' fun σ2 H2 => wipe σ2 vs = wipe σ vs ∧ tt σ2 H2 fun b H3 =>
      if b = true then wi1 σ2 H3 fun J1 H4 => ∃ W1 : Nat → Nat → Hp → Prop, (∃ m, W1 0 m H4) ∧ ∀ j k H, W1 j k H →
        (J1.stop j H ∧ Pv (i + 1) H) ∨ (J1.go j H ∧ ∃ Nx1 : Hp → Prop, (∀ H', Nx1 H' → ∃ k', k' < k ∧ W1 (j + 1) k' H') ∧ ∀ x H', J1.yld j H x H' → g1 x (wipe σ2 vs1) H' fun σ3 H5 => wipe σ3 vs1 = wipe σ2 vs1 ∧ tt1 σ3 H5 fun b H6 =>
          if b = true then te σ3 H6 fun y H7 => ∃ acc, H7 D = some (.lst acc) ∧ acc.length < sizeLine ∧ Nx1 (upd H7 D (.lst (acc ++ [y]))) else Nx1 H6) else Pv (i + 1) H3) (hd : ∀ H, Pv n H → Qd H) :
    ∃ W : Nat → Nat → Hp → Prop, (∃ m, W 0 m (upd H1 D (.lst []))) ∧ ∀ i m H, W i m H →
      (J.stop i H ∧ Qd H) ∨ (J.go i H ∧ ∃ Nx : Hp → Prop, (∀ H', Nx H' → ∃ m', m' < m ∧ W (i + 1) m' H') ∧ ∀ x H', J.yld i H x H' → g x (wipe σ vs) H' fun σ2 H2 => wipe σ2 vs = wipe σ vs ∧ tt σ2 H2 fun b H3 =>
        if b = true then wi1 σ2 H3 fun J1 H4 => ∃ W1 : Nat → Nat → Hp → Prop, (∃ m, W1 0 m H4) ∧ ∀ j k H, W1 j k H →
          (J1.stop j H ∧ Nx H) ∨ (J1.go j H ∧ ∃ Nx1 : Hp → Prop, (∀ H', Nx1 H' → ∃ k', k' < k ∧ W1 (j + 1) k' H') ∧ ∀ x H', J1.yld j H x H' → g1 x (wipe σ2 vs1) H' fun σ3 H5 => wipe σ3 vs1 = wipe σ2 vs1 ∧ tt1 σ3 H5 fun b H6 =>
            if b = true then te σ3 H6 fun y H7 => ∃ acc, H7 D = some (.lst acc) ∧ acc.length < sizeLine ∧ Nx1 (upd H7 D (.lst (acc ++ [y]))) else Nx1 H6) else Nx H3) := by
  refine ⟨fun i m H => m = n - i ∧ i ≤ n ∧ Pv i H, ⟨n, by simp, Nat.zero_le _, h0⟩, ?_⟩
  rintro i m H ⟨rfl, hi, p⟩
  have q := hG i H hi p
  by_cases hlt : i < n
  · exact .inr ⟨w.goes i H hlt q, Pv (i + 1), fun H' p' => ⟨n - (i + 1), by omega, rfl, hlt, p'⟩, fun x H' y => hs i x H H' hlt p (w.yields i H x H' hlt q y)⟩
  · have e : i = n := by omega
    subst e
    exact .inl ⟨w.stops H q, hd H p⟩
/-- the inner for -/
theorem lc2_in (w : Walk J n G Y) {g : TG} {tt : L2.TT} {te : TE} {vs : List Nat} {σ : L2.St} {H1 : Hp} {D : Addr} {Qd : Hp → Prop} (Pv : Nat → Hp → Prop) (h0 : Pv 0 H1) (hG : ∀ i H, i ≤ n → Pv i H → G H)
    (hs : ∀ i x H H', i < n → Pv i H → Y i H x H' → g x (wipe σ vs) H' fun σ2 H2 => wipe σ2 vs = wipe σ vs ∧ tt σ2 H2 fun b H3 =>
      if b = true then te σ2 H3 fun y H4 => ∃ acc, H4 D = some (.lst acc) ∧ acc.length < sizeLine ∧ Pv (i + 1) (upd H4 D (.lst (acc ++ [y]))) else Pv (i + 1) H3) (hd : ∀ H, Pv n H → Qd H) :
    ∃ W : Nat → Nat → Hp → Prop, (∃ m, W 0 m H1) ∧ ∀ i m H, W i m H →
      (J.stop i H ∧ Qd H) ∨ (J.go i H ∧ ∃ Nx : Hp → Prop, (∀ H', Nx H' → ∃ m', m' < m ∧ W (i + 1) m' H') ∧ ∀ x H', J.yld i H x H' → g x (wipe σ vs) H' fun σ2 H2 => wipe σ2 vs = wipe σ vs ∧ tt σ2 H2 fun b H3 =>
        if b = true then te σ2 H3 fun y H4 => ∃ acc, H4 D = some (.lst acc) ∧ acc.length < sizeLine ∧ Nx (upd H4 D (.lst (acc ++ [y]))) else Nx H3) := by
  refine ⟨fun i m H => m = n - i ∧ i ≤ n ∧ Pv i H, ⟨n, by simp, Nat.zero_le _, h0⟩, ?_⟩
  rintro i m H ⟨rfl, hi, p⟩
  have q := hG i H hi p
  by_cases hlt : i < n
  · exact .inr ⟨w.goes i H hlt q, Pv (i + 1), fun H' p' => ⟨n - (i + 1), by omega, rfl, hlt, p'⟩, fun x H' y => hs i x H H' hlt p (w.yields i H x H' hlt q y)⟩
  · have e : i = n := by omega
    subst e
    exact .inl ⟨w.stops H q, hd H p⟩
end
theorem yInt {ns : List Int} : ∀ (i : Nat) (H : Hp) (x : V) (H' : Hp), YAt (ns.map V.int) i H x H' → i < (ns.map V.int).length → H' = H ∧ x = V.int (ns.getD i 0) := by
  rintro i H x H' ⟨h1, h2⟩ hi
  obtain ⟨hi2, rfl⟩ := num_map i ns x h2
  exact ⟨h1, by rw [List.getD_eq_getElem?_getD, List.getElem?_eq_getElem hi2]; rfl⟩
theorem getD_in {ns : List Int} {i : Nat} (h : i < ns.length) : ns.getD i 0 ∈ ns := by
  rw [List.getD_eq_getElem?_getD, List.getElem?_eq_getElem h]
  exact List.getElem_mem h
theorem ints_of {f : Nat → Int} : ∀ {xs : List V} (k : Nat), (∀ (i : Nat) (v : V), xs[i]? = some v → v = .int (f (k + i))) → xs = ((List.range' k xs.length).map f).map V.int
  | [], _, _ => rfl
  | x :: xs, k, h => by
    rw [List.length_cons, List.range'_succ, List.map_cons, List.map_cons, ← ints_of (xs := xs) (k + 1) fun i v e => by rw [show k + 1 + i = k + (i + 1) by omega]; exact h (i + 1) v e, h 0 x rfl]
    rfl
theorem map_getD {α : Type} {ns : List Int} (g : Int → α) : (List.range' 0 ns.length).map (fun i => g (ns.getD i 0)) = ns.map g := by
  refine List.ext_getElem (by simp) fun i h1 h2 => ?_
  simp at h1
  simp [List.getElem_range', h1]
/-- [g(c) for c in the tuple of ints at b] -/
theorem lc_mapI {K : PySem.W.Frag} {b D : Addr} {ns : List Int} {j : Nat} {vs : List Nat} {σ : L2.St} {H1 : Hp} {te : TE} {Qd : Hp → Prop} (g : Int → Int) (hb : SqT K H1 b (ns.map V.int)) (hD : H1 D = none) (hn : ns.length < 100000) (hw : ∀ x, wipe ((wipe σ vs).set j (some x)) vs = wipe σ vs)
    (hd : ∀ c ∈ ns, Rd te ((wipe σ vs).set j (some (.int c))) H1 fun v _ => v = .int (g c)) (fin : ∀ H', H' D = some (.lst ((ns.map g).map V.int)) → Same H1 H' → Qd H') :
    ∃ W : Nat → Nat → Hp → Prop, (∃ m, W 0 m (upd H1 D (.lst []))) ∧ ∀ i m H, W i m H →
      ((Itt K b).stop i H ∧ Qd H) ∨ ((Itt K b).go i H ∧ ∃ Nx : Hp → Prop, (∀ H', Nx H' → ∃ m', m' < m ∧ W (i + 1) m' H') ∧ ∀ x H', (Itt K b).yld i H x H' → gName j x (wipe σ vs) H' fun σ2 H2 => wipe σ2 vs = wipe σ vs ∧ tYes σ2 H2 fun b H3 =>
        if b = true then te σ2 H3 fun y H4 => ∃ acc, H4 D = some (.lst acc) ∧ acc.length < sizeLine ∧ Nx (upd H4 D (.lst (acc ++ [y]))) else Nx H3) := by
  refine lc_rd (fun k => .int (ns.getD k 0)) walk_tup yInt (fun i v _ => v = .int (g (ns.getD i 0))) hD (by rw [List.length_map]; exact hn) hw (fun H' s => s.tup hb) (fun _ _ _ _ _ h => h) (fun i hi => hd _ (getD_in (by rw [List.length_map] at hi; exact hi))) (fun xs H' hl hD' s hv => fin H' ?_ s) (fun _ _ _ _ _ h _ => h)
  rw [hD', ints_of (xs := xs) (f := fun i => g (ns.getD i 0)) 0 fun i v e => by rw [Nat.zero_add]; exact hv i v e, hl, List.length_map, map_getD g]
/-! ### rows of ints in the heap -/
def Rws (K : PySem.W.Frag) (H : Hp) (vs : List V) (rows : List (List Int)) : Prop := DpAll K H vs (rows.map rowD)
section
variable {K : PySem.W.Frag} {H H1 : Hp} {vs : List V} {rows : List (List Int)} {a b : Addr} {r : List Int}
theorem Rws.nil : Rws K H [] [] := DpAll.nil
theorem Rws.snoc (h : Rws K H vs rows) (hb : SqT K H b (r.map V.int)) : Rws K H (vs ++ [.ref b]) (rows ++ [r]) := by
  unfold Rws
  rw [List.map_append]
  exact dpAll_app h (.cons (row_dp hb) .nil)
theorem Rws.same (e : Same H H1) (h : Rws K H vs rows) : Rws K H1 vs rows := dp_sameAll e _ _ h
theorem Rws.len (h : Rws K H vs rows) : vs.length = rows.length := by
  have := dpAll_len h
  rw [List.length_map] at this
  exact this
theorem Rws.upd {D : Addr} {ys : List V} {o : HO} (hD : H D = some (.lst ys)) : ∀ {vs : List V} {rows : List (List Int)}, Rws K H vs rows → Rws K (L2.upd H D o) vs rows
  | [], [], _ => DpAll.nil
  | [], _ :: _, h => by cases h
  | _ :: _, [], h => by cases h
  | v :: vs, r :: rows, h => by
    cases h with
    | cons x y =>
      obtain ⟨b, rfl, hb⟩ := dp_row x
      exact DpAll.cons (row_dp (tup_upd hb hD)) (Rws.upd hD y)
theorem Rws.tt (h : Rws K H vs rows) (ha : SqT K H a vs) : TT K H a rows := .tup ha h
end
end Bw
namespace Bw
open PySem PySem.Spec PyProof.Rows L2
/-- repr of a whole number or of None -/
theorem reprS {X : Cx} : CallR X (.builtin "repr") (fun xs H Q => ∃ v, xs = [v] ∧ ((v = .non ∧ Q (.str "None") H) ∨ ∃ i : Int, v = .int i ∧ i.natAbs.log2 < 1920 ∧ Q (.str (toString i)) H)) := by
  intro pins s σ H xs us Q I r h
  obtain ⟨v, rfl, h⟩ := h
  obtain ⟨u, rfl, ru⟩ := vals1 r
  rcases h with ⟨rfl, q⟩ | ⟨i, rfl, hi, q⟩
  · cases (show u = Value.none from ru)
    exact PySem.P.repr_of_none ⟨.str "None", H, I.tok _, ⟨_, rfl⟩, q⟩
  · obtain ⟨t, rfl⟩ := ru
    exact PySem.P.repr_of_int hi ⟨.str (toString i), H, I.tok _, ⟨_, rfl⟩, q⟩
end Bw

set_option maxHeartbeats 1000000
namespace Bw
open PySem PySem.Spec PyProof.Rows L2
section
variable {X : Cx}
theorem leT (K : PySem.W.Frag) (hu : X.A.units < cLine) (h : X.K = K := by rfl) : OpR X (compareOp .LtE) (rLeT K) := h ▸ op_leT hu
end
end Bw
namespace Bw
open PySem PySem.Spec PyProof.Rows L2
section
variable {K : PySem.W.Frag} {H : Hp} {a q C dx : Addr} {xs : List V} {fs : List (Str × V)} {o : HO}
/-- a tuple is not where an instance stands -/
theorem tup_updI (h : SqT K H a xs) (hq : H q = some (.ins C dx fs)) : SqT K (upd H q o) a xs := by
  rcases h with (h | ⟨f, h⟩) | h
  · exact .inl (.inl (by rw [upd_ne (fun z => by rw [z, hq] at h; cases h)]; exact h))
  · exact .inl (.inr ⟨f, by rw [upd_ne (fun z => by rw [z, hq] at h; cases h)]; exact h⟩)
  · exact .inr h
theorem Rws.updI (hq : H q = some (.ins C dx fs)) : ∀ {vs : List V} {rows : List (List Int)}, Rws K H vs rows → Rws K (L2.upd H q o) vs rows
  | [], [], _ => DpAll.nil
  | [], _ :: _, h => by cases h
  | _ :: _, [], h => by cases h
  | v :: vs, r :: rows, h => by
    cases h with
    | cons x y =>
      obtain ⟨b, rfl, hb⟩ := dp_row x
      exact DpAll.cons (row_dp (tup_updI hb hq)) (Rws.updI hq y)
theorem TT.updI {r : Addr} {rows : List (List Int)} (hq : H q = some (.ins C dx fs)) (h : TT K H r rows) : TT K (L2.upd H q o) r rows := by
  cases h with
  | tup hs ha => exact .tup (tup_updI hs hq) (Rws.updI hq ha)
end
end Bw
namespace Bw
open PySem PySem.Spec PyProof.Rows L2
/-! ### a op1 b op2 c op3 d -/
def tChain3 (r r' r'' : R2) (ta tb tc td : TE) : TE := fun σ H Q => ta σ H fun x H1 => tb σ H1 fun y H2 => r x y H2 fun z H3 => ∃ k, z = .bl k ∧
  (if k = true then tc σ H3 fun w' H4 => r' y w' H4 fun z' H5 => ∃ k', z' = .bl k' ∧ (if k' = true then td σ H5 fun v' H6 => r'' w' v' H6 Q else Q (.bl false) H5) else Q (.bl false) H3)
section
variable {X : Cx} {a b c d : Expr} {ta tb tc td : TE} {pos : Pos}
theorem pe_chain3 {op op' op'' : CmpOp} {r r' r'' : R2} (ho : OpR X (compareOp op) r) (ho' : OpR X (compareOp op') r') (ho'' : OpR X (compareOp op'') r'') (ha : PE X a ta) (hb : PE X b tb) (hc : PE X c tc) (hd : PE X d td)
    (hm : lastMarks [op, op', op''] [b, c, d] = false := by with_unfolding_all rfl) : PE X (.Compare a [op, op', op''] [b, c, d] pos) (tChain3 r r' r'' ta tb tc td) := by
  refine ⟨fun pins s σ H Q I h => ?_⟩
  refine Compare_chain (thn (ha.run pins s σ H _ I h) fun v s1 ⟨x, H1, I1, r1, q1⟩ => chain_link (thn (hb.run pins s1 σ H1 _ I1 q1) fun u s2 ⟨y, H2, I2, r2, q2⟩ =>
    thn (ho pins s2 σ H2 x y v u _ I2 r1 r2 q2) fun e s3 ⟨z, H3, I3, r3, k, ek, q3⟩ => ?_)) hm
  subst ek
  cases r3
  refine wpAny_truthy_bool ?_
  cases k with
  | false => exact ite_ff ⟨.bl false, H3, I3, rfl, q3⟩
  | true =>
    refine ite_tt (chain_link (thn (hc.run pins s3 σ H3 _ I3 q3) fun w' s4 ⟨z', H4, I4, r4, q4⟩ => thn (ho' pins s4 σ H4 y z' u w' _ I4 r2 r4 q4) fun e' s5 ⟨z2, H5, I5, r5, k2, e2, q5⟩ => ?_))
    subst e2
    cases r5
    refine wpAny_truthy_bool ?_
    cases k2 with
    | false => exact ite_ff ⟨.bl false, H5, I5, rfl, q5⟩
    | true => exact ite_tt (chain_last (thn (hd.run pins s5 σ H5 _ I5 q5) fun w2 s6 ⟨z3, H6, I6, r6, q6⟩ => ho'' pins s6 σ H6 z' z3 w' w2 Q I6 r4 r6 q6))
end
end Bw
namespace Bw
open PySem PySem.Spec PyProof.Rows L2
theorem hu1 {k : Nat} {A : Around} (hr : Room k A) : A.units + 1 < cLine := by have := hr.un; omega
theorem hu0 {k : Nat} {A : Around} (hr : Room k A) : A.units < cLine := by have := hr.un; omega
end Bw
namespace Bw
open PySem PySem.Spec PyProof.Rows L2
/-! ### a def with keyword-only parameters, called with them told -/
structure CalW (P : Program) (w : World) (K : PySem.W.Frag) (mg : Str → Option Value) (base : Heap) (CX : CXT) (k : Nat) (x : Str) (ps : List Str) (st : Stmt) (sp : Sp) : Prop where
  ex : ∃ (f : Addr) (fd : FuncData), FnOk P w K mg base CX k f fd ps sp ∧ Fun K x x st f fd ∧ mg x = some (.ref f)
theorem pe_calKw {X : Cx} {CX : CXT} {k : Nat} {x : Str} {ps ks : List Str} {st : Stmt} {sp : Sp} {E : XK} {p pos : Pos} {e : Expr} {es : List Expr} {kws : List Keyword} {t tk : TA} {g : List Value → List Value → List Value} {gV : List V → List V → List V}
    (c : CalW X.prog X.w X.K X.mg X.base CX k x ps st sp) (B : KwB x st ps ks g gV) (hr : Room k X.A) (hx : Passes CX X E) (ha : PA X (e :: es) t) (hkw : PK X kws tk) (hg : Gl X x := by rfl)
    (hall : (backToKw pos (keywordEach kws X.env)).all (·.1.isSome) = true := by rfl) (hks : (backToKw pos (keywordEach kws X.env)).filterMap (·.1) = ks := by rfl)
    (hdb : (x == ("__debug__" : Str)) = false := by decide) (he : starEach (e :: es) X.env = (false, eval e X.env) :: starEach es X.env := by rfl)
    (hpl : ((backTo pos (starEach (e :: es) X.env)).any (·.1) || (backToKw pos (keywordEach kws X.env)).any (·.1.isNone)) = false := by rfl) :
    PE X (.Call (.Name x p) (e :: es) kws pos) (tCallK sp gV E t tk) := by
  obtain ⟨f, fd, G, F, hm⟩ := c.ex
  exact pe_callK G hr hg hm F.kp (B.binds F) hx ha hkw hall hks hdb he hpl
end Bw
namespace Bw
open PySem PySem.Spec PyProof.Rows L2
/-- a comprehension over whole numbers with a test that only reads; h: what each gives -/
theorem lc_fm {J : It} {n j : Nat} {G : Hp → Prop} {Y : Nat → Hp → V → Hp → Prop} (ns : List Int) (w : Walk J n G Y) (hn' : ns.length = n) (hY : ∀ i H x H', Y i H x H' → i < n → H' = H ∧ x = .int (ns.getD i 0)) {vs : List Nat} {σ : L2.St} {H1 : Hp} {D : Addr} {tt : L2.TT} {te : TE} {Qd : Hp → Prop} (f : Int → Bool) (h : Int → V)
    (hD : H1 D = none) (hn : n < 100000) (hw : ∀ x, wipe ((wipe σ vs).set j (some x)) vs = wipe σ vs) (hG : ∀ H', Same H1 H' → G H')
    (ht : ∀ c ∈ ns, ∀ (H : Hp) (Q : Bool → Hp → Prop), Same H1 H → Q (f c) H → tt ((wipe σ vs).set j (some (.int c))) H Q)
    (he : ∀ c ∈ ns, f c = true → ∀ (H : Hp) (Q : VK), Same H1 H → Q (h c) H → te ((wipe σ vs).set j (some (.int c))) H Q)
    (fin : ∀ H', H' D = some (.lst ((ns.filter f).map h)) → Same H1 H' → Qd H') :
    ∃ W : Nat → Nat → Hp → Prop, (∃ m, W 0 m (upd H1 D (.lst []))) ∧ ∀ i m H, W i m H →
      (J.stop i H ∧ Qd H) ∨ (J.go i H ∧ ∃ Nx : Hp → Prop, (∀ H', Nx H' → ∃ m', m' < m ∧ W (i + 1) m' H') ∧ ∀ x H', J.yld i H x H' → gName j x (wipe σ vs) H' fun σ2 H2 => wipe σ2 vs = wipe σ vs ∧ tt σ2 H2 fun b H3 =>
        if b = true then te σ2 H3 fun y H4 => ∃ acc, H4 D = some (.lst acc) ∧ acc.length < sizeLine ∧ Nx (upd H4 D (.lst (acc ++ [y]))) else Nx H3) := by
  refine lc_it w (fun i H' => H' D = some (.lst (((ns.take i).filter f).map h)) ∧ Same H1 H') ⟨upd_same, Same.new hD⟩ (fun i H' _ h => hG _ h.2) (fun i x H2 H3 hi h y => ?_) (fun H' h => fin H' (by have := h.1; rw [← hn', List.take_length] at this; exact this) h.2)
  obtain ⟨h1, h2⟩ := h
  obtain ⟨rfl, rfl⟩ := hY i H2 x H3 y hi
  have hi2 : i < ns.length := by omega
  have hm : ns.getD i 0 ∈ ns := getD_in hi2
  have e : ns.take (i + 1) = ns.take i ++ [ns.getD i 0] := by
    rw [List.take_add_one, List.getD_eq_getElem?_getD, List.getElem?_eq_getElem hi2]
    rfl
  refine ⟨hw _, ?_⟩
  refine ht _ hm H3 _ h2 ?_
  by_cases c : f (ns.getD i 0) = true
  · rw [if_pos c]
    refine he _ hm c H3 _ h2 ⟨_, h1, smallLt ?_, ?_, h2.mut hD⟩
    · rw [List.length_map]
      have := List.length_filter_le f (ns.take i)
      rw [List.length_take] at this
      omega
    · rw [upd_same, e, List.filter_append, List.map_append, List.filter_cons, if_pos c]
      rfl
  · rw [if_neg c]
    refine ⟨?_, h2⟩
    rw [h1, e, List.filter_append, List.filter_cons, if_neg c, List.filter_nil, List.append_nil]
end Bw
namespace Bw
open PySem PySem.Spec PyProof.Rows L2
theorem hu65 {k : Nat} {A : Around} (hr : Room k A) : A.units + 65 < cLine := by have := hr.un; omega
section
variable {X : Cx}
theorem inD (K : PySem.W.Frag) (hu : X.A.units + 65 < cLine) (h : X.K = K := by rfl) : OpR X (compareOp .In) (rInD K) := h ▸ op_inD hu
end
/-- a list of pairs of whole numbers at d -/
def PL (K : PySem.W.Frag) (H : Hp) (d : Addr) (prs : List (Int × Int)) : Prop := Dp K H (.ref d) (.list (prs.map fun e => rowD [e.1, e.2]))
theorem PL.same {K : PySem.W.Frag} {H H1 : Hp} {d : Addr} {prs : List (Int × Int)} (e : Same H H1) (h : PL K H d prs) : PL K H1 d prs := dp_same e _ _ h
theorem any_pair {p s : Int} : ∀ prs : List (Int × Int), ((prs.map fun e => rowD [e.1, e.2]).any fun z => PyData.eqv z (rowD [p, s])) = decide ((p, s) ∈ prs)
  | [] => by simp
  | e :: prs => by
    rw [List.map_cons, List.any_cons, any_pair prs]
    unfold rowD
    rw [PyData.eqv, eqvI, ← Bool.decide_or]
    refine decide_eq_decide.mpr ?_
    obtain ⟨x, y⟩ := e
    rw [List.mem_cons]
    simp only [List.cons.injEq, and_true, Prod.mk.injEq]
    constructor
    · rintro (⟨h1, h2⟩ | h)
      · exact .inl ⟨h1.symm, h2.symm⟩
      · exact .inr h
    · rintro (⟨h1, h2⟩ | h)
      · exact .inl ⟨h1.symm, h2.symm⟩
      · exact .inr h
theorem shRow (r : List Int) : SeqAt.shaped (rowD r) = true := shT r
theorem shPL (prs : List (Int × Int)) : SeqAt.shaped (.list (prs.map fun e => rowD [e.1, e.2])) = true := by
  have h1 : ∀ ps : List (Int × Int), PyData.canLayAll0 (ps.map fun e => rowD [e.1, e.2]) = true ∧ PyData.depthAll (ps.map fun e => rowD [e.1, e.2]) ≤ 1 := fun ps => by
    induction ps with
    | nil => exact ⟨rfl, Nat.zero_le _⟩
    | cons e ps ih =>
      rw [List.map_cons, PyData.canLayAll0, PyData.depthAll]
      refine ⟨by rw [ih.1]; rfl, ?_⟩
      have : (rowD [e.1, e.2]).depth ≤ 1 := by
        unfold rowD
        rw [PyData.depth, dpAll0]
        exact Nat.le_refl _
      have := ih.2
      omega
  unfold SeqAt.shaped
  rw [PyData.canLay0, (h1 prs).1, PyData.depth]
  have := (h1 prs).2
  have e : decide (PyData.depthAll (prs.map fun e => rowD [e.1, e.2]) + 1 ≤ 64) = true := decide_eq_true (by omega)
  first
    | (rw [e]; rfl)
    | simp; omega
end Bw
namespace Bw
open PySem PySem.Spec PyProof.Rows L2
/-- as lc_fm, the test and the element may add objects -/
theorem lc_fs {J : It} {n j : Nat} {G : Hp → Prop} {Y : Nat → Hp → V → Hp → Prop} (ns : List Int) (w : Walk J n G Y) (hn' : ns.length = n) (hY : ∀ i H x H', Y i H x H' → i < n → H' = H ∧ x = .int (ns.getD i 0)) {vs : List Nat} {σ : L2.St} {H1 : Hp} {D : Addr} {tt : L2.TT} {te : TE} {Qd : Hp → Prop} (f : Int → Bool) (h : Int → V)
    (hD : H1 D = none) (hn : n < 100000) (hw : ∀ x, wipe ((wipe σ vs).set j (some x)) vs = wipe σ vs) (hG : ∀ H', Same H1 H' → G H')
    (ht : ∀ c ∈ ns, ∀ (H : Hp) (Q : Bool → Hp → Prop), Same H1 H → (∀ H', Same H H' → Q (f c) H') → tt ((wipe σ vs).set j (some (.int c))) H Q)
    (he : ∀ c ∈ ns, f c = true → ∀ (H : Hp) (Q : VK), Same H1 H → (∀ H', Same H H' → Q (h c) H') → te ((wipe σ vs).set j (some (.int c))) H Q)
    (fin : ∀ H', H' D = some (.lst ((ns.filter f).map h)) → Same H1 H' → Qd H') :
    ∃ W : Nat → Nat → Hp → Prop, (∃ m, W 0 m (upd H1 D (.lst []))) ∧ ∀ i m H, W i m H →
      (J.stop i H ∧ Qd H) ∨ (J.go i H ∧ ∃ Nx : Hp → Prop, (∀ H', Nx H' → ∃ m', m' < m ∧ W (i + 1) m' H') ∧ ∀ x H', J.yld i H x H' → gName j x (wipe σ vs) H' fun σ2 H2 => wipe σ2 vs = wipe σ vs ∧ tt σ2 H2 fun b H3 =>
        if b = true then te σ2 H3 fun y H4 => ∃ acc, H4 D = some (.lst acc) ∧ acc.length < sizeLine ∧ Nx (upd H4 D (.lst (acc ++ [y]))) else Nx H3) := by
  refine lc_it w (fun i H' => H' D = some (.lst (((ns.take i).filter f).map h)) ∧ Same H1 H') ⟨upd_same, Same.new hD⟩ (fun i H' _ h => hG _ h.2) (fun i x H2 H3 hi h y => ?_) (fun H' h => fin H' (by have := h.1; rw [← hn', List.take_length] at this; exact this) h.2)
  obtain ⟨h1, h2⟩ := h
  obtain ⟨rfl, rfl⟩ := hY i H2 x H3 y hi
  have hi2 : i < ns.length := by omega
  have hm : ns.getD i 0 ∈ ns := getD_in hi2
  have e : ns.take (i + 1) = ns.take i ++ [ns.getD i 0] := by
    rw [List.take_add_one, List.getD_eq_getElem?_getD, List.getElem?_eq_getElem hi2]
    rfl
  refine ⟨hw _, ?_⟩
  refine ht _ hm H3 _ h2 fun H4 s4 => ?_
  by_cases c : f (ns.getD i 0) = true
  · rw [if_pos c]
    refine he _ hm c H4 _ (h2.trans s4) fun H5 s5 => ⟨_, s5 _ _ (s4 _ _ h1), smallLt ?_, ?_, ((h2.trans s4).trans s5).mut hD⟩
    · rw [List.length_map]
      have := List.length_filter_le f (ns.take i)
      rw [List.length_take] at this
      omega
    · rw [upd_same, e, List.filter_append, List.map_append, List.filter_cons, if_pos c]
      rfl
  · rw [if_neg c]
    refine ⟨?_, h2.trans s4⟩
    rw [s4 _ _ h1, e, List.filter_append, List.filter_cons, if_neg c, List.filter_nil, List.append_nil]
end Bw

set_option maxHeartbeats 1000000
namespace Bw
open PySem PySem.Spec PyProof.Rows L2
/-! ### x in y, x not in y, y a list or a tuple of data -/
def rInX (K : PySem.W.Frag) : R2 := fun x y H Q => ∃ d ds, Dp K H x d ∧ (Dp K H y (.list ds) ∨ Dp K H y (.tuple ds)) ∧ SeqAt.shaped d = true ∧ SeqAt.shaped (.list ds) = true ∧ Q (.bl (ds.any fun z => PyData.eqv z d)) H
def rNinX (K : PySem.W.Frag) : R2 := fun x y H Q => ∃ d ds, Dp K H x d ∧ (Dp K H y (.list ds) ∨ Dp K H y (.tuple ds)) ∧ SeqAt.shaped d = true ∧ SeqAt.shaped (.list ds) = true ∧ Q (.bl (!ds.any fun z => PyData.eqv z d)) H
section
variable {X : Cx}
theorem shLT {ds : List PyData} (h : SeqAt.shaped (.list ds) = true) : SeqAt.shaped (.tuple ds) = true := by
  unfold SeqAt.shaped at *
  rw [PyData.canLay0, PyData.depth] at *
  exact h
theorem op_inX (hu : X.A.units + 65 < cLine) : OpR X (compareOp .In) (rInX X.K) := by
  intro pins s σ H x y v u Q I rx ry h
  obtain ⟨d, ds, hd, he, sd, se, q⟩ := h
  obtain ⟨as, r1⟩ := Dp.reads I d x v hd rx
  rcases he with he | he
  · obtain ⟨bs, r2⟩ := Dp.reads I (.list ds) y u he ry
    exact SeqAt.in_list_reads r2 r1 (SeqAt.canLay_of_shaped se) (SeqAt.canLay_of_shaped sd) (room_in_shaped sd hu) ⟨.bl _, H, I, rfl, q⟩
  · obtain ⟨bs, r2⟩ := Dp.reads I (.tuple ds) y u he ry
    exact SeqAt.in_tuple_reads r2 r1 (SeqAt.canLay_of_shaped se) (SeqAt.canLay_of_shaped sd) (room_in_shaped sd hu) ⟨.bl _, H, I, rfl, q⟩
theorem op_notInX (hu : X.A.units + 65 < cLine) : OpR X (compareOp .NotIn) (rNinX X.K) := by
  intro pins s σ H x y v u Q I rx ry h
  obtain ⟨d, ds, hd, he, sd, se, q⟩ := h
  obtain ⟨as, r1⟩ := Dp.reads I d x v hd rx
  rcases he with he | he
  · obtain ⟨bs, r2⟩ := Dp.reads I (.list ds) y u he ry
    exact SeqAt.notIn_list_reads r2 r1 (SeqAt.canLay_of_shaped se) (SeqAt.canLay_of_shaped sd) (room_in_shaped sd hu) ⟨.bl _, H, I, rfl, q⟩
  · obtain ⟨bs, r2⟩ := Dp.reads I (.tuple ds) y u he ry
    exact SeqAt.notIn_tuple_reads r2 r1 (SeqAt.canLay_of_shaped se) (SeqAt.canLay_of_shaped sd) (room_in_shaped sd hu) ⟨.bl _, H, I, rfl, q⟩
theorem inX (K : PySem.W.Frag) (hu : X.A.units + 65 < cLine) (h : X.K = K := by rfl) : OpR X (compareOp .In) (rInX K) := h ▸ op_inX hu
theorem ninX (K : PySem.W.Frag) (hu : X.A.units + 65 < cLine) (h : X.K = K := by rfl) : OpR X (compareOp .NotIn) (rNinX K) := h ▸ op_notInX hu
theorem sortPO (K : PySem.W.Frag) (h : X.K = K := by rfl) : CallR X (.builtin "sorted") (rSortedPO K) := h ▸ cr_sortedPO
theorem pg_tupK (K : PySem.W.Frag) {es : List Expr} {k : Nat} {pos : Pos} {t : TGs} {n : Nat} (hc : X.calm = true) (h : PGs X es t)
    (hn : (assignEach es X.env).length = n := by rfl) (hst : (assignEach es X.env).findIdx? (·.1) = none := by rfl) (hK : X.K = K := by rfl) : PG X (.Tuple es k pos) (gTup K n t) := hK ▸ pg_tup hc h hn hst
theorem isIT (K : PySem.W.Frag) (h : X.K = K := by rfl) : CallR X (.builtin "isinstance") (rIsi K) := h ▸ call_isi
end
/-! ### pairs in a list -/
/-- v is a new pair of the two numbers -/
def TP (H : Hp) (v : V) (e : Int × Int) : Prop := ∃ t, v = .ref t ∧ H t = some (.tup [.int e.1, .int e.2])
def TPs (H : Hp) (vs : List V) (prs : List (Int × Int)) : Prop := vs.length = prs.length ∧ ∀ (i : Nat) v e, vs[i]? = some v → prs[i]? = some e → TP H v e
section
variable {K : PySem.W.Frag} {H H1 : Hp} {v : V} {vs ws : List V} {e : Int × Int} {prs qrs : List (Int × Int)} {d p : Addr}
theorem TPs.nil : TPs H [] [] := ⟨rfl, fun i v e h => by simp at h⟩
theorem TPs.keep (k : ∀ (b : Addr) x y, H b = some (.tup [.int x, .int y]) → H1 b = some (.tup [.int x, .int y])) (h : TPs H vs prs) : TPs H1 vs prs := ⟨h.1, fun i v e a b => by
  obtain ⟨t, r, ht⟩ := h.2 i v e a b
  exact ⟨t, r, k _ _ _ ht⟩⟩
theorem TPs.same (s : Same H H1) (h : TPs H vs prs) : TPs H1 vs prs := h.keep fun b x y => s b _
theorem TPs.exb (hp : Src H p) (s : Exb p H H1) (h : TPs H vs prs) : TPs H1 vs prs := h.keep fun b x y hb => s b _ (fun z => by
  obtain ⟨a, c, q, _⟩ := hp
  rw [z, q] at hb
  cases hb) hb
theorem TPs.upd {xs : List V} {o : HO} (hd : H d = some (.lst xs)) (h : TPs H vs prs) : TPs (upd H d o) vs prs := h.keep fun b x y hb => by rw [upd_ne (fun z => by rw [z, hd] at hb; cases hb)]; exact hb
theorem TPs.snoc (h : TPs H vs prs) (hv : TP H v e) : TPs H (vs ++ [v]) (prs ++ [e]) := by
  refine ⟨by rw [List.length_append, List.length_append, h.1]; rfl, fun i w f a b => ?_⟩
  by_cases hi : i < vs.length
  · rw [List.getElem?_append_left hi] at a
    rw [List.getElem?_append_left (by rw [← h.1]; exact hi)] at b
    exact h.2 i w f a b
  · rw [List.getElem?_append_right (by omega)] at a
    rw [List.getElem?_append_right (by rw [← h.1]; omega), ← h.1] at b
    have hi2 := (List.getElem?_eq_some_iff.mp a).1
    have z : i - vs.length = 0 := by
      have : i - vs.length < 1 := hi2
      omega
    rw [z] at a b
    cases Option.some.inj a
    cases Option.some.inj b
    exact hv
theorem TPs.tail {v : V} {e : Int × Int} (h : TPs H (v :: vs) (e :: prs)) : TP H v e ∧ TPs H vs prs :=
  ⟨h.2 0 v e rfl rfl, by simpa using h.1, fun i w f a b => h.2 (i + 1) w f a b⟩
theorem TPs.dp : ∀ {vs : List V} {prs : List (Int × Int)}, TPs H vs prs → DpAll K H vs (prs.map fun e => rowD [e.1, e.2])
  | [], [], _ => .nil
  | [], _ :: _, h => by cases h.1
  | _ :: _, [], h => by cases h.1
  | v :: vs, e :: prs, h => by
    obtain ⟨⟨t, rfl, ht⟩, h2⟩ := h.tail
    exact .cons (row_dp (r := [e.1, e.2]) (.inl (.inl ht))) (TPs.dp h2)
theorem TPs.mem : ∀ {vs : List V} {prs : List (Int × Int)}, TPs H vs prs → ∀ v ∈ vs, ∃ e ∈ prs, TP H v e
  | [], [], _, v, hv => by cases hv
  | [], _ :: _, h, _, _ => by cases h.1
  | _ :: _, [], h, _, _ => by cases h.1
  | v :: vs, e :: prs, h, w, hw => by
    obtain ⟨h1, h2⟩ := h.tail
    rcases List.mem_cons.mp hw with rfl | hw
    · exact ⟨e, List.mem_cons_self, h1⟩
    · obtain ⟨f, hf, h3⟩ := TPs.mem h2 w hw
      exact ⟨f, List.mem_cons_of_mem _ hf, h3⟩
theorem TP.one {e f : Int × Int} (h : TP H v e) (k : TP H v f) : e = f := by
  obtain ⟨t, rfl, h1⟩ := h
  obtain ⟨t', e2, h2⟩ := k
  cases e2
  rw [h1] at h2
  have h3 := HO.tup.inj (Option.some.inj h2)
  have h4 := V.int.inj (List.cons.inj h3).1
  have h5 := V.int.inj (List.cons.inj (List.cons.inj h3).2).1
  exact Prod.ext h4 h5
open Classical in
/-- the pair at v -/
noncomputable def prOf (H : Hp) (v : V) : Int × Int := if h : ∃ e, TP H v e then h.choose else (0, 0)
theorem prOf_eq (h : TP H v e) : prOf H v = e := by
  unfold prOf
  rw [dif_pos ⟨e, h⟩]
  exact TP.one (Exists.choose_spec (⟨e, h⟩ : ∃ e, TP H v e)) h
theorem TPs.map : ∀ {vs : List V} {prs : List (Int × Int)}, TPs H vs prs → prs = vs.map (prOf H)
  | [], [], _ => rfl
  | [], _ :: _, h => by cases h.1
  | _ :: _, [], h => by cases h.1
  | v :: vs, e :: prs, h => by
    obtain ⟨h1, h2⟩ := h.tail
    rw [List.map_cons, prOf_eq h1, ← TPs.map h2]
theorem TPs.of : ∀ {vs : List V}, (∀ v ∈ vs, ∃ e, TP H v e) → TPs H vs (vs.map (prOf H)) := fun {vs} h => ⟨by rw [List.length_map], fun i v e a b => by
  rw [List.getElem?_map, a] at b
  cases Option.some.inj b
  obtain ⟨f, hf⟩ := h v (List.mem_of_getElem? a)
  rw [prOf_eq hf]
  exact hf⟩
/-- before or like, by the first, then by the second -/
def PLe (e f : Int × Int) : Prop := e.1 < f.1 ∨ (e.1 = f.1 ∧ e.2 ≤ f.2)
/-- sorted(a list of new pairs) -/
theorem sort_TPs {Q : VK} (hd : SqL K H d vs) (h : TPs H vs prs) (q : ∀ ys qrs p, H p = none → qrs.Perm prs → qrs.Pairwise PLe → TPs (upd H p (.lst ys)) ys qrs → Q (.ref p) (upd H p (.lst ys))) : rSortedPO K [.ref d] H Q := by
  refine ⟨d, vs, prOf H, rfl, hd, fun x hx => ?_, fun ys p hs hb np => ?_⟩
  · obtain ⟨e, _, t, rfl, ht⟩ := h.mem x hx
    exact ⟨t, rfl, by rw [prOf_eq ⟨t, rfl, ht⟩]; exact ht⟩
  · have hm : ∀ v ∈ ys, ∃ e, TP H v e := fun v hv => by
      obtain ⟨e, _, ht⟩ := h.mem v (hb.perm.mem_iff.mp hv)
      exact ⟨e, ht⟩
    refine q ys (ys.map (prOf H)) p np ?_ ?_ ((TPs.of hm).same (Same.new np))
    · rw [h.map]
      exact hb.perm.map _
    · rw [List.pairwise_map]
      refine List.Pairwise.imp (fun {a b} z => ?_) hs
      have := SrtO.lexB_no.mp z
      unfold PLe
      omega
end
/-! ### a comprehension that reads, any target -/
theorem lc_rdG {J : It} {n : Nat} {G : Hp → Prop} {Y : Nat → Hp → V → Hp → Prop} (w : Walk J n G Y) {g : TG} {vs : List Nat} {σ : L2.St} {H1 : Hp} {D : Addr} {te : TE} {Qd : Hp → Prop} (τ : Nat → L2.St) (P : Nat → V → Hp → Prop)
    (hg : ∀ i x H H' (Qk : L2.St → Hp → Prop), i < n → Same H1 H → Y i H x H' → Same H H' ∧ (Qk (τ i) H' → g x (wipe σ vs) H' Qk))
    (hD : H1 D = none) (hn : n < 100000) (hw : ∀ i, i < n → wipe (τ i) vs = wipe σ vs) (hG : ∀ H', Same H1 H' → G H')
    (hP : ∀ i v H H', Same H H' → P i v H → P i v H')
    (hd : ∀ i : Nat, i < n → Rd te (τ i) H1 (P i))
    (fin : ∀ (xs : List V) H', xs.length = n → H' D = some (.lst xs) → Same H1 H' → (∀ i v, xs[i]? = some v → P i v H') → Qd H') (hPm : ∀ i v H (x : List V) y, P i v H → H D = some (.lst x) → P i v (upd H D y)) :
    ∃ W : Nat → Nat → Hp → Prop, (∃ m, W 0 m (upd H1 D (.lst []))) ∧ ∀ i m H, W i m H →
      (J.stop i H ∧ Qd H) ∨ (J.go i H ∧ ∃ Nx : Hp → Prop, (∀ H', Nx H' → ∃ m', m' < m ∧ W (i + 1) m' H') ∧ ∀ x H', J.yld i H x H' → g x (wipe σ vs) H' fun σ2 H2 => wipe σ2 vs = wipe σ vs ∧ tYes σ2 H2 fun b H3 =>
        if b = true then te σ2 H3 fun y H4 => ∃ acc, H4 D = some (.lst acc) ∧ acc.length < sizeLine ∧ Nx (upd H4 D (.lst (acc ++ [y]))) else Nx H3) := by
  refine lc_it w (fun i H' => ∃ xs : List V, xs.length = i ∧ H' D = some (.lst xs) ∧ Same H1 H' ∧ ∀ k v, xs[k]? = some v → P k v H') ⟨[], rfl, upd_same, Same.new hD, fun k v e => by simp at e⟩ (fun i H' _ h => hG _ (by obtain ⟨_, _, _, s, _⟩ := h; exact s)) (fun i x H2 H3 hi h y => ?_) (fun H' h => ?_)
  · obtain ⟨xs, h1, h2, h3, h4⟩ := h
    obtain ⟨s3, go⟩ := hg i x H2 H3 (fun σ2 H2 => wipe σ2 vs = wipe σ vs ∧ tYes σ2 H2 fun b H3 =>
        if b = true then te σ2 H3 fun y H4 => ∃ acc, H4 D = some (.lst acc) ∧ acc.length < sizeLine ∧ ∃ xs : List V, xs.length = i + 1 ∧ (upd H4 D (.lst (acc ++ [y]))) D = some (.lst xs) ∧ Same H1 (upd H4 D (.lst (acc ++ [y]))) ∧ ∀ k v, xs[k]? = some v → P k v (upd H4 D (.lst (acc ++ [y]))) else ∃ xs : List V, xs.length = i + 1 ∧ H3 D = some (.lst xs) ∧ Same H1 H3 ∧ ∀ k v, xs[k]? = some v → P k v H3) hi h3 y
    refine go ⟨hw i hi, ?_⟩
    refine tYes_i ?_
    refine iteT ?_
    refine hd i hi H3 _ (h3.trans s3) fun v H4 s4 p4 => ⟨xs, s4 _ _ (s3 _ _ h2), smallLt (by omega), xs ++ [v], by rw [List.length_append, h1]; rfl, upd_same, ((h3.trans s3).trans s4).mut hD, fun k v' e => ?_⟩
    rcases Nat.lt_trichotomy k xs.length with hk | hk | hk
    · rw [List.getElem?_append_left hk] at e
      exact hPm _ _ _ _ _ (hP _ _ _ _ (s3.trans s4) (h4 k v' e)) (s4 _ _ (s3 _ _ h2))
    · subst hk
      rw [List.getElem?_append_right (Nat.le_refl _), Nat.sub_self] at e
      cases Option.some.inj e
      rw [h1]
      exact hPm _ _ _ _ _ p4 (s4 _ _ (s3 _ _ h2))
    · rw [List.getElem?_eq_none (by rw [List.length_append]; show xs.length + 1 ≤ k; omega)] at e
      cases e
  · obtain ⟨xs, h1, h2, h3, h4⟩ := h
    exact fin xs H' h1 h2 h3 h4
/-- a list of bools -/
theorem bls_of {f : Nat → Bool} : ∀ {xs : List V} (k : Nat), (∀ (i : Nat) (v : V), xs[i]? = some v → v = .bl (f (k + i))) → xs = ((List.range' k xs.length).map f).map V.bl
  | [], _, _ => rfl
  | x :: xs, k, h => by
    rw [List.length_cons, List.range'_succ, List.map_cons, List.map_cons, ← bls_of (xs := xs) (k + 1) fun i v e => by rw [show k + 1 + i = k + (i + 1) by omega]; exact h (i + 1) v e, h 0 x rfl]
    rfl
theorem all_map_id {f : Nat → Bool} {n : Nat} : ((List.range' 0 n).map f).all id = true ↔ ∀ i, i < n → f i = true := by
  rw [List.all_map, List.all_eq_true]
  constructor
  · intro h i hi
    exact h i (List.mem_range'.mpr ⟨i, hi, by omega⟩)
  · intro h i hi
    obtain ⟨j, hj, rfl⟩ := List.mem_range'.mp hi
    exact h _ (by omega)
theorem notIn_int {K : PySem.W.Frag} {H : Hp} {p : Addr} {c : Int} {ns : List Int} {Q : VK} (h : SqT K H p (ns.map V.int)) (hfl : (ns.map V.int).all flatV = true) (hin : inV (.int c) (ns.map V.int) = decide (c ∈ ns)) (q : Q (.bl (!decide (c ∈ ns))) H) : rIn K true (.int c) (.ref p) H Q :=
  ⟨p, _, rfl, .inr h, rfl, hfl, by rw [hin]; exact q⟩
/-- a list of draws, each made to a number -/
theorem lc_drawI {n j : Nat} {vs : List Nat} {σ : L2.St} {H1 : Hp} {D : Addr} {te : TE} {Qd : Hp → Prop} (p : Addr) (hD : H1 D = none) (s : Src H1 p) (hn : n < 100000) (hw : ∀ x, wipe ((wipe σ vs).set j (some x)) vs = wipe σ vs)
    (hd : ∀ (i : Nat) (H : Hp) (Q : VK), i < n → Src H p → Exb p H1 H → (∀ (r : Int) H', Src H' p → Exb p H H' → Q (.int r) H') → te ((wipe σ vs).set j (some (.int (0 + (i : Int))))) H Q)
    (fin : ∀ (ns : List Int) H', ns.length = n → D ≠ p → H' D = some (.lst (ns.map V.int)) → Src H' p → Exb p H1 H' → Qd H') :
    ∃ W : Nat → Nat → Hp → Prop, (∃ m, W 0 m (upd H1 D (.lst []))) ∧ ∀ i m H, W i m H →
      ((Itr 0 n).stop i H ∧ Qd H) ∨ ((Itr 0 n).go i H ∧ ∃ Nx : Hp → Prop, (∀ H', Nx H' → ∃ m', m' < m ∧ W (i + 1) m' H') ∧ ∀ x H', (Itr 0 n).yld i H x H' → gName j x (wipe σ vs) H' fun σ2 H2 => wipe σ2 vs = wipe σ vs ∧ tYes σ2 H2 fun b H3 =>
        if b = true then te σ2 H3 fun y H4 => ∃ acc, H4 D = some (.lst acc) ∧ acc.length < sizeLine ∧ Nx (upd H4 D (.lst (acc ++ [y]))) else Nx H3) := by
  have nDp := s.ne hD
  refine lc_it walk_range (fun i H' => ∃ ns : List Int, H' D = some (.lst (ns.map V.int)) ∧ ns.length = i ∧ Src H' p ∧ Exb p H1 H') ⟨[], upd_same, rfl, s.put nDp, Exb.new hD⟩ (fun _ _ _ _ => trivial) (fun i x H2 H3 hi h y => ?_) (fun H' h => ?_)
  · obtain ⟨ns, h1, h2, h4, h5⟩ := h
    obtain ⟨rfl, rfl⟩ := y
    refine ⟨hw _, ?_⟩
    refine tYes_i ?_
    refine iteT ?_
    refine hd i H3 _ hi h4 h5 fun r H4 s4 e4 => ⟨_, e4.lst nDp h1, smallLt (by rw [List.length_map]; omega), ns ++ [r], by rw [upd_same, List.map_append]; rfl, by rw [List.length_append, h2]; rfl, s4.put nDp, (h5.trans e4).mut hD⟩
  · obtain ⟨ns, h1, h2, h4, h5⟩ := h
    exact fin ns H' h2 nDp h1 h4 h5
end Bw

set_option maxHeartbeats 1000000
namespace Bw
open PySem PySem.Spec PyProof.Rows L2
/-! ### several except clauses, each with a name -/
def wManyA (K : PySem.W.Frag) (Wout : WX) (D : Ends) : List (Value × Nat × (Addr → Value → Option Addr → TS)) → WX
  | [] => Wout
  | (c, i, ts) :: r => fun cls d σ H => ∃ b, PySem.W.exmOne K cls c = some b ∧
      (b = true → ∀ a, H a = none → ts a cls d { nx := fun σ' H' => D.nx (σ'.set i none) H', rt := D.rt, bk := fun σ' H' => D.bk (σ'.set i none) H', ct := fun σ' H' => D.ct (σ'.set i none) H' } (σ.set i (some (.ref a))) H) ∧
      (b = false → wManyA K Wout D r cls d σ H)
inductive HdsA (X : Cx) : List ExceptHandler → List (Value × Nat × (Addr → Value → Option Addr → TS)) → Prop
  | nil : HdsA X [] []
  | cons {x n : Str} {c : Value} {i : Nat} {ts : Addr → Value → Option Addr → TS} {b₀ : Stmt} {suite : List Stmt} {np pos' : Pos} {hds : List ExceptHandler} {l : List (Value × Nat × (Addr → Value → Option Addr → TS))}
      (hi : X.N[i]? = some n) (hln : X.env.kindOf n = some .local) (hc : Names X x c)
      (hsu : ∀ (a : Addr) (oe : Obj) (cls : Value) (d : Option Addr) (pn : List (Addr × Obj)), Zc cls d oe → (∃ vs, oe.data = .fields vs) → PSs (X.suite a ((a, oe) :: pn)) (b₀ :: suite) (ts a cls d)) (r : HdsA X hds l) :
      HdsA X (.ExceptHandler (some (.Name x np)) (some n) (b₀ :: suite) pos' :: hds) ((c, i, ts) :: l)
section
variable {X : Cx} {body : List Stmt} {h₀ : ExceptHandler} {hds : List ExceptHandler} {l : List (Value × Nat × (Addr → Value → Option Addr → TS))} {pos : Pos} {tb : WX → TS} {Wout : WX}
theorem ps_try_mas (hs : X.stack = X.env :: X.outer) (hf : X.env.frame = some X.env.locals) (hN : X.N.Nodup) (tk : Takes X Wout)
    (hb : ∀ (W : WX) (pn : List (Addr × Obj)) (xe : Value → Shared → Prop), Takes (X.tr pn xe) W → PassesOwn (model X.prog X.w) X.A X.env xe → PSs (X.tr pn xe) body (tb W))
    (hh : HdsA X (h₀ :: hds) l) : PS X (.Try body (h₀ :: hds) [] [] pos) (fun D σ H => tb (wManyA X.K Wout D l) D σ H) := by
  refine ⟨fun pins s σ H D I h => ?_⟩
  have ok := I.ok
  have hfr : X.A.frames = some (X.env :: X.outer) := by rw [ok.frames, hs]
  refine wpAny_Try_except ?_
  refine wpAny_mono ((hb (wManyA X.K Wout D l) (X.pn ++ pins) (fun e s₁ => wpAny (model X.prog X.w) X.A (noteFrame e X.env) (fun _ s₂ => wpAny (model X.prog X.w) X.A (setFlight e none) (fun _ s₃ =>
    wpAny (model X.prog X.w) X.A (handleBy e X.env (h₀ :: hds)) (SP X pins D) X.xe s₃) X.xe s₂) X.xe s₁) (fun u s' xx => ?_) PassesOwn.looking).run [] s σ H D (I.toTry _) h) (fun f s1 hsp => ?_) (fun e s1 he => he)
  · -- the catch
    obtain ⟨a, B, sI, pins', σ', H', cls, d, rfl, J', nb, up, sky, na, os, ag, w⟩ := xx
    have J : Inv X pins σ' H' sI := J'.ofTry ok
    have sky' : Sky B (X.env :: X.outer) a (Zc cls d) X.env.locals s'.heap := by rw [← hs]; exact sky
    show wpAny (model X.prog X.w) X.A (noteFrame (.ref a) X.env) _ _ _
    refine Sky.land Zc.steady hfr hf sky' fun h3 fl3 up3 => ?_
    have J3 : Inv X pins σ' H' { s' with heap := h3 } := J.landed nb fl3.1 (up.trans up3) os ag
    obtain ⟨oe3, vs3, he3, hz3, hd3⟩ := fl3.there
    have notFr : ∀ {h : Heap} {o : Obj} {vs : Array Value}, h.FunFrames B (X.env :: X.outer) → h.get? a = some o → o.data = .fields vs → a ∉ frs (X.env :: X.outer) := fun {h o vs} ff e dd hm => by
      obtain ⟨_, o', e', hnf⟩ := ff.mem hm
      rw [e] at e'; cases e'
      exact hnf _ dd
    have nfr := notFr fl3.2.2.1 he3 hd3
    have nL : a ≠ X.env.locals := fun z => nfr (List.mem_filterMap.mpr ⟨X.env, List.mem_cons_self, by rw [hf, z]⟩)
    have nF : a ∉ X.fs := fun hm => by
      obtain ⟨e, he, q⟩ := List.mem_filterMap.mp hm
      exact nfr (List.mem_filterMap.mpr ⟨e, List.mem_cons_of_mem _ he, q⟩)
    have S3 := J3.suite he3 hd3 na nL nF
    have go : ∀ {hds' : List ExceptHandler} {l' : List (Value × Nat × (Addr → Value → Option Addr → TS))}, HdsA X hds' l' → wManyA X.K Wout D l' cls d σ' H' →
        wpAny (model X.prog X.w) X.A (handleBy (.ref a) X.env hds') (SP X pins D) X.xe { s' with heap := h3 } := by
      intro hds' l' hk
      induction hk with
      | nil =>
        intro w
        refine wpAny_handleBy_nil ?_
        obtain ⟨k1, k2, k3, oe, vs, T, oT, ts', he, hz, hd, h1, hr⟩ := id fl3
        unfold PySem.passOn
        refine wpAny_bind (wpAny_field he hd h1 ?_)
        rw [if_neg (show ¬ ((Value.ref T == Value.none) = true) from by simp)]
        have fin : wpAny (model X.prog X.w) X.A (setFlight (.ref a) X.env.frame) (fun _ s4 => wpAny (model X.prog X.w) X.A (throw (.ref a) : Sem Flow) (SP X pins D) X.xe s4) X.xe { s' with heap := h3 } := by
          rw [hf]
          refine HandSPX.setFlight_upZ fl3 fun h4 hh4 up4 => wpAny_throw (tk _ _ ?_)
          exact ⟨a, B, sI, pins, σ', H', cls, d, rfl, J, nb, (up.trans up3).trans up4, .inr (.inr (by rw [hs]; exact hh4)), na, os, ag, w⟩
        first
          | exact wpAny_bind (wpAny_pure (wpAny_bind fin))
          | exact wpAny_bind fin
      | @cons x n c i ts b₀ suite np pos' hds2 l2 hi hln hc hsu r ih =>
        intro w
        have hloc : Loc X.env.scope n := .inl hln
        obtain ⟨b, hb1, hyes, hno⟩ := w
        refine wpAny_handleBy_cons (codeAny_handlers_test ?_) (by intro q; cases q)
        have LT : PySem.W.Looks (model X.prog X.w) h3 (typeOf (.ref a)) cls := fun A Q E s k q => wpAny_typeOf_ref (k _ _ he3) (by rw [hz3.1]; exact q)
        have LM := PySem.W.exm_one (M := model X.prog X.w) (J3.kIn) LT hb1
        have test : ∀ {Q : Value → Shared → Prop} {E : Value → Shared → Prop}, Q c { s' with heap := h3 } → wpAny (model X.prog X.w) (X.A.mark (some (.ref a))) (eval (.Name x np) X.env) Q E { s' with heap := h3 } := fun {Q E} q => by
          obtain ⟨hg, hdbg, hm | ⟨hm, hv, hnn⟩⟩ := hc
          · exact ld_glob (X := X.suite a ((a, oe3) :: (X.pn ++ pins))) S3 hg hm q hdbg
          · exact ld_blt (X := X.suite a ((a, oe3) :: (X.pn ++ pins))) S3 hg hm hv q hnn hdbg
        refine test (LM.here ?_)
        cases b with
        | true =>
          refine codeAny_handlers_suite_as ?_
          refine HandSPX.lands_againZ fl3 fun h4 fl4 up4 => ?_
          have J4 : Inv X pins σ' H' { s' with heap := h4 } := J.landed nb fl4.1 ((up.trans up3).trans up4) os ag
          obtain ⟨oe4, vs4, he4, hz4, hd4⟩ := fl4.there
          have S4 := J4.suite he4 hd4 na nL nF
          refine store_ok (X := X.suite a ((a, oe4) :: (X.pn ++ pins))) (v := .ref a) S4 hN hi hloc rfl (fun s5 S5 => ?_) (.inr hln)
          refine wpAny_mono ((hsu a oe4 cls d (X.pn ++ pins) hz4 ⟨_, hd4⟩).run [] s5 _ H' _ S5 (hyes rfl a na)) (fun f s6 hsp => ?_) (fun _ _ z => False.elim z)
          have end_ : ∀ {σ6 : L2.St} {H6 : Hp} {Q : Shared → Prop}, Inv (X.suite a ((a, oe4) :: (X.pn ++ pins))) [] σ6 H6 s6 → (∀ s7, Inv X pins (σ6.set i none) H6 s7 → Q s7) →
              wpAny (model X.prog X.w) X.A (do bindName X.env n .none; unbindBehindTheSuite X.env n pos') (fun _ s7 => Q s7) X.xe s6 := fun {σ6 H6 Q} S6 hq => gone_ok (S6.unsuite ok) hN hi hln hq
          cases f with
          | next =>
            obtain ⟨σ6, H6, S6, q6⟩ := hsp
            exact end_ S6 fun s7 J7 => ⟨_, _, J7, q6⟩
          | brk =>
            obtain ⟨σ6, H6, S6, q6⟩ := hsp
            exact end_ S6 fun s7 J7 => ⟨_, _, J7, q6⟩
          | cont =>
            obtain ⟨σ6, H6, S6, q6⟩ := hsp
            exact end_ S6 fun s7 J7 => ⟨_, _, J7, q6⟩
          | ret u =>
            obtain ⟨v6, σ6, H6, S6, r6, q6⟩ := hsp
            exact end_ S6 fun s7 J7 => ⟨_, _, _, J7, r6, q6⟩
        | false =>
          show wpAny _ X.A (handleBy (.ref a) X.env hds2) _ _ _
          exact ih (hno rfl)
    exact go hh w
  · cases f with
    | next =>
      obtain ⟨σ', H', J', q⟩ := hsp
      exact wpAny_execs_nil ⟨σ', H', J'.ofTry ok, q⟩
    | brk =>
      obtain ⟨σ', H', J', q⟩ := hsp
      exact ⟨σ', H', J'.ofTry ok, q⟩
    | cont =>
      obtain ⟨σ', H', J', q⟩ := hsp
      exact ⟨σ', H', J'.ofTry ok, q⟩
    | ret u =>
      obtain ⟨v, σ', H', J', r, q⟩ := hsp
      exact ⟨v, σ', H', J'.ofTry ok, r, q⟩
end
/-! ### xs[i], a list or a tuple -/
section
variable {X : Cx}
def rIxQ (K : PySem.W.Frag) : R2 := fun x y H Q => rIxL K x y H Q ∨ rIxT K x y H Q
theorem ixS (K : PySem.W.Frag) (h : X.K = K := by rfl) : IxR X (rIxQ K) := h ▸ ix_list.or ix_tup
end
/-! ### like data -/
theorem shaped_can {d : PyData} (h : SeqAt.shaped d = true) : d.canLay0 = true := by
  unfold SeqAt.shaped at h
  exact ((Bool.and_eq_true _ _).mp h).1
theorem eqSame {K : PySem.W.Frag} {H : Hp} {x y : V} {d : PyData} {Q : VK} (hs : SeqAt.shaped d = true) (hx : Dp K H x d) (hy : Dp K H y d) (q : Q (.bl true) H) : rEqD K x y H Q :=
  ⟨d, d, hx, hy, hs, hs, by rw [SeqAt.eqv_refl _ (shaped_can hs)]; exact q⟩
theorem neSame {K : PySem.W.Frag} {H : Hp} {x y : V} {d : PyData} {Q : VK} (hs : SeqAt.shaped d = true) (hx : Dp K H x d) (hy : Dp K H y d) (q : Q (.bl false) H) : rNeD K x y H Q :=
  ⟨d, d, hx, hy, hs, hs, by rw [SeqAt.eqv_refl _ (shaped_can hs)]; exact q⟩
/-! ### sorted(a dict whose keys are numbers) -/
section
variable {X : Cx}
def rSortedK : List V → Hp → VK → Prop := fun xs H Q => ∃ (a : Addr) (kvs : List (Key × V)) (ks : List Int), xs = [.ref a] ∧ L2.Rd H a (.dK kvs) ∧ kvs.map (·.1) = ks.map Sum.inl ∧ ks.length < 64 ∧
  ∀ (ys : List Int) (p : Addr), ys.Perm ks → ys.Pairwise (· ≤ ·) → H p = none → Q (.ref p) (upd H p (.lst (ys.map V.int)))
theorem sortK (hc : X.calm = true) : CallR X (.builtin "sorted") rSortedK := call_sortedDI hc
end
section
variable {X : Cx}
theorem repT (K : PySem.W.Frag) (h : X.K = K := by rfl) : OpR X (binaryOp .Mult) (rRepT K) := h ▸ op_repT
end
end Bw

set_option maxHeartbeats 1000000
namespace Bw
open PySem PySem.Spec PyProof.Rows L2
/-! ### for x in xs, a list or a tuple -/
def iSeq (K : PySem.W.Frag) (tl : TE) : TI := fun σ H R => tl σ H fun x H1 => ∃ a, x = .ref a ∧ (((∃ xs, SqL K H1 a xs) ∧ R (Itl K a) H1) ∨ ((∃ xs, SqT K H1 a xs) ∧ R (Itt K a) H1))
section
variable {X : Cx} {tg : Expr}
theorem pi_seq {l : Expr} {tl : TE} (hl : PE X l tl) : PI X tg l (iSeq X.K tl) := by
  refine ⟨fun pins s σ H R I h => ?_⟩
  refine thn (hl.run pins s σ H _ I h) fun v s1 ⟨x, H1, I1, r1, q1⟩ => ?_
  obtain ⟨a, e, q1⟩ := q1
  subst e
  cases r1
  rcases q1 with ⟨⟨xs, hq⟩, q⟩ | ⟨⟨xs, hq⟩, q⟩
  · obtain ⟨its, rv, p, hz⟩ := I1.list hq
    refine wpAny_pyIter_list p.isList ?_
    refine ⟨s1.heap.objs.size, [s1.heap.objs.size], _, _, H1, rfl, I1.kept (t' := s1.toks) fun b o e => Heap.get?_push_of_some _ e, turn_list a _, ⟨_, Heap.get?_push_size _ rfl, rfl, rfl⟩, fun b hb => ?_, q⟩
    have e : b = s1.heap.objs.size := by simpa using hb
    subst e
    exact I1.fpOk (Nat.le_refl _) (I1.hok.fresh (Nat.le_refl _))
  · obtain ⟨its, rv, p, hz⟩ := I1.tuple hq
    refine wpAny_pyIter_tuple (show s1.heap.IsTuple a its.toArray from p) ?_
    refine ⟨s1.heap.objs.size, [s1.heap.objs.size], _, _, H1, rfl, I1.kept (t' := s1.toks) fun b o e => Heap.get?_push_of_some _ e, turn_tuple a _, ⟨_, Heap.get?_push_size _ rfl, rfl, rfl⟩, fun b hb => ?_, q⟩
    have e : b = s1.heap.objs.size := by simpa using hb
    subst e
    exact I1.fpOk (Nat.le_refl _) (I1.hok.fresh (Nat.le_refl _))
theorem piS (K : PySem.W.Frag) {tg l : Expr} {tl : TE} (hl : PE X l tl) (h : X.K = K := by rfl) : PI X tg l (iSeq K tl) := h ▸ pi_seq hl
end
theorem pe_revTK (K : PySem.W.Frag) {X : Cx} {e : Expr} {te : TE} {k : Nat} {p1 p2 p3 pos : Pos} (he : PE X e te) (h : X.K = K := by rfl) : PE X (.Subscript e (.Slice none none (some (.UnaryOp .USub (.Constant (.int 1) k p1) p2)) p3) pos) (tRevT K te) := h ▸ pe_revT he
end Bw

set_option maxHeartbeats 2000000
namespace Bw
open PySem PySem.Spec PyProof.Rows L2
/-! ### math.comb -/
section
variable {X : Cx}
def rComb : List V → Hp → VK → Prop := fun vs H Q => ∃ a b : Int, vs = [.int a, .int b] ∧ 0 ≤ a ∧ 0 ≤ b ∧ a < 2 ^ 64 ∧ b ≤ 9000 ∧ Q (.int (PySem.W.mcComb a b)) H
theorem cr_comb : CallR X (.builtin "math.comb") rComb := by
  intro pins s σ H vs us Q I r h
  obtain ⟨a, b, rfl, h1, h2, h3, h4, q⟩ := h
  obtain ⟨t, u, rfl⟩ := Vals.int2 r
  exact PySem.W.mc_comb h1 h2 h3 (.inl h4) fun _ => ⟨.int _, H, I.tok _, ⟨_, rfl⟩, q⟩
/-- ints -/
def ipIc (c : Int → Int → Prop) (f : Int → Int → Int) : TIp := fun x y H Q => ∃ i j, x = .int i ∧ y = .int j ∧ c i j ∧ Q (.int (f i j)) H
theorem ip_mulW : PIp X .Mult (ipIc CMulW fun i j => i * j) := by
  intro pins s σ H x y v u Q I r1 r2 h
  obtain ⟨i, j, e1, e2, c, q⟩ := h
  subst e1; subst e2
  obtain ⟨t, rfl⟩ := r1
  obtain ⟨t', rfl⟩ := r2
  exact imul_int ⟨.int _, H, I.tok _, ⟨_, rfl⟩, q⟩ c.ok
end
theorem indexL (K : PySem.W.Frag) {X : Cx} (h : X.K = K := by rfl) : MtR X "list.index" (rIndex K) := h ▸ mt_index
theorem wipe1 {σ : L2.St} {j : Nat} {x : Option V} : wipe ((wipe σ [j]).set j x) [j] = wipe σ [j] := by
  show ((σ.set j none).set j x).set j none = σ.set j none
  rw [List.set_set, List.set_set]
section
variable {X : Cx} {T : String} {name : Str} {id : String} {r : V → List V → Hp → VK → Prop} {o e : Expr} {es : List Expr} {to : TE} {t : TA} {apos cpos : Pos}
theorem pe_bmK (K : PySem.W.Frag) (pa : PlainAttrs T) (slot : Slot T name id) (hty : typeOf (.builtin id) = pure (.type "method_descriptor")) (hm : MtR X id r) (ho : PE X o to) (ha : PA X (e :: es) t) (h : X.K = K := by rfl)
    (hbase : attributeBase o name X.env (eval o X.env) = eval o X.env := by rfl)
    (hfew : ((backTo cpos (starEach (e :: es) X.env)).all (fun x => !x.1) && (backToKw cpos (keywordEach [] X.env)).all (fun x => x.1.isSome)
      && decide ((e :: es).length + ([] : List Keyword).length + (if ([] : List Keyword).isEmpty then 0 else 1) < 30)) = true := by rfl)
    (hline : (apos.endLine == cpos.line) = true := by rfl) (hs : starEach (e :: es) X.env = (false, eval e X.env) :: starEach es X.env := by rfl) (hplain : (backTo cpos (starEach es X.env)).any (·.1) = false := by rfl) :
    PE X (.Call (.Attribute o name apos) (e :: es) [] cpos) (tBM K T r to t) := h ▸ pe_bm pa slot hty hm ho ha hbase hfew hline hs hplain
end
/-! ### zip of three lists -/
def Itz3 (K : PySem.W.Frag) (a b c : Addr) : It :=
  ⟨fun i H => ∃ (xs ys zs : List V) (x y z : V), SqL K H a xs ∧ SqL K H b ys ∧ SqL K H c zs ∧ xs[i]? = some x ∧ ys[i]? = some y ∧ zs[i]? = some z,
    fun i H v H' => ∃ T x y z, v = .ref T ∧ H T = none ∧ H' = upd H T (.tup [x, y, z]) ∧ (∀ xs, SqL K H a xs → xs[i]? = some x) ∧ (∀ ys, SqL K H b ys → ys[i]? = some y) ∧ ∀ zs, SqL K H c zs → zs[i]? = some z,
    fun i H => ∃ xs ys zs : List V, SqL K H a xs ∧ SqL K H b ys ∧ SqL K H c zs ∧ i = xs.length ∧ i = ys.length ∧ i = zs.length⟩
theorem turn_zip3 {P : Program} {w : World} {K : PySem.W.Frag} {elts : List Expr} {kk : Nat} {tpos : Pos} {a b c z TI TO i1 i2 i3 : Addr} (S : ZipSep3 z TI TO i1 i2 i3 [i1, a] [i2, b] [i3, c]) (na : a ≠ i1) (nb : b ≠ i2) (nc : c ≠ i3) :
    Turn P w K (.Tuple elts kk tpos) (Itz3 K a b c) [z, TI, TO, i1, i2, i3] z (fun i h => IsZip h z TI TO .none ∧ IsTupOf3 h TI (.ref i1) (.ref i2) (.ref i3) ∧ (∃ x y u, IsTupOf3 h TO x y u) ∧ h.IsListIter i1 a i ∧ h.IsListIter i2 b i ∧ h.IsListIter i3 c i) where
  mem := by simp
  obj := fun i h st d hd => by
    obtain ⟨hz, hTI, ⟨x, y, u, hTO⟩, ⟨o1, e1, _, d1⟩, ⟨o2, e2, _, d2⟩, ⟨o3, e3, _, d3⟩⟩ := st
    have e' : d = z ∨ d = TI ∨ d = TO ∨ d = i1 ∨ d = i2 ∨ d = i3 := by simpa using hd
    rcases e' with q | q | q | q | q | q
    · rw [q]; exact ⟨_, hz, fun v q => nomatch q⟩
    · rw [q]; exact ⟨_, hTI, fun v q => nomatch q⟩
    · rw [q]; exact ⟨_, hTO, fun v q => nomatch q⟩
    · rw [q]; exact ⟨o1, e1, fun v q => by rw [d1] at q; cases q⟩
    · rw [q]; exact ⟨o2, e2, fun v q => by rw [d2] at q; cases q⟩
    · rw [q]; exact ⟨o3, e3, fun v q => by rw [d3] at q; cases q⟩
  keep := fun i h h' st k => by
    obtain ⟨hz, hTI, ⟨x, y, u, hTO⟩, h1, h2, h3⟩ := st
    exact ⟨k z (by simp) _ hz, k TI (by simp) _ hTI, ⟨x, y, u, k TO (by simp) _ hTO⟩, h1.at fun o q => k i1 (by simp) o q, h2.at fun o q => k i2 (by simp) o q, h3.at fun o q => k i3 (by simp) o q⟩
  item := by
    intro X hP hw hK hc i pins s σ H E I hf st hg
    subst hP hw hK
    obtain ⟨hz, hTI, ⟨x0, y0, u0, hTO⟩, h1, h2, h3⟩ := st
    obtain ⟨xs, ys, zs, x, y, w_, hqx, hqy, hqz, hx, hy, hw_⟩ := hg
    obtain ⟨its, rv, p, _⟩ := I.list hqx
    obtain ⟨its2, rv2, p2, _⟩ := I.list hqy
    obtain ⟨its3, rv3, p3, _⟩ := I.list hqz
    obtain ⟨u, hu, ru⟩ := rv.get hx
    obtain ⟨u2, hu2, ru2⟩ := rv2.get hy
    obtain ⟨u3, hu3, ru3⟩ := rv3.get hw_
    have hzl : z < s.heap.objs.size := Heap.lt_size hz
    have hh : X.A.in1.handled = none := I.ok.hd hc
    have D1 := Draws.list (prog := X.prog) (w := X.w) (A := X.A.in1) hh i1 a na its.toArray
    have D2 := Draws.list (prog := X.prog) (w := X.w) (A := X.A.in1) hh i2 b nb its2.toArray
    have D3 := Draws.list (prog := X.prog) (w := X.w) (A := X.A.in1) hh i3 c nc its3.toArray
    have l1 : i < its.toArray.size := by have := (List.getElem?_eq_some_iff.mp hu).1; simpa using this
    have l2 : i < its2.toArray.size := by have := (List.getElem?_eq_some_iff.mp hu2).1; simpa using this
    have l3 : i < its3.toArray.size := by have := (List.getElem?_eq_some_iff.mp hu3).1; simpa using this
    refine wpAny_pyNext_zipD3_item S D1 D2 D3 hz hTI hTO ⟨h1, p.isList⟩ ⟨h2, p2.isList⟩ ⟨h3, p3.isList⟩ l1 l2 l3 fun x1 x2 x3 h' tk y1 y2 y3 b1 b2 d1 d2 d3 b5 b6 hk => ?_
    have e1 : x1 = u := Option.some.inj (y1.symm.trans (show its.toArray[i]? = some u by simpa using hu))
    have e2 : x2 = u2 := Option.some.inj (y2.symm.trans (show its2.toArray[i]? = some u2 by simpa using hu2))
    have e3 : x3 = u3 := Option.some.inj (y3.symm.trans (show its3.toArray[i]? = some u3 by simpa using hu3))
    subst e1 e2 e3
    refine ⟨_, rfl, wpAny_letOwnedTupleGo_zip (s := { s with heap := h', toks := tk }) b1 fun h'' z'' sb => ?_⟩
    have hT2 : h''.get? s.heap.objs.size = some { cls := .type "tuple", data := .seq #[x1, x2, x3] } := (sb.2 _ (Nat.ne_of_gt hzl)).trans b5
    have new : ObjOk X.prog X.w (upd H s.heap.objs.size (.tup [x, y, w_])) h'' s.heap.objs.size (.tup [x, y, w_]) :=
      ⟨by show 3 ≤ sizeLine; decide, [x1, x2, x3], .cons ru (.cons ru2 (.cons ru3 .nil)), ⟨_, hT2, rfl, _, rfl⟩⟩
    have I1 : Inv X pins σ (upd H s.heap.objs.size (.tup [x, y, w_])) { s with heap := h'', toks := tk } :=
      I.turnedNew (ch := [z, TI, TO, i1, i2, i3]) (fun d o hb q => (sb.2 d (fun q' => hb (by simp [q']))).trans (hk d o (fun q' => hb (by simp [q'])) (fun q' => hb (by simp [q'])) (fun q' => hb (by simp [q'])) (fun q' => hb (by simp [q'])) (fun q' => hb (by simp [q'])) q)) hf (Nat.le_refl _) new
    refine ⟨.ref s.heap.objs.size, _, I1, rfl, ⟨_, x, y, w_, rfl, I.hok.fresh (Nat.le_refl _), rfl, fun l hl => by rw [I.list_inj hl hqx]; exact hx, fun l hl => by rw [I.list_inj hl hqy]; exact hy, fun l hl => by rw [I.list_inj hl hqz]; exact hw_⟩, ⟨z'', ?_, ⟨x1, x2, x3, ?_⟩, ?_, ?_, ?_⟩, fun d hdm => ?_⟩
    · exact (sb.2 _ S.TIz).trans (hk _ _ S.TIz S.TITO S.TIi1 S.TIi2 S.TIi3 hTI)
    · exact (sb.2 _ S.TOz).trans b2
    · exact d1.1.at fun o q => (sb.2 _ S.zi1.symm).trans q
    · exact d2.1.at fun o q => (sb.2 _ S.zi2.symm).trans q
    · exact d3.1.at fun o q => (sb.2 _ S.zi3.symm).trans q
    · have hlt : d < s.heap.objs.size := by
        have e' : d = z ∨ d = TI ∨ d = TO ∨ d = i1 ∨ d = i2 ∨ d = i3 := by simpa using hdm
        rcases e' with q | q | q | q | q | q
        · rw [q]; exact hzl
        · rw [q]; exact Heap.lt_size hTI
        · rw [q]; exact Heap.lt_size hTO
        · rw [q]; obtain ⟨_, e1, _⟩ := h1; exact Heap.lt_size e1
        · rw [q]; obtain ⟨_, e2, _⟩ := h2; exact Heap.lt_size e2
        · rw [q]; obtain ⟨_, e3, _⟩ := h3; exact Heap.lt_size e3
      rw [upd_ne (Nat.ne_of_lt hlt)]
      exact (hf d hdm).1
  done := by
    intro X hP hw hK hc i pins s σ H E I hf st hg
    subst hP hw hK
    obtain ⟨hz, hTI, ⟨x0, y0, u0, hTO⟩, h1, h2, h3⟩ := st
    obtain ⟨xs, ys, zs, hqx, hqy, hqz, n1, n2, n3⟩ := hg
    obtain ⟨its, rv, p, _⟩ := I.list hqx
    obtain ⟨its2, rv2, p2, _⟩ := I.list hqy
    obtain ⟨its3, rv3, p3, _⟩ := I.list hqz
    have l1 := rv.length
    have l2 := rv2.length
    have l3 := rv3.length
    have hh : X.A.in1.handled = none := I.ok.hd hc
    have D1 := Draws.list (prog := X.prog) (w := X.w) (A := X.A.in1) hh i1 a na its.toArray
    have D2 := Draws.list (prog := X.prog) (w := X.w) (A := X.A.in1) hh i2 b nb its2.toArray
    have D3 := Draws.list (prog := X.prog) (w := X.w) (A := X.A.in1) hh i3 c nc its3.toArray
    exact wpAny_pyNext_zipD3_end S D1 D2 D3 hz hTI hTO ⟨h1, p.isList⟩ ⟨h2, p2.isList⟩ ⟨h3, p3.isList⟩ (by rw [List.size_toArray]; omega) (by rw [List.size_toArray]; omega) (by rw [List.size_toArray]; omega) (.inl (by rw [List.size_toArray]; omega)) fun h' tk hk =>
      ⟨rfl, I.turnedL (t' := tk) (ch := [z, TI, TO, i1, i2, i3]) (fun d o hb q => hk d o (fun q' => hb (by simp [q'])) (fun q' => hb (by simp [q'])) (fun q' => hb (by simp [q'])) (fun q' => hb (by simp [q'])) (fun q' => hb (by simp [q'])) q) hf⟩
  self := fun A i s Q E st h => wpAny_pyIter_zip st.1 h
def iZip3 (K : PySem.W.Frag) (ta : TA) : TI := fun σ H R => ta σ H fun vs H1 => ∃ a b c xs ys zs, vs = [.ref a, .ref b, .ref c] ∧ SqL K H1 a xs ∧ SqL K H1 b ys ∧ SqL K H1 c zs ∧ R (Itz3 K a b c) H1
theorem pi_zip3 {X : Cx} {e e2 e3 : Expr} {ta : TA} {p pos tpos : Pos} {elts : List Expr} {kk : Nat} (hg : Gl X "zip") (hm : X.mg "zip" = none) (ha : PA X [e, e2, e3] ta)
    (hs : starEach [e, e2, e3] X.env = (false, eval e X.env) :: starEach [e2, e3] X.env := by rfl) (hpl : (backTo pos (starEach [e2, e3] X.env)).any (·.1) = false := by rfl) :
    PI X (.Tuple elts kk tpos) (.Call (.Name "zip" p) [e, e2, e3] [] pos) (iZip3 X.K ta) := by
  refine ⟨fun pins s σ H R I h => ?_⟩
  refine Call_ (ld_blt I hg hm PyProof.Rows.boot_zip (PyProof.Rows.callWith_type1 (thn (ha.run pos pins s σ H _ I h) fun us s1 ⟨vs, H1, I1, r1, q1⟩ => ?_) hs hpl))
  obtain ⟨a, b, c, xs, ys, zs, ex, hqx, hqy, hqz, q⟩ := q1
  subst ex
  cases r1 with
  | cons r rr =>
    cases rr with
    | cons r' rr =>
      cases rr with
      | cons r'' rr =>
        cases rr
        cases r
        cases r'
        cases r''
        obtain ⟨its, rv, p1, _⟩ := I1.list hqx
        obtain ⟨its2, rv2, p2, _⟩ := I1.list hqy
        obtain ⟨its3, rv3, p3, _⟩ := I1.list hqz
        have la : a < s1.heap.objs.size := p1.lt
        have lb : b < s1.heap.objs.size := p2.lt
        have lc : c < s1.heap.objs.size := p3.lt
        refine zip_begins3 (begins_list a its.toArray) (begins_list b its2.toArray) (begins_list c its3.toArray) p1.isList p2.isList p3.isList fun h' hz hTI hTO h1 h2 h3 hsz hk => wpAny_pyIter_zip hz ?_
        have I2 : Inv X pins σ H1 { s1 with heap := h' } := I1.kept (t' := s1.toks) hk
        have S : ZipSep3 (s1.heap.objs.size + 5) (s1.heap.objs.size + 3) (s1.heap.objs.size + 4) s1.heap.objs.size (s1.heap.objs.size + 1) (s1.heap.objs.size + 2) [s1.heap.objs.size, a] [s1.heap.objs.size + 1, b] [s1.heap.objs.size + 2, c] :=
          zip_sep3 (fun d hd => by rw [List.mem_singleton.mp hd]; exact la) (fun d hd => by rw [List.mem_singleton.mp hd]; exact lb) (fun d hd => by rw [List.mem_singleton.mp hd]; exact lc)
        refine ⟨s1.heap.objs.size + 5, [s1.heap.objs.size + 5, s1.heap.objs.size + 3, s1.heap.objs.size + 4, s1.heap.objs.size, s1.heap.objs.size + 1, s1.heap.objs.size + 2], _, _, H1, rfl, I2,
          turn_zip3 S (Nat.ne_of_lt la) (Nat.ne_of_lt (Nat.lt_succ_of_lt lb)) (Nat.ne_of_lt (Nat.lt_succ_of_lt (Nat.lt_succ_of_lt lc))),
          ⟨hz, hTI, ⟨_, _, _, hTO⟩, ⟨_, h1, rfl, rfl⟩, ⟨_, h2, rfl, rfl⟩, ⟨_, h3, rfl, rfl⟩⟩, fun d hdm => ?_, q⟩
        have hle : s1.heap.objs.size ≤ d := by
          have e' : d = s1.heap.objs.size + 5 ∨ d = s1.heap.objs.size + 3 ∨ d = s1.heap.objs.size + 4 ∨ d = s1.heap.objs.size ∨ d = s1.heap.objs.size + 1 ∨ d = s1.heap.objs.size + 2 := by simpa using hdm
          rcases e' with z | z | z | z | z | z
          · rw [z]; exact Nat.le_add_right _ _
          · rw [z]; exact Nat.le_add_right _ _
          · rw [z]; exact Nat.le_add_right _ _
          · rw [z]; exact Nat.le_refl _
          · rw [z]; exact Nat.le_add_right _ _
          · rw [z]; exact Nat.le_add_right _ _
        exact I1.fpOk hle (I1.hok.fresh hle)
theorem piZip3 (K : PySem.W.Frag) {X : Cx} {e e2 e3 : Expr} {ta : TA} {p pos tpos : Pos} {elts : List Expr} {kk : Nat} (hm : X.mg "zip" = none) (ha : PA X [e, e2, e3] ta) (h : X.K = K := by rfl) (hg : Gl X "zip" := by rfl)
    (hs : starEach [e, e2, e3] X.env = (false, eval e X.env) :: starEach [e2, e3] X.env := by rfl) (hpl : (backTo pos (starEach [e2, e3] X.env)).any (·.1) = false := by rfl) :
    PI X (.Tuple elts kk tpos) (.Call (.Name "zip" p) [e, e2, e3] [] pos) (iZip3 K ta) := h ▸ pi_zip3 hg hm ha hs hpl
theorem walk_zip3 {K : PySem.W.Frag} {a b c : Addr} {xs ys zs : List V} (h1 : xs.length = ys.length) (h2 : xs.length = zs.length) :
    Walk (Itz3 K a b c) xs.length (fun H => SqL K H a xs ∧ SqL K H b ys ∧ SqL K H c zs) (fun i H v H' => ∃ T x y z, v = .ref T ∧ H T = none ∧ H' = upd H T (.tup [x, y, z]) ∧ xs[i]? = some x ∧ ys[i]? = some y ∧ zs[i]? = some z) := by
  refine ⟨fun i _ hi q => ⟨xs, ys, zs, xs[i], ys[i], zs[i], q.1, q.2.1, q.2.2, by simp [hi], by simp, by simp⟩, fun _ q => ⟨xs, ys, zs, q.1, q.2.1, q.2.2, rfl, h1, h2⟩, fun i H v H' _ q y => ?_⟩
  obtain ⟨T, x, y, z, g1, g2, g3, g4, g5, g6⟩ := y
  exact ⟨T, x, y, z, g1, g2, g3, g4 _ q.1, g5 _ q.2.1, g6 _ q.2.2⟩
end Bw

set_option maxHeartbeats 2000000
namespace HT
open PySem PySem.Spec PyProof.Rows
section
variable {prog : Program} {w : World} {A : Around} {E : Value → Shared → Prop} {s : Shared}
theorem collect_tuple {l : Addr} {vs : List Value} {Q : List Value → Shared → Prop} (hl : s.heap.IsTuple l vs.toArray)
    (h : Q vs { s with heap := (s.heap.push (seqObj "list" #[] 0)).update s.heap.objs.size (Obj.mapSeq (· ++ vs.toArray)) }) (hsz : vs.length ≤ sizeLine) :
    wpAny (model prog w) A (collect (.ref l)) Q E s := by
  obtain ⟨o, ho, hc, n, hd⟩ := id hl
  unfold collect
  refine wpAny_bind (wpAny_runValue (codeAny_builtin entry_proto_collect' ?_))
  show wpAny _ _ (do again (.builtin "list.__iadd__" ⟨[← newList [], .ref l], []⟩)) _ _ s
  refine wpAny_bind (wpAny_newList (wpAny_pure ⟨Code.quiet_builtin _ (by decide +kernel), codeAny_builtin entry_list_iadd' ?_⟩))
  show wpAny _ _ (Builtin.List.listExtendWith (.ref s.heap.objs.size) (.ref l) (.ref s.heap.objs.size)) _ _ { s with heap := s.heap.push (seqObj "list" #[] 0) }
  unfold Builtin.List.listExtendWith
  have ho' : (s.heap.push (seqObj "list" #[] 0)).get? l = some o := Heap.get?_push_of_some _ ho
  refine wpAny_bind (wpAny_typeOf (T := "tuple") ⟨o, ho', hc⟩ ?_)
  have ht : (Value.type "tuple" == Value.type "tuple") = true := by rfl
  rw [if_pos (by rw [ht]; simp)]
  refine wpAny_bind (listItems_at ho' hd ?_)
  refine wpAny_bind (listItems_at (xs := #[]) (n := 0) (Heap.get?_push_size _ rfl) rfl ?_)
  rw [if_neg (by simp)]
  refine wpAny_bind (listUpdate_at (xs := #[]) (n := 0) (Heap.get?_push_size _ rfl) rfl ?_ (Nat.zero_le _) (by show (#[] ++ vs.toArray).size ≤ sizeLine + 1; simp only [Array.size_append, List.size_toArray, List.length_nil]; omega))
  refine wpAny_pure ?_
  show wpAny (model prog w) A (do
      let o ← load s.heap.objs.size
      match o.data with
      | .seq xs _ => pure xs.toList
      | _ => unsupported "internal:collect") Q E { s with heap := (s.heap.push (seqObj "list" #[] 0)).update s.heap.objs.size (Obj.mapSeq (· ++ vs.toArray)) }
  refine wpAny_bind (wpAny_load (get?_update_seq (Heap.get?_push_size _ rfl) _) ?_)
  show wpAny _ _ (pure ((#[] : Array Value) ++ vs.toArray).toList) Q E _
  rw [show ((#[] : Array Value) ++ vs.toArray).toList = vs by simp]
  exact wpAny_pure h
theorem sorted_intsT {l : Addr} {vs : List Value} {ns : List Int} {Q : Value → Shared → Prop} (hl : s.heap.IsTuple l vs.toArray) (hI : IntsAre vs ns) (h64 : vs.length < 64)
    (h : ∀ (out : Array Value) (ns' : List Int), IntsAre out.toList ns' → ns'.Perm ns → ns'.Pairwise (· ≤ ·) → Q (.ref (s.heap.objs.size + 1)) { s with heap := sortedAll s.heap vs out }) :
    wpAny (model prog w) A (call (.builtin "sorted") [.ref l]) Q E s := by
  refine Calls.call_function_entry kind_sorted plain_sorted entry_sorted (args_sorted1 _) ?_
  unfold Builtin.«sorted»
  refine wpAny_bind (m := checkCount "sorted" 1 1 _) (wpAny_pure ?_)
  refine wpAny_bind (collect_tuple hl ?_ (by rw [sizeLine_eq]; omega))
  refine wpAny_bind (wpAny_newList ?_)
  have hsz : ((s.heap.push (seqObj "list" #[] 0)).update s.heap.objs.size (Obj.mapSeq (· ++ vs.toArray))).objs.size = s.heap.objs.size + 1 := by
    rw [Heap.size_update, size_push']
  have hoL : (((s.heap.push (seqObj "list" #[] 0)).update s.heap.objs.size (Obj.mapSeq (· ++ vs.toArray))).push (seqObj "list" vs.toArray 0)).get? (s.heap.objs.size + 1) = some (seqObj "list" vs.toArray 0) := by
    rw [← hsz]; exact Heap.get?_push_size _ rfl
  show wpAny _ _ _ _ _ { s with heap := ((s.heap.push (seqObj "list" #[] 0)).update s.heap.objs.size (Obj.mapSeq (· ++ vs.toArray))).push (seqObj "list" vs.toArray 0) }
  rw [hsz]
  refine wpAny_bind (wpAny_holding (wpAny_call_entry slot_list_sort ⟨_, hoL, rfl⟩ entry_list_sort (list_sort_tree hoL hI h64 fun out ns' a1 a2 a3 => ⟨_, rfl, ?_⟩) (args_list_sort _)))
  exact wpAny_pure ⟨_, rfl, h out ns' a1 a2 a3⟩
end
end HT
namespace Bw
open PySem PySem.Spec PyProof.Rows L2
theorem wipe2 {σ : L2.St} {i j : Nat} {x : Option V} : wipe ((wipe σ [i, j]).set i x) [i, j] = wipe σ [i, j] := by
  show ((((σ.set j none).set i none).set i x).set j none).set i none = (σ.set j none).set i none
  rw [List.set_set]
  refine List.ext_getElem? fun k => ?_
  by_cases h : k = i
  · subst h
    by_cases hl : k < σ.length
    · rw [List.getElem?_set_self (by simpa using hl), List.getElem?_set_self (by simpa using hl)]
    · rw [List.getElem?_eq_none (by simpa using hl), List.getElem?_eq_none (by simpa using hl)]
  · rw [List.getElem?_set_ne (fun z => h z.symm), List.getElem?_set_ne (fun z => h z.symm)]
    by_cases h2 : k = j
    · subst h2
      by_cases hl : k < σ.length
      · rw [List.getElem?_set_self (by simpa using hl), List.getElem?_set_self (by simpa using hl)]
      · rw [List.getElem?_eq_none (by simpa using hl), List.getElem?_eq_none (by simpa using hl)]
    · rw [List.getElem?_set_ne (fun z => h2 z.symm), List.getElem?_set_ne (fun z => h z.symm), List.getElem?_set_ne (fun z => h2 z.symm)]
section
variable {X : Cx}
def rSortTI (K : PySem.W.Frag) : List V → Hp → VK → Prop := fun vs H Q => ∃ (a : Addr) (ns : List Int), vs = [V.ref a] ∧ SqT K H a (ns.map V.int) ∧ ns.length < 64 ∧
  ∀ (ns' : List Int) (p : Addr), ns'.Perm ns → ns'.Pairwise (· ≤ ·) → H p = none → Q (.ref p) (upd H p (.lst (ns'.map V.int)))
theorem cr_sortTI : CallR X (.builtin "sorted") (rSortTI X.K) := by
  intro pins s σ H vs us Q I r h
  obtain ⟨a, ns, rfl, hs, h64, q⟩ := h
  obtain ⟨its, rv, hl, _⟩ := I.tuple hs
  rw [Vals.ref1 r]
  have hi := rv.ints
  refine HT.sorted_intsT (show s.heap.IsTuple a its.toArray from hl) hi (by rw [hi.length]; exact h64) fun out ns' h1 h2 h3 => ?_
  obtain ⟨ep, he'⟩ := PyProof.Rows.sortedAll_at s.heap its out
  have hlen : (ns'.map V.int).length ≤ sizeLine := by rw [List.length_map, h2.length_eq]; exact small64 h64
  exact ⟨.ref _, upd H (s.heap.objs.size + 1) (.lst (ns'.map V.int)), I.laid (t' := s.toks) (fun _ _ => PyProof.Rows.sortedAll_old) (Nat.le_succ _) ⟨hlen, out.toList, ep, vals_of_ints h1, he'⟩, rfl, q ns' _ h2 h3 (I.hok.fresh (Nat.le_succ _))⟩
theorem sortTI (K : PySem.W.Frag) (h : X.K = K := by rfl) : CallR X (.builtin "sorted") (rSortTI K) := h ▸ cr_sortTI
end
end Bw

set_option maxHeartbeats 2000000
namespace Bw
open PySem PySem.Spec PyProof.Rows L2
/-! ### what an expression yields, locked from then on -/
def tLk (te : TE) : TE := fun σ H Q => te σ H fun x H1 => ∃ d u, x = .ref d ∧ H1 d = some u ∧ Mut (some u) ∧ ∀ od, Q x (upd H1 d (.frz od u))
theorem pe_lk {X : Cx} {e : Expr} {te : TE} (h : PE X e te) : PE X e (tLk te) := by
  refine ⟨fun pins s σ H Q I hw => ?_⟩
  refine thn (h.run pins s σ H _ I hw) fun v s1 ⟨x, H1, I1, r, d, u, ex, hd, mu, q⟩ => ?_
  obtain ⟨od, I2⟩ := I1.lock hd mu
  exact ⟨x, _, I2, r, q od⟩
theorem anyL {X : Cx} (K : PySem.W.Frag) (hc : X.calm = true) (h : X.K = K := by rfl) : CallR X (.builtin "any") (rAny K) := h ▸ cr_any hc
end Bw

set_option maxHeartbeats 2000000
namespace Bw
open PySem PySem.Spec PyProof.Rows L2 LamX
/-! ### heaps alike but at p and at the tables of code objects -/
def ExN (p : Addr) (H H' : Hp) : Prop := ∀ b o, b ≠ p → (∀ ps, o ≠ HO.tbl ps) → H b = some o → H' b = some o
section
variable {p q a : Addr} {H H1 H2 : Hp} {K : PySem.W.Frag} {xs : List V} {o : HO}
theorem ExN.refl : ExN p H H := fun _ _ _ _ h => h
theorem ExN.trans (e : ExN p H H1) (f : ExN p H1 H2) : ExN p H H2 := fun b o n m h => f b o n m (e b o n m h)
theorem ExN.of (e : Same H H1) : ExN p H H1 := fun b o _ _ h => e b o h
theorem ExN.ofB (e : Exb p H H1) : ExN p H H1 := fun b o n _ h => e b o n h
theorem ExN.ofN (e : ExtN H H1) : ExN p H H1 := fun b o _ m h => e b o h m
theorem ExN.lst (e : ExN p H H1) (n : q ≠ p) (h : H q = some (.lst xs)) : H1 q = some (.lst xs) := e _ _ n (fun _ z => by cases z) h
theorem ExN.tup (e : ExN p H H1) (s : Src H p) (h : SqT K H a xs) : SqT K H1 a xs := by
  obtain ⟨x, y, hp, _⟩ := s
  rcases h with (h | ⟨o, h⟩) | h
  · exact .inl (.inl (e _ _ (fun z => by rw [z, hp] at h; cases h) (fun _ z => by cases z) h))
  · exact .inl (.inr ⟨o, e _ _ (fun z => by rw [z, hp] at h; cases h) (fun _ z => by cases z) h⟩)
  · exact .inr h
theorem _root_.LamX.ExtN.src (e : ExtN H H1) (s : Src H p) : Src H1 p := by
  obtain ⟨x, y, hp, h⟩ := s
  exact ⟨x, y, e _ _ hp (fun _ z => by cases z), h⟩
theorem _root_.LamX.ExtN.tup (e : ExtN H H1) (h : SqT K H a xs) : SqT K H1 a xs := by
  rcases h with (h | ⟨o, h⟩) | h
  · exact .inl (.inl (e _ _ h (fun _ z => by cases z)))
  · exact .inl (.inr ⟨o, e _ _ h (fun _ z => by cases z)⟩)
  · exact .inr h
theorem _root_.LamX.ExtN.lst (e : ExtN H H1) (h : SqL K H a xs) : SqL K H1 a xs := by
  rcases h with (h | ⟨o, h⟩) | h
  · exact .inl (.inl (e _ _ h (fun _ z => by cases z)))
  · exact .inl (.inr ⟨o, e _ _ h (fun _ z => by cases z)⟩)
  · exact .inr h
theorem _root_.LamX.ExtN.free (e : ExtN H H1) (h : H1 q = none) : H q = none ∨ ∃ ps, H q = some (.tbl ps) := by
  cases z : H q with
  | none => exact .inl rfl
  | some o =>
    by_cases c : ∃ ps, o = HO.tbl ps
    · obtain ⟨ps, rfl⟩ := c
      exact .inr ⟨ps, rfl⟩
    · rw [e q o z fun ps z => c ⟨ps, z⟩] at h
      cases h
theorem _root_.LamX.Tabs.same {T : List (Addr × Str)} (t : Tabs T H) (e : Same H H1) : Tabs T H1 := t.ext e
theorem TabS.exb {P : Addr} {c : Str} (t : TabS H P c) (s : Src H p) (e : Exb p H H1) : TabS H1 P c := by
  obtain ⟨ps, h1, h2, h3⟩ := t
  obtain ⟨x, y, hp, _⟩ := s
  refine ⟨ps, e _ _ (fun z => by rw [z, hp] at h1; cases h1) h1, h2, fun pos cv hc => ?_⟩
  obtain ⟨d, e1, e2⟩ := h3 pos cv hc
  refine ⟨d, e1, e _ _ (fun z => ?_) e2⟩
  rw [z, hp] at e2
  unfold CodeO at e2
  cases e2
theorem _root_.LamX.Tabs.exb {T : List (Addr × Str)} (t : Tabs T H) (s : Src H p) (e : Exb p H H1) : Tabs T H1 := fun x hx => TabS.exb (t x hx) s e
theorem _root_.LamX.Tabs.upd {T : List (Addr × Str)} {ys : List V} (t : Tabs T H) (hq : H q = some (.lst ys)) : Tabs T (upd H q o) := fun x hx => by
  obtain ⟨ps, h1, h2, h3⟩ := t x hx
  have n1 : x.1 ≠ q := fun z => by rw [z, hq] at h1; cases h1
  refine ⟨ps, by rw [upd_ne n1]; exact h1, h2, fun pos cv hc => ?_⟩
  obtain ⟨d, e1, e2⟩ := h3 pos cv hc
  refine ⟨d, e1, ?_⟩
  rw [upd_ne (fun z => ?_)]
  · exact e2
  · rw [z, hq] at e2
    unfold CodeO at e2
    cases e2
end
mutual
theorem dp_extN {K : PySem.W.Frag} {H H1 : Hp} (e : ExtN H H1) : ∀ (d : PyData) (v : V), Dp K H v d → Dp K H1 v d
  | .none, _, h => by cases h; exact .non
  | .bool _, _, h => by cases h; exact .bl _
  | .int _, _, h => by cases h; exact .int _
  | .str _, _, h => by cases h; exact .str _
  | .list ds, _, h => by
    cases h with
    | lst hs ha => exact .lst (e.lst hs) (dp_extNAll e ds _ ha)
  | .tuple ds, _, h => by
    cases h with
    | tup hs ha => exact .tup (e.tup hs) (dp_extNAll e ds _ ha)
  | .dict _, _, h => by cases h
theorem dp_extNAll {K : PySem.W.Frag} {H H1 : Hp} (e : ExtN H H1) : ∀ (ds : List PyData) (vs : List V), DpAll K H vs ds → DpAll K H1 vs ds
  | [], _, h => by cases h; exact .nil
  | d :: ds, _, h => by
    cases h with
    | cons a b => exact .cons (dp_extN e d _ a) (dp_extNAll e ds _ b)
end
/-! ### a def whose code object is known: it makes lambdas -/
structure FunC (K : PySem.W.Frag) (x qual : Str) (st : Stmt) (f : Addr) (fd : FuncData) (c : Addr) : Prop where
  ex : ∃ (oc : Value) (od : Option Addr) (kV doc pm : Value) (an : Option Addr) (ct : Value) (osl : Array (Option Value)),
    fd = PySem.W.fnOf x qual (defArgs st) (defBody st) (defScope st) .none kV doc pm an (.ref c) ct ∧ K.lookup f = some ⟨oc, od, .func fd, osl⟩ ∧ PySem.W.codeIn K (.ref c) qual = true
  kp : PySem.W.keepIn K (.ref f) = true
theorem FunC.fn {K : PySem.W.Frag} {x qual : Str} {st : Stmt} {f : Addr} {fd : FuncData} {c : Addr} (F : FunC K x qual st f fd c) : Fun K x qual st f fd := by
  obtain ⟨oc, od, kV, doc, pm, an, ct, osl, h1, h2, h3⟩ := F.ex
  exact ⟨⟨oc, od, kV, doc, pm, an, _, ct, osl, h1, h2, h3⟩, F.kp⟩
theorem funC_mk {K : PySem.W.Frag} {x qual : Str} {st : Stmt} {f c : Addr} {oc : Value} {od an : Option Addr} {osl : Array (Option Value)} {kV doc pm ct : Value} (l : K.lookup f = some ⟨oc, od, .func (PySem.W.fnOf x qual (defArgs st) (defBody st) (defScope st) .none kV doc pm an (.ref c) ct), osl⟩)
    (cd : PySem.W.codeIn K (.ref c) qual = true) (k : PySem.W.keepIn K (.ref f) = true) : FunC K x qual st f (PySem.W.fnOf x qual (defArgs st) (defBody st) (defScope st) .none kV doc pm an (.ref c) ct) c := ⟨⟨oc, od, kV, doc, pm, an, ct, osl, rfl, l, cd⟩, k⟩
theorem fnC_of {CX : CXT} {P : Program} {w : World} {K : PySem.W.Frag} {mg : Str → Option Value} {base : Heap} {k : Nat} {x qual : Str} {st : Stmt} {f : Addr} {fd : FuncData} {c : Addr} {N ps : List Str} {sp : Sp} (F : FunC K x qual st f fd c) (S : FnScope N ps (defScope st))
    (len : ∀ vs H Q E, sp vs H Q E → vs.length = ps.length)
    (hbody : ∀ (A : Around) (outer : List Env) (s : Shared) (H : Hp) (vs : List V) (Q : VK) (E : XK), (A.deeper (envOfC qual (defScope st) s.heap.objs.size f (.ref c))).guards = some [] → Room k (A.deeper (envOfC qual (defScope st) s.heap.objs.size f (.ref c))) → sp vs H Q E →
      ∃ t, PSs (cxOf CX P w K mg base N qual (defScope st) f (.ref c) A outer s H E) (defBody st) t ∧ t { nx := fun _ H' => Q .non H', rt := Q } (start N vs) H) : FnG P w K mg base CX (k + 1) f fd ps sp := by
  obtain ⟨oc, od, kV, doc, pm, an, ct, osl, rfl, lk, hcd⟩ := F.ex
  refine ⟨len, fun A outer s H args us vs Q E hg hr e0 hb r hsp => ?_⟩
  have stays : ∀ (b : Addr) (o : Obj), base.get? b = some o → s.heap.get? b = some o := fun b o z => (e0.bs b o z).1
  have inK : K.In s.heap := e0.mod.kin.keeps stays
  have pars : ∀ y ∈ ps.zip us, (defScope st).names.lookup y.1 = some .local ∨ ((defScope st).names.lookup y.1 = some .cell ∧ ((cellsFrom (s.heap.objs.size + 1) (defScope st).names []).lookup y.1).isSome = true) := by
    intro y hy
    rcases S.par y.1 (List.of_mem_zip (a := y.1) (b := y.2) hy).1 with z | z
    · exact .inl z
    · exact .inr ⟨z, PySem.W.cellsFrom_some _ _ _ (.inl z)⟩
  refine codeAny_call_function hr.depth (inK _ _ lk) rfl S.co S.gen rfl (PySem.W.codeRec_of inK hcd) (hb _ _ _ _ ?_)
  refine wpAny_newFunctionEnv_cells S.kind pars fun env he s1 x => ?_
  subst he
  refine ⟨(e0.mod.nolimit.keeps stays).keeps x.toInCall.keep, codeAny_func ?_⟩
  obtain ⟨t, ht, hq⟩ := hbody A outer s H vs Q E hg (hr.deeper _) hsp
  have I := inv_start (CX := CX) (E := E) S hr.hd e0 (len _ _ _ _ hsp) r x
  refine wpAny_mono (ht.run [] s1 (start N vs) H _ I hq) ?_ (fun _ _ z => z)
  intro fl s' hs
  cases fl with
  | next =>
    obtain ⟨σ', H', J, z⟩ := hs
    exact ⟨.non, H', J.os, J.bare, J.base, J.hok, rfl, z⟩
  | ret u =>
    obtain ⟨v, σ', H', J, rv, z⟩ := hs
    exact ⟨v, H', J.os, J.bare, J.base, J.hok, rv, z⟩
  | brk => exact hs.elim fun _ h => h.elim fun _ h => h.2.elim
  | cont => exact hs.elim fun _ h => h.elim fun _ h => h.2.elim
/-! ### the def that is handed a lambda; what the lambda lets out may be told by the slots where it is called -/
section
variable {X : Cx} {ps0 : List (Addr × Obj)} {σ : L2.St} {H : Hp} {s : Shared} {nm sl : Str} {scg scl : Scope} {gf f cl : Addr} {cg pm ct : Value} {prm : Arguments} {bd : Expr} {k : Nat} {Ng : List Str} {W : WX} {p1 p2 : Pos} {pn : List (Addr × Obj)} {xe : Value → Shared → Prop} {tb : XK → TE}
/-- deed(): the context is that of the def, entered at s from X -/
theorem pe_actS (I : Inv X ps0 σ H s) (L : LamS X.env.scope scl) (of : s.heap.get? f = some (PySem.W.kla_obj "<lambda>" (X.env.qual ++ "<lambda>") prm bd scl (cloFrom X.env.cells scl.names []) pm cl ct)) (nf : H f = none) (nfr : f ∉ frs X.stack)
    (hb : ∀ (q : Str) (c : List (Str × Addr)) (pm cv ctv : Value), bindArgs (PySem.W.kla_fn "<lambda>" q prm bd scl c pm cv ctv) ⟨[], []⟩ = pure []) (tk : Takes ((cxOf CX0 X.prog X.w X.K X.mg X.base Ng nm scg gf cg X.A X.stack s H E0).tr pn xe) W) (hr : Room (k + 1) (X.A.deeper (envOfC nm scg s.heap.objs.size gf cg)))
    (body : ∀ (A : Around) (outer : List Env) (s : Shared) (H : Hp) (E : XK), Room k (A.deeper (lamEnv X scl s.heap.objs.size f cl)) → PE (lamCx X A outer s H E scl f cl) bd (tb E)) (hN : Ng[0]? = some sl) (hv : Vis scg sl)
    (hd : (sl == ("__debug__" : Str)) = false) (hcd : (sl == ("__classdict__" : Str)) = false) :
    PE ((cxOf CX0 X.prog X.w X.K X.mg X.base Ng nm scg gf cg X.A X.stack s H E0).tr pn xe) (.Call (.Name sl p1) [] [] p2) (fun σZ HZ Q => σZ[0]? = some (some (.ref f)) ∧ HZ cl = some (CodeO cl (X.env.qual ++ "<lambda>")) ∧ tb (fun c d H' => W c d σZ H') σ HZ Q) := by
  refine ⟨fun pz sz σz Hz Q Iz hq => ?_⟩
  obtain ⟨q1, q2, q3⟩ := hq
  refine wpAny_Call_Name_kw (thn ((pe_var (i := 0) (pos := p1) hN hv hd hcd).run pz sz σz Hz (fun v H' => v = .ref f ∧ H' = Hz) Iz ⟨_, q1, rfl, rfl⟩) ?_)
  rintro u s2 ⟨v, H2, I2, r2, rfl, rfl⟩
  obtain rfl : u = Value.ref f := r2
  have o2 := I2.base.keep f _ of nf nfr (fun z => nomatch (show f ∈ ([] : List Addr) from z))
  refine PySem.W.callWith_F0 ⟨_, _, _, _, o2⟩ ?_
  have un : Un (frs X.stack) [] H H2 s.heap s2.heap := I2.base
  have hc2 : ObjOk X.prog X.w H2 s2.heap cl (CodeO cl (X.env.qual ++ "<lambda>")) := I2.hok cl _ q2
  obtain ⟨⟨o3, vs3, t3, g1, g2, g3⟩, _⟩ := hc2
  have run : codeAny (model X.prog X.w) (X.A.deeper (envOfC nm scg s.heap.objs.size gf cg)) (.call (.ref f) ⟨[], []⟩) (CR (L2.CX X.prog X.w) (envOfC nm scg s.heap.objs.size gf cg :: X.stack) X.prog X.w H2 s2 Q (fun c d H' => W c d σz H')) s2 := by
    refine PySem.W.kla_callFunE hr.depth o2 rfl L.co L.gen rfl ⟨cl, o3, vs3, t3, rfl, g1, g2, g3⟩ ?_
    rw [hb]
    refine wpAny_pure (wpAny_newFunctionEnv (fun y hy => (L.own y hy).2) (fun y hy => absurd hy (by simp)) (fun h2 ns fr => ⟨I2.nolimit.fresh _ fr, ?_⟩) L.kind)
    have kp : ∀ b o, s2.heap.get? b = some o → h2.get? b = some o := fun b o e => fr.extBut b o (Nat.ne_of_lt (Heap.lt_size e)) (Heap.get?_push_of_some _ e)
    have J := lam_start2 (f := f) (c' := cl) (E := fun c d H' => W c d σz H') (tk := s2.toks + ([] : List (Str × Value)).length) I L I2.env0 hr.hd un ns kp
    refine PySem.W.kla_codeExpr (wpAny_mono ((body _ _ s2 H2 _ (hr.deeper _)).run [] _ _ H2 Q J q3) ?_ (fun _ _ z => z))
    rintro v' s' ⟨w', H', J', rv, z⟩
    exact ⟨w', H', J'.os, J'.bare, J'.base, J'.hok, rv, z⟩
  refine wpAny_call (codeAny_mono run fun r s' hz => ?_)
  match r, hz with
  | .error e, hz => exact tk e s' (XE.of_call I2 (fun _ _ _ z => z) hz)
  | .ok (.ret u), hz => exact I2.after hz
  | .ok .next, hz => exact False.elim hz
  | .ok .brk, hz => exact False.elim hz
  | .ok .cont, hz => exact False.elim hz
end
def GivesP (P : Program) (w : World) (K : PySem.W.Frag) (mg : Str → Option Value) (base : Heap) (A : Around) (stk : List Env) (Ng : List Str) (x : Str) (sg : Scope) (g : Addr) (cdg : Value) (bg : List Stmt) (a : Str) (q : Str) (kr : Nat) (TT : (XK → Hp → VK → Prop) → Hp → VK → Prop) : Prop :=
  ∀ (lf lc : Addr) (s : Shared) (H : Hp) (Q : VK) (tl : XK → Hp → VK → Prop), Room kr (A.deeper (envOfC x sg s.heap.objs.size g cdg)) → 
    (∀ (W : WX) (pn : List (Addr × Obj)) (xe : Value → Shared → Prop) (p1 p2 : Pos), Takes ((cxOf CX0 P w K mg base Ng x sg g cdg A stk s H E0).tr pn xe) W →
      PE ((cxOf CX0 P w K mg base Ng x sg g cdg A stk s H E0).tr pn xe) (.Call (.Name a p1) [] [] p2) (fun σZ HZ Q => σZ[0]? = some (some (.ref lf)) ∧ HZ lc = some (CodeO lc q) ∧ tl (fun c d H' => W c d σZ H') HZ Q)) →
    H lc = some (CodeO lc q) → TT tl H Q →
    ∃ t, PSs (cxOf CX0 P w K mg base Ng x sg g cdg A stk s H E0).nox bg t ∧ t { nx := fun _ H' => Q .non H', rt := Q } (L2.start Ng [.ref lf]) H
structure CalL (P : Program) (w : World) (K : PySem.W.Frag) (mg : Str → Option Value) (base : Heap) (kr : Nat) (x : Str) (st : Stmt) (Ng : List Str) (a : Str) (TT : (XK → Hp → VK → Prop) → Hp → VK → Prop) : Prop where
  ex : ∃ (g : Addr) (fd : FuncData), Fun K x x st g fd ∧ mg x = some (.ref g) ∧ Binds K fd [a] []
  S : FnScope Ng [a] (defScope st)
  gv : ∀ (A : Around) (stk : List Env) (g : Addr) (cdg : Value) (q : Str), GivesP P w K mg base A stk Ng x (defScope st) g cdg (defBody st) a q kr TT
section
variable {X : Cx} {T : List (Addr × Str)} {TT : (XK → Hp → VK → Prop) → Hp → VK → Prop} {x a : Str} {c P : Addr} {k kr : Nat} {st : Stmt} {Ng : List Str} {params : Arguments} {body : Expr} {scope : Scope} {t : XK → TE} {p lpos pos : Pos}
theorem pe_lamC (cl : CalL X.prog X.w X.K X.mg X.base kr x st Ng a TT) (TB : TabB X.base X.mg c P) (hmT : (P, X.env.qual ++ "<lambda>") ∈ T) (hu : ∀ p ∈ T, p.1 = P → p.2 = X.env.qual ++ "<lambda>") (hr : Room (max k kr + 2) X.A)
    (hbody : ∀ (A : Around) (outer : List Env) (s : Shared) (H : Hp) (E : XK) (f c' : Addr), Room k (A.deeper (lamEnv X scope s.heap.objs.size f c')) → PE (lamCx X A outer s H E scope f c') body (t E))
    (hNg : Ng[0]? = some a) (hva : Vis (defScope st) a)
    (L : LamS X.env.scope scope := by exact LamX.lamS_by (by decide +kernel)) (hcode : X.env.code = .ref c := by rfl) (hg : Gl X x := by rfl) (hdef : defaultsOf params X.env = ([], []) := by rfl)
    (hbind : ∀ (q : Str) (cl : List (Str × Addr)) (pm cv ctv : Value), bindArgs (PySem.W.kla_fn "<lambda>" q params body scope cl pm cv ctv) ⟨[], []⟩ = pure [] := by intros; rfl)
    (hdb : (x == ("__debug__" : Str)) = false := by decide) (hd : (a == ("__debug__" : Str)) = false := by decide) (hcd : (a == ("__classdict__" : Str)) = false := by decide) :
    PE X (.Call (.Name x p) [.Lambda params body scope lpos] [] pos) (tLam T TT t) := by
  obtain ⟨g, fd, F, hm, hb⟩ := cl.ex
  obtain ⟨oc, od, kV, doc, pm, an, cdv, ct, osl, rfl, lk, hcg⟩ := F.ex
  refine ⟨fun ps0 s0 σ H Q I h => ?_⟩
  obtain ⟨hT, hq⟩ := h
  refine wpAny_Call_Name_kw (ld_glob I hg hm ?_ hdb)
  refine PySem.W.callWith_K (h₀ := X.base) I.ok.mod.kin F.kp ?_ (by rfl) (by rfl)
  show wpAny _ _ (spliced ((false, eval (.Lambda params body scope lpos) X.env) :: backTo pos (starEach [] X.env))) _ _ s0
  refine Calls.spliced_cons (lam_make2 I TB hcode hmT hu hT hdef (L.has I.ok) fun f1 c1 pm1 ct1 H1 s1 I1 e1 T1 of nf nfr oc1 => Calls.spliced_nil ⟨I1.kIn, ?_⟩)
  have run : codeAny (model X.prog X.w) X.A (.call (.ref g) ⟨[.ref f1], []⟩) (CR CX0 X.stack X.prog X.w H1 s1 Q E0) s1 := by
    refine run_ofS (N := Ng) (ps := [a]) (us := [.ref f1]) (vs := [.ref f1]) lk hcg cl.S hr I1.env0 (hb s1 [.ref f1] I1.kIn rfl) (.cons rfl .nil) rfl fun hr1 => ?_
    obtain ⟨t1, ht1, z⟩ := cl.gv X.A X.stack g cdv _ f1 c1 s1 H1 Q (fun E H' Q' => t E σ H' Q') (hr1.mono (by omega)) (fun W pn xe p1 p2 tk => pe_actS (k := k) I1 L of nf nfr hbind tk (hr1.mono (by omega)) (fun A outer s H E hr2 => hbody A outer s H E f1 c1 hr2) hNg hva hd hcd) oc1 (hq H1 e1 T1)
    exact ⟨t1, ht1.nox, z⟩
  refine wpAny_call (codeAny_mono run fun r s2 hz => ?_)
  match r, hz with
  | .error e, hz => exact (show False from hz).elim
  | .ok (.ret u), hz => exact I1.after hz
  | .ok .next, hz => exact False.elim hz
  | .ok .brk, hz => exact False.elim hz
  | .ok .cont, hz => exact False.elim hz
end
/-- deed(), in the def that got it, within a try: what the lambda may let out is taken there -/
def tAct (W : WX) (f c' : Addr) (q : Str) (tl : XK → Hp → VK → Prop) : TE := fun σ H Q => σ[0]? = some (some (.ref f)) ∧ H c' = some (CodeO c' q) ∧ tl (fun c d H' => W c d σ H') H Q
/-! ### the end of a law with tables -/
theorem first_heapT {P : Program} {w : World} {K : PySem.W.Frag} {h : Heap} {a : Addr} {vs : List Value} {ns : List Int} (ts : List Addr) (hts : ∀ b ∈ ts, h.get? b = some { cls := .none, data := .fields #[] }) (KX : K.In h) (ha : h.get? a = some { cls := .type "list", data := .seq vs.toArray }) (hi : IntsAre vs ns) (hl : ns.length ≤ sizeLine) :
    ∃ H : Hp, (∀ b, H b = none ∨ b ∈ ts ∨ ∃ o xs, H b = some (.frz o (.lst xs))) ∧ (∀ b ∈ ts, H b = some (.tbl #[])) ∧ SqL K H a (ns.map V.int) ∧ HOk P w H h ∧ (∀ b u, H b = some u → b ∈ ts ∨ (b = a ∧ K.lookup b = none)) := by
  have rv := vals_ints hi
  have nats : a ∉ ts := fun z => by
    have := hts a z
    rw [ha] at this
    cases this
  by_cases hk : K.lookup a = none
  · let u : HO := .frz { cls := .type "list", data := .seq vs.toArray } (.lst (ns.map V.int))
    have ev : ∀ b z, (if b ∈ ts then some (HO.tbl #[]) else if b = a then some u else none) = some z → (b ∈ ts ∧ z = .tbl #[]) ∨ (b = a ∧ z = u) := fun b z e => by
      by_cases ht : b ∈ ts
      · rw [if_pos ht] at e
        exact .inl ⟨ht, (Option.some.inj e).symm⟩
      · rw [if_neg ht] at e
        by_cases hb : b = a
        · rw [if_pos hb] at e
          exact .inr ⟨hb, (Option.some.inj e).symm⟩
        · rw [if_neg hb] at e
          cases e
    have eva : (if a ∈ ts then some (HO.tbl #[]) else if a = a then some u else none) = some u := by rw [if_neg nats, if_pos rfl]
    refine ⟨fun b => if b ∈ ts then some (.tbl #[]) else if b = a then some u else none, fun b => ?_, fun b hb => if_pos hb, .inl (.inr ⟨_, eva⟩), fun b z e => ?_, fun b z e => ?_⟩
    · by_cases ht : b ∈ ts
      · exact .inr (.inl ht)
      · by_cases hb : b = a
        · exact .inr (.inr ⟨_, _, (if_neg ht).trans (if_pos hb)⟩)
        · exact .inl ((if_neg ht).trans (if_neg hb))
    · rcases ev b z e with ⟨ht, rfl⟩ | ⟨rfl, rfl⟩
      · exact hts b ht
      · exact ⟨ha, by rw [List.length_map]; exact hl, vs, _, rv, ha⟩
    · rcases ev b z e with ⟨ht, rfl⟩ | ⟨rfl, rfl⟩
      · exact .inl ht
      · exact .inr ⟨rfl, hk⟩
  · obtain ⟨o, ho⟩ := Option.ne_none_iff_exists'.mp hk
    have e := KX a o ho
    rw [ha] at e
    cases e
    have ev : ∀ b z, (if b ∈ ts then some (HO.tbl #[]) else none) = some z → b ∈ ts ∧ z = .tbl #[] := fun b z e => by
      by_cases ht : b ∈ ts
      · rw [if_pos ht] at e
        exact ⟨ht, (Option.some.inj e).symm⟩
      · rw [if_neg ht] at e
        cases e
    refine ⟨fun b => if b ∈ ts then some (.tbl #[]) else none, fun b => ?_, fun b hb => if_pos hb, .inr ⟨_, vs.toArray, _, ho, rfl, rfl, rfl, by rw [List.size_toArray, hi.length]; exact hl, by simpa using rv⟩, fun b z e => ?_, fun b z e => .inl (ev b z e).1⟩
    · by_cases ht : b ∈ ts
      · exact .inr (.inl ht)
      · exact .inl (if_neg ht)
    · obtain ⟨ht, rfl⟩ := ev b z e
      exact hts b ht
theorem law_callTG {P : Program} {w : World} {K : PySem.W.Frag} {mg mb : Str → Option Value} {CX : CXT} {k : Nat} {fa a : Addr} {cs : List (Addr × Addr)} {fd : FuncData} {x : Str} {sp : Sp} {s₁ : Shared} {vs : List Value} {ns : List Int}
    (KX : K.In s₁.heap) (hns : s₁.heap.Ns mainGlobals mg) (hb : s₁.heap.Ns builtinsNs mb) (hbb : ∀ x : Str, x ≠ "__name__" → mb x = bootBuiltins x) (hlim : s₁.heap.NoLimit) (hg : s₁.gens = #[])
    (hT : ∀ p ∈ cs, s₁.heap.get? p.2 = some { cls := .none, data := .fields #[] }) (nT : ∀ p ∈ cs, K.lookup p.2 = none) (C : ∀ p ∈ cs, PySem.W.CodeHd s₁.heap p.1 p.2)
    (hbm : ∃ (bm : Addr) (ob : Obj), mg "__builtins__" = some (.ref bm) ∧ bm ≠ builtinsNs ∧ s₁.heap.get? bm = some ob ∧ ob.cls = .type "module" ∧ ob.dict = some builtinsNs ∧ ob.data = .plain)
    (ha : s₁.heap.get? a = some { cls := .type "list", data := .seq vs.toArray }) (hi : IntsAre vs ns) (hl : ns.length ≤ sizeLine) (hr : Room k callerA)
    (F : ∀ base : Heap, K.In base → base.Ns mainGlobals mg → (∀ p ∈ cs, TabB base mg p.1 p.2) → FnG P w K mg base CX k fa fd [x] sp) (hbind : ∀ (s : Shared) (u : Value), BindsTo s fd ⟨[u], []⟩ [(x, u)])
    (hsp : ∀ H : Hp, (∀ p ∈ cs, H p.2 = some (.tbl #[])) → SqL K H a (ns.map V.int) → sp [.ref a] H (fun v _ => v = .bl true) fun _ _ _ => False)
    (hCX : ∀ H e s', CX [] H s₁ (fun _ _ _ => False) e s' → False) :
    codeAny (model P w) callerA (.call (.ref fa) ⟨[.ref a], []⟩) (fun r s' => r = .ok (.ret (.bool true)) ∧ OldK s₁.heap s'.heap ∧ s'.os = s₁.os ∧ AllBare s'.gens) s₁ := by
  have hts : ∀ b ∈ cs.map (·.2), s₁.heap.get? b = some { cls := .none, data := .fields #[] } := fun b hb => by
    obtain ⟨p, hp, rfl⟩ := List.mem_map.mp hb
    exact hT p hp
  have mts : ∀ p ∈ cs, p.2 ∈ cs.map (·.2) := fun p hp => List.mem_map.mpr ⟨p, hp, rfl⟩
  obtain ⟨H, hO, hTb, hS, hok, hA⟩ := first_heapT (P := P) (w := w) (cs.map (·.2)) hts KX ha hi hl
  let B := hidT s₁.heap H
  have inB : ∀ {b : Addr} {o : Obj}, s₁.heap.get? b = some o → (∀ u, H b ≠ some u) → B.get? b = some o := fun {b o} e n => hidT_get e (by
    cases q : H b with
    | none => rfl
    | some u => exact absurd q (n u))
  -- objects that are neither lists nor empty tables are on the ground
  have noD : ∀ {b : Addr} {o : Obj}, s₁.heap.get? b = some o → (∀ vs n, o.data ≠ .seq vs n) → o.data ≠ .fields #[] → B.get? b = some o := fun {b o} e h1 h2 => inB e fun u q => by
    rcases hA b u q with z | ⟨rfl, _⟩
    · rw [hts b z] at e
      cases e
      exact h2 rfl
    · rw [ha] at e
      cases e
      exact h1 _ _ rfl
  have nsB : ∀ {b : Addr} {m : Str → Option Value}, s₁.heap.Ns b m → B.Ns b m := fun {b m} hm => by
    obtain ⟨o, es, ep, e, dt, r⟩ := hm
    exact ⟨o, es, ep, noD e (fun _ _ z => by rw [dt] at z; cases z) (fun z => by rw [dt] at z; cases z), dt, r⟩
  have kB : K.In B := fun b o e => inB (KX b o e) fun u q => by
    rcases hA b u q with z | ⟨_, z⟩
    · obtain ⟨p, hp, rfl⟩ := List.mem_map.mp z
      rw [nT p hp] at e
      cases e
    · rw [z] at e
      cases e
  have limB : B.NoLimit := by
    obtain ⟨mc, h1, h2⟩ := hlim
    exact ⟨mc, nsB h1, h2⟩
  have TB : ∀ p ∈ cs, TabB B mg p.1 p.2 := fun p hp => by
    have hTp := hT p hp
    refine ⟨?_, ?_, fun z => ?_⟩
    · obtain ⟨o, us, file, tf, flags, tg, inF, text, tt, e1, r1, r2, r3, r⟩ := C p hp
      refine ⟨o, us, file, tf, flags, tg, inF, text, tt, noD e1 (fun _ _ z => by rw [r2] at z; cases z) (fun z => ?_), r1, r2, r3, r⟩
      rw [r2] at z
      cases z
      simp at r3
    · obtain ⟨bm, ob, b1, b2, b3, b4, b5, b6⟩ := hbm
      have nG : bm ≠ mainGlobals := fun q => by
        obtain ⟨o, es, ep, e, hd, _⟩ := hns
        rw [q, e] at b3
        cases b3
        rw [hd] at b6
        cases b6
      have nP : bm ≠ p.2 := fun q => by
        rw [q, hTp] at b3
        cases b3
        cases b6
      exact ⟨bm, ob, b1, b2, nG, nP, noD b3 (fun _ _ z => by rw [b6] at z; cases z) (fun z => by rw [b6] at z; cases z), b4, b5, b6⟩
    · obtain ⟨o, es, ep, e, hd, _⟩ := hns
      rw [z, hTp] at e
      cases e
      cases hd
  have e0 : Env0 P w K mg B callerA [] s₁ H := ⟨rfl, ⟨kB, nsB hns, ⟨mb, nsB hb, hbb⟩, limB⟩, fun b o e => of_hidT e, Nat.le_of_eq (hidT_size _ _), trivial, fun b hb => absurd (show b ∈ ([] : List Addr) from hb) (by simp), hok, .of_eq hg⟩
  have run := (F B kB (nsB hns) TB).go callerA [] s₁ H ⟨[.ref a], []⟩ [.ref a] [.ref a] _ _ rfl hr e0 (hbind s₁ (.ref a)) (.cons rfl .nil) (hsp H (fun p hp => hTb _ (mts p hp)) hS)
  refine codeAny_mono run fun r s' h => ?_
  match r, h with
  | .error e, h => exact (hCX H e s' h).elim
  | .ok .next, h => exact False.elim h
  | .ok .brk, h => exact False.elim h
  | .ok .cont, h => exact False.elim h
  | .ok (.ret u), h =>
    obtain ⟨v, H', os, bare, un, hok', r', q⟩ := h
    have q' : v = .bl true := q
    subst q'
    obtain rfl : u = Value.bool true := r'
    have grown : ∀ p ∈ cs, ∃ more : Array Value, s'.heap.get? p.2 = some { cls := .none, data := .fields more } := fun p hp => by
      obtain ⟨more, z⟩ := un.tbls p.2 #[] (hTb _ (mts p hp))
      exact ⟨_, hok' p.2 _ z⟩
    have key : ∀ b o, b ∉ cs.map (·.2) → s₁.heap.get? b = some o → s'.heap.get? b = some o := fun b o nb e => by
      rcases hO b with z | z | ⟨ob, xs, z⟩
      · exact un.keep b o e z (fun w => absurd (show b ∈ ([] : List Addr) from w) (by simp)) (by simp)
      · exact absurd z nb
      · have z1 := (hok b _ z).1
        have z2 := (hok' b _ (un.frzs b ob _ z)).1
        rw [e] at z1
        cases z1
        exact z2
    refine ⟨rfl, ⟨fun b o e => ?_, fun b o e => ?_⟩, os, bare⟩
    · by_cases hb : b ∈ cs.map (·.2)
      · obtain ⟨p, hp, rfl⟩ := List.mem_map.mp hb
        obtain ⟨more, hm⟩ := grown p hp
        rw [hT p hp] at e
        cases e
        exact .inr (.inl ⟨((C p hp).tab (hT p hp)).isCodeTable, rfl, #[], more, rfl, by rw [Array.empty_append]; exact hm⟩)
      · exact .inl (key b o hb e)
    · by_cases hb : b ∈ cs.map (·.2)
      · obtain ⟨p, hp, rfl⟩ := List.mem_map.mp hb
        obtain ⟨more, hm⟩ := grown p hp
        exact ⟨_, hm⟩
      · exact ⟨o, key b o hb e⟩
/-- what is known of the law's promise at the head's heap -/
def LawAtG (l : PySem.W.OpenLaw) (w : World) (K : PySem.W.Frag) (CX : CXT) (k n : Nat) (x : Str) (mg : Str → Option Value) (fa : Addr) (h : Heap) : Prop :=
  ∃ (fd : FuncData) (cs : List (Addr × Addr)) (sp : Sp), (∀ p ∈ cs, h.get? p.2 = some { cls := .none, data := .fields #[] }) ∧ (∀ p ∈ cs, K.lookup p.2 = none) ∧ (∀ p ∈ cs, PySem.W.CodeHd h p.1 p.2) ∧ (∀ (s : Shared) (u : Value), BindsTo s fd ⟨[u], []⟩ [(x, u)]) ∧
    (∀ (H : Hp) (a : Addr) (ns : List Int), ns.length ≤ n → (∀ p ∈ cs, H p.2 = some (.tbl #[])) → SqL K H a (ns.map V.int) → sp [.ref a] H (fun v _ => v = .bl true) fun _ _ _ => False) ∧
    ∀ base : Heap, K.In base → base.Ns mainGlobals mg → (∀ p ∈ cs, TabB base mg p.1 p.2) → FnG l.prog w K mg base CX k fa fd [x] sp
theorem walk_ofTG {l : PySem.W.OpenLaw} {n k : Nat} {q : Program} {loose : List Str} {XP : (Str → Option Value) → Heap → Prop} {YP : World → Heap → Prop} {d : DefRec} {K : Params → PySem.W.Frag} {CX : World → CXT} {x : Str}
    (hn : l.most = some n) (hn2 : n ≤ sizeLine) (hdf : d.params.defaults = []) (hr : Room k callerA) (hY : ∀ (w : World) (h : Heap), YP w h → (K w.params).In h)
    (F : ∀ (w : World) (mg : Str → Option Value) (fa : Addr) (h : Heap), YP w h → (K w.params).In h → h.Ns mainGlobals mg → mg d.name = some (.ref fa) → LawAtG l w (K w.params) (CX w) k n x mg fa h)
    (hCX : ∀ (w : World) (H : Hp) (s : Shared) (e : Value) (s' : Shared), CX w [] H s (fun _ _ _ => False) e s' → False) :
    PySem.W.WalkO q loose XP YP l.row.toRowW d [] (fun f vs => PySem.call f vs) := by
  refine Att.attach_call hn hdf fun w s₀ s₁ mg mb fa o pm cd doc a vs ns G Y ho hd hcd hmg hobj hints hlen hg => ?_
  obtain ⟨fd, cs, sp, hT, nT, C, hb, hsp, hF⟩ := F w mg fa _ Y (hY w _ Y) G.T.g hmg
  exact law_callTG (hY w _ Y) G.T.g G.T.b G.T.builtins G.T.nolimit hg hT nT C G.T.bmain hobj hints (Nat.le_trans hlen hn2) hr hF hb (fun H hH hS => hsp H a ns hlen hH hS) fun H e s' => hCX w H s₁ e s'
/-! ### expressions and tests that leave the heap alone, by their values -/
def ED (t : TE) (σ : L2.St) (H : Hp) (v : V) : Prop := ∀ Q : VK, Q v H → t σ H Q
def TD (t : L2.TT) (σ : L2.St) (H : Hp) (c : Bool) : Prop := ∀ Q : Bool → Hp → Prop, Q c H → t σ H Q
section
variable {σ : L2.St} {H : Hp} {ta tb : TE} {tA tB' : L2.TT} {a b : Int} {x y : Bool} {i : Nat} {v : V}
theorem ED.var (h : σ[i]? = some (some v)) : ED (tVar i) σ H v := fun _ q => ⟨v, h, q⟩
theorem ED.c : ED (tC v) σ H v := fun _ q => q
theorem ED.op0 {f : Int → Int → V} (h1 : ED ta σ H (.int a)) (h2 : ED tb σ H (.int b)) : ED (tOp (rI0 f) ta tb) σ H (f a b) := fun _ q => h1 _ (h2 _ ⟨a, b, rfl, rfl, q⟩)
theorem ED.opC {C : Int → Int → Prop} {f : Int → Int → V} (h1 : ED ta σ H (.int a)) (h2 : ED tb σ H (.int b)) (hc : C a b) : ED (tOp (rI C f) ta tb) σ H (f a b) := fun _ q => h1 _ (h2 _ ⟨a, b, rfl, rfl, hc, q⟩)
theorem dvI : decide (V.int a = V.int b) = decide (a = b) := decide_eq_decide.mpr ⟨V.int.inj, congrArg _⟩
theorem ED.eq (h1 : ED ta σ H (.int a)) (h2 : ED tb σ H (.int b)) : ED (tOp rEq ta tb) σ H (.bl (decide (a = b))) := fun _ q => h1 _ (h2 _ ⟨rfl, by rw [dvI]; exact q⟩)
theorem ED.ne (h1 : ED ta σ H (.int a)) (h2 : ED tb σ H (.int b)) : ED (tOp rNe ta tb) σ H (.bl (!decide (a = b))) := fun _ q => h1 _ (h2 _ ⟨rfl, by rw [dvI]; exact q⟩)
theorem ED.and (h1 : ED ta σ H (.bl x)) (h2 : x = true → ED tb σ H (.bl y)) : ED (tAndV ta tb) σ H (.bl (x && y)) := fun _ q => h1 _ ⟨x, rfl, by
  cases x with
  | true => exact iteT (h2 rfl _ q)
  | false => exact iteF q⟩
theorem ED.or (h1 : ED ta σ H (.bl x)) (h2 : x = false → ED tb σ H (.bl y)) : ED (tOrV ta tb) σ H (.bl (x || y)) := fun _ q => h1 _ ⟨x, rfl, by
  cases x with
  | true => exact iteT q
  | false => exact iteF (h2 rfl _ q)⟩
theorem TD.test (h : ED ta σ H (.bl x)) : TD (tTest ta) σ H x := fun _ q => h _ ⟨x, rfl, q⟩
theorem TD.ofB (h : ED ta σ H (.bl x)) : TD (tB ta) σ H x := fun _ q => h _ ⟨x, rfl, q⟩
theorem TD.and (h1 : TD tA σ H x) (h2 : x = true → TD tB' σ H y) : TD (tAnd tA tB') σ H (x && y) := fun _ q => h1 _ (by
  cases x with
  | true => exact iteT (h2 rfl _ q)
  | false => exact iteF q)
theorem TD.or (h1 : TD tA σ H x) (h2 : x = false → TD tB' σ H y) : TD (tOr tA tB') σ H (x || y) := fun _ q => h1 _ (by
  cases x with
  | true => exact iteT q
  | false => exact iteF (h2 rfl _ q))
theorem TD.not (h1 : TD tA σ H x) : TD (tNot tA) σ H (!x) := fun _ q => h1 _ q
theorem tdIf {t u : TS} {D : Ends} (h : TD tA σ H x) (q1 : x = true → t D σ H) (q2 : x = false → u D σ H) : tIfS tA t u D σ H := h _ (by
  cases x with
  | true => exact iteT (q1 rfl)
  | false => exact iteF (q2 rfl))
theorem tdIfE {Q : VK} (h : TD tA σ H x) (q1 : x = true → ta σ H Q) (q2 : x = false → tb σ H Q) : tIf tA ta tb σ H Q := h _ (by
  cases x with
  | true => exact iteT (q1 rfl)
  | false => exact iteF (q2 rfl))
theorem tdRetIf {D : Ends} (h : TD tA σ H x) (q1 : x = true → tRet ta D σ H) (q2 : x = false → tRet tb D σ H) : tRet (tIf tA ta tb) D σ H := h _ (by
  cases x with
  | true => exact iteT (q1 rfl)
  | false => exact iteF (q2 rfl))
theorem tdRet {D : Ends} (h : ED ta σ H v) (q : D.rt v H) : tRet ta D σ H := h _ q
end
end Bw

set_option maxHeartbeats 2000000
namespace Bw
open PySem PySem.Spec PyProof.Rows L2
/-! ### list.count of flat items -/
def rCountV (K : PySem.W.Frag) : V → List V → Hp → VK → Prop := fun x xs H Q => ∃ (a : Addr) (ys : List V) (y : V), x = V.ref a ∧ xs = [y] ∧ SqL K H a ys ∧ flatV y = true ∧ ys.all flatV = true ∧ Q (.int (ys.countP (fun z => eqV z y) : Nat)) H
theorem countP_eqU {y : V} : ∀ {ys : List V} {us : List Value}, Vals ys us → ys.all flatV = true → us.countP (eqU y) = ys.countP fun z => eqV z y
  | _, _, .nil, _ => rfl
  | _, _, .cons r rs, f => by
    obtain ⟨f1, f2⟩ := (Bool.and_eq_true _ _).mp f
    rw [List.countP_cons, List.countP_cons, countP_eqU rs f2, eqU_of r f1]
theorem mt_countV {X : Cx} : MtR X "list.count" (rCountV X.K) := by
  intro pins s σ H x xs v us Q I rx rxs h
  obtain ⟨a, ys, y, rfl, rfl, hs, fy, fys, q⟩ := h
  cases rx
  obtain ⟨uy, rfl, ry⟩ := rxs.one
  obtain ⟨its, rv, ⟨⟨cls, dd, data, sl⟩, n, ho, hc, hdn, hd⟩, hlen⟩ := I.list hs
  simp only at hc hd
  subst hc hd
  refine call_meets PySem.F.slot_list_count ⟨_, ho, rfl⟩ PySem.F.entry_list_count (PySem.F.args_list_count_2 _ _)
    (SeqAt.list_countAt a its.toArray n dd sl uy (eqU y)) ⟨ho, fun u' hu' => mem_eqAt ry fy rv fys u' (by simpa using hu'), ?_⟩
  refine ⟨.int (ys.countP (fun z => eqV z y) : Nat), H, I.tok _, ⟨s.toks, ?_⟩, q⟩
  show Value.int ((its.toArray.toList.countP (eqU y) : Nat) : Int) s.toks = Value.int _ s.toks
  rw [show its.toArray.toList = its from rfl, countP_eqU rv fys]
theorem countL (K : PySem.W.Frag) {X : Cx} (h : X.K = K := by rfl) : MtR X "list.count" (rCountV K) := h ▸ mt_countV
/-! ### if a or b: .. -/
theorem tdIfOr {σ : L2.St} {H : Hp} {tA tB' : L2.TT} {x : Bool} {t u : TS} {D : Ends} (h : TD tA σ H x) (q1 : x = true → t D σ H) (q2 : x = false → tIfS tB' t u D σ H) : tIfS (tOr tA tB') t u D σ H := h _ (by
  cases x with
  | true => exact iteT (iteT (q1 rfl))
  | false => exact iteF (q2 rfl))
/-! ### a local name that holds one of some defs, called -/
structure CalF (P : Program) (w : World) (K : PySem.W.Frag) (mg : Str → Option Value) (base : Heap) (CX : CXT) (j : Nat) (f : Addr) (sp : Sp) : Prop where
  ex : ∃ (k : Nat) (ps : List Str) (fd : FuncData), k ≤ j ∧ FnOk P w K mg base CX k f fd ps sp ∧ PySem.W.keepIn K (.ref f) = true ∧ Binds K fd ps []
theorem calAt {P : Program} {w : World} {K : PySem.W.Frag} {mg : Str → Option Value} {base : Heap} {CX : CXT} {k j : Nat} {x : Str} {ps : List Str} {st : Stmt} {sp : Sp} {a : Addr} (c : Cal P w K mg base CX k x ps st sp) (hm : mg x = some (.ref a)) (hk : k ≤ j) : CalF P w K mg base CX j a sp := by
  obtain ⟨f, fd, G, F, hf, hb⟩ := c.ex
  rw [hf] at hm
  cases hm
  exact ⟨k, ps, fd, hk, G, F.kp, hb⟩
def tCallVar (i : Nat) (fs : List (Addr × Sp)) (E : XK) (t : TA) : TE := fun σ H Q => ∃ p ∈ fs, σ[i]? = some (some (.ref p.1)) ∧ t σ H fun vs H1 => p.2 vs H1 Q E
theorem pe_calVar {X : Cx} {CX : CXT} {j i : Nat} {x : Str} {fs : List (Addr × Sp)} {E : XK} {e : Expr} {es : List Expr} {t : TA} {p pos : Pos} (c : ∀ q ∈ fs, CalF X.prog X.w X.K X.mg X.base CX j q.1 q.2) (hr : Room j X.A) (hx : Passes CX X E) (ha : PA X (e :: es) t) (hN : X.N[i]? = some x) (hv : Vis X.env.scope x)
    (hd : (x == ("__debug__" : Str)) = false := by decide) (hcd : (x == ("__classdict__" : Str)) = false := by decide)
    (he : starEach (e :: es) X.env = (false, eval e X.env) :: starEach es X.env := by rfl) (hpl : (backTo pos (starEach es X.env)).any (·.1) = false := by rfl) :
    PE X (.Call (.Name x p) (e :: es) [] pos) (tCallVar i fs E t) := by
  refine ⟨fun pins s σ H Q I h => ?_⟩
  obtain ⟨q, hq, hs, ht⟩ := h
  obtain ⟨k, ps, fd, hk, F, kp, b⟩ := (c q hq).ex
  refine wpAny_Call_Name_kw (thn ((pe_var (pos := p) hN hv hd hcd).run pins s σ H (fun v H1 => v = .ref q.1 ∧ H1 = H) I ⟨.ref q.1, hs, rfl, rfl⟩) ?_)
  rintro u s1 ⟨v, H1, I1, r1, rfl, rfl⟩
  cases r1
  refine PySem.W.callWith_K (h₀ := X.base) I.ok.mod.kin kp (thn (ha.run pos pins s1 σ _ _ I1 ht) ?_) he hpl
  rintro us s2 ⟨vs, H2, I2, r, z⟩
  exact ⟨I2.kIn, run_fn F (hr.mono hk) b .nil hx I2 r (by rw [List.append_nil]; exact z)⟩
end Bw

set_option maxHeartbeats 2000000
namespace K
open PySem PySem.Spec PyProof.Rows L2 Bw
open PySem.W (Tup Datum)
/-! ### rows and their rests -/
def Row (ns : List Int) : Prop := 1 ≤ ns.length ∧ ns.length ≤ 200 ∧ ∀ c ∈ ns, 0 ≤ c ∧ c ≤ 7
def stp (l : List Int) (c : Int) : List Int := if l.length > 1 ∧ l[l.length - 2]? = some c then l.dropLast else l ++ [c]
def strk (ns : List Int) : List Int := ns.foldl stp []
/-- the open places -/
def isOpn (ns : List Int) (i : Nat) : Bool := decide (ns[i]? = ns[i + 2]?)
def opn (ns : List Int) : List Int := ((List.range (ns.length - 2)).filter (isOpn ns)).map fun (i : Nat) => 1 + (i : Int)
theorem given_opn (ns : List Int) : Evl.given (ns.length - 2) (isOpn ns) (fun i => V.int (1 + (i : Int))) = (opn ns).map V.int := by
  unfold Evl.given opn
  rw [List.map_map]
  rfl
theorem stp_len (l : List Int) (c : Int) : (stp l c).length ≤ l.length + 1 := by
  unfold stp
  split
  · rw [List.length_dropLast]; omega
  · rw [List.length_append]; exact Nat.le_refl _
theorem foldl_stp_len : ∀ (ns l : List Int), (ns.foldl stp l).length ≤ l.length + ns.length
  | [], l => Nat.le_refl _
  | c :: ns, l => by
    have h := foldl_stp_len ns (stp l c)
    have h2 := stp_len l c
    show (ns.foldl stp (stp l c)).length ≤ l.length + (ns.length + 1)
    omega
theorem strk_len (ns : List Int) : (strk ns).length ≤ ns.length := by
  have h := foldl_stp_len ns []
  simpa [strk] using h

/-! ### striking, in any order -/
theorem stp_pop {m : List Int} {c x : Int} : stp (m ++ [c, x]) c = m ++ [c] := by
  unfold stp
  have h1 : (m ++ [c, x]).length > 1 := by rw [List.length_append]; show 1 < m.length + 2; omega
  have h2 : (m ++ [c, x])[(m ++ [c, x]).length - 2]? = some c := by
    rw [List.length_append, show m.length + [c, x].length - 2 = m.length from Nat.add_sub_cancel .., List.getElem?_append_right (Nat.le_refl _), Nat.sub_self]
    rfl
  rw [if_pos ⟨h1, h2⟩, show m ++ [c, x] = (m ++ [c]) ++ [x] by rw [List.append_assoc]; rfl, List.dropLast_concat]
theorem stp_cases (l : List Int) (c : Int) : (∃ m x, l = m ++ [c, x] ∧ stp l c = m ++ [c]) ∨ (stp l c = l ++ [c] ∧ ∀ m x, l ≠ m ++ [c, x]) := by
  by_cases h : l.length > 1 ∧ l[l.length - 2]? = some c
  · refine .inl ?_
    obtain ⟨h1, h2⟩ := h
    have e0 : l ≠ [] := fun z => by rw [z] at h1; exact absurd h1 (by decide)
    have e1 : l.dropLast ≠ [] := fun z => by
      have := congrArg List.length z
      rw [List.length_dropLast] at this
      simp at this
      omega
    have p1 := List.dropLast_concat_getLast e0
    have p2 := List.dropLast_concat_getLast e1
    have e2 : l.dropLast.getLast e1 = c := by
      have q : l.dropLast.getLast? = some c := by
        rw [List.getLast?_eq_getElem?, List.length_dropLast, List.getElem?_dropLast, if_pos (by omega), show l.length - 1 - 1 = l.length - 2 by omega]
        exact h2
      rw [List.getLast?_eq_getLast e1] at q
      exact Option.some.inj q
    refine ⟨l.dropLast.dropLast, l.getLast e0, ?_, ?_⟩
    · rw [show l.dropLast.dropLast ++ [c, l.getLast e0] = (l.dropLast.dropLast ++ [c]) ++ [l.getLast e0] by rw [List.append_assoc]; rfl, ← e2, p2, p1]
    · unfold stp
      rw [if_pos ⟨h1, h2⟩, ← e2, p2]
  · refine .inr ⟨?_, fun m x e => h ?_⟩
    · unfold stp
      rw [if_neg h]
    · subst e
      refine ⟨by rw [List.length_append]; show 1 < m.length + 2; omega, ?_⟩
      rw [List.length_append, show m.length + [c, x].length - 2 = m.length from Nat.add_sub_cancel .., List.getElem?_append_right (Nat.le_refl _), Nat.sub_self]
      rfl
/-- nothing to strike -/
def Str8 (l : List Int) : Prop := ∀ m t q p, l ≠ m ++ [t, q, t] ++ p
theorem stp_last (l : List Int) (c : Int) : ∃ m, stp l c = m ++ [c] := by
  rcases stp_cases l c with ⟨m, x, _, e⟩ | ⟨e, _⟩
  · exact ⟨m, e⟩
  · exact ⟨l, e⟩
theorem Str8.pre {l m : List Int} (h : Str8 (l ++ m)) : Str8 l := fun a t q p e => h a t q (p ++ m) (by rw [e, List.append_assoc])
theorem stp_str {l : List Int} {c : Int} (h : Str8 l) : Str8 (stp l c) := by
  rcases stp_cases l c with ⟨m, x, e, e2⟩ | ⟨e, hn⟩
  · rw [e2]
    exact Str8.pre (m := [x]) (by rw [List.append_assoc]; exact e ▸ h)
  · rw [e]
    intro m t q p z
    rcases List.eq_nil_or_concat p with rfl | ⟨p', y, rfl⟩
    · rw [List.append_nil, show m ++ [t, q, t] = (m ++ [t, q]) ++ [t] by rw [List.append_assoc]; rfl] at z
      obtain ⟨z1, z2⟩ := List.append_inj' z rfl
      have z3 : c = t := (List.cons.inj z2).1
      exact hn m q (by rw [z1, z3])
    · rw [List.concat_eq_append, ← List.append_assoc] at z
      obtain ⟨z1, _⟩ := List.append_inj' z rfl
      exact h m t q p' z1
theorem foldl_str : ∀ (ns l : List Int), Str8 l → Str8 (ns.foldl stp l)
  | [], _, h => h
  | _ :: ns, _, h => foldl_str ns _ (stp_str h)
theorem str_nil : Str8 [] := fun m t q p e => by
  have := congrArg List.length e
  simp at this
theorem strk_str (ns : List Int) : Str8 (strk ns) := foldl_str ns [] str_nil
/-- a coat and the one before it again: nothing is left of them -/
theorem stp_there_back {m : List Int} {t q : Int} (h : Str8 (m ++ [t])) : stp (stp (m ++ [t]) q) t = m ++ [t] := by
  rcases stp_cases (m ++ [t]) q with ⟨a, x, e, e2⟩ | ⟨e, _⟩
  · rw [show a ++ [q, x] = (a ++ [q]) ++ [x] by rw [List.append_assoc]; rfl] at e
    obtain ⟨e3, e4⟩ := List.append_inj' e rfl
    have e5 : t = x := (List.cons.inj e4).1
    rw [e2]
    rcases stp_cases (a ++ [q]) t with ⟨b, y, f, _⟩ | ⟨f, _⟩
    · refine absurd ?_ (h b t y [])
      rw [e3, f, List.append_nil, List.append_assoc]
      rfl
    · rw [f, ← e3]
  · rw [e, show m ++ [t] ++ [q] = m ++ [t, q] by rw [List.append_assoc]; rfl]
    exact stp_pop
/-- one strike -/
def Red (a b : List Int) : Prop := ∃ m t q p, a = m ++ [t, q, t] ++ p ∧ b = m ++ [t] ++ p
theorem strk_red {a b : List Int} (h : Red a b) : strk a = strk b := by
  obtain ⟨m, t, q, p, rfl, rfl⟩ := h
  unfold strk
  rw [List.foldl_append, List.foldl_append, List.foldl_append, List.foldl_append]
  show List.foldl stp (stp (stp (stp (List.foldl stp [] m) t) q) t) p = List.foldl stp (stp (List.foldl stp [] m) t) p
  have hs : Str8 (stp (List.foldl stp [] m) t) := stp_str (foldl_str m [] str_nil)
  obtain ⟨k, e⟩ := stp_last (List.foldl stp [] m) t
  rw [e] at hs ⊢
  rw [stp_there_back hs]
theorem strk_of_str : ∀ (ns l : List Int), Str8 (l ++ ns) → ns.foldl stp l = l ++ ns
  | [], l, _ => (List.append_nil l).symm
  | c :: ns, l, h => by
    have e : stp l c = l ++ [c] := by
      rcases stp_cases l c with ⟨m, x, f, _⟩ | ⟨f, _⟩
      · refine absurd ?_ (h m c x ns)
        rw [f, List.append_assoc, List.append_assoc]
        rfl
      · exact f
    show ns.foldl stp (stp l c) = l ++ c :: ns
    rw [e, strk_of_str ns (l ++ [c]) (by rw [List.append_assoc]; exact h), List.append_assoc]
    rfl
theorem strk_id {ns : List Int} (h : Str8 ns) : strk ns = ns := strk_of_str ns [] h
theorem red_inv {α : Type} {f : List Int → α} (hf : ∀ a b, Red a b → f a = f b) : ∀ (ns l : List Int), f (l ++ ns) = f (ns.foldl stp l)
  | [], l => by rw [List.append_nil]; rfl
  | c :: ns, l => by
    show f (l ++ c :: ns) = f (ns.foldl stp (stp l c))
    rw [← red_inv hf ns (stp l c)]
    rcases stp_cases l c with ⟨m, x, e, e2⟩ | ⟨e, _⟩
    · rw [e2, e]
      refine hf _ _ ⟨m, c, x, ns, ?_, rfl⟩
      rw [List.append_assoc, List.append_assoc]
      rfl
    · rw [e, List.append_assoc]
      rfl
theorem Red.rev {a b : List Int} (h : Red a b) : Red a.reverse b.reverse := by
  obtain ⟨m, t, q, p, rfl, rfl⟩ := h
  refine ⟨p.reverse, t, q, m.reverse, ?_, ?_⟩
  · simp
  · simp
theorem Str8.rev {l : List Int} (h : Str8 l) : Str8 l.reverse := fun m t q p e => h p.reverse t q m.reverse (by
  have := congrArg List.reverse e
  simpa using this)
theorem strk_rev (ns : List Int) : strk ns.reverse = (strk ns).reverse := by
  have h := red_inv (f := fun l : List Int => strk l.reverse) (fun a b r => strk_red r.rev) ns []
  exact h.trans (strk_id (strk_str ns).rev)
theorem strk_idem (ns : List Int) : strk (strk ns) = strk ns := strk_id (strk_str ns)
theorem strk_mem {c : Int} (ns : List Int) (h : c ∈ strk ns) : c ∈ ns := by
  have key : ∀ (ns l : List Int), (∀ x ∈ ns.foldl stp l, x ∈ l ∨ x ∈ ns) := by
    intro ns
    induction ns with
    | nil => intro l x hx; exact .inl hx
    | cons d ns ih =>
      intro l x hx
      rcases ih (stp l d) x hx with h | h
      · rcases stp_cases l d with ⟨m, y, e, e2⟩ | ⟨e, _⟩
        · rw [e2] at h
          rw [e]
          refine .inl ?_
          rcases List.mem_append.mp h with h | h
          · exact List.mem_append_left _ h
          · exact List.mem_append_right _ (by rw [List.mem_singleton.mp h]; exact List.mem_cons_self)
        · rw [e] at h
          rcases List.mem_append.mp h with h | h
          · exact .inl h
          · exact .inr (by rw [List.mem_singleton.mp h]; exact List.mem_cons_self)
      · exact .inr (List.mem_cons_of_mem _ h)
  rcases key ns [] c h with h | h
  · cases h
  · exact h
theorem strk_pos {ns : List Int} (h : 1 ≤ ns.length) : 1 ≤ (strk ns).length := by
  rcases List.eq_nil_or_concat ns with rfl | ⟨m, c, rfl⟩
  · exact absurd h (by decide)
  · unfold strk
    rw [List.concat_eq_append, List.foldl_append]
    obtain ⟨k, e⟩ := stp_last (List.foldl stp [] m) c
    show 1 ≤ (stp (List.foldl stp [] m) c).length
    rw [e, List.length_append]
    exact Nat.le_add_left _ _
theorem Row.strk {ns : List Int} (h : Row ns) : Row (strk ns) := ⟨strk_pos h.1, Nat.le_trans (strk_len ns) h.2.1, fun c hc => h.2.2 c (strk_mem ns hc)⟩
theorem Row.rev {ns : List Int} (h : Row ns) : Row ns.reverse := ⟨by rw [List.length_reverse]; exact h.1, by rw [List.length_reverse]; exact h.2.1, fun c hc => h.2.2 c (List.mem_reverse.mp hc)⟩
/-- an open place is a place where can be struck -/
theorem opn_red {ns : List Int} {i : Int} (h : i ∈ opn ns) : ∃ k : Nat, i = 1 + (k : Int) ∧ k + 2 < ns.length ∧ Red ns (ns.take (k + 1) ++ ns.drop (k + 3)) := by
  unfold opn at h
  obtain ⟨k, hk, rfl⟩ := List.mem_map.mp h
  obtain ⟨h1, h2⟩ := List.mem_filter.mp hk
  have h3 := List.mem_range.mp h1
  have h4 : ns[k]? = ns[k + 2]? := of_decide_eq_true h2
  have l2 : k + 2 < ns.length := by omega
  refine ⟨k, rfl, l2, ns.take k, ns[k], ns[k + 1], ns.drop (k + 3), ?_, ?_⟩
  · have e : ns[k + 2] = ns[k] := by
      rw [List.getElem?_eq_getElem (by omega), List.getElem?_eq_getElem l2] at h4
      exact (Option.some.inj h4).symm
    have d0 : ns.drop k = ns[k] :: ns.drop (k + 1) := List.drop_eq_getElem_cons (by omega)
    have d1 : ns.drop (k + 1) = ns[k + 1] :: ns.drop (k + 2) := List.drop_eq_getElem_cons (by omega)
    have d2 : ns.drop (k + 2) = ns[k + 2] :: ns.drop (k + 3) := List.drop_eq_getElem_cons l2
    rw [d2, e] at d1
    rw [d1] at d0
    have := List.take_append_drop k ns
    rw [d0] at this
    rw [List.append_assoc]
    exact this.symm
  · rw [List.take_add_one, List.getElem?_eq_getElem (by omega)]
    rfl
theorem opn_str {ns : List Int} (h : opn ns = []) : Str8 ns := fun m t q p e => by
  have h1 : (List.range (ns.length - 2)).filter (isOpn ns) = [] := List.map_eq_nil_iff.mp h
  have h2 := List.filter_eq_nil_iff.mp h1 m.length (List.mem_range.mpr (by
    rw [e, List.length_append, List.length_append]
    show m.length < m.length + 3 + p.length - 2
    omega))
  refine h2 (decide_eq_true ?_)
  have g : ∀ j, j < 3 → ns[m.length + j]? = [t, q, t][j]? := fun j hj => by
    rw [e, List.append_assoc, List.getElem?_append_right (Nat.le_add_right _ _), Nat.add_sub_cancel_left, List.getElem?_append_left hj]
  exact (g 0 (by decide)).trans (g 2 (by decide)).symm
theorem str_opn {ns : List Int} (h : Str8 ns) : opn ns = [] := by
  cases e : opn ns with
  | nil => rfl
  | cons i r =>
    obtain ⟨k, _, _, m, t, q, p, f, _⟩ := opn_red (ns := ns) (i := i) (by rw [e]; exact List.mem_cons_self)
    exact absurd f (h m t q p)
theorem red_len {a b : List Int} (h : Red a b) : b.length + 2 = a.length := by
  obtain ⟨m, t, q, p, rfl, rfl⟩ := h
  simp only [List.length_append, List.length_cons, List.length_nil]
  omega
theorem red_row {a b : List Int} (h : Red a b) (r : Row a) : Row b := by
  have hl := red_len h
  obtain ⟨m, t, q, p, rfl, rfl⟩ := h
  refine ⟨?_, by have := r.2.1; omega, fun c hc => r.2.2 c ?_⟩
  · simp only [List.length_append, List.length_cons, List.length_nil]
    omega
  · simp only [List.mem_append, List.mem_cons, List.not_mem_nil, or_false] at hc ⊢
    rcases hc with (hc | hc) | hc
    · exact .inl (.inl hc)
    · exact .inl (.inr (.inl hc))
    · exact .inr hc

/-! ### rows joined -/
theorem strk_app (a b : List Int) : strk (a ++ b) = strk (strk a ++ b) := by
  unfold strk
  rw [List.foldl_append, List.foldl_append]
  have h : List.foldl stp [] (List.foldl stp [] a) = List.foldl stp [] a := strk_idem a
  rw [h]
theorem strk_mid (a b : List Int) : strk (a ++ b) = strk (a ++ strk b) :=
  red_inv (f := fun l => strk (a ++ l)) (fun x y ⟨m, t, q, p, ex, ey⟩ => strk_red ⟨a ++ m, t, q, p, by rw [ex]; simp, by rw [ey]; simp⟩) b []
theorem head_stp (c : Int) (l : List Int) (d : Int) : (stp (c :: l) d).head? = some c := by
  rcases stp_cases (c :: l) d with ⟨m, x, e, e2⟩ | ⟨e, _⟩
  · rw [e2]
    cases m with
    | nil => exact (congrArg List.head? e).symm
    | cons y m => exact (congrArg List.head? e).symm
  · rw [e]
    rfl
theorem head_foldl : ∀ (ns : List Int) (c : Int) (l : List Int), (ns.foldl stp (c :: l)).head? = some c
  | [], _, _ => rfl
  | d :: ns, c, l => by
    have h := head_stp c l d
    cases e : stp (c :: l) d with
    | nil => rw [e] at h; cases h
    | cons x r =>
      rw [e] at h
      have ex : x = c := Option.some.inj h
      rw [ex] at e
      show (ns.foldl stp (stp (c :: l) d)).head? = some c
      rw [e]
      exact head_foldl ns c r
theorem strk_head : ∀ ns : List Int, (strk ns).head? = ns.head?
  | [] => rfl
  | c :: ns => head_foldl ns c []
theorem strk_last (ns : List Int) : (strk ns).getLast? = ns.getLast? := by
  rcases List.eq_nil_or_concat ns with rfl | ⟨m, c, rfl⟩
  · rfl
  · unfold strk
    rw [List.concat_eq_append, List.foldl_append]
    obtain ⟨k, e⟩ := stp_last (List.foldl stp [] m) c
    show (stp (List.foldl stp [] m) c).getLast? = _
    rw [e, List.getLast?_concat, List.getLast?_concat]
/-- a row's end and the next row's beginning are one stone -/
theorem glue {a b : List Int} {c : Int} (ha : a.getLast? = some c) (hb : b.head? = some c) : a ++ b.tail = a.dropLast ++ b := by
  rcases List.eq_nil_or_concat a with rfl | ⟨m, x, rfl⟩
  · cases ha
  · rw [List.concat_eq_append] at *
    rw [List.getLast?_concat] at ha
    cases Option.some.inj ha
    cases b with
    | nil => cases hb
    | cons y b =>
      cases Option.some.inj hb
      rw [List.dropLast_concat, List.append_assoc]
      rfl
/-- joining a rested row -/
theorem join_rest {a b : List Int} {c : Int} (ha : a.getLast? = some c) (hb : b.head? = some c) : strk (a ++ (strk b).tail) = strk (a ++ b.tail) := by
  rw [glue ha ((strk_head b).trans hb), glue ha hb, ← strk_mid]
theorem there_back : ∀ (a : List Int) (c : Int), a.getLast? = some c → strk (a.reverse ++ a.tail) = [c]
  | [], _, h => nomatch h
  | [x], c, h => by
    cases Option.some.inj h
    rfl
  | x :: y :: a, c, h => by
    rw [List.getLast?_cons_cons] at h
    rw [← there_back (y :: a) c h]
    exact strk_red ⟨a.reverse, y, x, a, by simp, by simp⟩
theorem str_ix {l : List Int} : Str8 l ↔ ∀ i, i + 2 < l.length → l[i]? ≠ l[i + 2]? := by
  constructor
  · intro h i hi e
    have z := str_opn h
    have : (1 + (i : Int)) ∈ opn l := List.mem_map.mpr ⟨i, List.mem_filter.mpr ⟨List.mem_range.mpr (by omega), decide_eq_true e⟩, rfl⟩
    rw [z] at this
    cases this
  · intro h
    refine opn_str ?_
    have z : (List.range (l.length - 2)).filter (isOpn l) = [] := List.filter_eq_nil_iff.mpr fun i hi e => h i (by have := List.mem_range.mp hi; omega) (of_decide_eq_true e)
    unfold opn
    rw [z]
    rfl
theorem str_mid {x y : List Int} {c : Int} (h1 : Str8 (x ++ [c])) (h2 : Str8 (c :: y)) (h3 : ∀ d, x.getLast? = some d → y.head? = some d → False) : Str8 (x ++ c :: y) := by
  rw [str_ix] at *
  intro i hi e
  rw [List.length_append, List.length_cons] at hi
  by_cases c1 : i + 2 ≤ x.length
  · refine h1 i (by rw [List.length_append]; show i + 2 < x.length + 1; omega) ?_
    have g : ∀ j, j ≤ x.length → (x ++ [c])[j]? = (x ++ c :: y)[j]? := fun j hj => by
      by_cases hj2 : j < x.length
      · rw [List.getElem?_append_left hj2, List.getElem?_append_left hj2]
      · rw [List.getElem?_append_right (by omega), List.getElem?_append_right (by omega), show j - x.length = 0 by omega]
        rfl
    rw [g i (by omega), g (i + 2) c1]
    exact e
  · by_cases c2 : x.length ≤ i
    · refine h2 (i - x.length) (by rw [List.length_cons]; omega) ?_
      rw [List.getElem?_append_right c2, List.getElem?_append_right (by omega), show i + 2 - x.length = i - x.length + 2 by omega] at e
      exact e
    · rw [List.getElem?_append_left (by omega), List.getElem?_append_right (by omega), show i + 2 - x.length = 1 by omega] at e
      have e2 : x.getLast? = y.head? := by
        rw [List.getLast?_eq_getElem?, show x.length - 1 = i by omega, e, List.head?_eq_getElem?]
        rfl
      cases f : y.head? with
      | none =>
        rw [List.head?_eq_none_iff] at f
        subst f
        simp at hi
        omega
      | some d => exact h3 d (e2.trans f) f
/-- how long two rows are alike -/
def lcp : List Int → List Int → Nat
  | a :: as, b :: bs => if a = b then lcp as bs + 1 else 0
  | _, _ => 0
theorem lcp_eq {a b : Int} {as bs : List Int} (h : a = b) : lcp (a :: as) (b :: bs) = lcp as bs + 1 := if_pos h
theorem lcp_ne {a b : Int} {as bs : List Int} (h : ¬ a = b) : lcp (a :: as) (b :: bs) = 0 := if_neg h
theorem lcp_comm : ∀ a b : List Int, lcp a b = lcp b a
  | [], [] => rfl
  | [], _ :: _ => rfl
  | _ :: _, [] => rfl
  | a :: as, b :: bs => by
    unfold lcp
    rw [lcp_comm as bs]
    by_cases h : a = b
    · rw [if_pos h, if_pos h.symm]
    · rw [if_neg h, if_neg (fun z => h z.symm)]
theorem lcp_self : ∀ a : List Int, lcp a a = a.length
  | [] => rfl
  | a :: as => by
    unfold lcp
    rw [if_pos rfl, lcp_self as]
    rfl
theorem lcp_nil (a : List Int) : lcp a [] = 0 := by cases a <;> rfl
theorem lcp_one {c : Int} : ∀ {b : List Int}, b.head? = some c → lcp [c] b = 1
  | [], h => nomatch h
  | x :: b, h => by
    cases Option.some.inj h
    unfold lcp
    rw [if_pos rfl]
    show lcp [] b + 1 = 1
    cases b <;> rfl
/-- the gap of two straight rows that begin alike -/
theorem gap_str : ∀ (a b : List Int) (c : Int), Str8 a → Str8 b → a.head? = some c → b.head? = some c → ((strk (a.reverse ++ b.tail)).length : Int) - 1 = a.length + b.length - 2 * lcp a b
  | [], _, _, _, _, h, _ => nomatch h
  | _ :: _, [], _, _, _, _, h => nomatch h
  | x :: a, y :: b, c, ha, hb, h1, h2 => by
    have ex : x = c := Option.some.inj h1
    have ey : y = c := Option.some.inj h2
    rw [ex] at ha h1 ⊢
    rw [ey] at hb h2 ⊢
    clear ex ey
    have ta : Str8 a := fun m t q p e => ha (c :: m) t q p (by rw [e]; rfl)
    have tb : Str8 b := fun m t q p e => hb (c :: m) t q p (by rw [e]; rfl)
    have el : lcp (c :: a) (c :: b) = lcp a b + 1 := by
      show (if c = c then lcp a b + 1 else 0) = _
      rw [if_pos rfl]
    have base : (∀ d, a.head? = some d → b.head? = some d → False) → lcp a b = 0 → ((strk ((c :: a).reverse ++ (c :: b).tail)).length : Int) - 1 = (c :: a).length + (c :: b).length - 2 * lcp (c :: a) (c :: b) := fun hd hl => by
      have hs : Str8 (a.reverse ++ c :: b) := str_mid (by
        have := ha.rev
        rw [List.reverse_cons] at this
        exact this) hb (fun d h3 h4 => hd d (by rw [List.getLast?_reverse] at h3; exact h3) h4)
      rw [List.reverse_cons, List.append_assoc]
      show ((strk (a.reverse ++ c :: b)).length : Int) - 1 = _
      rw [strk_id hs, el, hl, List.length_append, List.length_reverse, List.length_cons, List.length_cons]
      omega
    cases a with
    | nil => exact base (fun d h => nomatch h) (by cases b <;> rfl)
    | cons d a =>
      cases b with
      | nil => exact base (fun d _ h => nomatch h) rfl
      | cons e b =>
        by_cases hde : d = e
        · subst hde
          have ih := gap_str (d :: a) (d :: b) d ta tb rfl rfl
          have r : strk ((c :: d :: a).reverse ++ (c :: d :: b).tail) = strk ((d :: a).reverse ++ (d :: b).tail) := strk_red ⟨a.reverse, d, c, b, by simp, by simp⟩
          rw [r, el, ih, List.length_cons, List.length_cons, List.length_cons (a := c), List.length_cons (a := c), List.length_cons, List.length_cons]
          omega
        · refine base (fun f h3 h4 => hde ?_) ?_
          · exact (Option.some.inj h3).trans (Option.some.inj h4).symm
          · show (if d = e then lcp a b + 1 else 0) = 0
            rw [if_neg hde]
theorem gap_eq {a b : List Int} {c : Int} (ha : a.head? = some c) (hb : b.head? = some c) : ((strk (a.reverse ++ b.tail)).length : Int) - 1 = (strk a).length + (strk b).length - 2 * lcp (strk a) (strk b) := by
  have hl : a.reverse.getLast? = some c := by rw [List.getLast?_reverse]; exact ha
  rw [← join_rest hl hb, strk_app, strk_rev]
  exact gap_str _ _ c (strk_str a) (strk_str b) ((strk_head a).trans ha) ((strk_head b).trans hb)
theorem Row.last {ns : List Int} (h : Row ns) : ∃ c, ns.getLast? = some c ∧ 0 ≤ c ∧ c ≤ 7 := by
  rcases List.eq_nil_or_concat ns with rfl | ⟨m, c, rfl⟩
  · exact absurd h.1 (by decide)
  · rw [List.concat_eq_append] at *
    exact ⟨c, List.getLast?_concat, h.2.2 c (List.mem_append_right _ List.mem_cons_self)⟩
theorem Row.head {ns : List Int} (h : Row ns) : ∃ c, ns.head? = some c ∧ 0 ≤ c ∧ c ≤ 7 := by
  cases ns with
  | nil => exact absurd h.1 (by decide)
  | cons c r => exact ⟨c, rfl, h.2.2 c List.mem_cons_self⟩
theorem Row.join {a b : List Int} (ha : Row a) (hb : Row b) (h : a.length + b.length ≤ 201) : Row (K.strk (a ++ b.tail)) := by
  have hz : b.tail.length = b.length - 1 := List.length_tail ..
  have h1 := hb.1
  have h2 := ha.1
  have h3 := K.strk_len (a ++ b.tail)
  rw [List.length_append] at h3
  refine ⟨K.strk_pos (by rw [List.length_append]; omega), by omega, fun c hc => ?_⟩
  rcases List.mem_append.mp (K.strk_mem _ hc) with h | h
  · exact ha.2.2 c h
  · exact hb.2.2 c (List.mem_of_mem_tail h)
theorem join_head {a b : List Int} {c : Int} (h : a.head? = some c) : (strk (a ++ b.tail)).head? = some c := by
  rw [strk_head]
  cases a with
  | nil => cases h
  | cons x r => exact h
theorem join_last {a b : List Int} {c d : Int} (ha : a.getLast? = some c) (hb : b.head? = some c) (h : b.getLast? = some d) : (strk (a ++ b.tail)).getLast? = some d := by
  rw [strk_last, glue ha hb]
  rcases List.eq_nil_or_concat b with rfl | ⟨m, x, rfl⟩
  · cases h
  · rw [List.concat_eq_append, List.getLast?_concat] at h
    cases Option.some.inj h
    rw [List.concat_eq_append, ← List.append_assoc, List.getLast?_concat]
theorem rests_join {a b : List Int} {c : Int} (ha : a.getLast? = some c) (hb : b.head? = some c) : strk (strk a ++ (strk b).tail) = strk (a ++ b.tail) := by
  rw [← strk_app, join_rest ha hb]
theorem join3l (a b d : List Int) : strk (strk (a ++ b.tail) ++ d.tail) = strk (a ++ b.tail ++ d.tail) := (strk_app _ _).symm
theorem join3r {a b d : List Int} {c e : Int} (ha : a.getLast? = some c) (hb : b.head? = some c) (hb2 : b.getLast? = some e) (hd : d.head? = some e) : strk (a ++ (strk (b ++ d.tail)).tail) = strk (a ++ b.tail ++ d.tail) := by
  have h : (b ++ d.tail).head? = some c := by
    cases b with
    | nil => cases hb
    | cons x r => exact hb
  rw [join_rest ha h]
  cases b with
  | nil => cases hb
  | cons x r => rw [List.append_assoc]; rfl
theorem join_off {a b : List Int} {c d : Int} (ha : a.getLast? = some c) (hb : b.head? = some c) (hh : a.head? = some d) : strk ((strk a).reverse ++ (strk (a ++ b.tail)).tail) = strk b := by
  have hl : (strk a).reverse.getLast? = some d := by rw [List.getLast?_reverse, strk_head, hh]
  have hy : (a ++ b.tail).head? = some d := by
    cases a with
    | nil => cases hh
    | cons x r => exact hh
  rw [join_rest hl hy, ← strk_rev, ← strk_app]
  have e : a.reverse ++ (a ++ b.tail).tail = (a.reverse ++ a.tail) ++ b.tail := by
    cases a with
    | nil => cases hh
    | cons x r => rw [List.append_assoc]; rfl
  rw [e, strk_app, there_back a c ha]
  cases b with
  | nil => cases hb
  | cons x r =>
    cases Option.some.inj hb
    rfl
theorem join_back {a : List Int} {d : Int} (hh : a.head? = some d) : strk (a ++ a.reverse.tail) = a.take 1 := by
  have h := there_back a.reverse d (by rw [List.getLast?_reverse]; exact hh)
  rw [List.reverse_reverse] at h
  rw [h]
  cases a with
  | nil => cases hh
  | cons x r =>
    cases Option.some.inj hh
    rfl
theorem back_join {a : List Int} {c : Int} (ha : a.getLast? = some c) : strk (a.reverse ++ a.tail) = a.drop (a.length - 1) := by
  rw [there_back a c ha]
  rcases List.eq_nil_or_concat a with rfl | ⟨m, x, rfl⟩
  · cases ha
  · rw [List.concat_eq_append] at *
    rw [List.getLast?_concat] at ha
    cases Option.some.inj ha
    rw [List.length_append, show m.length + [c].length - 1 = m.length from rfl, List.drop_left]
theorem gap_self {a : List Int} {c : Int} (h : a.head? = some c) : ((strk (a.reverse ++ a.tail)).length : Int) - 1 = 0 := by
  rw [gap_eq h h, lcp_self]
  omega
theorem gap_comm {a b : List Int} {c : Int} (ha : a.head? = some c) (hb : b.head? = some c) : ((strk (b.reverse ++ a.tail)).length : Int) - 1 = ((strk (a.reverse ++ b.tail)).length : Int) - 1 := by
  rw [gap_eq ha hb, gap_eq hb ha, lcp_comm]
  omega
theorem gap_first {a : List Int} {c : Int} (ha : a.head? = some c) : ((strk ((a.take 1).reverse ++ a.tail)).length : Int) - 1 = (strk a).length - 1 := by
  cases a with
  | nil => cases ha
  | cons x r => rfl

/-! ### cores -/
def inn (l : List Int) : List Int := l.tail.dropLast
def nxt (l : List Int) : Bool := decide (l.length > 2 ∧ l[1]? = l[l.length - 2]?)
def tcR : Nat → List Int → List Int → List Int × List Int
  | 0, t, l => (t, l)
  | n + 1, t, l => if nxt l = true then tcR n (t ++ (inn l).take 1) (inn l) else (t, l)
theorem inn_len (l : List Int) : (inn l).length = l.length - 2 := by
  unfold inn
  rw [List.length_dropLast, List.length_tail]
  omega
theorem nxt_len {l : List Int} (h : nxt l = true) : l.length > 2 := (of_decide_eq_true h).1
theorem tcR_fuel : ∀ (n m : Nat) (t l : List Int), l.length ≤ n → l.length ≤ m → tcR n t l = tcR m t l
  | 0, 0, _, _, _, _ => rfl
  | 0, m + 1, t, l, h, _ => by
    have e : nxt l = false := by
      cases q : nxt l with
      | false => rfl
      | true => have := nxt_len q; omega
    show (t, l) = if nxt l = true then _ else (t, l)
    rw [e, if_neg Bool.false_ne_true]
  | n + 1, 0, t, l, _, h => by
    have e : nxt l = false := by
      cases q : nxt l with
      | false => rfl
      | true => have := nxt_len q; omega
    show (if nxt l = true then _ else (t, l)) = (t, l)
    rw [e, if_neg Bool.false_ne_true]
  | n + 1, m + 1, t, l, h1, h2 => by
    show (if nxt l = true then tcR n (t ++ (inn l).take 1) (inn l) else (t, l)) = (if nxt l = true then tcR m (t ++ (inn l).take 1) (inn l) else (t, l))
    by_cases e : nxt l = true
    · rw [if_pos e, if_pos e]
      have := nxt_len e
      exact tcR_fuel n m _ _ (by rw [inn_len]; omega) (by rw [inn_len]; omega)
    · rw [if_neg e, if_neg e]
def coreOf (l : List Int) : List Int × List Int := tcR l.length (l.take 1) l
/-- what the loop keeps -/
def TC (l0 t l : List Int) : Prop := tcR l.length t l = coreOf l0
theorem tc_start (l : List Int) : TC l (l.take 1) l := rfl
theorem tc_step {l0 t l : List Int} (h : TC l0 t l) (e : nxt l = true) : TC l0 (t ++ (inn l).take 1) (inn l) := by
  have z := nxt_len e
  have h2 : tcR l.length t l = tcR (l.length - 1) (t ++ (inn l).take 1) (inn l) := by
    rw [show l.length = (l.length - 1) + 1 by omega]
    show (if nxt l = true then _ else _) = _
    rw [if_pos e]
    rfl
  exact (tcR_fuel _ _ _ _ (Nat.le_refl _) (by rw [inn_len]; omega)).trans (h2.symm.trans h)
theorem tc_end {l0 t l : List Int} (h : TC l0 t l) (e : ¬ nxt l = true) : coreOf l0 = (t, l) := by
  rw [← h]
  cases n : l.length with
  | zero => rfl
  | succ n =>
    show (if nxt l = true then _ else (t, l)) = (t, l)
    rw [if_neg e]
/-- a closed straight row, taken off at both ends -/
structure Cl (l0 t l : List Int) : Prop where
  all : t ++ l.tail ++ t.reverse.tail = l0
  mid : ∃ c, t.getLast? = some c ∧ l.head? = some c ∧ l.getLast? = some c
  hd : t.head? = l0.head?
theorem Cl.tst {l0 t l : List Int} (h : Cl l0 t l) (hs : Str8 l0) : Str8 t := by
  have := h.all
  rw [List.append_assoc] at this
  exact Str8.pre (m := l.tail ++ t.reverse.tail) (by rw [this]; exact hs)
theorem Cl.str {l0 t l : List Int} (h : Cl l0 t l) (hs : Str8 l0) : Str8 l := fun m x y p e => by
  obtain ⟨c, h1, h2, _⟩ := h.mid
  have := h.all
  rw [glue h1 h2, e] at this
  exact hs (t.dropLast ++ m) x y (p ++ t.reverse.tail) (by rw [← this]; simp)
theorem cl_len {l0 t l : List Int} (h : Cl l0 t l) (hs : Str8 l0) : l.length ≠ 3 := fun z => by
  obtain ⟨c, _, h2, h3⟩ := h.mid
  have hl := h.str hs
  match l, z, h2, h3, hl with
  | [a, b, d], _, h2, h3, hl =>
    have e1 : a = c := Option.some.inj h2
    have e2 : d = c := Option.some.inj h3
    exact hl [] a b [] (by rw [e1, e2]; rfl)
theorem ends_of {l : List Int} {c : Int} (h2 : l.head? = some c) (h3 : l.getLast? = some c) (z : l.length > 2) : l = c :: (inn l ++ [c]) := by
  cases l with
  | nil => cases h2
  | cons a r =>
    have e1 : a = c := Option.some.inj h2
    subst e1
    have hr : r ≠ [] := fun e => by subst e; exact absurd z (by show ¬ 1 > 2; decide)
    have e3 : r.getLast? = some a := by
      rw [List.getLast?_cons] at h3
      cases q : r.getLast? with
      | none => exact absurd (List.getLast?_eq_none_iff.mp q) hr
      | some y => rw [q] at h3; exact h3
    have e4 := List.dropLast_concat_getLast hr
    rw [List.getLast?_eq_getLast hr] at e3
    rw [Option.some.inj e3] at e4
    show a :: r = a :: (r.dropLast ++ [a])
    rw [e4]
theorem cl_step {l0 t l : List Int} (h : Cl l0 t l) (hs : Str8 l0) (e : nxt l = true) : Cl l0 (t ++ (inn l).take 1) (inn l) := by
  have z := nxt_len e
  have z3 := cl_len h hs
  obtain ⟨c, h1, h2, h3⟩ := h.mid
  have el := ends_of h2 h3 z
  have hlen := inn_len l
  generalize inn l = m at el hlen ⊢
  have hm : 2 ≤ m.length := by omega
  cases m with
  | nil => exact absurd hm (by decide)
  | cons b r =>
    have hb : (b :: r).getLast? = some b := by
      have q := (of_decide_eq_true e).2
      rw [el] at q
      rw [List.getLast?_eq_getElem?]
      have g1 : (c :: (b :: r ++ [c]))[1]? = some b := rfl
      rw [g1] at q
      have g2 : (c :: (b :: r ++ [c]))[(c :: (b :: r ++ [c])).length - 2]? = (b :: r)[(b :: r).length - 1]? := by
        have hl : (c :: (b :: r ++ [c])).length - 2 = ((b :: r).length - 1) + 1 := by
          simp only [List.length_cons, List.length_append, List.length_nil]
          omega
        rw [hl, List.getElem?_cons_succ, List.getElem?_append_left (by simp)]
      rw [g2] at q
      exact q.symm
    have etr : t.reverse = c :: t.reverse.tail := by
      have q : t.reverse.head? = some c := by rw [List.head?_reverse]; exact h1
      cases w : t.reverse with
      | nil => rw [w] at q; cases q
      | cons y s =>
        rw [w] at q
        have e1 : y = c := Option.some.inj q
        rw [e1]
        rfl
    refine ⟨?_, ⟨b, ?_, rfl, hb⟩, ?_⟩
    · have := h.all
      rw [el] at this
      rw [← this]
      show t ++ [b] ++ r ++ (t ++ [b]).reverse.tail = t ++ (b :: r ++ [c]) ++ t.reverse.tail
      rw [List.reverse_append]
      show t ++ [b] ++ r ++ t.reverse = _
      rw [etr]
      simp
    · show (t ++ [b]).getLast? = some b
      rw [List.getLast?_concat]
    · cases t with
      | nil => cases h1
      | cons y s => exact h.hd
theorem cl_start {l : List Int} {c : Int} (h1 : l.head? = some c) (h2 : l.getLast? = some c) : Cl l (l.take 1) l := by
  cases l with
  | nil => cases h1
  | cons a r =>
    have e1 : a = c := Option.some.inj h1
    subst e1
    refine ⟨?_, ⟨a, rfl, rfl, h2⟩, rfl⟩
    show [a] ++ r ++ [] = a :: r
    rw [List.append_nil]
    rfl
/-- tail and core of a closed straight row -/
theorem core_of {l : List Int} {c : Int} (hs : Str8 l) (h1 : l.head? = some c) (h2 : l.getLast? = some c) : Cl l (coreOf l).1 (coreOf l).2 ∧ ¬ nxt (coreOf l).2 = true := by
  have key : ∀ (n : Nat) (t k : List Int), k.length ≤ n → Cl l t k → Cl l (tcR n t k).1 (tcR n t k).2 ∧ ¬ nxt (tcR n t k).2 = true := by
    intro n
    induction n with
    | zero =>
      intro t k hk hc
      refine ⟨hc, fun e => ?_⟩
      have z : k.length > 2 := nxt_len e
      omega
    | succ n ih =>
      intro t k hk hc
      show Cl l (if nxt k = true then tcR n (t ++ (inn k).take 1) (inn k) else (t, k)).1 (if nxt k = true then tcR n (t ++ (inn k).take 1) (inn k) else (t, k)).2 ∧ ¬ nxt (if nxt k = true then tcR n (t ++ (inn k).take 1) (inn k) else (t, k)).2 = true
      by_cases e : nxt k = true
      · rw [if_pos e]
        exact ih _ _ (by rw [inn_len]; have := nxt_len e; omega) (cl_step hc hs e)
      · rw [if_neg e]
        exact ⟨hc, e⟩
  exact key _ _ _ (Nat.le_refl _) (cl_start h1 h2)
theorem core_id {l : List Int} (h : ¬ nxt l = true) : coreOf l = (l.take 1, l) := tc_end (tc_start l) h

/-! ### tables, plainly -/
def okAt (ns : List Int) (m : Int) (i : Nat) : Prop := ∀ c, ns[i]? = some c → (0 ≤ c ∧ c < m) ∧ ∀ d, 0 < i → ns[i - 1]? = some d → d < c
def rowOf (rows : List (List Int)) (p : Nat) : List Int := rows.getD p []
/-- what made_table asks of rows -/
structure GoodT (rows : List (List Int)) : Prop where
  n1 : 1 ≤ rows.length
  n8 : rows.length ≤ 8
  asc : ∀ row ∈ rows, ∀ i, okAt row (rows.length : Nat) i
  sym : ∀ (p : Nat) (row : List Int), rows[p]? = some row → ∀ s ∈ row, ∃ row', rows[s.toNat]? = some row' ∧ ((p : Nat) : Int) ∈ row'
theorem GoodT.lt {rows : List (List Int)} (g : GoodT rows) {row : List Int} (hr : row ∈ rows) {c : Int} (hc : c ∈ row) : 0 ≤ c ∧ c < (rows.length : Nat) := by
  obtain ⟨i, hi, rfl⟩ := List.getElem_of_mem hc
  exact (g.asc row hr i row[i] (List.getElem?_eq_getElem hi)).1
theorem row_of {rows : List (List Int)} {p : Nat} {row : List Int} (h : rows[p]? = some row) : rowOf rows p = row := by
  unfold rowOf
  rw [List.getD_eq_getElem?_getD, h]
  rfl
theorem inV_int {p : Int} : ∀ {ns : List Int}, p ∈ ns → inV (.int p) (ns.map V.int) = true
  | n :: ns, h => by
    show (eqV (.int n) (.int p) || inV (.int p) (ns.map V.int)) = true
    rcases List.mem_cons.mp h with e | e
    · subst e
      have : eqV (.int p) (.int p) = true := by simp [eqV]
      rw [this]; rfl
    · rw [inV_int e, Bool.or_true]
theorem flat_ints : ∀ ns : List Int, (ns.map V.int).all flatV = true
  | [] => rfl
  | n :: ns => by
    rw [List.map_cons, List.all_cons, flat_ints ns]
    rfl
theorem all_true : ∀ n : Nat, (List.replicate n true).all id = true
  | 0 => rfl
  | n + 1 => by rw [List.replicate_succ, List.all_cons, all_true n]; rfl
theorem all_bl {b : Bool} : ∀ {xs : List V}, (∀ (i : Nat) (v : V), xs[i]? = some v → v = .bl b) → xs = (List.replicate xs.length b).map V.bl
  | [], _ => rfl
  | x :: xs, h => by
    rw [List.length_cons, List.replicate_succ, List.map_cons, ← all_bl (xs := xs) fun i v e => h (i + 1) v e, h 0 x rfl]
theorem asc_get {row : List Int} {m : Int} (h : ∀ i, okAt row m i) : ∀ (i : Nat) (c : Int), row[i]? = some c → (i : Int) ≤ c
  | 0, c, e => (h 0 c e).1.1
  | i + 1, c, e => by
    have hi := (List.getElem?_eq_some_iff.mp e).1
    have h1 := asc_get h i (row[i]'(by omega)) (List.getElem?_eq_getElem (by omega))
    have h2 := (h (i + 1) c e).2 (row[i]'(by omega)) (by omega) (List.getElem?_eq_getElem (by omega))
    omega
theorem asc_len {rows : List (List Int)} (g : GoodT rows) {row : List Int} (hr : row ∈ rows) : row.length ≤ 8 := by
  cases h : row.length with
  | zero => omega
  | succ k =>
    have h1 := asc_get (g.asc row hr) k (row[k]'(by omega)) (List.getElem?_eq_getElem (by omega))
    have h2 := (g.asc row hr k (row[k]'(by omega)) (List.getElem?_eq_getElem (by omega))).1.2
    have := g.n8
    omega
def dblRow (row : List Int) (side : Int) : List Int := row.map fun s => 2 * s + 1 - side
def dbl (rows : List (List Int)) : List (List Int) := rows.flatMap fun row => [dblRow row 0, dblRow row 1]
theorem dbl_len : ∀ rows : List (List Int), (dbl rows).length = 2 * rows.length
  | [] => rfl
  | r :: rows => by
    have := dbl_len rows
    unfold dbl at *
    rw [List.flatMap_cons, List.length_append, this]
    show 2 + _ = 2 * (rows.length + 1)
    omega
theorem dbl_take {rows : List (List Int)} {i : Nat} {row : List Int} (h : rows[i]? = some row) : dbl (rows.take (i + 1)) = dbl (rows.take i) ++ [dblRow row 0] ++ [dblRow row 1] := by
  unfold dbl
  rw [List.take_add_one, h, List.flatMap_append, List.append_assoc]
  rfl
/-! ### even steps -/
/-- two steps from p to q -/
def Two (rows : List (List Int)) (p q : Int) : Prop := ∃ s, s ∈ rowOf rows p.toNat ∧ q ∈ rowOf rows s.toNat
inductive RchI (rows : List (List Int)) (q : Int) : Int → Prop
  | refl : RchI rows q q
  | head {p m : Int} : Two rows p m → RchI rows q m → RchI rows q p
/-- even steps lead from p to q -/
def Rch (rows : List (List Int)) (p q : Int) : Prop := RchI rows q p
theorem Rch.refl {rows : List (List Int)} {p : Int} : Rch rows p p := RchI.refl
theorem Rch.step {rows : List (List Int)} {p m q : Int} (h : Rch rows p m) (t : Two rows m q) : Rch rows p q := by
  unfold Rch at *
  induction h with
  | refl => exact .head t .refl
  | head a _ ih => exact .head a ih
theorem Rch.tr {rows : List (List Int)} {p m q : Int} (h : Rch rows p m) (t : Rch rows m q) : Rch rows p q := by
  unfold Rch at *
  induction h with
  | refl => exact t
  | head a _ ih => exact .head a ih
theorem inV_dec {p : Int} : ∀ {ns : List Int}, inV (.int p) (ns.map V.int) = decide (p ∈ ns)
  | [] => by simp [inV]
  | n :: ns => by
    by_cases h : p ∈ n :: ns
    · rw [inV_int h, decide_eq_true h]
    · rw [decide_eq_false h]
      show (eqV (.int n) (.int p) || inV (.int p) (ns.map V.int)) = false
      rw [inV_dec (ns := ns), decide_eq_false (fun z => h (List.mem_cons_of_mem _ z)), Bool.or_false]
      simp only [eqV]
      have : ¬ n = p := fun z => h (by rw [z]; exact List.mem_cons_self)
      simp [this]
theorem nodup_len : ∀ (n : Nat) (es : List Int), es.Nodup → (∀ e ∈ es, 0 ≤ e ∧ e < (n : Nat)) → es.length ≤ n
  | 0, [], _, _ => Nat.le_refl _
  | 0, e :: es, _, h => by have := h e List.mem_cons_self; omega
  | n + 1, es, hn, h => by
    have h1 := nodup_len n (es.erase (n : Nat)) (hn.erase _) fun e he => by
      have := (hn.mem_erase_iff).mp he
      have := h e this.2
      omega
    by_cases hm : ((n : Nat) : Int) ∈ es
    · rw [List.length_erase_of_mem hm] at h1
      omega
    · rw [List.erase_of_not_mem hm] at h1
      omega
def twos (rows : List (List Int)) (row : List Int) : List Int := row.flatMap fun s => rowOf rows s.toNat
theorem mem_twos {rows : List (List Int)} {p q : Int} : q ∈ twos rows (rowOf rows p.toNat) ↔ Two rows p q := by
  unfold twos Two
  rw [List.mem_flatMap]
theorem twos_take {rows : List (List Int)} {row : List Int} {i : Nat} (h : i < row.length) : twos rows (row.take (i + 1)) = twos rows (row.take i) ++ rowOf rows row[i].toNat := by
  unfold twos
  rw [List.take_add_one, List.getElem?_eq_getElem h, List.flatMap_append]
  simp
theorem two_lt {rows : List (List Int)} (g : GoodT rows) {p q : Int} (h : Two rows p q) : 0 ≤ q ∧ q < (rows.length : Nat) := by
  obtain ⟨s, _, hq⟩ := h
  unfold rowOf at hq
  rw [List.getD_eq_getElem?_getD] at hq
  cases e : rows[s.toNat]? with
  | none => rw [e] at hq; cases hq
  | some row =>
    rw [e] at hq
    exact g.lt (List.mem_of_getElem? e) hq
theorem rch_lt {rows : List (List Int)} (g : GoodT rows) {p q : Int} (hp : 0 ≤ p ∧ p < (rows.length : Nat)) (h : Rch rows p q) : 0 ≤ q ∧ q < (rows.length : Nat) := by
  unfold Rch at h
  induction h with
  | refl => exact hp
  | head a _ ih => exact ih (two_lt g a)
theorem closed_rch {rows : List (List Int)} {p : Int} {es : List Int} (hp : p ∈ es) (hc : ∀ e ∈ es, ∀ q, Two rows e q → q ∈ es) {q : Int} (h : Rch rows p q) : q ∈ es := by
  unfold Rch at h
  induction h with
  | refl => exact hp
  | head a _ ih => exact ih (hc _ hp _ a)
theorem twos_len {rows : List (List Int)} (g : GoodT rows) : ∀ row : List Int, (twos rows row).length ≤ 8 * row.length
  | [] => Nat.le_refl _
  | s :: row => by
    have := twos_len g row
    unfold twos at *
    rw [List.flatMap_cons, List.length_append, List.length_cons]
    have h2 : (rowOf rows s.toNat).length ≤ 8 := by
      unfold rowOf
      rw [List.getD_eq_getElem?_getD]
      cases e : rows[s.toNat]? with
      | none => exact Nat.zero_le _
      | some row => exact asc_len g (List.mem_of_getElem? e)
    omega
theorem snocV {xs : List Int} {c : Int} : (xs ++ [c]).map V.int = xs.map V.int ++ [V.int c] := List.map_append
theorem nodup1 {α : Type} (x : α) : [x].Nodup := by simp
/-- the least coat that even steps lead to -/
def Lst (rows : List (List Int)) (p m : Int) : Prop := Rch rows p m ∧ ∀ q, Rch rows p q → m ≤ q
theorem Lst.one {rows : List (List Int)} {p m m' : Int} (h : Lst rows p m) (h' : Lst rows p m') : m = m' := by
  have := h.2 _ h'.1
  have := h'.2 _ h.1
  omega
theorem lots_one {rows : List (List Int)} {ms ms' : List Int} (hl : ms.length = ms'.length) (h : ∀ (i : Nat) m, ms[i]? = some m → Lst rows (i : Nat) m) (h' : ∀ (i : Nat) m, ms'[i]? = some m → Lst rows (i : Nat) m) : ms = ms' :=
  List.ext_getElem hl fun i h1 h2 => (h i _ (List.getElem?_eq_getElem h1)).one (h' i _ (List.getElem?_eq_getElem h2))
theorem ints_ex {P : Nat → Int → Prop} : ∀ {xs : List V} (k : Nat), (∀ (i : Nat) (v : V), xs[i]? = some v → ∃ m, v = .int m ∧ P (k + i) m) → ∃ ms : List Int, xs = ms.map V.int ∧ ∀ (i : Nat) (m : Int), ms[i]? = some m → P (k + i) m
  | [], _, _ => ⟨[], rfl, fun i m e => by simp at e⟩
  | x :: xs, k, h => by
    obtain ⟨ms, e, hm⟩ := ints_ex (xs := xs) (P := P) (k + 1) fun i v e => by
      rw [show k + 1 + i = k + (i + 1) by omega]
      exact h (i + 1) v e
    obtain ⟨m, rfl, hp⟩ := h 0 x rfl
    refine ⟨m :: ms, by rw [e]; rfl, fun i z hz => ?_⟩
    cases i with
    | zero => cases Option.some.inj hz; exact hp
    | succ i =>
      have := hm i z hz
      rw [show k + 1 + i = k + (i + 1) by omega] at this
      exact this
/-! rounds -/
def RN (rows : List (List Int)) : Nat → Int → Int → Prop
  | 0, p, q => p = q
  | k + 1, p, q => RN rows k p q ∨ ∃ r, Two rows p r ∧ RN rows k r q
theorem RN.up {rows : List (List Int)} {p q : Int} : ∀ k, RN rows 0 p q → RN rows k p q
  | 0, h => h
  | k + 1, h => .inl (RN.up k h)
open Classical in
noncomputable def cnt (rows : List (List Int)) (q : Int) (k n : Nat) : Nat := ((List.range n).filter fun (p : Nat) => decide (RN rows k (p : Int) q)).length
open Classical in
theorem filt_le {n : Nat} {f g : Nat → Bool} (h : ∀ p, p < n → f p = true → g p = true) : ((List.range n).filter f).length ≤ ((List.range n).filter g).length ∧ ((∃ p, p < n ∧ g p = true ∧ f p = false) → ((List.range n).filter f).length + 1 ≤ ((List.range n).filter g).length) := by
  induction n with
  | zero => exact ⟨Nat.le_refl _, fun ⟨p, hp, _⟩ => absurd hp (by omega)⟩
  | succ n ih =>
    obtain ⟨i1, i2⟩ := ih fun p hp => h p (by omega)
    have hn := h n (by omega)
    rw [List.range_succ, List.filter_append, List.filter_append, List.length_append, List.length_append]
    have a1 : ([n].filter f).length = if f n = true then 1 else 0 := by
      rw [List.filter_cons]; split <;> rfl
    have a2 : ([n].filter g).length = if g n = true then 1 else 0 := by
      rw [List.filter_cons]; split <;> rfl
    rw [a1, a2]
    refine ⟨?_, fun ⟨p, hp, h1, h2⟩ => ?_⟩
    · by_cases c : f n = true
      · rw [if_pos c, if_pos (hn c)]; omega
      · rw [if_neg c]; omega
    · by_cases e : p = n
      · subst e
        rw [if_pos h1, h2, if_neg (by decide)]; omega
      · have := i2 ⟨p, by omega, h1, h2⟩
        by_cases c : f n = true
        · rw [if_pos c, if_pos (hn c)]; omega
        · rw [if_neg c]; omega
open Classical in
theorem rn_stable {rows : List (List Int)} (g : GoodT rows) {q : Int} (hq : 0 ≤ q ∧ q < (rows.length : Nat)) : ∀ k, (k + 1 ≤ cnt rows q k rows.length) ∨ ∀ p : Int, 0 ≤ p → p < (rows.length : Nat) → RN rows (k + 1) p q → RN rows k p q
  | 0 => by
    left
    have h := (filt_le (n := rows.length) (f := fun _ => false) (g := fun p => decide (RN rows 0 (p : Int) q)) fun p _ z => by cases z).2 ⟨q.toNat, by omega, decide_eq_true (show ((q.toNat : Nat) : Int) = q by omega), rfl⟩
    unfold cnt
    omega
  | k + 1 => by
    rcases rn_stable g hq k with h | h
    · by_cases c : ∀ p : Int, 0 ≤ p → p < (rows.length : Nat) → RN rows (k + 1) p q → RN rows k p q
      · right
        intro p h0 h1 hr
        rcases hr with hr | ⟨r, ht, hr⟩
        · exact hr
        · have := two_lt g ht
          exact .inr ⟨r, ht, c r this.1 this.2 hr⟩
      · left
        obtain ⟨p, hp⟩ := Classical.not_forall.mp c
        have hp1 : 0 ≤ p := Classical.byContradiction fun z => hp fun z2 => absurd z2 z
        have hp2 : p < (rows.length : Nat) := Classical.byContradiction fun z => hp fun _ z2 => absurd z2 z
        have hp3 : RN rows (k + 1) p q := Classical.byContradiction fun z => hp fun _ _ z2 => absurd z2 z
        have hp4 : ¬ RN rows k p q := fun z => hp fun _ _ _ => z
        have e : ((p.toNat : Nat) : Int) = p := by omega
        have h2 := (filt_le (n := rows.length) (f := fun p => decide (RN rows k (p : Int) q)) (g := fun p => decide (RN rows (k + 1) (p : Int) q)) fun p _ z => decide_eq_true (.inl (of_decide_eq_true z))).2 ⟨p.toNat, by omega, decide_eq_true (by rw [e]; exact hp3), decide_eq_false (by rw [e]; exact hp4)⟩
        unfold cnt at *
        omega
    · right
      intro p h0 h1 hr
      rcases hr with hr | ⟨r, ht, hr⟩
      · exact hr
      · have := two_lt g ht
        exact .inr ⟨r, ht, h r this.1 this.2 hr⟩
theorem rch_rn {rows : List (List Int)} (g : GoodT rows) {p q : Int} (hp : 0 ≤ p ∧ p < (rows.length : Nat)) (h : Rch rows p q) : RN rows rows.length p q := by
  have hq := rch_lt g hp h
  have st : ∀ p : Int, 0 ≤ p → p < (rows.length : Nat) → RN rows (rows.length + 1) p q → RN rows rows.length p q := by
    rcases rn_stable g hq rows.length with h | h
    · have : cnt rows q rows.length rows.length ≤ rows.length := by
        unfold cnt
        refine Nat.le_trans (List.length_filter_le ..) ?_
        rw [List.length_range]
        exact Nat.le_refl _
      omega
    · exact h
  unfold Rch at h
  induction h with
  | refl => exact RN.up _ rfl
  | head a _ ih => exact st _ hp.1 hp.2 (.inr ⟨_, a, ih (two_lt g a)⟩)
/-- what stands behind k rounds, in the next one behind p coats and at p behind R -/
structure Rnd (rows : List (List Int)) (k p : Nat) (R : List Int) (F : List Int) : Prop where
  len : F.length = rows.length
  ins : ∀ (i : Nat) m, F[i]? = some m → Rch rows (i : Nat) m
  dn : ∀ (i : Nat) m, F[i]? = some m → ∀ q, RN rows k (i : Nat) q → m ≤ q
  fst : ∀ (i : Nat), i < p → ∀ m, F[i]? = some m → ∀ q, RN rows (k + 1) (i : Nat) q → m ≤ q
  at_ : ∀ r ∈ R, ∀ m, F[p]? = some m → ∀ q, RN rows k r q → m ≤ q
theorem Rnd.upd {rows : List (List Int)} {k p : Nat} {R F : List Int} {x y r : Int} (h : Rnd rows k p R F) (hx : F[p]? = some x) (hy : F[r.toNat]? = some y) (h0 : 0 ≤ r) (ht : Two rows (p : Nat) r) {z : Int} (hz : (z = x ∨ z = y) ∧ z ≤ x ∧ z ≤ y) : Rnd rows k p (R ++ [r]) (F.set p z) := by
  have hp := (List.getElem?_eq_some_iff.mp hx).1
  have hr : ((r.toNat : Nat) : Int) = r := by omega
  have key : ∀ (i : Nat) m, (F.set p z)[i]? = some m → (i = p ∧ m = z) ∨ (i ≠ p ∧ F[i]? = some m) := fun i m e => by
    by_cases c : i = p
    · subst c
      rw [List.getElem?_set_self hp] at e
      exact .inl ⟨rfl, (Option.some.inj e).symm⟩
    · rw [List.getElem?_set_ne (Ne.symm c)] at e
      exact .inr ⟨c, e⟩
  refine ⟨by rw [List.length_set]; exact h.len, fun i m e => ?_, fun i m e q hq => ?_, fun i hi m e q hq => ?_, fun s hs m e q hq => ?_⟩
  · rcases key i m e with ⟨rfl, rfl⟩ | ⟨_, e⟩
    · rcases hz.1 with rfl | rfl
      · exact h.ins _ _ hx
      · have := h.ins _ _ hy
        rw [hr] at this
        exact RchI.head ht this
    · exact h.ins _ _ e
  · rcases key i m e with ⟨rfl, rfl⟩ | ⟨_, e⟩
    · exact Int.le_trans hz.2.1 (h.dn _ _ hx q hq)
    · exact h.dn _ _ e q hq
  · rcases key i m e with ⟨rfl, rfl⟩ | ⟨_, e⟩
    · exact absurd hi (by omega)
    · exact h.fst i hi _ e q hq
  · rcases key p m e with ⟨_, rfl⟩ | ⟨c, _⟩
    · rcases List.mem_append.mp hs with hs | hs
      · exact Int.le_trans hz.2.1 (h.at_ s hs _ hx q hq)
      · rw [List.mem_singleton.mp hs] at hq
        refine Int.le_trans hz.2.2 (h.dn _ _ hy q ?_)
        rw [hr]
        exact hq
    · exact absurd rfl c
theorem Rnd.nextP {rows : List (List Int)} {k p : Nat} {F : List Int} (h : Rnd rows k p (twos rows (rowOf rows p)) F) : Rnd rows k (p + 1) [] F := by
  refine ⟨h.len, h.ins, h.dn, fun i hi m e q hq => ?_, fun r hr => by cases hr⟩
  by_cases c : i < p
  · exact h.fst i c m e q hq
  · obtain rfl : i = p := by omega
    rcases hq with hq | ⟨r, ht, hq⟩
    · exact h.dn _ _ e q hq
    · refine h.at_ r ?_ m e q hq
      have := mem_twos.mpr ht
      rw [Int.toNat_natCast] at this
      exact this
theorem Rnd.nextK {rows : List (List Int)} {k : Nat} {F : List Int} (h : Rnd rows k rows.length [] F) : Rnd rows (k + 1) 0 [] F :=
  ⟨h.len, h.ins, fun i m e q hq => h.fst i (by have := (List.getElem?_eq_some_iff.mp e).1; have := h.len; omega) m e q hq, fun i hi => absurd hi (by omega), fun r hr => by cases hr⟩
theorem Rnd.fin {rows : List (List Int)} (g : GoodT rows) {F : List Int} (h : Rnd rows rows.length 0 [] F) : ∀ (i : Nat) m, F[i]? = some m → Lst rows (i : Nat) m := fun i m e => by
  have hi := (List.getElem?_eq_some_iff.mp e).1
  have := h.len
  exact ⟨h.ins i m e, fun q hq => h.dn i m e q (rch_rn g (by omega) hq)⟩
theorem Rnd.start {rows : List (List Int)} : Rnd rows 0 0 [] ((List.range rows.length).map Int.ofNat) := by
  have key : ∀ (i : Nat) (m : Int), ((List.range rows.length).map Int.ofNat)[i]? = some m → m = (i : Nat) := fun i m e => by
    rw [List.getElem?_map] at e
    cases c : (List.range rows.length)[i]? with
    | none => rw [c] at e; cases e
    | some x =>
      rw [c] at e
      obtain ⟨hi, hx⟩ := List.getElem?_eq_some_iff.mp c
      rw [List.getElem_range] at hx
      cases Option.some.inj e
      rw [← hx]
      rfl
  refine ⟨by rw [List.length_map, List.length_range], fun i m e => ?_, fun i m e q hq => ?_, fun i hi => absurd hi (by omega), fun r hr => by cases hr⟩
  · rw [key i m e]; exact .refl
  · rw [key i m e]
    have : ((i : Nat) : Int) = q := hq
    omega
/-! ### a drawn table -/
def addL (R : Nat → List Int) (i : Nat) (c : Int) : Nat → List Int := fun k => if k = i then R k ++ [c] else R k
structure Dra (many : Nat) (R : Nat → List Int) (p s : Nat) : Prop where
  nd : ∀ i, (R i).Nodup
  lt : ∀ i, ∀ c ∈ R i, 0 ≤ c ∧ c < (many : Nat)
  sym : ∀ i j : Nat, i < many → j < many → ((j : Nat) : Int) ∈ R i → ((i : Nat) : Int) ∈ R j
  old : ∀ i j : Nat, i ≤ j → ((j : Nat) : Int) ∈ R i → i < p ∨ (i = p ∧ j < s)
theorem Dra.skip {many p s : Nat} {R : Nat → List Int} (h : Dra many R p s) : Dra many R p (s + 1) :=
  ⟨h.nd, h.lt, h.sym, fun i j hij hm => by have := h.old i j hij hm; omega⟩
theorem Dra.next {many p s : Nat} {R : Nat → List Int} (h : Dra many R p s) : Dra many R (p + 1) (p + 1) :=
  ⟨h.nd, h.lt, h.sym, fun i j hij hm => by have := h.old i j hij hm; omega⟩
theorem mem_addL {R : Nat → List Int} {i k : Nat} {c d : Int} : d ∈ addL R i c k ↔ d ∈ R k ∨ (k = i ∧ d = c) := by
  unfold addL
  by_cases h : k = i
  · rw [if_pos h, List.mem_append, List.mem_singleton]
    exact ⟨fun z => z.imp id fun e => ⟨h, e⟩, fun z => z.imp id fun e => e.2⟩
  · rw [if_neg h]
    exact ⟨.inl, fun z => z.elim id fun e => absurd e.1 h⟩
theorem nd_addL {R : Nat → List Int} {i : Nat} {c : Int} (h : ∀ k, (R k).Nodup) (hc : c ∉ R i) : ∀ k, (addL R i c k).Nodup := fun k => by
  unfold addL
  by_cases e : k = i
  · rw [if_pos e]
    refine List.nodup_append.mpr ⟨h k, nodup1 _, fun a ha b hb => ?_⟩
    rw [List.mem_singleton.mp hb]
    intro z
    rw [z, e] at ha
    exact hc ha
  · rw [if_neg e]
    exact h k
theorem Dra.self {many p : Nat} {R : Nat → List Int} (h : Dra many R p p) (hp : p < many) : Dra many (addL R p (p : Nat)) p (p + 1) := by
  refine ⟨nd_addL h.nd fun z => ?_, fun i c hc => ?_, fun i j hi hj hm => ?_, fun i j hij hm => ?_⟩
  · have := h.old p p (Nat.le_refl _) z
    omega
  · rcases mem_addL.mp hc with hc | ⟨_, rfl⟩
    · exact h.lt i c hc
    · omega
  · rcases mem_addL.mp hm with hm | ⟨h1, h2⟩
    · exact mem_addL.mpr (.inl (h.sym i j hi hj hm))
    · have : j = p := by omega
      subst h1
      subst this
      exact mem_addL.mpr (.inr ⟨rfl, rfl⟩)
  · rcases mem_addL.mp hm with hm | ⟨h1, h2⟩
    · have := h.old i j hij hm
      omega
    · omega
theorem Dra.two {many p s : Nat} {R : Nat → List Int} (h : Dra many R p s) (hps : p < s) (hs : s < many) : Dra many (addL (addL R p (s : Nat)) s (p : Nat)) p (s + 1) := by
  have n1 : ((s : Nat) : Int) ∉ R p := fun z => by
    have := h.old p s (Nat.le_of_lt hps) z
    omega
  have n2 : ((p : Nat) : Int) ∉ R s := fun z => n1 (h.sym s p hs (by omega) z)
  refine ⟨nd_addL (nd_addL h.nd n1) fun z => ?_, fun i c hc => ?_, fun i j hi hj hm => ?_, fun i j hij hm => ?_⟩
  · rcases mem_addL.mp z with z | ⟨e, _⟩
    · exact n2 z
    · omega
  · rcases mem_addL.mp hc with hc | ⟨_, rfl⟩
    · rcases mem_addL.mp hc with hc | ⟨_, rfl⟩
      · exact h.lt i c hc
      · omega
    · omega
  · rcases mem_addL.mp hm with hm | ⟨h1, h2⟩
    · rcases mem_addL.mp hm with hm | ⟨h1, h2⟩
      · exact mem_addL.mpr (.inl (mem_addL.mpr (.inl (h.sym i j hi hj hm))))
      · have : j = s := by omega
        subst h1
        subst this
        exact mem_addL.mpr (.inr ⟨rfl, rfl⟩)
    · have : j = p := by omega
      subst h1
      subst this
      exact mem_addL.mpr (.inl (mem_addL.mpr (.inr ⟨rfl, rfl⟩)))
  · rcases mem_addL.mp hm with hm | ⟨h1, h2⟩
    · rcases mem_addL.mp hm with hm | ⟨h1, h2⟩
      · have := h.old i j hij hm
        omega
      · omega
    · omega
theorem asc_ok {row : List Int} {m : Int} (hp : row.Pairwise (· ≤ ·)) (hn : row.Nodup) (hl : ∀ c ∈ row, 0 ≤ c ∧ c < m) : ∀ i, okAt row m i := fun i c hc => by
  obtain ⟨hi, rfl⟩ := List.getElem?_eq_some_iff.mp hc
  refine ⟨hl _ (List.getElem_mem hi), fun d h0 hd => ?_⟩
  obtain ⟨hj, rfl⟩ := List.getElem?_eq_some_iff.mp hd
  have h1 := (List.pairwise_iff_getElem.mp hp) (i - 1) i hj hi (by omega)
  have h2 := (List.pairwise_iff_getElem.mp hn) (i - 1) i hj hi (by omega)
  have : ¬ row[i - 1] = row[i] := h2
  have h3 : row[i - 1] ≤ row[i] := h1
  omega
theorem Dra.good {many p s : Nat} {R : Nat → List Int} (h : Dra many R p s) (h1 : 1 ≤ many) (h8 : many ≤ 8) {rows : List (List Int)} (hl : rows.length = many) (hr : ∀ (i : Nat) row, rows[i]? = some row → row.Perm (R i) ∧ row.Pairwise (· ≤ ·)) : GoodT rows := by
  refine ⟨by omega, by omega, fun row hrow => ?_, fun q row hq s hs => ?_⟩
  · obtain ⟨i, hi, rfl⟩ := List.getElem_of_mem hrow
    obtain ⟨hp, hw⟩ := hr i _ (List.getElem?_eq_getElem hi)
    rw [hl]
    exact asc_ok hw (hp.nodup_iff.mpr (h.nd i)) fun c hc => h.lt i c (hp.mem_iff.mp hc)
  · obtain ⟨hp, _⟩ := hr q row hq
    have hs2 := hp.mem_iff.mp hs
    have hlt := h.lt q s hs2
    have hq2 := (List.getElem?_eq_some_iff.mp hq).1
    have e : ((s.toNat : Nat) : Int) = s := by omega
    rw [← e] at hs2
    have := h.sym q s.toNat (by omega) (by omega) hs2
    have hi : s.toNat < rows.length := by omega
    refine ⟨rows[s.toNat], List.getElem?_eq_getElem hi, ?_⟩
    exact (hr s.toNat _ (List.getElem?_eq_getElem hi)).1.mem_iff.mpr this
structure HB (D : Addr) (bs : List Addr) (R : Nat → List Int) (H : Hp) : Prop where
  d : H D = some (.lst (bs.map V.ref))
  at_ : ∀ (i : Nat) b, bs[i]? = some b → H b = some (.lst ((R i).map V.int))
theorem HB.app {D b : Addr} {bs : List Addr} {R : Nat → List Int} {H : Hp} {i : Nat} {c : Int} (h : HB D bs R H) (nd : bs.Nodup) (nD : D ∉ bs) (hi : bs[i]? = some b) : HB D bs (addL R i c) (upd H b (.lst ((R i).map V.int ++ [V.int c]))) := by
  refine ⟨?_, fun j b' hj => ?_⟩
  · have hm := List.mem_of_getElem? hi
    rw [upd_ne (fun z => nD (by rw [z]; exact hm))]
    exact h.d
  · by_cases e : j = i
    · subst e
      rw [hi] at hj
      cases Option.some.inj hj
      rw [upd_same]
      unfold addL
      rw [if_pos rfl, snocV]
    · have ne : b' ≠ b := fun z => by
        subst z
        obtain ⟨h1, h2⟩ := List.getElem?_eq_some_iff.mp hj
        obtain ⟨h3, h4⟩ := List.getElem?_eq_some_iff.mp hi
        rcases Nat.lt_or_gt_of_ne e with q | q
        · exact (List.pairwise_iff_getElem.mp nd) j i h1 h3 q (h2.trans h4.symm)
        · exact (List.pairwise_iff_getElem.mp nd) i j h3 h1 q (h4.trans h2.symm)
      rw [upd_ne ne]
      unfold addL
      rw [if_neg e]
      exact h.at_ j b' hj
theorem HB.exb {D p : Addr} {bs : List Addr} {R : Nat → List Int} {H H1 : Hp} (h : HB D bs R H) (e : Exb p H H1) (hD : D ≠ p) (hb : ∀ b ∈ bs, b ≠ p) : HB D bs R H1 :=
  ⟨e _ _ hD h.d, fun i b hi => e _ _ (hb b (List.mem_of_getElem? hi)) (h.at_ i b hi)⟩
theorem HB.same {D : Addr} {bs : List Addr} {R : Nat → List Int} {H H1 : Hp} (h : HB D bs R H) (e : Same H H1) : HB D bs R H1 :=
  ⟨e _ _ h.d, fun i b hi => e _ _ (h.at_ i b hi)⟩
def toldD (rows : List (List Int)) : PyData := if 2 * rows.length ≤ 8 then .tuple [.int (2 * (rows.length : Nat)), .tuple ((dbl rows).map rowD)] else .tuple [.str "size", .int (2 * (rows.length : Nat))]
theorem dp2 {K : PySem.W.Frag} {H : Hp} {a : Addr} {u v : V} {d e : PyData} (h : SqT K H a [u, v]) (h1 : Dp K H u d) (h2 : Dp K H v e) : Dp K H (.ref a) (.tuple [d, e]) := .tup h (.cons h1 (.cons h2 .nil))
theorem gN {i : Nat} {v : V} {σ : L2.St} {H : Hp} {k : L2.St → Hp → Prop} (h : k (σ.set i (some v)) H) : gName i v σ H k := h
theorem asgK {te : TE} {i : Nat} {u : TS} {D : Ends} {σ : L2.St} {H : Hp} (A : V → Hp → Prop) (h1 : ∀ R : VK, (∀ v H', A v H' → R v H') → te σ H R) (h2 : ∀ v H', A v H' → u D (σ.set i (some v)) H') : tSeq (tAsg te (gName i)) u D σ H := h1 _ h2
theorem GoodT.abs {rows : List (List Int)} (g : GoodT rows) : ∀ r ∈ rows, r.length ≤ 8 ∧ ∀ c ∈ r, c.natAbs < 2 ^ 60 := fun r hr => ⟨asc_len g hr, fun c hc => by
  have := g.lt hr hc
  have := g.n8
  have e : (2 : Nat) ^ 60 = 1152921504606846976 := by decide
  omega⟩
theorem GoodT.shows {rows : List (List Int)} (g : GoodT rows) : Sh 72 2 (.tuple (rows.map rowD)) := (Sh.rows (m := 8) (n := 8) g.abs g.n8).le (by decide) (by decide)
theorem dbl_abs {rows : List (List Int)} (g : GoodT rows) : ∀ r ∈ dbl rows, r.length ≤ 8 ∧ ∀ c ∈ r, c.natAbs < 2 ^ 60 := fun r hr => by
  unfold dbl at hr
  obtain ⟨row, hrow, hr⟩ := List.mem_flatMap.mp hr
  have key : ∀ side : Int, 0 ≤ side → side ≤ 1 → (dblRow row side).length ≤ 8 ∧ ∀ c ∈ dblRow row side, c.natAbs < 2 ^ 60 := fun side h0 h1 => by
    unfold dblRow
    refine ⟨by rw [List.length_map]; exact asc_len g hrow, fun c hc => ?_⟩
    obtain ⟨d, hd, rfl⟩ := List.mem_map.mp hc
    have := g.lt hrow hd
    have := g.n8
    have e : (2 : Nat) ^ 60 = 1152921504606846976 := by decide
    omega
  rcases List.mem_cons.mp hr with rfl | hr
  · exact key 0 (by decide) (by decide)
  · rw [List.mem_singleton.mp hr]
    exact key 1 (by decide) (by decide)
theorem _root_.Bw.Sh.all {b k : Nat} {d : PyData} (h : Sh b k d) (hb : b ≤ 200000) (hk : k < 64) : d.showable = true ∧ d.hasDict = false ∧ d.depth < 64 ∧ d.shown.length ≤ sizeLine := ⟨h.sh, h.nod, Nat.lt_of_le_of_lt h.dp hk, h.fits hb⟩
theorem told_shows {rows : List (List Int)} (g : GoodT rows) : Sh 200 3 (toldD rows) := by
  have n8 := g.n8
  have e : (2 : Nat) ^ 60 = 1152921504606846976 := by decide
  have hi : Sh 72 2 (.int (2 * (rows.length : Nat))) := (Sh.int (by omega)).le (by decide) (by decide)
  unfold toldD
  by_cases c : 2 * rows.length ≤ 8
  · rw [if_pos c]
    exact (Sh.pair hi ((Sh.rows (m := 8) (n := 8) (dbl_abs g) (by rw [dbl_len]; exact c)).le (by decide) (by decide))).le (by decide) (by decide)
  · rw [if_neg c]
    exact (Sh.pair (b := 72) (k := 2) ⟨by decide, by decide, by decide, by decide, by decide⟩ hi).le (by decide) (by decide)
theorem lots_shows {rows : List (List Int)} (g : GoodT rows) {ms : List Int} (hl : ms.length = rows.length) (h : ∀ (i : Nat) m, ms[i]? = some m → Lst rows (i : Nat) m) : Sh 8 1 (rowD ms) := by
  have n8 := g.n8
  refine Sh.row (fun c hc => ?_) (by omega)
  obtain ⟨i, hi, rfl⟩ := List.getElem_of_mem hc
  have := rch_lt g (p := (i : Nat)) (by omega) (h i _ (List.getElem?_eq_getElem hi)).1
  have e : (2 : Nat) ^ 60 = 1152921504606846976 := by decide
  omega
theorem asc_nd {row : List Int} {m : Int} (h : ∀ i, okAt row m i) : row.Nodup := by
  refine List.pairwise_iff_getElem.mpr fun i j hi hj hij => ?_
  have key : ∀ k, (hk : i + k + 1 < row.length) → row[i] < row[i + k + 1] := fun k => by
    induction k with
    | zero => exact fun hk => (h (i + 1) _ (List.getElem?_eq_getElem hk)).2 _ (by omega) (List.getElem?_eq_getElem hi)
    | succ k ih =>
      intro hk
      have h1 := ih (by omega)
      have h2 := (h (i + (k + 1) + 1) _ (List.getElem?_eq_getElem hk)).2 _ (by omega) (List.getElem?_eq_getElem (by omega))
      have e : row[i + (k + 1) + 1 - 1]'(by omega) = row[i + k + 1]'(by omega) := rfl
      rw [e] at h2
      omega
  have := key (j - i - 1) (by omega)
  have e : row[i + (j - i - 1) + 1]'(by omega) = row[j] := by congr 1; omega
  rw [e] at this
  intro z
  have z2 : row[i] = row[j] := z
  omega

/-! ### nets, plainly -/
def thR (ths : List (Int × Int)) : List (List Int) := ths.map fun e => [e.1, e.2]
/-- each a pair of places, the lesser first -/
def InN (n : Nat) (ths : List (Int × Int)) : Prop := ∀ e ∈ ths, 0 ≤ e.1 ∧ e.1 < e.2 ∧ e.2 < (n : Nat)
def Adj (ths : List (Int × Int)) (p c : Int) : Prop := (p, c) ∈ ths ∨ (c, p) ∈ ths
def nStep (R : Nat → List Int) (e : Int × Int) : Nat → List Int := addL (addL R e.1.toNat e.2) e.2.toNat e.1
def nR (ths : List (Int × Int)) : Nat → List Int := ths.foldl nStep fun _ => []
theorem nR_snoc (ths : List (Int × Int)) (e : Int × Int) : nR (ths ++ [e]) = nStep (nR ths) e := by
  unfold nR
  rw [List.foldl_append]
  rfl
theorem snocInd {α : Type} {P : List α → Prop} (h0 : P []) (hs : ∀ xs x, P xs → P (xs ++ [x])) (xs : List α) : P xs := by
  have h : ∀ ys : List α, P ys.reverse := fun ys => by
    induction ys with
    | nil => exact h0
    | cons y ys ih =>
      rw [List.reverse_cons]
      exact hs _ _ ih
  have := h xs.reverse
  rw [List.reverse_reverse] at this
  exact this
theorem nR_ok {n : Nat} : ∀ (ths : List (Int × Int)), ths.Nodup → InN n ths → (∀ p, (nR ths p).Nodup) ∧ ∀ (p : Nat) (c : Int), c ∈ nR ths p ↔ Adj ths (p : Nat) c := by
  refine snocInd (fun _ _ => ⟨fun _ => List.nodup_nil, fun p c => ⟨fun h => (by cases h), fun h => (by rcases h with h | h <;> cases h)⟩⟩) fun ths e ih => ?_
  · intro nd hi
    obtain ⟨n1, n2, n3⟩ := List.nodup_append.mp nd
    obtain ⟨i1, i2⟩ := ih n1 fun x hx => hi x (List.mem_append_left _ hx)
    obtain ⟨e0, e1, e2⟩ := hi e (List.mem_append_right _ (List.mem_singleton_self _))
    have he : e ∉ ths := fun z => n3 e z e (List.mem_singleton_self _) rfl
    have m1 : ∀ (p : Nat) (c : Int), c ∈ nR (ths ++ [e]) p ↔ Adj (ths ++ [e]) (p : Nat) c := fun p c => by
      rw [nR_snoc]
      unfold nStep
      rw [mem_addL, mem_addL, i2]
      unfold Adj
      rw [List.mem_append, List.mem_append, List.mem_singleton, List.mem_singleton]
      obtain ⟨x, y⟩ := e
      simp only [Prod.mk.injEq]
      dsimp only at e0 e1 e2
      constructor
      · rintro ((h | ⟨h1, h2⟩) | ⟨h1, h2⟩)
        · rcases h with h | h
          · exact .inl (.inl h)
          · exact .inr (.inl h)
        · exact .inl (.inr ⟨by omega, h2⟩)
        · exact .inr (.inr ⟨h2, by omega⟩)
      · rintro ((h | ⟨h1, h2⟩) | (h | ⟨h1, h2⟩))
        · exact .inl (.inl (.inl h))
        · exact .inl (.inr ⟨by omega, h2⟩)
        · exact .inl (.inl (.inr h))
        · exact .inr ⟨by omega, h1⟩
    refine ⟨?_, m1⟩
    rw [nR_snoc]
    unfold nStep
    obtain ⟨x, y⟩ := e
    dsimp only at e0 e1 e2 ⊢
    have q1 : y ∉ nR ths x.toNat := fun z => by
      rcases (i2 _ _).mp z with h | h
      · rw [show ((x.toNat : Nat) : Int) = x by omega] at h
        exact he h
      · rw [show ((x.toNat : Nat) : Int) = x by omega] at h
        have := hi _ (List.mem_append_left _ h)
        dsimp only at this
        omega
    refine nd_addL (nd_addL i1 q1) fun z => ?_
    rcases mem_addL.mp z with z | ⟨z1, z2⟩
    · rcases (i2 _ _).mp z with h | h
      · rw [show ((y.toNat : Nat) : Int) = y by omega] at h
        have := hi _ (List.mem_append_left _ h)
        dsimp only at this
        omega
      · rw [show ((y.toNat : Nat) : Int) = y by omega] at h
        exact he h
    · omega
structure NearOk (n : Nat) (ths : List (Int × Int)) (nrs : List (List Int)) : Prop where
  len : nrs.length = n
  asc : ∀ row ∈ nrs, ∀ i, okAt row (n : Nat) i
  mem : ∀ (p : Nat) row, nrs[p]? = some row → ∀ c, c ∈ row ↔ Adj ths (p : Nat) c
theorem adj_lt {n : Nat} {ths : List (Int × Int)} (h : InN n ths) {p c : Int} (a : Adj ths p c) : 0 ≤ c ∧ c < (n : Nat) := by
  rcases a with a | a
  · have := h _ a; dsimp only at this; omega
  · have := h _ a; dsimp only at this; omega
theorem near_of {n : Nat} {ths : List (Int × Int)} (nd : ths.Nodup) (hi : InN n ths) {nrs : List (List Int)} (hl : nrs.length = n) (h : ∀ (k : Nat) row, nrs[k]? = some row → row.Perm (nR ths k) ∧ row.Pairwise (· ≤ ·)) : NearOk n ths nrs := by
  obtain ⟨i1, i2⟩ := nR_ok ths nd hi
  refine ⟨hl, fun row hr => ?_, fun p row hp c => ?_⟩
  · obtain ⟨k, hk, rfl⟩ := List.getElem_of_mem hr
    obtain ⟨g1, g2⟩ := h k _ (List.getElem?_eq_getElem hk)
    exact asc_ok g2 (g1.nodup_iff.mpr (i1 k)) fun c hc => adj_lt hi ((i2 k c).mp (g1.mem_iff.mp hc))
  · exact (h p row hp).1.mem_iff.trans (i2 p c)
theorem nR_len {n : Nat} {ths : List (Int × Int)} (nd : ths.Nodup) (hi : InN n ths) (p : Nat) : (nR ths p).length ≤ n := by
  obtain ⟨i1, i2⟩ := nR_ok ths nd hi
  exact nodup_len n _ (i1 p) fun c hc => adj_lt hi ((i2 p c).mp hc)
/-- a net at t -/
def NB (K : PySem.W.Frag) (C : Addr) (H : Hp) (t : Addr) (n : Nat) (ths : List (Int × Int)) : Prop := ∃ dx r s nrs, H t = some (.ins C dx [("many", .int (n : Nat)), ("threads", .ref r), ("near", .ref s)]) ∧ TT K H r (thR ths) ∧ TT K H s nrs ∧ NearOk n ths nrs
theorem NB.same {K : PySem.W.Frag} {C t : Addr} {H H1 : Hp} {n : Nat} {ths : List (Int × Int)} (e : Same H H1) (h : NB K C H t n ths) : NB K C H1 t n ths := by
  obtain ⟨dx, r, s, nrs, h1, h2, h3, h4⟩ := h
  exact ⟨dx, r, s, nrs, e _ _ h1, h2.same e, h3.same e, h4⟩
def RwsN (K : PySem.W.Frag) (t : Addr) (H : Hp) (us : List V) (rs : List (List Int)) : Prop := ∀ H2, (∀ b o, b ≠ t → H b = some o → H2 b = some o) → Rws K H2 us rs
def kvOf (ord : List (Int × Int)) : List (Key × V) := ord.map fun e => (.inl e.1, .int e.2)
/-- places in the order in which they are come to from x, each with the one it is come to from -/
structure Ord (ths : List (Int × Int)) (x : Int) (ord : List (Int × Int)) : Prop where
  fst : ord[0]? = some (x, -1)
  nd : (ord.map (·.1)).Nodup
  up : ∀ (i : Nat) e, ord[i]? = some e → 0 < i → ∃ (j : Nat) (f : Int × Int), j < i ∧ ord[j]? = some f ∧ f.1 = e.2 ∧ Adj ths e.2 e.1
  all : ∀ e ∈ ord, ∀ c, Adj ths e.1 c → c ∈ ord.map (·.1)
theorem valV_of {p : Int} : ∀ {ord : List (Int × Int)}, (valV (kvOf ord) (.inl p)).isSome = decide (p ∈ ord.map (·.1))
  | [] => rfl
  | e :: ord => by
    unfold kvOf at *
    rw [List.map_cons]
    by_cases h : e.1 = p
    · rw [valV_pos (by rw [h])]
      rw [List.map_cons, decide_eq_true (by rw [h]; exact List.mem_cons_self)]
      rfl
    · rw [valV_neg (fun z => h (Sum.inl.inj z))]
      have := valV_of (p := p) (ord := ord)
      unfold kvOf at this
      rw [this, List.map_cons]
      refine decide_eq_decide.mpr ⟨List.mem_cons_of_mem _, fun z => ?_⟩
      rcases List.mem_cons.mp z with z | z
      · exact absurd z.symm h
      · exact z
/-- under way: the first k places are done -/
structure Bfs (ths : List (Int × Int)) (x n : Nat) (ord : List (Int × Int)) (k : Nat) : Prop where
  fst : ord[0]? = some ((x : Int), -1)
  nd : (ord.map (·.1)).Nodup
  up : ∀ (i : Nat) e, ord[i]? = some e → 0 < i → ∃ (j : Nat) (f : Int × Int), j < i ∧ ord[j]? = some f ∧ f.1 = e.2 ∧ Adj ths e.2 e.1
  rng : ∀ e ∈ ord, 0 ≤ e.1 ∧ e.1 < (n : Nat)
  done : ∀ (i : Nat) e, i < k → ord[i]? = some e → ∀ c, Adj ths e.1 c → c ∈ ord.map (·.1)
  le : k ≤ ord.length
theorem Bfs.size {ths : List (Int × Int)} {x n k : Nat} {ord : List (Int × Int)} (h : Bfs ths x n ord k) : ord.length ≤ n := by
  have := nodup_len n (ord.map (·.1)) h.nd fun e he => by
    obtain ⟨f, hf, rfl⟩ := List.mem_map.mp he
    exact h.rng f hf
  rw [List.length_map] at this
  exact this
theorem Bfs.start {ths : List (Int × Int)} {x n : Nat} (hx : x < n) : Bfs ths x n [((x : Int), -1)] 0 := by
  refine ⟨rfl, nodup1 _, fun i e he h0 => ?_, fun e he => ?_, fun i e hi => absurd hi (by omega), Nat.zero_le _⟩
  · have := (List.getElem?_eq_some_iff.mp he).1
    have h2 : i < 1 := this
    omega
  · rw [List.mem_singleton.mp he]
    dsimp only
    omega
theorem Bfs.snoc {ths : List (Int × Int)} {x n k : Nat} {ord : List (Int × Int)} {c : Int} {f : Int × Int} (h : Bfs ths x n ord k) (hc : c ∉ ord.map (·.1)) (hk : k < ord.length) (hf : ord[k]? = some f) (ha : Adj ths f.1 c) (hr : 0 ≤ c ∧ c < (n : Nat)) : Bfs ths x n (ord ++ [(c, f.1)]) k := by
  have h0 : 0 < ord.length := by omega
  refine ⟨by rw [List.getElem?_append_left h0]; exact h.fst, ?_, fun i e he hi => ?_, fun e he => ?_, fun i e hi he c' ha' => ?_, by rw [List.length_append]; omega⟩
  · rw [List.map_append]
    refine List.nodup_append.mpr ⟨h.nd, nodup1 _, fun a ha b hb => ?_⟩
    have : b = c := by simpa using hb
    rw [this]
    exact fun z => hc (z ▸ ha)
  · by_cases hl : i < ord.length
    · rw [List.getElem?_append_left hl] at he
      obtain ⟨j, g, hj, hg, g1, g2⟩ := h.up i e he hi
      exact ⟨j, g, hj, by rw [List.getElem?_append_left (by omega)]; exact hg, g1, g2⟩
    · have hl2 := (List.getElem?_eq_some_iff.mp he).1
      rw [List.length_append] at hl2
      have ei : i = ord.length := by
        have : i < ord.length + 1 := hl2
        omega
      subst ei
      rw [List.getElem?_append_right (Nat.le_refl _), Nat.sub_self] at he
      cases Option.some.inj he
      exact ⟨k, f, hk, by rw [List.getElem?_append_left hk]; exact hf, rfl, ha⟩
  · rcases List.mem_append.mp he with he | he
    · exact h.rng e he
    · rw [List.mem_singleton.mp he]
      exact hr
  · rw [List.map_append]
    rw [List.getElem?_append_left (by omega)] at he
    exact List.mem_append_left _ (h.done i e hi he c' ha')
theorem Bfs.next {ths : List (Int × Int)} {x n k : Nat} {ord : List (Int × Int)} (h : Bfs ths x n ord k) (hk : ∀ e, ord[k]? = some e → ∀ c, Adj ths e.1 c → c ∈ ord.map (·.1)) (hl : k < ord.length := by assumption) : Bfs ths x n ord (k + 1) := by
  refine ⟨h.fst, h.nd, h.up, h.rng, fun i e hi he c ha => ?_, hl⟩
  by_cases e2 : i < k
  · exact h.done i e e2 he c ha
  · have : i = k := by omega
    subst this
    exact hk e he c ha
theorem Bfs.fin {ths : List (Int × Int)} {x n k : Nat} {ord : List (Int × Int)} (h : Bfs ths x n ord k) (hk : ord.length ≤ k) : Ord ths (x : Nat) ord :=
  ⟨h.fst, h.nd, h.up, fun e he c ha => by
    obtain ⟨i, hi, rfl⟩ := List.getElem_of_mem he
    exact h.done i _ (by omega) (List.getElem?_eq_getElem hi) c ha⟩
/-- what made_net asks -/
structure GoodN (n : Nat) (ths : List (Int × Int)) : Prop where
  n1 : 1 ≤ n
  n24 : n ≤ 24
  len : ths.length ≤ 60
  rng : InN n ths
  asc : ths.Pairwise fun e f => e.1 < f.1 ∨ (e.1 = f.1 ∧ e.2 < f.2)
  con : ∀ ord, Ord ths 0 ord → ∀ p : Nat, p < n → ((p : Nat) : Int) ∈ ord.map (·.1)
theorem GoodN.nodup {n : Nat} {ths : List (Int × Int)} (g : GoodN n ths) : ths.Nodup := g.asc.imp fun {e f} h z => by
  rw [z] at h
  omega
theorem le2 {x y x' y' : Int} (h : x' < x ∨ (x' = x ∧ y' < y)) : Ob.lexAt (fun j => decide ([x, y].getD j 0 = [x', y'].getD j 0)) (fun j => decide ([x, y].getD j 0 ≤ [x', y'].getD j 0)) (decide ([x, y].length ≤ [x', y'].length)) 0 (min [x, y].length [x', y'].length) = false := by
  show Ob.lexAt _ _ _ 0 2 = false
  simp only [Ob.lexAt, List.getD_cons_zero, List.getD_cons_succ]
  rcases h with h | ⟨h1, h2⟩
  · have e1 : ¬ x = x' := by omega
    have e2 : ¬ x ≤ x' := by omega
    simp [e1, e2]
  · have e2 : ¬ y = y' := by omega
    have e3 : ¬ y ≤ y' := by omega
    simp [h1, e2, e3]

/-- a world at w -/
def WB (K : PySem.W.Frag) (CT CN CW : Addr) (H : Hp) (w : Addr) (rows : List (List Int)) (n : Nat) (ths : List (Int × Int)) (ps : List Int) : Prop := ∃ dx t m p, H w = some (.ins CW dx [("table", .ref t), ("net", .ref m), ("pegs", .ref p), ("base", .int (ps.headD 0))]) ∧ TB K CT H t rows ∧ NB K CN H m n ths ∧ SqT K H p (ps.map V.int)
theorem WB.same {K : PySem.W.Frag} {CT CN CW w : Addr} {H H1 : Hp} {rows : List (List Int)} {n : Nat} {ths : List (Int × Int)} {ps : List Int} (e : Same H H1) (h : WB K CT CN CW H w rows n ths ps) : WB K CT CN CW H1 w rows n ths ps := by
  obtain ⟨dx, t, m, p, h1, h2, h3, h4⟩ := h
  exact ⟨dx, t, m, p, e _ _ h1, h2.same e, h3.same e, e.tup h4⟩
/-- the stone at p fits under those before it -/
def FitP (rows : List (List Int)) (ths : List (Int × Int)) (st : List Int) (p : Nat) : Prop := ∃ c, st[p]? = some c ∧ 0 ≤ c ∧ c < (rows.length : Nat) ∧ ∀ o : Int, Adj ths (p : Nat) o → o < (p : Nat) → ∃ d, st[o.toNat]? = some d ∧ d ∈ rowOf rows c.toNat
/-- the row's stone at i is a coat of the table, beside the one before it -/
def rowAt (rows : List (List Int)) (row : List Int) (i : Nat) : Prop := ∀ c, row[i]? = some c → (0 ≤ c ∧ c < (rows.length : Nat)) ∧ ∀ d : Int, 0 < i → row[i - 1]? = some d → c ∈ rowOf rows d.toNat

def LinkRow (rows : List (List Int)) (row : List Int) (x y : Int) : Prop := row.length % 2 = 1 ∧ row.head? = some x ∧ row.getLast? = some y ∧ (∀ i, rowAt rows row i) ∧ opn row = []
/-- a list of lists of whole numbers at l -/
def LL (H : Hp) (l : Addr) (rows : List (List Int)) : Prop := ∃ bs : List Addr, H l = some (.lst (bs.map V.ref)) ∧ bs.length = rows.length ∧ ∀ (i : Nat) b row, bs[i]? = some b → rows[i]? = some row → H b = some (.lst (row.map V.int))
theorem LL.same {H H1 : Hp} {l : Addr} {rows : List (List Int)} (e : Same H H1) (h : LL H l rows) : LL H1 l rows := by
  obtain ⟨bs, h1, h2, h3⟩ := h
  exact ⟨bs, e _ _ h1, h2, fun i b row hb hr => e _ _ (h3 i b row hb hr)⟩
/-- the same, all of it new since H0 -/
def LLf (H0 H : Hp) (l : Addr) (rows : List (List Int)) : Prop := H0 l = none ∧ ∃ bs : List Addr, H l = some (.lst (bs.map V.ref)) ∧ bs.length = rows.length ∧ (∀ (i : Nat) b row, bs[i]? = some b → rows[i]? = some row → H b = some (.lst (row.map V.int))) ∧ ∀ b ∈ bs, H0 b = none
/-- the same, none of it at p -/
def LLp (p : Addr) (H : Hp) (l : Addr) (rows : List (List Int)) : Prop := l ≠ p ∧ ∃ bs : List Addr, H l = some (.lst (bs.map V.ref)) ∧ bs.length = rows.length ∧ (∀ (i : Nat) b row, bs[i]? = some b → rows[i]? = some row → H b = some (.lst (row.map V.int))) ∧ p ∉ bs
theorem LLf.of {H0 H : Hp} {p l : Addr} {rows : List (List Int)} (h : LLf H0 H l rows) (s : Src H0 p) : LLp p H l rows := by
  obtain ⟨h0, bs, h1, h2, h3, h4⟩ := h
  exact ⟨s.ne h0, bs, h1, h2, h3, fun hp => s.ne (h4 p hp) rfl⟩
theorem LLp.same {H H1 : Hp} {p l : Addr} {rows : List (List Int)} (e : Same H H1) (h : LLp p H l rows) : LLp p H1 l rows := by
  obtain ⟨h0, bs, h1, h2, h3, h4⟩ := h
  exact ⟨h0, bs, e _ _ h1, h2, fun i b row hb hr => e _ _ (h3 i b row hb hr), h4⟩
theorem LLp.exb {H H1 : Hp} {p l : Addr} {rows : List (List Int)} (e : Exb p H H1) (h : LLp p H l rows) : LLp p H1 l rows := by
  obtain ⟨h0, bs, h1, h2, h3, h4⟩ := h
  exact ⟨h0, bs, e _ _ h0 h1, h2, fun i b row hb hr => e _ _ (fun z => h4 (z ▸ List.mem_of_getElem? hb)) (h3 i b row hb hr), h4⟩

theorem seqK {t u : TS} {D : Ends} {σ : L2.St} {H : Hp} (A : L2.St → Hp → Prop) (h1 : ∀ N : L2.St → Hp → Prop, (∀ σ' H', A σ' H' → N σ' H') → t { D with nx := N } σ H) (h2 : ∀ σ' H', A σ' H' → u D σ' H') : tSeq t u D σ H := h1 _ h2
theorem ifK {te : TE} {a b : TS} {D : Ends} {σ : L2.St} {H : Hp} (c : Bool) (h1 : ∀ R : VK, (∀ H', Same H H' → R (.bl c) H') → te σ H R) (h2 : ∀ H', Same H H' → c = true → a D σ H') (h3 : ∀ H', Same H H' → c = false → b D σ H') : tIfS (tB te) a b D σ H :=
  h1 _ fun H' s => ⟨c, rfl, by
    cases c with
    | true => exact iteT (h2 H' s rfl)
    | false => exact iteF (h3 H' s rfl)⟩

def bsr (n : Nat) (prs : List (Int × Int)) (p : Nat) : List Int := ((List.range n).map Int.ofNat).filter fun s => decide ((Int.ofNat p, s) ∈ prs ∨ (s, Int.ofNat p) ∈ prs)
def besd (n : Nat) (prs : List (Int × Int)) : List (List Int) := (List.range n).map (bsr n prs)
theorem rws_of {K : PySem.W.Frag} {H : Hp} {f : Nat → List Int} : ∀ {xs : List V} (k : Nat), (∀ (i : Nat) (v : V), xs[i]? = some v → ∃ b, v = .ref b ∧ SqT K H b ((f (k + i)).map V.int)) → Rws K H xs ((List.range' k xs.length).map f)
  | [], _, _ => Rws.nil
  | x :: xs, k, h => by
    obtain ⟨b, rfl, hb⟩ := h 0 x rfl
    rw [List.length_cons, List.range'_succ, List.map_cons]
    exact DpAll.cons (row_dp hb) (rws_of (xs := xs) (k + 1) fun i v e => by
      rw [show k + 1 + i = k + (i + 1) by omega]
      exact h (i + 1) v e)
theorem yRng {n : Nat} : ∀ (i : Nat) (H : Hp) (x : V) (H' : Hp), YFn (fun i => V.int (0 + (i : Int))) i H x H' → i < n → H' = H ∧ x = .int (((List.range n).map Int.ofNat).getD i 0) := by
  rintro i H x H' ⟨h1, rfl⟩ hi
  refine ⟨h1, ?_⟩
  show V.int (0 + (i : Int)) = _
  rw [List.getD_eq_getElem?_getD, List.getElem?_map, List.getElem?_range hi, Int.zero_add]
  rfl

/-! ### trees told by their uppers -/
def Tree (n : Nat) (prs : List (Int × Int)) : Prop := ∀ v : Nat, 0 < v → v < n → ∃ w : Nat, w < v ∧ ((w : Int), (v : Int)) ∈ prs
theorem con_of_tree {n : Nat} {ths : List (Int × Int)} (h : Tree n ths) {ord : List (Int × Int)} (o : Ord ths 0 ord) : ∀ p : Nat, p < n → ((p : Nat) : Int) ∈ ord.map (·.1) := by
  intro p
  induction p using Nat.strongRecOn with
  | _ p ih =>
    intro hp
    by_cases h0 : p = 0
    · subst h0
      exact List.mem_map.mpr ⟨_, List.mem_of_getElem? o.fst, rfl⟩
    · obtain ⟨w, hw, hm⟩ := h p (by omega) hp
      obtain ⟨e, he, e1⟩ := List.mem_map.mp (ih w hw (by omega))
      exact o.all e he _ (.inl (by rw [e1]; exact hm))
theorem goodN_of {n : Nat} {prs qrs : List (Int × Int)} (n1 : 1 ≤ n) (n24 : n ≤ 24) (hp : qrs.Perm prs) (hs : qrs.Pairwise PLe) (nd : prs.Nodup) (hi : InN n prs) (ht : Tree n prs) (hl : prs.length ≤ 60) : GoodN n qrs := by
  refine ⟨n1, n24, by rw [hp.length_eq]; exact hl, fun e he => hi e (hp.mem_iff.mp he), ?_, fun ord o => con_of_tree (fun v h0 hv => ?_) o⟩
  · refine (hs.and (hp.nodup_iff.mpr nd)).imp fun {e f} h => ?_
    obtain ⟨h1, h2⟩ := h
    rcases h1 with h1 | ⟨h1, h3⟩
    · exact .inl h1
    · refine .inr ⟨h1, ?_⟩
      have : e.2 ≠ f.2 := fun z => h2 (Prod.ext h1 z)
      omega
  · obtain ⟨w, hw, hm⟩ := ht v h0 hv
    exact ⟨w, hw, hp.mem_iff.mpr hm⟩
/-- the tree so far: its threads up to place k -/
structure TreeK (k : Nat) (prs : List (Int × Int)) : Prop where
  len : prs.length + 1 = k
  at_ : ∀ (i : Nat) e, prs[i]? = some e → 0 ≤ e.1 ∧ e.1 ≤ (i : Nat) ∧ e.2 = (i : Nat) + 1
theorem TreeK.snoc {k : Nat} {prs : List (Int × Int)} (h : TreeK k prs) {w : Int} (h0 : 0 ≤ w) (h1 : w < (k : Nat)) : TreeK (k + 1) (prs ++ [(w, ((k : Nat) : Int))]) := by
  have hl := h.len
  refine ⟨by rw [List.length_append]; show prs.length + 1 + 1 = k + 1; omega, fun i e he => ?_⟩
  by_cases hi : i < prs.length
  · rw [List.getElem?_append_left hi] at he
    exact h.at_ i e he
  · have hi2 := (List.getElem?_eq_some_iff.mp he).1
    rw [List.length_append] at hi2
    have ei : i = prs.length := by
      have : i < prs.length + 1 := hi2
      omega
    subst ei
    rw [List.getElem?_append_right (Nat.le_refl _), Nat.sub_self] at he
    cases Option.some.inj he
    dsimp only
    omega
theorem TreeK.tree {n : Nat} {prs : List (Int × Int)} (h : TreeK n prs) : Tree n prs := fun v h0 hv => by
  have hl := h.len
  have hi : v - 1 < prs.length := by omega
  obtain ⟨h1, h2, h3⟩ := h.at_ (v - 1) _ (List.getElem?_eq_getElem hi)
  refine ⟨prs[v - 1].1.toNat, by omega, ?_⟩
  have : ((prs[v - 1].1.toNat : Int), (v : Int)) = prs[v - 1] := Prod.ext (by show ((prs[v - 1].1.toNat : Nat) : Int) = _; omega) (by show (v : Int) = _; omega)
  rw [this]
  exact List.getElem_mem hi
theorem TreeK.inN {n : Nat} {prs : List (Int × Int)} (h : TreeK n prs) : InN n prs := fun e he => by
  obtain ⟨i, hi, rfl⟩ := List.getElem_of_mem he
  have hl := h.len
  have := h.at_ i _ (List.getElem?_eq_getElem hi)
  omega
theorem TreeK.nodup {n : Nat} {prs : List (Int × Int)} (h : TreeK n prs) : prs.Nodup := by
  refine List.pairwise_iff_getElem.mpr fun i j hi hj hij z => ?_
  have h1 := h.at_ i _ (List.getElem?_eq_getElem hi)
  have h2 := h.at_ j _ (List.getElem?_eq_getElem hj)
  rw [z] at h1
  omega
/-- the neighbours of p, by a look at each place -/
theorem near_bsr {n : Nat} {ths : List (Int × Int)} (hi : InN n ths) : NearOk n ths (besd n ths) := by
  refine ⟨by unfold besd; rw [List.length_map, List.length_range], fun row hr => ?_, fun p row hp c => ?_⟩
  · obtain ⟨p, _, rfl⟩ := List.mem_map.mp hr
    unfold bsr
    refine asc_ok ?_ ?_ fun c hc => ?_
    · refine List.Pairwise.filter _ ?_
      rw [List.pairwise_map]
      exact (List.pairwise_le_range).imp fun {a b} h => by show (a : Int) ≤ (b : Int); omega
    · refine List.Pairwise.filter _ ?_
      exact List.Pairwise.map _ (fun a b h z => h (by
        have z2 : (a : Int) = (b : Int) := z
        omega)) List.nodup_range
    · obtain ⟨i, h1, rfl⟩ := List.mem_map.mp (List.mem_filter.mp hc).1
      have := List.mem_range.mp h1
      show (0 : Int) ≤ (i : Int) ∧ (i : Int) < (n : Nat)
      omega
  · unfold besd at hp
    rw [List.getElem?_map] at hp
    by_cases hpn : p < n
    · rw [List.getElem?_range hpn] at hp
      cases Option.some.inj hp
      unfold bsr
      rw [List.mem_filter, decide_eq_true_eq]
      constructor
      · intro h
        exact h.2
      · intro h
        have := adj_lt hi h
        exact ⟨List.mem_map.mpr ⟨c.toNat, List.mem_range.mpr (by omega), by show ((c.toNat : Nat) : Int) = c; omega⟩, h⟩
    · rw [List.getElem?_eq_none (by rw [List.length_range]; omega)] at hp
      cases hp
/-- a list of rows at l, which are the neighbours -/
def NL (K : PySem.W.Frag) (H : Hp) (l : Addr) (n : Nat) (ths : List (Int × Int)) : Prop := ∃ us nrs, H l = some (.lst us) ∧ Rws K H us nrs ∧ NearOk n ths nrs
theorem NL.same {K : PySem.W.Frag} {H H1 : Hp} {l : Addr} {n : Nat} {ths : List (Int × Int)} (e : Same H H1) (h : NL K H l n ths) : NL K H1 l n ths := by
  obtain ⟨us, nrs, h1, h2, h3⟩ := h
  exact ⟨us, nrs, e _ _ h1, h2.same e, h3⟩
theorem Rws.get {K : PySem.W.Frag} {H : Hp} {us : List V} {rs : List (List Int)} (h : Rws K H us rs) {i : Nat} {r : List Int} (hr : rs[i]? = some r) : ∃ b, us[i]? = some (.ref b) ∧ SqT K H b (r.map V.int) := by
  obtain ⟨v, hv, hd⟩ := dpAll_get h (i := i) (d := rowD r) (by rw [List.getElem?_map, hr]; rfl)
  obtain ⟨b, rfl, hb⟩ := dp_row hd
  exact ⟨b, hv, hb⟩
/-- the neighbours of place i stand in the list -/
theorem NL.at_ {K : PySem.W.Frag} {H : Hp} {l : Addr} {n : Nat} {ths : List (Int × Int)} (h : NL K H l n ths) : ∃ us, H l = some (.lst us) ∧ us.length = n ∧ ∀ i : Nat, i < n → ∃ (b : Addr) (row : List Int), us[i]? = some (.ref b) ∧ SqT K H b (row.map V.int) ∧ row.length ≤ n ∧ ∀ c, c ∈ row ↔ Adj ths (i : Nat) c := by
  obtain ⟨us, nrs, h1, h2, h3⟩ := h
  have hl := h2.len
  have hl2 := h3.len
  refine ⟨us, h1, by omega, fun i hi => ?_⟩
  have hr : nrs[i]? = some (nrs[i]'(by omega)) := List.getElem?_eq_getElem (by omega)
  obtain ⟨b, hb, hs⟩ := Rws.get h2 hr
  refine ⟨b, _, hb, hs, ?_, h3.mem i _ hr⟩
  have := h3.asc _ (List.getElem_mem (by omega : i < nrs.length))
  generalize nrs[i]'(by omega) = row at this
  cases e : row.length with
  | zero => omega
  | succ k =>
    have g1 := asc_get this k (row[k]'(by omega)) (List.getElem?_eq_getElem (by omega))
    have g2 := (this k (row[k]'(by omega)) (List.getElem?_eq_getElem (by omega))).1.2
    omega
theorem Rws.exb {K : PySem.W.Frag} {H H1 : Hp} {p : Addr} (hp : Src H p) (e : Exb p H H1) : ∀ {us : List V} {rs : List (List Int)}, Rws K H us rs → Rws K H1 us rs
  | [], [], _ => DpAll.nil
  | [], _ :: _, h => by cases h
  | _ :: _, [], h => by cases h
  | v :: us, r :: rs, h => by
    cases h with
    | cons x y =>
      obtain ⟨b, rfl, hb⟩ := dp_row x
      exact DpAll.cons (row_dp (e.tup hp hb)) (Rws.exb hp e y)
theorem NL.exb {K : PySem.W.Frag} {H H1 : Hp} {p l : Addr} {n : Nat} {ths : List (Int × Int)} (hp : Src H p) (e : Exb p H H1) (hl : l ≠ p) (h : NL K H l n ths) : NL K H1 l n ths := by
  obtain ⟨us, nrs, h1, h2, h3⟩ := h
  exact ⟨us, nrs, e _ _ hl h1, Rws.exb hp e h2, h3⟩
theorem tt_exb {K : PySem.W.Frag} {H H1 : Hp} {p r : Addr} {rows : List (List Int)} (hp : Src H p) (e : Exb p H H1) (h : Bw.TT K H r rows) : Bw.TT K H1 r rows := by
  cases h with
  | tup hs ha => exact .tup (e.tup hp hs) (Rws.exb hp e ha)
theorem TPs.tt {K : PySem.W.Frag} {H : Hp} {t : Addr} {us : List V} {prs : List (Int × Int)} (h : TPs H us prs) (ht : SqT K H t us) : Bw.TT K H t (thR prs) := by
  unfold Bw.TT thR
  rw [List.map_map]
  exact .tup ht h.dp
theorem fresh_exb {p d : Addr} {H H1 : Hp} (s : Src H1 p) (e : Exb p H H1) (nd : H1 d = none) : H d = none := e.fresh (s.ne nd) nd
theorem NB.exb {K : PySem.W.Frag} {C : Addr} {H H1 : Hp} {p t : Addr} {n : Nat} {ths : List (Int × Int)} (hp : Src H p) (e : Exb p H H1) (h : NB K C H t n ths) : NB K C H1 t n ths := by
  obtain ⟨dx, r, s, nrs, h1, h2, h3, h4⟩ := h
  refine ⟨dx, r, s, nrs, e _ _ (fun z => ?_) h1, tt_exb hp e h2, tt_exb hp e h3, h4⟩
  obtain ⟨a, b, hq, _⟩ := hp
  rw [z, hq] at h1
  cases h1

/-! ### rows carried along threads -/
def carr (xs ys : List Int) (row : List Int) (p : Int) : List Int := strk ([xs.getD p.toNat 0] ++ row ++ [ys.getD p.toNat 0])
/-- rows of all places that fit along all threads, first at b -/
def LinkR (xs ys : List Int) (ths : List (Int × Int)) (b : Int) (first : List Int) (R : Int → List Int) : Prop := R b = first ∧ ∀ p c, Adj ths p c → R c = carr xs ys (R p) c
/-- a straight row between the two coats at p -/
def EndsR (xs ys : List Int) (row : List Int) (p : Int) : Prop := Str8 row ∧ row.head? = some (xs.getD p.toNat 0) ∧ row.getLast? = some (ys.getD p.toNat 0)
/-- all places hang together -/
def Conn (n : Nat) (ths : List (Int × Int)) : Prop := ∀ S : Int → Prop, S 0 → (∀ p c, S p → Adj ths p c → S c) → ∀ p : Nat, p < n → S (p : Nat)
theorem conn_tree {n : Nat} {ths : List (Int × Int)} (h : Tree n ths) : Conn n ths := fun S s0 hc p => by
  induction p using Nat.strongRecOn with
  | _ p ih =>
    intro hp
    by_cases h0 : p = 0
    · subst h0
      exact s0
    · obtain ⟨w, hw, hm⟩ := h p (by omega) hp
      exact hc _ _ (ih w hw (by omega)) (.inl hm)
theorem Conn.from_ {n : Nat} {ths : List (Int × Int)} (h : Conn n ths) {b : Nat} (hb : b < n) {S : Int → Prop} (sb : S (b : Nat)) (hc : ∀ p c, S p → Adj ths p c → S c) : ∀ p : Nat, p < n → S (p : Nat) := by
  have s0 : S 0 := h (fun p => S p → S 0) (fun z => z) (fun p c hp ha hs => hp (hc _ _ hs ha.symm)) b hb sb
  exact h S s0 hc
theorem carr_ends {xs ys row : List Int} {p : Int} : EndsR xs ys (carr xs ys row p) p := by
  unfold carr
  refine ⟨strk_str _, ?_, ?_⟩
  · rw [strk_head]
    rfl
  · rw [strk_last, List.getLast?_append]
    rfl
theorem carr_len {xs ys row : List Int} {p : Int} : (carr xs ys row p).length ≤ row.length + 2 := by
  unfold carr
  refine Nat.le_trans (strk_len _) ?_
  rw [List.length_append, List.length_append]
  show 1 + row.length + 1 ≤ _
  omega
theorem red1 {x y : Int} {z : List Int} : Red (x :: y :: x :: z) (x :: z) := ⟨[], x, y, z, rfl, rfl⟩
/-- there and back -/
theorem carr_back {xs ys row : List Int} {p c : Int} (h : EndsR xs ys row p) : carr xs ys (carr xs ys row c) p = row := by
  obtain ⟨h1, h2, h3⟩ := h
  unfold carr
  generalize xs.getD p.toNat 0 = a at *
  generalize ys.getD p.toNat 0 = b at *
  generalize xs.getD c.toNat 0 = a'
  generalize ys.getD c.toNat 0 = b'
  rw [show strk ([a] ++ strk ([a'] ++ row ++ [b']) ++ [b]) = strk ([a] ++ ([a'] ++ row ++ [b']) ++ [b]) by
    rw [strk_app ([a] ++ strk ([a'] ++ row ++ [b'])) [b], ← strk_mid, ← strk_app]]
  cases row with
  | nil => cases h2
  | cons r row =>
    cases Option.some.inj h2
    rw [show strk ([a] ++ ([a'] ++ (a :: row) ++ [b']) ++ [b]) = strk ((a :: row) ++ [b', b]) from by
      have e : [a] ++ ([a'] ++ (a :: row) ++ [b']) ++ [b] = a :: a' :: a :: (row ++ [b', b]) := by simp
      rw [e, strk_red red1]
      rfl]
    obtain ⟨m, hm⟩ : ∃ m, a :: row = m ++ [b] := by
      have hne : a :: row ≠ [] := by simp
      refine ⟨(a :: row).dropLast, ?_⟩
      have := List.dropLast_concat_getLast hne
      rw [List.getLast?_eq_some_getLast hne] at h3
      rw [← Option.some.inj h3]
      exact this.symm
    rw [hm] at h1 ⊢
    have e : m ++ [b] ++ [b', b] = m ++ [b, b', b] ++ [] := by simp
    rw [e, strk_red (b := m ++ [b]) ⟨m, b, b', [], rfl, by simp⟩]
    exact strk_id h1
theorem LinkR.one {xs ys : List Int} {ths : List (Int × Int)} {n b : Nat} {first : List Int} {R R' : Int → List Int} (hc : Conn n ths) (hb : b < n) (h : LinkR xs ys ths (b : Nat) first R) (k : LinkR xs ys ths (b : Nat) first R') : ∀ p : Nat, p < n → R (p : Nat) = R' (p : Nat) :=
  hc.from_ hb (S := fun p => R p = R' p) (h.1.trans k.1.symm) fun p c hp ha => by rw [h.2 p c ha, k.2 p c ha, hp]
/-- R as the order of places carries it, up to its k-th place -/
def TreeR (xs ys : List Int) (ord : List (Int × Int)) (first : List Int) (k : Nat) (R : Int → List Int) : Prop := (∀ e, ord[0]? = some e → 0 < k → R e.1 = first) ∧ ∀ (i : Nat) e, 0 < i → i < k → ord[i]? = some e → R e.1 = carr xs ys (R e.2) e.1
theorem TreeR.ends {xs ys : List Int} {ths ord : List (Int × Int)} {b : Int} {first : List Int} {R : Int → List Int} (o : Ord ths b ord) (h : TreeR xs ys ord first ord.length R) (hf : EndsR xs ys first b) : ∀ e ∈ ord, EndsR xs ys (R e.1) e.1 := fun e he => by
  obtain ⟨i, hi, rfl⟩ := List.getElem_of_mem he
  by_cases h0 : i = 0
  · subst h0
    have e0 := o.fst
    rw [List.getElem?_eq_getElem hi] at e0
    rw [h.1 _ (List.getElem?_eq_getElem hi) hi, Option.some.inj e0]
    exact hf
  · rw [h.2 i _ (by omega) hi (List.getElem?_eq_getElem hi)]
    exact carr_ends
theorem TreeR.eq {xs ys : List Int} {ths ord : List (Int × Int)} {b : Int} {first : List Int} {R R' : Int → List Int} (o : Ord ths b ord) (h : TreeR xs ys ord first ord.length R) (k : LinkR xs ys ths b first R') : ∀ (i : Nat) e, ord[i]? = some e → R e.1 = R' e.1 := by
  intro i
  induction i using Nat.strongRecOn with
  | _ i ih =>
    intro e he
    have hi := (List.getElem?_eq_some_iff.mp he).1
    by_cases h0 : i = 0
    · subst h0
      rw [h.1 e he hi]
      have e0 := o.fst
      rw [he] at e0
      rw [Option.some.inj e0]
      exact k.1.symm
    · obtain ⟨j, f, hj, hf, f1, fa⟩ := o.up i e he (by omega)
      rw [h.2 i e (by omega) hi he, k.2 e.2 e.1 fa]
      have := ih j hj f hf
      rw [f1] at this
      rw [this]
/-- fits one way, so both ways -/
theorem link_of_fit {xs ys : List Int} {ths ord : List (Int × Int)} {n : Nat} {b : Nat} {first : List Int} {R : Int → List Int} (o : Ord ths (b : Nat) ord) (h : TreeR xs ys ord first ord.length R) (hf : EndsR xs ys first (b : Nat)) (hi : InN n ths) (ha : ∀ p : Nat, p < n → ((p : Nat) : Int) ∈ ord.map (·.1)) (hfit : ∀ e ∈ ths, R e.2 = carr xs ys (R e.1) e.2) : LinkR xs ys ths (b : Nat) first R := by
  refine ⟨?_, fun p c hpc => ?_⟩
  · have e0 := o.fst
    have hl := (List.getElem?_eq_some_iff.mp e0).1
    exact h.1 _ e0 hl
  · rcases hpc with hpc | hpc
    · exact hfit _ hpc
    · have hr := hi _ hpc
      dsimp only at hr
      have hc := ha c.toNat (by omega)
      rw [show ((c.toNat : Nat) : Int) = c by omega] at hc
      obtain ⟨e, he, rfl⟩ := List.mem_map.mp hc
      have he2 := h.ends o hf e he
      have := hfit _ hpc
      dsimp only at this
      rw [this]
      exact (carr_back he2).symm
theorem ord_all {n b : Nat} {ths ord : List (Int × Int)} (hc : Conn n ths) (hb : b < n) (o : Ord ths (b : Nat) ord) : ∀ p : Nat, p < n → ((p : Nat) : Int) ∈ ord.map (·.1) :=
  hc.from_ hb (S := fun p => p ∈ ord.map (·.1)) (List.mem_map.mpr ⟨_, List.mem_of_getElem? o.fst, rfl⟩) fun p c hp ha => by
    obtain ⟨e, he, rfl⟩ := List.mem_map.mp hp
    exact o.all e he c ha
theorem getD_some {xs : List Int} {i : Nat} (h : i < xs.length) : xs[i]? = some (xs.getD i 0) := by rw [List.getD_eq_getElem?_getD, List.getElem?_eq_getElem h]; rfl
/-! ### a dict of rows -/
def kvR (es : List (Int × Addr)) : List (Key × V) := es.map fun e => (.inl e.1, .ref e.2)
theorem valR_none {p : Int} : ∀ {es : List (Int × Addr)}, p ∉ es.map (·.1) → valV (kvR es) (.inl p) = none
  | [], _ => rfl
  | e :: es, h => by
    unfold kvR at *
    rw [List.map_cons, valV_neg (fun z => h (by rw [List.map_cons, Sum.inl.inj z]; exact List.mem_cons_self))]
    exact valR_none (es := es) fun z => h (by rw [List.map_cons]; exact List.mem_cons_of_mem _ z)
theorem valR_some {p : Int} : ∀ {es : List (Int × Addr)}, p ∈ es.map (·.1) → ∃ e ∈ es, e.1 = p ∧ valV (kvR es) (.inl p) = some (.ref e.2)
  | e :: es, h => by
    by_cases c : e.1 = p
    · refine ⟨e, List.mem_cons_self, c, ?_⟩
      unfold kvR
      rw [List.map_cons]
      exact valV_pos (by rw [c])
    · rw [List.map_cons] at h
      rcases List.mem_cons.mp h with z | z
      · exact absurd z.symm c
      · obtain ⟨f, hf, f1, f2⟩ := valR_some z
        refine ⟨f, List.mem_cons_of_mem _ hf, f1, ?_⟩
        unfold kvR at *
        rw [List.map_cons, valV_neg (fun z => c (Sum.inl.inj z))]
        exact f2
/-- d holds the rows R at the places ks -/
def DRw (K : PySem.W.Frag) (H : Hp) (d : Addr) (ks : List Int) (R : Int → List Int) : Prop := ∃ es : List (Int × Addr), H d = some (.dK (kvR es)) ∧ es.map (·.1) = ks ∧ ∀ e ∈ es, SqT K H e.2 ((R e.1).map V.int)
theorem DRw.same {K : PySem.W.Frag} {H H1 : Hp} {d : Addr} {ks : List Int} {R : Int → List Int} (e : Same H H1) (h : DRw K H d ks R) : DRw K H1 d ks R := by
  obtain ⟨es, h1, h2, h3⟩ := h
  exact ⟨es, e _ _ h1, h2, fun x hx => e.tup (h3 x hx)⟩
theorem DRw.get {K : PySem.W.Frag} {H : Hp} {d : Addr} {ks : List Int} {R : Int → List Int} {p : Int} (h : DRw K H d ks R) (hp : p ∈ ks) : ∃ kvs c, H d = some (.dK kvs) ∧ valV kvs (.inl p) = some (.ref c) ∧ SqT K H c ((R p).map V.int) := by
  obtain ⟨es, h1, h2, h3⟩ := h
  rw [← h2] at hp
  obtain ⟨e, he, e1, e2⟩ := valR_some hp
  exact ⟨_, _, h1, e2, by rw [← e1]; exact h3 e he⟩
theorem tup_updX {K : PySem.W.Frag} {H : Hp} {a q : Addr} {xs : List V} {o : HO} (h : SqT K H a xs) (h1 : ∀ ys, H q ≠ some (.tup ys)) (h2 : ∀ f ys, H q ≠ some (.frz f (.tup ys))) : SqT K (upd H q o) a xs := by
  rcases h with (h | ⟨f, h⟩) | h
  · exact .inl (.inl (by rw [upd_ne (fun z => h1 _ (z ▸ h))]; exact h))
  · exact .inl (.inr ⟨f, by rw [upd_ne (fun z => h2 _ _ (z ▸ h))]; exact h⟩)
  · exact .inr h
theorem DRw.new {K : PySem.W.Frag} {H : Hp} {d : Addr} {R : Int → List Int} (h : H d = some (.dK [])) : DRw K H d [] R := ⟨[], h, rfl, fun e he => by cases he⟩
theorem DRw.put {K : PySem.W.Frag} {H : Hp} {d c : Addr} {ks : List Int} {R : Int → List Int} {p : Int} {r : List Int} (h : DRw K H d ks R) (hp : p ∉ ks) (hc : SqT K H c (r.map V.int)) : ∃ kvs, H d = some (.dK kvs) ∧ kvs.length = ks.length ∧ valV kvs (.inl p) = none ∧ DRw K (upd H d (.dK (putK kvs (.inl p) (.ref c)))) d (ks ++ [p]) (fun q => if q = p then r else R q) := by
  obtain ⟨es, h1, h2, h3⟩ := h
  have hn := valR_none (es := es) (p := p) (by rw [h2]; exact hp)
  refine ⟨kvR es, h1, by unfold kvR; rw [List.length_map, ← h2, List.length_map], hn, es ++ [(p, c)], ?_, by rw [List.map_append, h2]; rfl, fun e he => ?_⟩
  · rw [upd_same, putK_new _ hn]
    unfold kvR
    rw [List.map_append]
    rfl
  · have t : ∀ {b xs}, SqT K H b xs → SqT K (upd H d (.dK (putK (kvR es) (.inl p) (.ref c)))) b xs := fun z => tup_updX z (fun ys z => by rw [h1] at z; cases z) (fun f ys z => by rw [h1] at z; cases z)
    rcases List.mem_append.mp he with he | he
    · have ne : e.1 ≠ p := fun z => hp (by rw [← h2, ← z]; exact List.mem_map.mpr ⟨e, he, rfl⟩)
      dsimp only
      rw [if_neg ne]
      exact t (h3 e he)
    · rw [List.mem_singleton.mp he]
      dsimp only
      rw [if_pos rfl]
      exact t hc
theorem DRw.upd {K : PySem.W.Frag} {H : Hp} {d q : Addr} {ks : List Int} {R : Int → List Int} {o : HO} (h : DRw K H d ks R) (ne : d ≠ q) (h1 : ∀ ys, H q ≠ some (.tup ys)) (h2 : ∀ f ys, H q ≠ some (.frz f (.tup ys))) : DRw K (upd H q o) d ks R := by
  obtain ⟨es, g1, g2, g3⟩ := h
  exact ⟨es, by rw [upd_ne ne]; exact g1, g2, fun e he => tup_updX (g3 e he) h1 h2⟩
theorem Ord.inj {ths ord : List (Int × Int)} {b : Int} (o : Ord ths b ord) {i j : Nat} {f g : Int × Int} (hf : ord[i]? = some f) (hg : ord[j]? = some g) (z : f.1 = g.1) : i = j := by
  obtain ⟨hi, rfl⟩ := List.getElem?_eq_some_iff.mp hf
  obtain ⟨hj, rfl⟩ := List.getElem?_eq_some_iff.mp hg
  have nd := List.pairwise_iff_getElem.mp o.nd
  rcases Nat.lt_trichotomy i j with h | h | h
  · have := nd i j (by rw [List.length_map]; exact hi) (by rw [List.length_map]; exact hj) h
    rw [List.getElem_map, List.getElem_map] at this
    exact absurd z this
  · exact h
  · have := nd j i (by rw [List.length_map]; exact hj) (by rw [List.length_map]; exact hi) h
    rw [List.getElem_map, List.getElem_map] at this
    exact absurd z.symm this
/-- the next place of the order -/
theorem TreeR.step {xs ys : List Int} {ths ord : List (Int × Int)} {b : Int} {first r : List Int} {k : Nat} {e : Int × Int} {R : Int → List Int} (o : Ord ths b ord) (h : TreeR xs ys ord first k R) (he : ord[k]? = some e) (h0 : k = 0 → r = first) (h1 : 0 < k → r = carr xs ys (R e.2) e.1) : TreeR xs ys ord first (k + 1) (fun q => if q = e.1 then r else R q) := by
  refine ⟨fun f hf _ => ?_, fun i f h0i hik hf => ?_⟩
  · dsimp only
    by_cases c : f.1 = e.1
    · rw [if_pos c]
      exact h0 (o.inj hf he c).symm
    · rw [if_neg c]
      refine h.1 f hf (Nat.pos_of_ne_zero fun z => c ?_)
      subst z
      rw [hf] at he
      rw [Option.some.inj he]
  · obtain ⟨j, g, hj, hg, g1, ga⟩ := o.up i f hf h0i
    have up : f.2 ≠ e.1 := fun z => by
      have := o.inj hg he (g1.trans z)
      omega
    dsimp only
    rw [if_neg up]
    by_cases c : f.1 = e.1
    · have ek := o.inj hf he c
      subst ek
      rw [hf] at he
      cases Option.some.inj he
      rw [if_pos rfl]
      exact h1 h0i
    · rw [if_neg c]
      refine h.2 i f h0i ?_ hf
      by_cases z : i = k
      · subst z
        rw [hf] at he
        exact absurd (by rw [Option.some.inj he]) c
      · omega
theorem ord_lt {n b : Nat} {ths ord : List (Int × Int)} (hi : InN n ths) (hb : b < n) (o : Ord ths (b : Nat) ord) : ∀ e ∈ ord, 0 ≤ e.1 ∧ e.1 < (n : Nat) := fun e he => by
  obtain ⟨i, h, rfl⟩ := List.getElem_of_mem he
  by_cases h0 : i = 0
  · subst h0
    have := o.fst
    rw [List.getElem?_eq_getElem h] at this
    rw [Option.some.inj this]
    dsimp only
    omega
  · obtain ⟨_, _, _, _, _, ha⟩ := o.up i _ (List.getElem?_eq_getElem h) (by omega)
    exact adj_lt hi ha
theorem ord_len {n b : Nat} {ths ord : List (Int × Int)} (hi : InN n ths) (hb : b < n) (o : Ord ths (b : Nat) ord) : ord.length ≤ n := by
  have := nodup_len n (ord.map (·.1)) o.nd fun e he => by
    obtain ⟨f, hf, rfl⟩ := List.mem_map.mp he
    exact ord_lt hi hb o f hf
  rw [List.length_map] at this
  exact this
def Stand (rows : List (List Int)) (n : Nat) (ths : List (Int × Int)) (xs : List Int) : Prop := xs.length = n ∧ ∀ p, p < n → FitP rows ths xs p
def OkFirst (rows : List (List Int)) (first : List Int) (x y : Int) : Prop := first.length ≤ 47 ∧ LinkRow rows first x y
theorem OkFirst.ends {rows : List (List Int)} {xs ys first : List Int} {b : Nat} (h : OkFirst rows first (xs.getD b 0) (ys.getD b 0)) : EndsR xs ys first (b : Nat) :=
  ⟨opn_str h.2.2.2.2.2, by rw [Int.toNat_natCast]; exact h.2.2.1, by rw [Int.toNat_natCast]; exact h.2.2.2.1⟩

/-! ### tables and nets that are drawn -/
theorem bsr_mem {n : Nat} {prs : List (Int × Int)} {p : Nat} {c : Int} : c ∈ bsr n prs p ↔ (0 ≤ c ∧ c < (n : Nat)) ∧ ((((p : Nat) : Int), c) ∈ prs ∨ (c, ((p : Nat) : Int)) ∈ prs) := by
  unfold bsr
  rw [List.mem_filter, decide_eq_true_eq]
  refine and_congr ⟨fun h => ?_, fun h => ?_⟩ Iff.rfl
  · obtain ⟨i, hi, rfl⟩ := List.mem_map.mp h
    have := List.mem_range.mp hi
    show (0 : Int) ≤ (i : Int) ∧ (i : Int) < (n : Nat)
    omega
  · exact List.mem_map.mpr ⟨c.toNat, List.mem_range.mpr (by omega), by show ((c.toNat : Nat) : Int) = c; omega⟩
theorem besd_at {n : Nat} {prs : List (Int × Int)} {p : Nat} {row : List Int} (h : (besd n prs)[p]? = some row) : p < n ∧ row = bsr n prs p := by
  unfold besd at h
  rw [List.getElem?_map] at h
  by_cases hp : p < n
  · rw [List.getElem?_range hp] at h
    exact ⟨hp, (Option.some.inj h).symm⟩
  · rw [List.getElem?_eq_none (by rw [List.length_range]; omega)] at h
    cases h
theorem besd_len {n : Nat} {prs : List (Int × Int)} : (besd n prs).length = n := by
  unfold besd
  rw [List.length_map, List.length_range]
theorem good_besd {n : Nat} {prs : List (Int × Int)} (n1 : 1 ≤ n) (n8 : n ≤ 8) : GoodT (besd n prs) := by
  refine ⟨by rw [besd_len]; exact n1, by rw [besd_len]; exact n8, fun row hr => ?_, fun p row hp s hs => ?_⟩
  · rw [besd_len]
    obtain ⟨p, _, rfl⟩ := List.mem_map.mp hr
    refine asc_ok ?_ ?_ fun c hc => (bsr_mem.mp hc).1
    · unfold bsr
      refine List.Pairwise.filter _ ?_
      rw [List.pairwise_map]
      exact (List.pairwise_le_range).imp fun {a b} h => by show (a : Int) ≤ (b : Int); omega
    · unfold bsr
      refine List.Pairwise.filter _ ?_
      exact List.Pairwise.map _ (fun a b h z => h (by
        have z2 : (a : Int) = (b : Int) := z
        omega)) List.nodup_range
  · obtain ⟨hpn, rfl⟩ := besd_at hp
    obtain ⟨h1, h2⟩ := bsr_mem.mp hs
    refine ⟨bsr n prs s.toNat, ?_, bsr_mem.mpr ⟨by omega, ?_⟩⟩
    · unfold besd
      rw [List.getElem?_map, List.getElem?_range (by omega)]
      rfl
    · rw [show ((s.toNat : Nat) : Int) = s by omega]
      exact h2.symm
/-- some coat has a road -/
def Road (rows : List (List Int)) : Prop := ∃ p s : Int, 0 ≤ p ∧ p < (rows.length : Nat) ∧ 0 ≤ s ∧ s < (rows.length : Nat) ∧ s ∈ rowOf rows p.toNat ∧ p ∈ rowOf rows s.toNat
theorem rowOf_besd {n : Nat} {prs : List (Int × Int)} {p : Nat} (h : p < n) : rowOf (besd n prs) p = bsr n prs p := by
  refine row_of ?_
  unfold besd
  rw [List.getElem?_map, List.getElem?_range h]
  rfl
theorem road_besd {n : Nat} {prs : List (Int × Int)} (hb : ∀ e ∈ prs, 0 ≤ e.1 ∧ e.1 < (n : Nat) ∧ 0 ≤ e.2 ∧ e.2 < (n : Nat)) (hne : prs ≠ []) : Road (besd n prs) := by
  obtain ⟨e, he⟩ := List.exists_mem_of_ne_nil _ hne
  obtain ⟨h1, h2, h3, h4⟩ := hb e he
  obtain ⟨p, s⟩ := e
  dsimp only at *
  refine ⟨p, s, h1, by rw [besd_len]; exact h2, h3, by rw [besd_len]; exact h4, ?_, ?_⟩
  · rw [rowOf_besd (by omega)]
    exact bsr_mem.mpr ⟨⟨h3, h4⟩, .inl (by rw [show ((p.toNat : Nat) : Int) = p by omega]; exact he)⟩
  · rw [rowOf_besd (by omega)]
    exact bsr_mem.mpr ⟨⟨h1, h2⟩, .inr (by rw [show ((s.toNat : Nat) : Int) = s by omega]; exact he)⟩
theorem eqv_nil (ds : List PyData) : PyData.eqv (.list ds) (.list []) = decide (ds = []) := by
  cases ds <;> simp [PyData.eqv, PyData.eqvAll]
theorem TPs.pl {K : PySem.W.Frag} {H : Hp} {d : Addr} {us : List V} {prs : List (Int × Int)} (hd : H d = some (.lst us)) (h : TPs H us prs) : PL K H d prs := .lst (SqL.of hd) h.dp
theorem ints_of_mem {xs : List Int} {v : V} (h : v ∈ xs.map V.int) : ∃ c, v = .int c ∧ c ∈ xs := by
  obtain ⟨c, hc, rfl⟩ := List.mem_map.mp h
  exact ⟨c, rfl, hc⟩
/-- a list of new pairs, a tree -/
structure ThL (H H' : Hp) (p d : Addr) (n : Nat) (us : List V) (prs : List (Int × Int)) : Prop where
  d0 : H d = none
  lst : H' d = some (.lst us)
  tps : TPs H' us prs
  nd : prs.Nodup
  rng : InN n prs
  tree : Tree n prs
  src : Src H' p
  exb : Exb p H H'
theorem ThL.exb' {H H1 H2 : Hp} {p d : Addr} {n : Nat} {us : List V} {prs : List (Int × Int)} (h : ThL H H1 p d n us prs) (hne : d ≠ p) (s2 : Src H2 p) (e : Exb p H1 H2) : ThL H H2 p d n us prs :=
  ⟨h.d0, e.lst hne h.lst, h.tps.exb h.src e, h.nd, h.rng, h.tree, s2, h.exb.trans e⟩
theorem ThL.same {H H1 H2 : Hp} {p d : Addr} {n : Nat} {us : List V} {prs : List (Int × Int)} (h : ThL H H1 p d n us prs) (e : Same H1 H2) : ThL H H2 p d n us prs :=
  ⟨h.d0, e _ _ h.lst, h.tps.same e, h.nd, h.rng, h.tree, e.src h.src, h.exb.trans (Exb.of e)⟩
theorem ThL.add {H H1 : Hp} {p d t : Addr} {n : Nat} {us : List V} {prs : List (Int × Int)} {x y : Int} (h : ThL H H1 p d n us prs) (hne : d ≠ p) (ht : H1 t = some (.tup [.int x, .int y])) (hm : (x, y) ∉ prs) (h0 : 0 ≤ x) (h1 : x < y) (h2 : y < (n : Nat)) : ThL H (upd H1 d (.lst (us ++ [.ref t]))) p d n (us ++ [.ref t]) (prs ++ [(x, y)]) := by
  refine ⟨h.d0, upd_same, (h.tps.snoc ⟨t, rfl, ht⟩).upd h.lst, List.nodup_append.mpr ⟨h.nd, nodup1 _, fun a ha b hb z => ?_⟩, fun e he => ?_, fun v v0 v1 => ?_, h.src.put hne, fun b o hb ho => ?_⟩
  · rw [List.mem_singleton.mp hb] at z
    exact hm (z ▸ ha)
  · rcases List.mem_append.mp he with he | he
    · exact h.rng e he
    · rw [List.mem_singleton.mp he]
      exact ⟨h0, h1, h2⟩
  · obtain ⟨w_, hw, hwm⟩ := h.tree v v0 v1
    exact ⟨w_, hw, List.mem_append_left _ hwm⟩
  · rw [upd_ne (ne_of_none ho h.d0)]
    exact h.exb _ _ hb ho
theorem not_in_line {n : Nat} {prs : List (Int × Int)} (h : ∀ e ∈ prs, e.2 = e.1 + 1) (hn : 2 < n) : ((0 : Int), ((n : Nat) : Int) - 1) ∉ prs := fun z => by
  have := h _ z
  dsimp only at this
  omega
/-! ### standings filled place by place -/
theorem GoodT.symR {rows : List (List Int)} (g : GoodT rows) {c d : Int} (hd : 0 ≤ d ∧ d < (rows.length : Nat)) (h : c ∈ rowOf rows d.toNat) : d ∈ rowOf rows c.toNat := by
  have hr : rows[d.toNat]? = some rows[d.toNat] := List.getElem?_eq_getElem (by omega)
  rw [row_of hr] at h
  obtain ⟨row', h1, h2⟩ := g.sym _ _ hr c h
  rw [row_of h1]
  rw [show ((d.toNat : Nat) : Int) = d by omega] at h2
  exact h2
theorem fit_pre {rows : List (List Int)} {ths : List (Int × Int)} {a b : List Int} {q : Nat} (hq : q < a.length) : FitP rows ths (a ++ b) q ↔ FitP rows ths a q := by
  unfold FitP
  rw [List.getElem?_append_left hq]
  constructor
  · rintro ⟨c, h1, h2, h3, h4⟩
    refine ⟨c, h1, h2, h3, fun o ha ho => ?_⟩
    obtain ⟨d, g1, g2⟩ := h4 o ha ho
    rw [List.getElem?_append_left (by omega)] at g1
    exact ⟨d, g1, g2⟩
  · rintro ⟨c, h1, h2, h3, h4⟩
    refine ⟨c, h1, h2, h3, fun o ha ho => ?_⟩
    obtain ⟨d, g1, g2⟩ := h4 o ha ho
    exact ⟨d, by rw [List.getElem?_append_left (by omega)]; exact g1, g2⟩
/-- the places that speak against a coat -/
def badJ (rows : List (List Int)) (done row : List Int) (c : Int) : List Int := row.filter fun j => decide (j < (done.length : Nat)) && !decide (c ∈ rowOf rows (done.getD j.toNat 0).toNat)
theorem fit_snoc {rows : List (List Int)} {n : Nat} {ths : List (Int × Int)} {done row : List Int} {c : Int} (g : GoodT rows) (hi : InN n ths) (hrow : ∀ o, o ∈ row ↔ Adj ths ((done.length : Nat) : Int) o) (hd : ∀ q, q < done.length → FitP rows ths done q) (hc : 0 ≤ c ∧ c < (rows.length : Nat)) : badJ rows done row c = [] ↔ FitP rows ths (done ++ [c]) done.length := by
  have rng : ∀ o : Int, Adj ths ((done.length : Nat) : Int) o → o < ((done.length : Nat) : Int) → 0 ≤ o ∧ ∃ d, done[o.toNat]? = some d ∧ done.getD o.toNat 0 = d ∧ 0 ≤ d ∧ d < (rows.length : Nat) := fun o ha ho => by
    have h0 := adj_lt hi ha
    obtain ⟨d, h1, h2, h3, _⟩ := hd o.toNat (by omega)
    exact ⟨h0.1, d, h1, by rw [List.getD_eq_getElem?_getD, h1]; rfl, h2, h3⟩
  unfold badJ
  rw [List.filter_eq_nil_iff]
  constructor
  · intro h
    refine ⟨c, by rw [List.getElem?_append_right (Nat.le_refl _), Nat.sub_self]; rfl, hc.1, hc.2, fun o ha ho => ?_⟩
    obtain ⟨h0, d, h1, h2, h3, h4⟩ := rng o ha ho
    refine ⟨d, by rw [List.getElem?_append_left (by omega)]; exact h1, ?_⟩
    have := h o ((hrow o).mpr ha)
    rw [h2, decide_eq_true ho] at this
    have hm : c ∈ rowOf rows d.toNat := by simpa using this
    exact g.symR ⟨h3, h4⟩ hm
  · rintro ⟨c', h1, _, _, h4⟩ o ho
    rw [List.getElem?_append_right (Nat.le_refl _), Nat.sub_self] at h1
    cases Option.some.inj h1
    by_cases hlt : o < ((done.length : Nat) : Int)
    · have ha := (hrow o).mp ho
      obtain ⟨h0, d, g1, g2, g3, g4⟩ := rng o ha hlt
      obtain ⟨d', e1, e2⟩ := h4 o ha hlt
      rw [List.getElem?_append_left (by omega), g1] at e1
      cases Option.some.inj e1
      rw [g2]
      have := g.symR hc e2
      simp [this]
    · simp [hlt]
theorem fit_all {rows : List (List Int)} {ths : List (Int × Int)} {done : List Int} {c : Int} (hd : ∀ q, q < done.length → FitP rows ths done q) (h : FitP rows ths (done ++ [c]) done.length) : ∀ q, q < (done ++ [c]).length → FitP rows ths (done ++ [c]) q := fun q hq => by
  rw [List.length_append] at hq
  by_cases e : q < done.length
  · exact (fit_pre e).mpr (hd q e)
  · have : q = done.length := by
      have : q < done.length + 1 := hq
      omega
    rw [this]
    exact h
theorem mod_hit {b c : Int} {q : Nat} (hc : 0 ≤ c ∧ c < (q : Nat)) : ∃ j : Nat, j < q ∧ (b + (j : Int)) % (q : Nat) = c := by
  have q0 : (0 : Int) < (q : Nat) := by omega
  refine ⟨((c - b) % (q : Nat)).toNat, ?_, ?_⟩
  · have h0 := Int.emod_nonneg (c - b) (show ((q : Nat) : Int) ≠ 0 by omega)
    have h1 := Int.emod_lt_of_pos (c - b) q0
    omega
  · have h0 := Int.emod_nonneg (c - b) (show ((q : Nat) : Int) ≠ 0 by omega)
    rw [show ((((c - b) % (q : Nat)).toNat : Nat) : Int) = (c - b) % (q : Nat) by omega]
    rw [Int.add_emod b, Int.emod_emod, ← Int.add_emod, show b + (c - b) = c by omega]
    exact Int.emod_eq_of_lt hc.1 hc.2

/-! ### tables that are compared -/
theorem canRows : ∀ rows : List (List Int), PyData.canLayAll0 (rows.map rowD) = true
  | [] => rfl
  | r :: rows => by
    rw [List.map_cons, PyData.canLayAll0, canRows rows]
    show (PyData.canLay0 (.tuple (r.map .int)) && true) = true
    rw [PyData.canLay0, shAll]
    rfl
theorem depRows : ∀ rows : List (List Int), PyData.depthAll (rows.map rowD) ≤ 1
  | [] => Nat.zero_le _
  | r :: rows => by
    have := depRows rows
    rw [List.map_cons, PyData.depthAll]
    show max (PyData.depth (.tuple (r.map .int))) _ ≤ 1
    rw [PyData.depth, dpAll0]
    omega
theorem shRows (rows : List (List Int)) : SeqAt.shaped (.tuple (rows.map rowD)) = true := by
  have := depRows rows
  unfold SeqAt.shaped
  rw [PyData.canLay0, canRows, PyData.depth, decide_eq_true (by omega)]
  rfl
theorem eqvRows : ∀ a b : List (List Int), PyData.eqvAll (a.map rowD) (b.map rowD) = decide (a = b)
  | [], [] => by simp [PyData.eqvAll]
  | [], _ :: _ => by simp [PyData.eqvAll]
  | _ :: _, [] => by simp [PyData.eqvAll]
  | x :: xs, y :: ys => by
    rw [List.map_cons, List.map_cons, PyData.eqvAll, eqvRows xs ys]
    show (PyData.eqv (.tuple (x.map .int)) (.tuple (y.map .int)) && _) = _
    rw [PyData.eqv, eqvI, ← Bool.decide_and]
    exact decide_eq_decide.mpr (by rw [List.cons.injEq])
theorem eqTT {K : PySem.W.Frag} {H : Hp} {a b : Addr} {r1 r2 : List (List Int)} {Q : VK} (ha : Bw.TT K H a r1) (hb : Bw.TT K H b r2) (q : Q (.bl (decide (r1 = r2))) H) : rEqD K (.ref a) (.ref b) H Q :=
  ⟨_, _, ha, hb, shRows _, shRows _, by rw [PyData.eqv, eqvRows]; exact q⟩
def three1 : List (List Int) := [[1, 2], [0, 2], [0, 1]]
def three2 : List (List Int) := [[0, 1, 2], [0, 2], [0, 1]]
theorem good3 : GoodT three2 := by
  refine ⟨by decide, by decide, fun row hr => ?_, fun p row hp s hs => ?_⟩
  · simp [three2] at hr
    rcases hr with rfl | rfl | rfl
    · exact asc_ok (by decide) (by decide) (by decide)
    · exact asc_ok (by decide) (by decide) (by decide)
    · exact asc_ok (by decide) (by decide) (by decide)
  · have hp3 := (List.getElem?_eq_some_iff.mp hp).1
    have hp3 : p < 3 := hp3
    obtain rfl | rfl | rfl : p = 0 ∨ p = 1 ∨ p = 2 := by omega
    · cases Option.some.inj hp
      simp at hs
      rcases hs with rfl | rfl | rfl
      · exact ⟨[0, 1, 2], rfl, by decide⟩
      · exact ⟨[0, 2], rfl, by decide⟩
      · exact ⟨[0, 1], rfl, by decide⟩
    · cases Option.some.inj hp
      simp at hs
      rcases hs with rfl | rfl
      · exact ⟨[0, 1, 2], rfl, by decide⟩
      · exact ⟨[0, 1], rfl, by decide⟩
    · cases Option.some.inj hp
      simp at hs
      rcases hs with rfl | rfl
      · exact ⟨[0, 1, 2], rfl, by decide⟩
      · exact ⟨[0, 2], rfl, by decide⟩
theorem road3 : Road three2 := ⟨0, 1, by decide, by decide, by decide, by decide, by decide, by decide⟩
/-! ### the line -/
def lineL (k : Nat) : List (Int × Int) := (List.range k).map fun (i : Nat) => ((i : Int), (i : Int) + 1)
theorem lineL_snoc (k : Nat) : lineL (k + 1) = lineL k ++ [((k : Int), (k : Int) + 1)] := by
  unfold lineL
  rw [List.range_succ, List.map_append]
  rfl
theorem lineL_len (k : Nat) : (lineL k).length = k := by
  unfold lineL
  rw [List.length_map, List.length_range]
theorem lineL_at {k i : Nat} {e : Int × Int} (h : (lineL k)[i]? = some e) : i < k ∧ e = ((i : Int), (i : Int) + 1) := by
  have hi := (List.getElem?_eq_some_iff.mp h).1
  rw [lineL_len] at hi
  unfold lineL at h
  rw [List.getElem?_map, List.getElem?_range hi] at h
  exact ⟨hi, (Option.some.inj h).symm⟩
theorem lineL_tree {n : Nat} (hn : 1 ≤ n) : TreeK n (lineL (n - 1)) := ⟨by rw [lineL_len]; omega, fun i e he => by
  obtain ⟨_, rfl⟩ := lineL_at he
  dsimp only
  omega⟩
theorem lineL_good {n : Nat} (n1 : 1 ≤ n) (n24 : n ≤ 24) : GoodN n (lineL (n - 1)) := by
  have t := lineL_tree n1
  refine goodN_of n1 n24 (List.Perm.refl _) ?_ t.nodup t.inN t.tree (by rw [lineL_len]; omega)
  refine List.pairwise_iff_getElem.mpr fun i j hi hj hij => ?_
  obtain ⟨_, e1⟩ := lineL_at (List.getElem?_eq_getElem hi)
  obtain ⟨_, e2⟩ := lineL_at (List.getElem?_eq_getElem hj)
  rw [e1, e2]
  left
  dsimp only
  omega
theorem line_stand {rows : List (List Int)} {n : Nat} (h : Road rows) : ∃ st, Stand rows n (lineL (n - 1)) st := by
  obtain ⟨p, s, p0, p1, s0, s1, h1, h2⟩ := h
  refine ⟨(List.range n).map fun i => if i % 2 = 0 then p else s, by rw [List.length_map, List.length_range], fun q hq => ?_⟩
  have at_ : ∀ i, i < n → ((List.range n).map fun i => if i % 2 = 0 then p else s)[i]? = some (if i % 2 = 0 then p else s) := fun i hi => by
    rw [List.getElem?_map, List.getElem?_range hi]
    rfl
  refine ⟨_, at_ q hq, by split <;> assumption, by split <;> assumption, fun o ha ho => ?_⟩
  have adj : o = (q : Int) - 1 ∧ 0 < q := by
    rcases ha with ha | ha
    · obtain ⟨i, hi, e⟩ := List.getElem_of_mem ha
      obtain ⟨_, e2⟩ := lineL_at (List.getElem?_eq_getElem hi)
      rw [e] at e2
      cases e2
      omega
    · obtain ⟨i, hi, e⟩ := List.getElem_of_mem ha
      obtain ⟨_, e2⟩ := lineL_at (List.getElem?_eq_getElem hi)
      rw [e] at e2
      have z1 := congrArg Prod.fst e2
      have z2 := congrArg Prod.snd e2
      dsimp only at z1 z2
      omega
  obtain ⟨rfl, hq0⟩ := adj
  have et : ((q : Int) - 1).toNat = q - 1 := by omega
  rw [et]
  refine ⟨_, at_ (q - 1) (by omega), ?_⟩
  by_cases c : q % 2 = 0
  · rw [if_pos c, if_neg (by omega)]
    exact h1
  · rw [if_neg c, if_pos (by omega)]
    exact h2
/-! ### straight rows that are drawn -/
theorem str_snoc {l : List Int} {c : Int} (h : Str8 l) (h2 : ∀ d, 2 ≤ l.length → l[l.length - 2]? = some d → d ≠ c) : Str8 (l ++ [c]) := str_ix.mpr fun i hi => by
  rw [List.length_append] at hi
  have hi : i + 2 < l.length + 1 := hi
  by_cases e : i + 2 < l.length
  · rw [List.getElem?_append_left (by omega), List.getElem?_append_left e]
    exact str_ix.mp h i e
  · have e2 : i + 2 = l.length := by omega
    rw [List.getElem?_append_left (by omega), e2, List.getElem?_append_right (Nat.le_refl _), Nat.sub_self]
    intro z
    refine h2 c (by omega) ?_ rfl
    rw [show l.length - 2 = i by omega, z]
    rfl
theorem rowAt_snoc {rows : List (List Int)} {l : List Int} {c d : Int} (h : ∀ i, rowAt rows l i) (hc : 0 ≤ c ∧ c < (rows.length : Nat)) (hd : l.getLast? = some d) (hm : c ∈ rowOf rows d.toNat) : ∀ i, rowAt rows (l ++ [c]) i := fun i x hx => by
  by_cases e : i < l.length
  · rw [List.getElem?_append_left e] at hx
    refine ⟨(h i x hx).1, fun d' h0 hd' => ?_⟩
    rw [List.getElem?_append_left (by omega)] at hd'
    exact (h i x hx).2 d' h0 hd'
  · have hi := (List.getElem?_eq_some_iff.mp hx).1
    rw [List.length_append] at hi
    have ei : i = l.length := by
      have : i < l.length + 1 := hi
      omega
    subst ei
    rw [List.getElem?_append_right (Nat.le_refl _), Nat.sub_self] at hx
    cases Option.some.inj hx
    refine ⟨hc, fun d' h0 hd' => ?_⟩
    rw [List.getElem?_append_left (by omega)] at hd'
    rw [List.getLast?_eq_getElem?] at hd
    rw [hd] at hd'
    cases Option.some.inj hd'
    exact hm
theorem rowAt_pre {rows : List (List Int)} {l m : List Int} (h : ∀ i, rowAt rows (l ++ m) i) : ∀ i, rowAt rows l i := fun i x hx => by
  have hi := (List.getElem?_eq_some_iff.mp hx).1
  obtain ⟨h1, h2⟩ := h i x (by rw [List.getElem?_append_left hi]; exact hx)
  exact ⟨h1, fun d h0 hd => h2 d h0 (by rw [List.getElem?_append_left (by omega)]; exact hd)⟩
/-- a straight row of the table that begins with c -/
structure SRow (rows : List (List Int)) (c : Int) (row : List Int) : Prop where
  hd : row.head? = some c
  at_ : ∀ i, rowAt rows row i
  st : Str8 row
theorem SRow.pos {rows : List (List Int)} {c : Int} {row : List Int} (h : SRow rows c row) : 0 < row.length := by
  have := h.hd
  cases row with
  | nil => cases this
  | cons x r => simp
theorem SRow.last {rows : List (List Int)} {c : Int} {row : List Int} (h : SRow rows c row) : ∃ d, row.getLast? = some d ∧ 0 ≤ d ∧ d < (rows.length : Nat) := by
  have hp := h.pos
  refine ⟨row[row.length - 1]'(by omega), by rw [List.getLast?_eq_getElem?]; exact List.getElem?_eq_getElem _, ?_⟩
  exact (h.at_ (row.length - 1) _ (List.getElem?_eq_getElem _)).1
theorem SRow.one {rows : List (List Int)} {c : Int} (h : 0 ≤ c ∧ c < (rows.length : Nat)) : SRow rows c [c] := by
  refine ⟨rfl, fun i x hx => ?_, str_ix.mpr fun i hi => absurd hi (by show ¬ i + 2 < 1; omega)⟩
  have hi := (List.getElem?_eq_some_iff.mp hx).1
  have hi : i < 1 := hi
  have : i = 0 := by omega
  subst this
  cases Option.some.inj hx
  exact ⟨h, fun d h0 => absurd h0 (by omega)⟩
theorem SRow.init {rows : List (List Int)} {c : Int} {row : List Int} (h : SRow rows c row) (hl : 2 ≤ row.length) : SRow rows c row.dropLast := by
  have e : row = row.dropLast ++ [row.getLast (by intro z; rw [z] at hl; simp at hl)] := (List.dropLast_concat_getLast _).symm
  refine ⟨?_, rowAt_pre (m := [row.getLast (by intro z; rw [z] at hl; simp at hl)]) (by rw [← e]; exact h.at_), Str8.pre (m := [row.getLast (by intro z; rw [z] at hl; simp at hl)]) (by rw [← e]; exact h.st)⟩
  have h1 := h.hd
  cases row with
  | nil => cases h1
  | cons x r =>
    cases r with
    | nil => simp at hl
    | cons y r => exact h1
theorem SRow.ok {rows : List (List Int)} {c d : Int} {row : List Int} (h : SRow rows c row) (ho : row.length % 2 = 1) (hl : row.length ≤ 47) (hd : row.getLast? = some d) : OkFirst rows row c d :=
  ⟨hl, ho, h.hd, hd, h.at_, str_opn h.st⟩
theorem cutV_init {xs : List V} (h : 0 < xs.length) : cutV xs none (some (-1)) = xs.dropLast := by
  unfold cutV
  rw [HT.sIx_none]
  have e : HT.sIx xs.length xs.length (some (-1)) = xs.length - 1 := by
    show (if (-1 : Int) < 0 then (-1 + (xs.length : Int)).toNat else min (-1 : Int).toNat xs.length) = xs.length - 1
    rw [if_pos (by decide)]
    omega
  rw [e, List.drop_zero, Nat.sub_zero, List.dropLast_eq_take]
theorem cutV_ints (ns : List Int) (lo hi : Option Int) : ∃ ms : List Int, cutV (ns.map V.int) lo hi = ms.map V.int ∧ ms.length ≤ ns.length := by
  unfold cutV
  rw [← List.map_drop, ← List.map_take]
  refine ⟨_, rfl, ?_⟩
  rw [List.length_take, List.length_drop]
  omega
/-! ### rows of whole numbers, somewhere -/
def Rw1 (K : PySem.W.Frag) (H : Hp) (u : V) : Prop := ∃ (b : Addr) (row : List Int), u = .ref b ∧ SqT K H b (row.map V.int) ∧ row.length ≤ 1000
theorem Rw1.same {K : PySem.W.Frag} {H H1 : Hp} {u : V} (s : Same H H1) (h : Rw1 K H u) : Rw1 K H1 u := by
  obtain ⟨b, row, rfl, hb, hl⟩ := h
  exact ⟨b, row, rfl, s.tup hb, hl⟩
theorem Rw1.exb {K : PySem.W.Frag} {H H1 : Hp} {p : Addr} {u : V} (hp : Src H p) (e : Exb p H H1) (h : Rw1 K H u) : Rw1 K H1 u := by
  obtain ⟨b, row, rfl, hb, hl⟩ := h
  exact ⟨b, row, rfl, e.tup hp hb, hl⟩
theorem Rw1.upd {K : PySem.W.Frag} {H : Hp} {q : Addr} {ys : List V} {o : HO} {u : V} (hq : H q = some (.lst ys)) (h : Rw1 K H u) : Rw1 K (upd H q o) u := by
  obtain ⟨b, row, rfl, hb, hl⟩ := h
  exact ⟨b, row, rfl, tup_upd hb hq, hl⟩
/-! ### what linked_from is told to answer -/
open Classical in
noncomputable def linkD (xs ys : List Int) (ths : List (Int × Int)) (n b : Nat) (first : List Int) : PyData :=
  if h : ∃ R, LinkR xs ys ths (b : Nat) first R then .tuple (((List.range n).map fun p => h.choose ((p : Nat) : Int)).map rowD) else .none
theorem linkD_some {xs ys : List Int} {ths : List (Int × Int)} {n b : Nat} {first : List Int} {R : Int → List Int} (hc : Conn n ths) (hb : b < n) (h : LinkR xs ys ths (b : Nat) first R) : linkD xs ys ths n b first = .tuple (((List.range n).map fun p => R ((p : Nat) : Int)).map rowD) := by
  unfold linkD
  rw [dif_pos ⟨R, h⟩]
  have e : ∀ p ∈ List.range n, (Exists.choose (⟨R, h⟩ : ∃ R, LinkR xs ys ths (b : Nat) first R)) ((p : Nat) : Int) = R ((p : Nat) : Int) := fun p hp => LinkR.one hc hb (Exists.choose_spec (⟨R, h⟩ : ∃ R, LinkR xs ys ths (b : Nat) first R)) h p (List.mem_range.mp hp)
  rw [List.map_congr_left e]
theorem linkD_none {xs ys : List Int} {ths : List (Int × Int)} {n b : Nat} {first : List Int} (h : ∀ R, ¬ LinkR xs ys ths (b : Nat) first R) : linkD xs ys ths n b first = .none := by
  unfold linkD
  rw [dif_neg (fun ⟨R, hR⟩ => h R hR)]
theorem linkD_sh (xs ys : List Int) (ths : List (Int × Int)) (n b : Nat) (first : List Int) : (linkD xs ys ths n b first).canLay0 = true ∧ (linkD xs ys ths n b first).depth ≤ 2 := by
  unfold linkD
  split
  · rename_i h
    have := depRows ((List.range n).map fun p => h.choose ((p : Nat) : Int))
    exact ⟨by rw [PyData.canLay0, canRows], by rw [PyData.depth]; omega⟩
  · exact ⟨rfl, by show 0 ≤ 2; omega⟩
def pairD (s : Str) (d : PyData) : PyData := .tuple [.str s, d]
theorem pairD_sh {s : Str} {d : PyData} (hs : PyData.canLay0 (.str s) = true) (h1 : d.canLay0 = true) (h2 : d.depth ≤ 10) : SeqAt.shaped (pairD s d) = true := by
  unfold pairD SeqAt.shaped
  rw [PyData.canLay0, PyData.canLayAll0, PyData.canLayAll0, PyData.canLayAll0, h1, hs, PyData.depth, PyData.depthAll, PyData.depthAll, PyData.depthAll, decide_eq_true (by
    have : PyData.depth (.str s) = 0 := rfl
    omega)]
  rfl
open Classical in
/-- what _law_told gives -/
noncomputable def lkD (rows : List (List Int)) (n : Nat) (ths : List (Int × Int)) (xs ys first : List Int) (b : Nat) : PyData :=
  if xs.length ≠ n then pairD "size" (.int (xs.length : Nat)) else if ys.length ≠ n then pairD "size" (.int (ys.length : Nat))
  else if OkFirst rows first (xs.getD b 0) (ys.getD b 0) then pairD "link" (linkD xs ys ths n b first) else pairD "first" (.int 0)
theorem LLp.ll {p : Addr} {H : Hp} {l : Addr} {rows : List (List Int)} (h : LLp p H l rows) : LL H l rows := by
  obtain ⟨_, bs, h1, h2, h3, _⟩ := h
  exact ⟨bs, h1, h2, h3⟩
theorem wb_exb {K : PySem.W.Frag} {CT CN CW w p : Addr} {H H1 : Hp} {rows : List (List Int)} {n : Nat} {ths : List (Int × Int)} {ps : List Int} (hp : Src H p) (e : Exb p H H1) (h : WB K CT CN CW H w rows n ths ps) : WB K CT CN CW H1 w rows n ths ps := by
  obtain ⟨dx, t, m, pg, h1, ⟨dt, r, h2, h3⟩, h4, h5⟩ := h
  have ne : ∀ {b : Addr} {C d : Addr} {fs}, H b = some (.ins C d fs) → b ≠ p := fun {b C d fs} hb z => by
    obtain ⟨x, y, hq, _⟩ := hp
    rw [z, hq] at hb
    cases hb
  exact ⟨dx, t, m, pg, e _ _ (ne h1) h1, ⟨dt, r, e _ _ (ne h2) h2, tt_exb hp e h3⟩, NB.exb hp e h4, e.tup hp h5⟩
theorem shRowsL (rows : List (List Int)) : SeqAt.shaped (.list (rows.map rowD)) = true := by
  have := depRows rows
  unfold SeqAt.shaped
  rw [PyData.canLay0, canRows, PyData.depth, decide_eq_true (by omega)]
  rfl

/-! ### frozen places -/
def HeldS (ths : List (Int × Int)) (ps xs : List Int) (S : Int → Prop) (p : Int) : Prop := p ∈ ps ∨ (∀ c, ¬ Adj ths p c) ∨ ∃ c d, Adj ths p c ∧ Adj ths p d ∧ S c ∧ S d ∧ xs.getD c.toNat 0 ≠ xs.getD d.toNat 0
def Frz (n : Nat) (ths : List (Int × Int)) (ps xs : List Int) (p : Int) : Prop := ∃ S : Int → Prop, S p ∧ ∀ q, S q → (0 ≤ q ∧ q < (n : Nat)) ∧ HeldS ths ps xs S q
section
variable {n : Nat} {ths : List (Int × Int)} {ps xs : List Int} {S T : Int → Prop} {p : Int}
theorem HeldS.mono (h : ∀ c, Adj ths p c → S c → T c) (k : HeldS ths ps xs S p) : HeldS ths ps xs T p := by
  rcases k with k | k | ⟨c, d, h1, h2, h3, h4, h5⟩
  · exact .inl k
  · exact .inr (.inl k)
  · exact .inr (.inr ⟨c, d, h1, h2, h c h1 h3, h d h2 h4, h5⟩)
theorem Frz.held (h : Frz n ths ps xs p) : (0 ≤ p ∧ p < (n : Nat)) ∧ HeldS ths ps xs (Frz n ths ps xs) p := by
  obtain ⟨S, hp, hS⟩ := h
  exact ⟨(hS p hp).1, (hS p hp).2.mono fun c _ hc => ⟨S, hc, hS⟩⟩
theorem Frz.of (hS : ∀ q, S q → (0 ≤ q ∧ q < (n : Nat)) ∧ HeldS ths ps xs S q) (h : S p) : Frz n ths ps xs p := ⟨S, h, hS⟩
open Classical in
noncomputable def frzL (n : Nat) (ths : List (Int × Int)) (ps xs : List Int) : List Int := ((List.range n).map Int.ofNat).filter fun p => decide (Frz n ths ps xs p)
open Classical in
theorem mem_frzL : p ∈ frzL n ths ps xs ↔ Frz n ths ps xs p := by
  unfold frzL
  rw [List.mem_filter, decide_eq_true_eq]
  refine ⟨fun h => h.2, fun h => ⟨?_, h⟩⟩
  have := h.held.1
  exact List.mem_map.mpr ⟨p.toNat, List.mem_range.mpr (by omega), by show ((p.toNat : Nat) : Int) = p; omega⟩
theorem frzL_len : (frzL n ths ps xs).length ≤ n := by
  unfold frzL
  refine Nat.le_trans (List.length_filter_le _ _) ?_
  rw [List.length_map, List.length_range]
  exact Nat.le_refl _
open Classical in
/-- a list that tells just the frozen places tells them -/
theorem frzL_of {f : Int → Bool} (h : ∀ q : Nat, q < n → (f (q : Nat) = true ↔ Frz n ths ps xs (q : Nat))) : ((List.range n).map Int.ofNat).filter f = frzL n ths ps xs := by
  unfold frzL
  refine List.filter_congr fun c hc => ?_
  obtain ⟨i, hi, rfl⟩ := List.mem_map.mp hc
  have := h i (List.mem_range.mp hi)
  show f ((i : Nat) : Int) = decide (Frz n ths ps xs ((i : Nat) : Int))
  rw [Bool.eq_iff_iff, decide_eq_true_eq]
  exact this
end
theorem count_set_false : ∀ {bs : List Bool} {p : Nat}, bs[p]? = some true → (bs.set p false).count true + 1 = bs.count true
  | [], p, h => by simp at h
  | b :: bs, 0, h => by
    cases Option.some.inj h
    simp
  | b :: bs, p + 1, h => by
    have := count_set_false (bs := bs) (p := p) (by simpa using h)
    rw [List.set_cons_succ, List.count_cons, List.count_cons]
    omega
theorem reps_bl (n : Nat) (b : Bool) : (List.replicate n [V.bl b]).flatten = (List.replicate n b).map V.bl := by
  induction n with
  | zero => rfl
  | succ n ih => rw [List.replicate_succ, List.flatten_cons, ih, List.replicate_succ]; rfl
/-! ### deeds -/
/-- the coat c at v is let at xs -/
def LetP (rows : List (List Int)) (ths : List (Int × Int)) (ps xs : List Int) (v c : Int) : Prop := v ∉ ps ∧ c ≠ xs.getD v.toNat 0 ∧ ∃ q : Int, (∃ o, Adj ths v o) ∧ (∀ o, Adj ths v o → xs.getD o.toNat 0 = q) ∧ c ∈ rowOf rows q.toNat
/-- by deeds -/
inductive Led (rows : List (List Int)) (n : Nat) (ths : List (Int × Int)) (ps : List Int) : List Int → List Int → Prop
  | refl {xs : List Int} : Led rows n ths ps xs xs
  | step {xs ys : List Int} {v : Nat} {c : Int} (h : Led rows n ths ps xs ys) (hv : v < n) (hl : LetP rows ths ps ys (v : Nat) c) : Led rows n ths ps xs (ys.set v c)
section
variable {rows : List (List Int)} {n : Nat} {ths : List (Int × Int)} {ps xs ys : List Int}
theorem Led.trans {zs : List Int} (h : Led rows n ths ps xs ys) (k : Led rows n ths ps ys zs) : Led rows n ths ps xs zs := by
  induction k with
  | refl => exact h
  | step _ hv hl ih => exact ih.step hv hl
/-- threads tie places with coats beside one another -/
theorem Stand.adj (g : GoodT rows) (hi : InN n ths) (h : Stand rows n ths xs) {p o : Int} (ha : Adj ths p o) : xs.getD o.toNat 0 ∈ rowOf rows (xs.getD p.toNat 0).toNat := by
  have key : ∀ p o : Int, Adj ths p o → o < p → xs.getD o.toNat 0 ∈ rowOf rows (xs.getD p.toNat 0).toNat := fun p o ha hlt => by
    have hp := adj_lt hi ha.symm
    obtain ⟨c, hc, _, _, h4⟩ := h.2 p.toNat (by omega)
    obtain ⟨d, hd, hm⟩ := h4 o (by rw [show ((p.toNat : Nat) : Int) = p by omega]; exact ha) (by omega)
    rw [List.getD_eq_getElem?_getD, List.getD_eq_getElem?_getD, hd, hc]
    exact hm
  have hp := adj_lt hi ha.symm
  have ho := adj_lt hi ha
  obtain ⟨c, hc, c0, c1, _⟩ := h.2 p.toNat (by omega)
  rcases Int.lt_trichotomy o p with hlt | heq | hgt
  · exact key p o ha hlt
  · subst heq
    rcases ha with ha | ha
    · have := hi _ ha; dsimp only at this; omega
    · have := hi _ ha; dsimp only at this; omega
  · have := key o p ha.symm hgt
    have e : xs.getD p.toNat 0 = c := by rw [List.getD_eq_getElem?_getD, hc]; rfl
    obtain ⟨d, hd, d0, d1, _⟩ := h.2 o.toNat (by omega)
    have e2 : xs.getD o.toNat 0 = d := by rw [List.getD_eq_getElem?_getD, hd]; rfl
    rw [e, e2] at this ⊢
    exact g.symR ⟨d0, d1⟩ this
theorem Stand.coat (h : Stand rows n ths xs) {p : Nat} (hp : p < n) : 0 ≤ xs.getD p 0 ∧ xs.getD p 0 < (rows.length : Nat) := by
  obtain ⟨c, hc, c0, c1, _⟩ := h.2 p hp
  rw [List.getD_eq_getElem?_getD, hc]
  exact ⟨c0, c1⟩
theorem Stand.of_adj (hi : InN n ths) (hl : xs.length = n) (hc : ∀ p : Nat, p < n → 0 ≤ xs.getD p 0 ∧ xs.getD p 0 < (rows.length : Nat)) (h : ∀ p o, Adj ths p o → xs.getD o.toNat 0 ∈ rowOf rows (xs.getD p.toNat 0).toNat) : Stand rows n ths xs := by
  refine ⟨hl, fun p hp => ?_⟩
  obtain ⟨c0, c1⟩ := hc p hp
  refine ⟨_, getD_some (by omega), c0, c1, fun o ha ho => ?_⟩
  have := adj_lt hi ha
  refine ⟨_, getD_some (by omega), ?_⟩
  have := h _ _ ha
  rw [Int.toNat_natCast] at this
  exact this
theorem getD_set {v w : Nat} {c : Int} (hv : v < xs.length) : (xs.set v c).getD w 0 = if w = v then c else xs.getD w 0 := by
  rw [List.getD_eq_getElem?_getD, List.getD_eq_getElem?_getD, List.getElem?_set]
  by_cases e : v = w
  · subst e
    simp [hv]
  · rw [if_neg e, if_neg (Ne.symm e)]
theorem no_self (hi : InN n ths) {p : Int} : ¬ Adj ths p p := fun ha => by
  rcases ha with ha | ha
  · have := hi _ ha; dsimp only at this; omega
  · have := hi _ ha; dsimp only at this; omega
theorem Stand.let (g : GoodT rows) (hi : InN n ths) (h : Stand rows n ths xs) {v : Nat} {c : Int} (hv : v < n) (hl : LetP rows ths ps xs (v : Nat) c) : Stand rows n ths (xs.set v c) := by
  obtain ⟨_, _, q, ⟨o0, ho0⟩, hq, hcq⟩ := hl
  have hxl := h.1
  have ho := adj_lt hi ho0
  have hqr : 0 ≤ q ∧ q < (rows.length : Nat) := by
    rw [← hq o0 ho0]
    exact h.coat (by omega)
  have hrow : rows[q.toNat]? = some (rows[q.toNat]'(by omega)) := List.getElem?_eq_getElem (by omega)
  have hcr : 0 ≤ c ∧ c < (rows.length : Nat) := by
    rw [row_of hrow] at hcq
    exact g.lt (List.getElem_mem _) hcq
  have at_ : ∀ w : Int, 0 ≤ w → (xs.set v c).getD w.toNat 0 = if w = (v : Nat) then c else xs.getD w.toNat 0 := fun w hw => by
    rw [getD_set (by omega)]
    by_cases e : w = (v : Nat)
    · rw [if_pos e, if_pos (by omega)]
    · rw [if_neg e, if_neg (by omega)]
  refine Stand.of_adj hi (by rw [List.length_set]; exact hxl) (fun p hp => ?_) fun p o ha => ?_
  · rw [getD_set (by omega)]
    split
    · exact hcr
    · exact h.coat hp
  · have hp := adj_lt hi ha.symm
    have ho := adj_lt hi ha
    rw [at_ p hp.1, at_ o ho.1]
    by_cases e1 : p = (v : Nat)
    · have e2 : o ≠ (v : Nat) := fun z => no_self hi (p := p) (by rw [z, ← e1] at ha; exact ha)
      rw [if_pos e1, if_neg e2, hq o (e1 ▸ ha)]
      exact g.symR hqr hcq
    · rw [if_neg e1]
      by_cases e2 : o = (v : Nat)
      · rw [if_pos e2, hq p (e2 ▸ ha.symm)]
        exact hcq
      · rw [if_neg e2]
        exact h.adj g hi ha
theorem frz_let (hi : InN n ths) {v : Nat} {c : Int} (hv : v < xs.length) (hl : LetP rows ths ps xs (v : Nat) c) : ¬ Frz n ths ps xs (v : Nat) ∧ ∀ p, Frz n ths ps xs p → Frz n ths ps (xs.set v c) p ∧ (xs.set v c).getD p.toNat 0 = xs.getD p.toNat 0 := by
  obtain ⟨h1, _, q, ⟨o0, ho0⟩, hq, _⟩ := hl
  have nv : ¬ Frz n ths ps xs (v : Nat) := fun z => by
    rcases z.held.2 with k | k | ⟨a, b, ha, hb, _, _, hne⟩
    · exact h1 k
    · exact k o0 ho0
    · exact hne (by rw [hq a ha, hq b hb])
  have at_ : ∀ w, Frz n ths ps xs w → (xs.set v c).getD w.toNat 0 = xs.getD w.toNat 0 := fun w hw => by
    have := hw.held.1
    rw [getD_set hv, if_neg (fun z => nv (by rw [show ((v : Nat) : Int) = w by omega]; exact hw))]
  refine ⟨nv, fun p hp => ⟨Frz.of (S := Frz n ths ps xs) (fun q hq => ⟨hq.held.1, ?_⟩) hp, at_ p hp⟩⟩
  rcases hq.held.2 with k | k | ⟨a, b, ha, hb, fa, fb, hne⟩
  · exact .inl k
  · exact .inr (.inl k)
  · exact .inr (.inr ⟨a, b, ha, hb, fa, fb, by rw [at_ a fa, at_ b fb]; exact hne⟩)
/-- what deeds keep -/
structure Kept (rows : List (List Int)) (n : Nat) (ths : List (Int × Int)) (ps xs ys : List Int) : Prop where
  st : Stand rows n ths ys
  frz : ∀ p, Frz n ths ps ys p ↔ Frz n ths ps xs p
  same : ∀ p, Frz n ths ps xs p → ys.getD p.toNat 0 = xs.getD p.toNat 0
theorem LetP.after (hi : InN n ths) {v : Nat} {c : Int} (hv : v < xs.length) (hl : LetP rows ths ps xs (v : Nat) c) (hx : (∃ q : Int, 0 ≤ q) → True) : ∀ o, Adj ths (v : Nat) o → (xs.set v c).getD o.toNat 0 = xs.getD o.toNat 0 := fun o ho => by
  have := adj_lt hi ho
  rw [getD_set hv, if_neg (fun z => no_self hi (p := ((v : Nat) : Int)) (by rw [show o = ((v : Nat) : Int) by omega] at ho; exact ho))]
theorem frz_back (hi : InN n ths) {v : Nat} {c : Int} (hv : v < xs.length) (hl : LetP rows ths ps xs (v : Nat) c) : ∀ p, Frz n ths ps (xs.set v c) p → Frz n ths ps xs p := by
  obtain ⟨h1, _, q, ⟨o0, ho0⟩, hq, _⟩ := id hl
  have aft := hl.after hi hv (fun _ => trivial)
  have nv : ¬ Frz n ths ps (xs.set v c) (v : Nat) := fun z => by
    rcases z.held.2 with k | k | ⟨a, b, ha, hb, _, _, hne⟩
    · exact h1 k
    · exact k o0 ho0
    · exact hne (by rw [aft a ha, aft b hb, hq a ha, hq b hb])
  have at_ : ∀ w, Frz n ths ps (xs.set v c) w → (xs.set v c).getD w.toNat 0 = xs.getD w.toNat 0 := fun w hw => by
    have := hw.held.1
    rw [getD_set hv, if_neg (fun z => nv (by rw [show ((v : Nat) : Int) = w by omega]; exact hw))]
  intro p hp
  refine Frz.of (S := Frz n ths ps (xs.set v c)) (fun q hq => ⟨hq.held.1, ?_⟩) hp
  rcases hq.held.2 with k | k | ⟨a, b, ha, hb, fa, fb, hne⟩
  · exact .inl k
  · exact .inr (.inl k)
  · exact .inr (.inr ⟨a, b, ha, hb, fa, fb, by rw [← at_ a fa, ← at_ b fb]; exact hne⟩)
theorem Led.kept (g : GoodT rows) (hi : InN n ths) (hs : Stand rows n ths xs) (h : Led rows n ths ps xs ys) : Kept rows n ths ps xs ys := by
  induction h with
  | refl => exact ⟨hs, fun _ => Iff.rfl, fun _ _ => rfl⟩
  | @step ys v c h hv hl ih =>
    obtain ⟨i1, i2, i3⟩ := ih
    have hvl : v < ys.length := by rw [i1.1]; exact hv
    obtain ⟨_, f2⟩ := frz_let hi hvl hl
    refine ⟨i1.let g hi hv hl, fun p => ⟨fun z => (i2 p).mp (frz_back hi hvl hl p z), fun z => (f2 p ((i2 p).mpr z)).1⟩, fun p hp => ?_⟩
    rw [(f2 p ((i2 p).mpr hp)).2, i3 p hp]
end
/-! ### a dict whose keys are drawn -/
theorem putK_keys {κ : Type} [DecidableEq κ] (kvs : List (κ × V)) (k : κ) (v : V) : (k ∈ kvs.map (·.1) ∧ (putK kvs k v).map (·.1) = kvs.map (·.1)) ∨ (k ∉ kvs.map (·.1) ∧ (putK kvs k v).map (·.1) = kvs.map (·.1) ++ [k]) := by
  unfold putK
  by_cases h : (kvs.any fun kv => decide (kv.1 = k)) = true
  · left
    rw [if_pos h]
    refine ⟨?_, ?_⟩
    · obtain ⟨e, he, h2⟩ := List.any_eq_true.mp h
      exact List.mem_map.mpr ⟨e, he, of_decide_eq_true h2⟩
    · rw [List.map_map]
      refine List.map_congr_left fun e _ => ?_
      show (if e.1 = k then (e.1, v) else e).1 = e.1
      split <;> rfl
  · right
    rw [if_neg h, List.map_append]
    refine ⟨fun z => h ?_, rfl⟩
    obtain ⟨e, he, rfl⟩ := List.mem_map.mp z
    exact List.any_eq_true.mpr ⟨e, he, decide_eq_true rfl⟩
theorem sorted_ok {ks ys : List Int} {m : Int} (hp : ys.Perm ks) (hs : ys.Pairwise (· ≤ ·)) (nd : ks.Nodup) (hr : ∀ k ∈ ks, 0 ≤ k ∧ k < m) : ∀ i, okAt ys m i :=
  asc_ok hs (hp.nodup_iff.mpr nd) fun c hc => hr c (hp.mem_iff.mp hc)
theorem TPs.app {H : Hp} : ∀ {vs ws : List V} {prs qrs : List (Int × Int)}, TPs H vs prs → TPs H ws qrs → TPs H (vs ++ ws) (prs ++ qrs)
  | vs, ws, prs, qrs, h, k => by
    refine ⟨by rw [List.length_append, List.length_append, h.1, k.1], fun i w e a b => ?_⟩
    by_cases hi : i < vs.length
    · rw [List.getElem?_append_left hi] at a
      rw [List.getElem?_append_left (by rw [← h.1]; exact hi)] at b
      exact h.2 i w e a b
    · rw [List.getElem?_append_right (by omega)] at a
      rw [List.getElem?_append_right (by rw [← h.1]; omega), ← h.1] at b
      exact k.2 _ w e a b
/-! ### the deeds that are let -/
open Classical in
/-- the coat of all neighbours -/
noncomputable def aroundP (ths : List (Int × Int)) (xs : List Int) (v : Int) : Option Int :=
  if h : ∃ q, (∃ o, Adj ths v o) ∧ ∀ o, Adj ths v o → xs.getD o.toNat 0 = q then some h.choose else none
section
variable {rows : List (List Int)} {n : Nat} {ths : List (Int × Int)} {ps xs : List Int} {v q : Int}
theorem around_some (h : ∃ o, Adj ths v o) (k : ∀ o, Adj ths v o → xs.getD o.toNat 0 = q) : aroundP ths xs v = some q := by
  unfold aroundP
  have hh : ∃ q, (∃ o, Adj ths v o) ∧ ∀ o, Adj ths v o → xs.getD o.toNat 0 = q := ⟨q, h, k⟩
  rw [dif_pos hh]
  obtain ⟨o, ho⟩ := h
  have := hh.choose_spec.2 o ho
  rw [← this, k o ho]
theorem around_none (h : ¬ ∃ q, (∃ o, Adj ths v o) ∧ ∀ o, Adj ths v o → xs.getD o.toNat 0 = q) : aroundP ths xs v = none := by
  unfold aroundP
  rw [dif_neg h]
theorem around_at (h : aroundP ths xs v = some q) : (∃ o, Adj ths v o) ∧ ∀ o, Adj ths v o → xs.getD o.toNat 0 = q := by
  unfold aroundP at h
  split at h
  · rename_i hh
    cases Option.some.inj h
    exact hh.choose_spec
  · cases h
/-- the coats that may be put at v -/
noncomputable def coatsL (rows : List (List Int)) (ths : List (Int × Int)) (ps xs : List Int) (v : Int) : List Int :=
  if v ∈ ps then [] else match aroundP ths xs v with
    | none => []
    | some q => (rowOf rows q.toNat).filter fun c => decide (c ≠ xs.getD v.toNat 0)
theorem mem_coatsL {c : Int} : c ∈ coatsL rows ths ps xs v ↔ LetP rows ths ps xs v c := by
  unfold coatsL LetP
  by_cases h : v ∈ ps
  · rw [if_pos h]
    exact ⟨fun z => (by cases z), fun z => absurd h z.1⟩
  rw [if_neg h]
  cases e : aroundP ths xs v with
  | none =>
    refine ⟨fun z => (by cases z), fun ⟨_, _, q, h1, h2, _⟩ => ?_⟩
    rw [around_some h1 h2] at e
    cases e
  | some q =>
    obtain ⟨h1, h2⟩ := around_at e
    show c ∈ (rowOf rows q.toNat).filter _ ↔ _
    rw [List.mem_filter, decide_eq_true_eq]
    constructor
    · rintro ⟨h3, h4⟩
      exact ⟨h, h4, q, h1, h2, h3⟩
    · rintro ⟨_, h4, q', h1', h2', h3⟩
      have := around_some h1' h2'
      rw [e] at this
      cases Option.some.inj this
      exact ⟨h3, h4⟩
/-- the deeds at the first k places -/
noncomputable def letsL (rows : List (List Int)) (ths : List (Int × Int)) (ps xs : List Int) (k : Nat) : List (Int × Int) :=
  (List.range k).flatMap fun v => (coatsL rows ths ps xs (v : Nat)).map fun c => ((v : Int), c)
theorem letsL_succ (k : Nat) : letsL rows ths ps xs (k + 1) = letsL rows ths ps xs k ++ (coatsL rows ths ps xs (k : Nat)).map fun c => ((k : Int), c) := by
  unfold letsL
  rw [List.range_succ, List.flatMap_append]
  simp
theorem mem_letsL {k : Nat} {e : Int × Int} : e ∈ letsL rows ths ps xs k ↔ 0 ≤ e.1 ∧ e.1 < (k : Nat) ∧ LetP rows ths ps xs e.1 e.2 := by
  unfold letsL
  rw [List.mem_flatMap]
  constructor
  · rintro ⟨v, hv, he⟩
    obtain ⟨c, hc, rfl⟩ := List.mem_map.mp he
    have := List.mem_range.mp hv
    exact ⟨by show (0 : Int) ≤ (v : Int); omega, by show (v : Int) < (k : Nat); omega, mem_coatsL.mp hc⟩
  · rintro ⟨h0, h1, h2⟩
    refine ⟨e.1.toNat, List.mem_range.mpr (by omega), List.mem_map.mpr ⟨e.2, ?_, ?_⟩⟩
    · rw [show ((e.1.toNat : Nat) : Int) = e.1 by omega]
      exact mem_coatsL.mpr h2
    · rw [show ((e.1.toNat : Nat) : Int) = e.1 by omega]
theorem coatsL_len (g : GoodT rows) : (coatsL rows ths ps xs v).length ≤ 8 := by
  unfold coatsL
  split
  · exact Nat.zero_le _
  · split
    · exact Nat.zero_le _
    · refine Nat.le_trans (List.length_filter_le _ _) ?_
      unfold rowOf
      rw [List.getD_eq_getElem?_getD]
      rename_i q _
      cases e : rows[q.toNat]? with
      | none => exact Nat.zero_le _
      | some r => exact asc_len g (List.mem_of_getElem? e)
theorem letsL_len (g : GoodT rows) : ∀ k, (letsL rows ths ps xs k).length ≤ 8 * k
  | 0 => Nat.zero_le _
  | k + 1 => by
    rw [letsL_succ, List.length_append, List.length_map]
    have := letsL_len g k
    have := coatsL_len (rows := rows) (ths := ths) (ps := ps) (xs := xs) (v := ((k : Nat) : Int)) g
    omega
end
/-! ### what is drawn -/
/-- a table, a net, pegs and a standing -/
structure WD (K : PySem.W.Frag) (H : Hp) (t r pg s : Addr) (rows : List (List Int)) (n : Nat) (ths : List (Int × Int)) (ps xs : List Int) : Prop where
  tt : Bw.TT K H t rows
  gT : GoodT rows
  tr : Bw.TT K H r (thR ths)
  gN : GoodN n ths
  hC : Conn n ths
  hp : SqT K H pg (ps.map V.int)
  okp : ∀ i, okAt ps (n : Nat) i
  hs : SqT K H s (xs.map V.int)
  st : Stand rows n ths xs
section
variable {K : PySem.W.Frag} {H H1 : Hp} {t r pg s p : Addr} {rows : List (List Int)} {n : Nat} {ths : List (Int × Int)} {ps xs : List Int}
theorem WD.same (e : Same H H1) (h : WD K H t r pg s rows n ths ps xs) : WD K H1 t r pg s rows n ths ps xs :=
  ⟨h.tt.same e, h.gT, h.tr.same e, h.gN, h.hC, e.tup h.hp, h.okp, e.tup h.hs, h.st⟩
theorem WD.exb (hp : Src H p) (e : Exb p H H1) (h : WD K H t r pg s rows n ths ps xs) : WD K H1 t r pg s rows n ths ps xs :=
  ⟨tt_exb hp e h.tt, h.gT, tt_exb hp e h.tr, h.gN, h.hC, e.tup hp h.hp, h.okp, e.tup hp h.hs, h.st⟩
end
/-! ### straight rings -/
def okNext (row : List Int) (c : Int) : Bool := decide (row.length < 2) || decide (row.getD (row.length - 2) 0 ≠ c)
def extR (rows : List (List Int)) (row : List Int) : List (List Int) := ((rowOf rows (row.getD (row.length - 1) 0).toNat).filter (okNext row)).map fun c => row ++ [c]
def strL (rows : List (List Int)) : Nat → List (List Int)
  | 0 => (List.range rows.length).map fun (p : Nat) => [(p : Int)]
  | k + 1 => (strL rows k).flatMap (extR rows)
def isRing (rows : List (List Int)) (row : List Int) : Bool := decide (row.getD 0 0 ∈ rowOf rows (row.getD (row.length - 1) 0).toNat) && (decide (row.getD (row.length - 2) 0 ≠ row.getD 0 0) && decide (row.getD (row.length - 1) 0 ≠ row.getD 1 0))
def ringsL (rows : List (List Int)) (n : Nat) : List (List Int) := (strL rows (n - 1)).filter (isRing rows)
/-- a row of the table with k steps -/
def RowT (rows : List (List Int)) (k : Nat) (row : List Int) : Prop := row.length = k + 1 ∧ (∀ i, i < row.length → 0 ≤ row.getD i 0 ∧ row.getD i 0 < (rows.length : Nat)) ∧ ∀ i, i + 1 < row.length → row.getD (i + 1) 0 ∈ rowOf rows (row.getD i 0).toNat
theorem getD_app {l : List Int} {c : Int} {i : Nat} : (l ++ [c]).getD i 0 = if i < l.length then l.getD i 0 else if i = l.length then c else 0 := by
  rw [List.getD_eq_getElem?_getD, List.getD_eq_getElem?_getD]
  by_cases h : i < l.length
  · rw [if_pos h, List.getElem?_append_left h]
  · rw [if_neg h, List.getElem?_append_right (by omega)]
    by_cases e : i = l.length
    · rw [if_pos e, e, Nat.sub_self]
      rfl
    · rw [if_neg e, List.getElem?_eq_none (by show 1 ≤ _; omega)]
      rfl
theorem strL_row {rows : List (List Int)} (g : GoodT rows) : ∀ (k : Nat), ∀ row ∈ strL rows k, RowT rows k row
  | 0, row, h => by
    obtain ⟨p, hp, rfl⟩ := List.mem_map.mp h
    have := List.mem_range.mp hp
    refine ⟨rfl, fun i hi => ?_, fun i hi => absurd hi (by show ¬ i + 1 < 1; omega)⟩
    have hi : i < 1 := hi
    obtain rfl : i = 0 := by omega
    show (0 : Int) ≤ (p : Int) ∧ (p : Int) < _
    omega
  | k + 1, row, h => by
    obtain ⟨r0, h0, h1⟩ := List.mem_flatMap.mp h
    obtain ⟨l, hr, ha⟩ := strL_row g k r0 h0
    obtain ⟨c, hc, rfl⟩ := List.mem_map.mp h1
    have hc := (List.mem_filter.mp hc).1
    have hlast := hr (r0.length - 1) (by omega)
    have hrow : rows[(r0.getD (r0.length - 1) 0).toNat]? = some (rows[(r0.getD (r0.length - 1) 0).toNat]'(by omega)) := List.getElem?_eq_getElem (by omega)
    have hcr : 0 ≤ c ∧ c < (rows.length : Nat) := by
      rw [row_of hrow] at hc
      exact g.lt (List.getElem_mem _) hc
    refine ⟨by rw [List.length_append, l]; rfl, fun i hi => ?_, fun i hi => ?_⟩
    · rw [List.length_append] at hi
      have hi : i < r0.length + 1 := hi
      rw [getD_app]
      by_cases e : i < r0.length
      · rw [if_pos e]
        exact hr i e
      · rw [if_neg e, if_pos (by omega)]
        exact hcr
    · rw [List.length_append] at hi
      have hi : i + 1 < r0.length + 1 := hi
      rw [getD_app, getD_app, if_pos (show i < r0.length by omega)]
      by_cases e : i + 1 < r0.length
      · rw [if_pos e]
        exact ha i e
      · rw [if_neg e, if_pos (by omega), show i = r0.length - 1 by omega]
        exact hc
theorem strL_len {rows : List (List Int)} (g : GoodT rows) : ∀ k : Nat, (strL rows k).length ≤ 8 ^ (k + 1)
  | 0 => by
    show ((List.range rows.length).map _).length ≤ 8
    rw [List.length_map, List.length_range]
    exact g.n8
  | k + 1 => by
    have ih := strL_len g k
    show ((strL rows k).flatMap (extR rows)).length ≤ 8 ^ (k + 1) * 8
    have key : ∀ L : List (List Int), (L.flatMap (extR rows)).length ≤ L.length * 8 := fun L => by
      induction L with
      | nil => exact Nat.le_refl _
      | cons r L ihL =>
        rw [List.flatMap_cons, List.length_append, List.length_cons, Nat.add_mul]
        have : (extR rows r).length ≤ 8 := by
          unfold extR
          rw [List.length_map]
          refine Nat.le_trans (List.length_filter_le _ _) ?_
          unfold rowOf
          rw [List.getD_eq_getElem?_getD (l := rows)]
          cases e : rows[(r.getD (r.length - 1) 0).toNat]? with
          | none => exact Nat.zero_le _
          | some r => exact asc_len g (List.mem_of_getElem? e)
        omega
    exact Nat.le_trans (key _) (Nat.mul_le_mul_right _ ih)
theorem ext_len {rows : List (List Int)} (g : GoodT rows) (r : List Int) : (extR rows r).length ≤ 8 := by
  unfold extR
  rw [List.length_map]
  refine Nat.le_trans (List.length_filter_le _ _) ?_
  unfold rowOf
  rw [List.getD_eq_getElem?_getD (l := rows)]
  cases e : rows[(r.getD (r.length - 1) 0).toNat]? with
  | none => exact Nat.zero_le _
  | some r => exact asc_len g (List.mem_of_getElem? e)
theorem exts_len {rows : List (List Int)} (g : GoodT rows) (L : List (List Int)) : (L.flatMap (extR rows)).length ≤ L.length * 8 := by
  induction L with
  | nil => exact Nat.le_refl _
  | cons r L ihL =>
    rw [List.flatMap_cons, List.length_append, List.length_cons, Nat.add_mul]
    have := ext_len g r
    omega
/-- what a straight ring of n stones is -/
structure RingP (rows : List (List Int)) (n : Nat) (row : List Int) : Prop where
  len : row.length = n
  rng : ∀ i, i < n → 0 ≤ row.getD i 0 ∧ row.getD i 0 < (rows.length : Nat)
  adj : ∀ i, i + 1 < n → row.getD (i + 1) 0 ∈ rowOf rows (row.getD i 0).toNat
  cls : row.getD 0 0 ∈ rowOf rows (row.getD (n - 1) 0).toNat
theorem ringsL_ring {rows : List (List Int)} (g : GoodT rows) {n : Nat} (hn : 1 ≤ n) {row : List Int} (h : row ∈ ringsL rows n) : RingP rows n row := by
  obtain ⟨h1, h2⟩ := List.mem_filter.mp h
  obtain ⟨l, hr, ha⟩ := strL_row g _ row h1
  have l : row.length = n := by omega
  unfold isRing at h2
  rw [Bool.and_eq_true, Bool.and_eq_true] at h2
  have h3 := of_decide_eq_true h2.1
  rw [l] at h3 hr ha
  exact ⟨l, hr, ha, h3⟩
/-- the ring's net, with one more place -/
def tailN (n : Nat) : List (Int × Int) := lineL (n - 1) ++ [((0 : Int), (n : Int) - 1), ((0 : Int), (n : Int))]
theorem mem_lineL {k : Nat} {e : Int × Int} : e ∈ lineL k ↔ ∃ i : Nat, i < k ∧ e = ((i : Int), (i : Int) + 1) := by
  constructor
  · intro h
    obtain ⟨i, hi, rfl⟩ := List.getElem_of_mem h
    obtain ⟨h1, h2⟩ := lineL_at (List.getElem?_eq_getElem hi)
    exact ⟨i, h1, h2⟩
  · rintro ⟨i, hi, rfl⟩
    unfold lineL
    exact List.mem_map.mpr ⟨i, List.mem_range.mpr hi, rfl⟩
theorem tailN_in {n : Nat} (hn : 3 ≤ n) : InN (n + 1) (tailN n) := fun e he => by
  unfold tailN at he
  rcases List.mem_append.mp he with he | he
  · obtain ⟨i, hi, rfl⟩ := mem_lineL.mp he
    dsimp only
    omega
  · simp only [List.mem_cons, List.not_mem_nil, or_false] at he
    rcases he with rfl | rfl
    · dsimp only; omega
    · dsimp only; omega
theorem tailN_nd {n : Nat} (hn : 3 ≤ n) : (tailN n).Nodup := by
  unfold tailN
  refine List.nodup_append.mpr ⟨(lineL_tree (n := n) (by omega)).nodup, ?_, fun a ha b hb => ?_⟩
  · simp
    omega
  · obtain ⟨i, hi, rfl⟩ := mem_lineL.mp ha
    simp only [List.mem_cons, List.not_mem_nil, or_false] at hb
    rcases hb with rfl | rfl
    · intro z
      have z1 := congrArg Prod.fst z
      have z2 := congrArg Prod.snd z
      dsimp only at z1 z2
      omega
    · intro z
      have z2 := congrArg Prod.snd z
      dsimp only at z2
      omega
theorem tailN_tree {n : Nat} (hn : 3 ≤ n) : Tree (n + 1) (tailN n) := fun v h0 hv => by
  unfold tailN
  by_cases e : v = n
  · subst e
    exact ⟨0, h0, List.mem_append_right _ (by simp)⟩
  · refine ⟨v - 1, by omega, List.mem_append_left _ (mem_lineL.mpr ⟨v - 1, by omega, ?_⟩)⟩
    rw [show ((v - 1 : Nat) : Int) + 1 = (v : Int) by omega]
theorem tailN_stand {rows : List (List Int)} {n : Nat} (g : GoodT rows) (hn : 3 ≤ n) {ths : List (Int × Int)} (hp : ths.Perm (tailN n)) {row : List Int} {c : Int} (h : RingP rows n row) (hc : 0 ≤ c ∧ c < (rows.length : Nat)) (hc0 : row.getD 0 0 ∈ rowOf rows c.toNat) : Stand rows (n + 1) ths (row ++ [c]) := by
  have hl := h.len
  refine ⟨by rw [List.length_append, hl]; rfl, fun p hp' => ?_⟩
  have at_ : ∀ i, i < n → (row ++ [c])[i]? = some (row.getD i 0) := fun i hi => by
    rw [List.getElem?_append_left (by omega)]
    exact getD_some (by omega)
  have adj : ∀ o : Int, Adj ths (p : Nat) o → o < (p : Nat) → (∃ i : Nat, o = (i : Int) ∧ p = i + 1 ∧ i + 1 < n) ∨ (o = 0 ∧ p = n - 1) ∨ (o = 0 ∧ p = n) := fun o ha ho => by
    rcases ha with ha | ha
    · have := tailN_in hn _ (hp.mem_iff.mp ha)
      dsimp only at this
      omega
    · have ha := hp.mem_iff.mp ha
      unfold tailN at ha
      rcases List.mem_append.mp ha with ha | ha
      · obtain ⟨i, hi, e⟩ := mem_lineL.mp ha
        have z1 := congrArg Prod.fst e
        have z2 := congrArg Prod.snd e
        dsimp only at z1 z2
        exact .inl ⟨i, z1, by omega, by omega⟩
      · simp only [List.mem_cons, List.not_mem_nil, or_false, Prod.mk.injEq] at ha
        rcases ha with ⟨rfl, z⟩ | ⟨rfl, z⟩
        · exact .inr (.inl ⟨rfl, by omega⟩)
        · exact .inr (.inr ⟨rfl, by omega⟩)
  by_cases e : p = n
  · subst e
    refine ⟨c, by rw [List.getElem?_append_right (by omega), hl, Nat.sub_self]; rfl, hc.1, hc.2, fun o ha ho => ?_⟩
    rcases adj o ha ho with ⟨i, rfl, z, hi⟩ | ⟨rfl, z⟩ | ⟨rfl, _⟩
    · omega
    · omega
    · exact ⟨_, at_ 0 (by omega), hc0⟩
  · have hpn : p < n := by omega
    refine ⟨_, at_ p hpn, (h.rng p hpn).1, (h.rng p hpn).2, fun o ha ho => ?_⟩
    rcases adj o ha ho with ⟨i, rfl, rfl, hi⟩ | ⟨rfl, rfl⟩ | ⟨rfl, z⟩
    · refine ⟨_, at_ i (by omega), ?_⟩
      exact g.symR (h.rng i (by omega)) (h.adj i hi)
    · exact ⟨_, at_ 0 (by omega), h.cls⟩
    · omega
/-- a ring turned by two places -/
theorem RingP.turn {rows : List (List Int)} {n : Nat} {row : List Int} (hn : 3 ≤ n) (h : RingP rows n row) : RingP rows n (row.drop 2 ++ row.take 2) := by
  have hl := h.len
  have at_ : ∀ i, i < n → (row.drop 2 ++ row.take 2).getD i 0 = if i + 2 < n then row.getD (i + 2) 0 else row.getD (i + 2 - n) 0 := fun i hi => by
    rw [List.getD_eq_getElem?_getD, List.getD_eq_getElem?_getD, List.getD_eq_getElem?_getD]
    by_cases e : i + 2 < n
    · rw [if_pos e, List.getElem?_append_left (by rw [List.length_drop]; omega), List.getElem?_drop, Nat.add_comm]
    · rw [if_neg e, List.getElem?_append_right (by rw [List.length_drop]; omega), List.length_drop, List.getElem?_take_of_lt (by omega), hl, show i - (n - 2) = i + 2 - n by omega]
  refine ⟨by rw [List.length_append, List.length_drop, List.length_take]; omega, fun i hi => ?_, fun i hi => ?_, ?_⟩
  · rw [at_ i hi]
    split
    · exact h.rng _ (by omega)
    · exact h.rng _ (by omega)
  · rw [at_ i (by omega), at_ (i + 1) hi]
    by_cases e : i + 3 < n
    · rw [if_pos (by omega), if_pos (by omega)]
      exact h.adj (i + 2) (by omega)
    · by_cases e2 : i + 2 < n
      · rw [if_pos e2, if_neg (by omega), show i + 1 + 2 - n = 0 by omega, show i + 2 = n - 1 by omega]
        exact h.cls
      · rw [if_neg e2, if_neg (by omega), show i + 1 + 2 - n = i + 2 - n + 1 by omega]
        exact h.adj _ (by omega)
  · rw [at_ 0 (by omega), at_ (n - 1) (by omega), if_neg (by omega), show n - 1 + 2 - n = 1 by omega]
    by_cases e : 0 + 2 < n
    · rw [if_pos e]
      exact h.adj 1 (by omega)
    · omega
theorem reps_int (n : Nat) (c : Int) : (List.replicate n [V.int c]).flatten = (List.replicate n c).map V.int := by
  induction n with
  | zero => rfl
  | succ n ih => rw [List.replicate_succ, List.flatten_cons, ih, List.replicate_succ]; rfl
theorem Rws.upd {K : PySem.W.Frag} {H : Hp} {q : Addr} {ys : List V} {o : HO} (hq : H q = some (.lst ys)) : ∀ {us : List V} {rs : List (List Int)}, Rws K H us rs → Rws K (upd H q o) us rs
  | [], [], _ => DpAll.nil
  | [], _ :: _, h => by cases h
  | _ :: _, [], h => by cases h
  | v :: us, r :: rs, h => by
    cases h with
    | cons x y =>
      obtain ⟨b, rfl, hb⟩ := dp_row x
      exact DpAll.cons (row_dp (tup_upd hb hq)) (Rws.upd hq y)
theorem Rws.app {K : PySem.W.Frag} {H : Hp} {us vs : List V} {rs qs : List (List Int)} (h : Rws K H us rs) (k : Rws K H vs qs) : Rws K H (us ++ vs) (rs ++ qs) := by
  unfold Rws at *
  rw [List.map_append]
  exact dpAll_app h k
theorem Rws.one {K : PySem.W.Frag} {H : Hp} {b : Addr} {r : List Int} (h : SqT K H b (r.map V.int)) : Rws K H [.ref b] [r] := DpAll.cons (row_dp h) .nil
theorem getD_last {l : List Int} (h : 0 < l.length) : l.getLast? = some (l.getD (l.length - 1) 0) := by
  rw [List.getLast?_eq_getElem?, getD_some (by omega)]

/-! ### ways along threads, and the rests along them -/
inductive Way (ths : List (Int × Int)) (b : Int) : Int → List Int → Prop
  | one : Way ths b b [b]
  | step {v j : Int} {w : List Int} : Way ths b v w → Adj ths v j → Way ths b j (w ++ [j])
def alg (xs : List Int) (w : List Int) : List Int := w.map fun p => xs.getD p.toNat 0
def rid (xs ys w : List Int) : List Int := strk ((alg xs w).reverse ++ (alg ys w).tail)
theorem alg_app (xs v w : List Int) : alg xs (v ++ w) = alg xs v ++ alg xs w := List.map_append
theorem alg_rev (xs w : List Int) : alg xs w.reverse = (alg xs w).reverse := List.map_reverse
theorem alg_len (xs w : List Int) : (alg xs w).length = w.length := List.length_map _
section
variable {ths : List (Int × Int)} {b v : Int} {w : List Int}
theorem Way.head (h : Way ths b v w) : w.head? = some b := by
  induction h with
  | one => rfl
  | step h ha ih =>
    rename_i w2
    cases w2 with
    | nil => cases ih
    | cons x r => exact ih
theorem Way.last (h : Way ths b v w) : w.getLast? = some v := by
  cases h with
  | one => rfl
  | step h _ => rw [List.getLast?_append]; rfl
theorem Way.ne (h : Way ths b v w) : w ≠ [] := fun z => by
  have := h.head
  rw [z] at this
  cases this
theorem Way.rng {n : Nat} (h : Way ths b v w) (hi : InN n ths) (hb : 0 ≤ b ∧ b < (n : Nat)) : ∀ c ∈ w, 0 ≤ c ∧ c < (n : Nat) := by
  induction h with
  | one => intro c hc; rw [List.mem_singleton.mp hc]; exact hb
  | step _ ha ih =>
    intro c hc
    rcases List.mem_append.mp hc with hc | hc
    · exact ih c hc
    · rw [List.mem_singleton.mp hc]; exact adj_lt hi ha
theorem alg_head {xs : List Int} (h : w.head? = some b) : (alg xs w).head? = some (xs.getD b.toNat 0) := by
  unfold alg
  rw [List.head?_map, h]
  rfl
theorem alg_last {xs : List Int} (h : w.getLast? = some v) : (alg xs w).getLast? = some (xs.getD v.toNat 0) := by
  unfold alg
  rw [List.getLast?_map, h]
  rfl
end
theorem rid_len (xs ys w : List Int) : (rid xs ys w).length ≤ 2 * w.length := by
  unfold rid
  refine Nat.le_trans (strk_len _) ?_
  rw [List.length_append, List.length_reverse, List.length_tail, alg_len, alg_len]
  omega
theorem rid_step {xs ys w : List Int} {j : Int} (h : w ≠ []) : rid xs ys (w ++ [j]) = carr xs ys (rid xs ys w) j := by
  have e : (alg ys (w ++ [j])).tail = (alg ys w).tail ++ [ys.getD j.toNat 0] := by
    rw [alg_app]
    cases w with
    | nil => exact absurd rfl h
    | cons x r => rfl
  unfold rid carr
  rw [e, alg_app, List.reverse_append]
  show strk ([xs.getD j.toNat 0] ++ (alg xs w).reverse ++ ((alg ys w).tail ++ [ys.getD j.toNat 0])) = _
  rw [← List.append_assoc, List.append_assoc [xs.getD j.toNat 0], strk_app, strk_mid [xs.getD j.toNat 0], ← strk_app]
theorem rid_of_link {xs ys : List Int} {ths : List (Int × Int)} {b v : Int} {w : List Int} {R : Int → List Int} (h : LinkR xs ys ths b [xs.getD b.toNat 0] R) (hw : Way ths b v w) : R v = rid xs ys w := by
  induction hw with
  | one => rw [h.1]; rfl
  | step hw ha ih => rw [h.2 _ _ ha, ih, rid_step hw.ne]
theorem joins_iff {A B C D : List Int} {c e f : Int} (a0 : A.head? = some c) (b0 : B.head? = some c) (c0 : C.head? = some c) (d0 : D.head? = some c) (a1 : A.getLast? = some e) (b1 : B.getLast? = some f) (c1 : C.getLast? = some e) (d1 : D.getLast? = some f) :
    strk (A.reverse ++ B.tail) = strk (C.reverse ++ D.tail) ↔ strk (A ++ C.reverse.tail) = strk (B ++ D.reverse.tail) := by
  have rh : ∀ {L : List Int} {x : Int}, L.getLast? = some x → L.reverse.head? = some x := fun h => by rw [List.head?_reverse]; exact h
  have rl : ∀ {L : List Int} {x : Int}, L.head? = some x → L.reverse.getLast? = some x := fun h => by rw [List.getLast?_reverse]; exact h
  have hBc : B = c :: B.tail := by cases B with | nil => cases b0 | cons x r => cases b0; rfl
  have hA1 : A.take 1 = [c] := by cases A with | nil => cases a0 | cons x r => cases a0; rfl
  have h1 : strk (A ++ (strk (A.reverse ++ B.tail)).tail) = strk B := by
    rw [join3r a1 (rh a1) (rl a0) b0, strk_app, join_back a0, hA1]
    show strk (c :: B.tail) = _
    rw [← hBc]
  have h2 : strk (A ++ (strk (C.reverse ++ D.tail)).tail) = strk (A ++ C.reverse.tail ++ D.tail) := join3r a1 (rh c1) (rl c0) d0
  have h3 : strk (B ++ D.reverse.tail ++ D.tail) = strk B := by
    rw [← join3r b1 (rh d1) (rl d0) d0, there_back D f d1]
    show strk (B ++ []) = _
    rw [List.append_nil]
  constructor
  · intro h
    have h4 : strk (A ++ C.reverse.tail ++ D.tail) = strk B := by rw [← h2, ← h, h1]
    have hl : (A ++ C.reverse.tail).getLast? = some c := by
      rw [glue a1 (rh c1), List.getLast?_append, rl c0]
      rfl
    have h5 : strk ((A ++ C.reverse.tail) ++ (strk (D ++ D.reverse.tail)).tail) = strk (A ++ C.reverse.tail ++ D.tail ++ D.reverse.tail) := join3r hl d0 d1 (rh d1)
    have hD1 : (D.take 1).tail = [] := by cases D with | nil => cases d0 | cons x r => rfl
    rw [join_back d0, hD1, List.append_nil, strk_app (A ++ C.reverse.tail ++ D.tail), h4, ← strk_app] at h5
    exact h5
  · intro h
    have h4 : strk (A ++ (strk (C.reverse ++ D.tail)).tail) = strk B := by rw [h2, strk_app, h, ← strk_app, h3]
    have hh : ∀ {L M : List Int}, L.getLast? = some e → (strk (L.reverse ++ M)).head? = some e := fun {L M} hL => by
      rw [strk_head, List.head?_append, rh hL]
      rfl
    have k1 := join_off (b := strk (A.reverse ++ B.tail)) a1 (hh a1) a0
    have k2 := join_off (b := strk (C.reverse ++ D.tail)) a1 (hh c1) a0
    rw [h1, strk_idem] at k1
    rw [h4, strk_idem] at k2
    rw [← k1, ← k2]
section
variable {xs ys : List Int} {ths : List (Int × Int)} {b v : Int} {n : Nat}
theorem closed_iff (e : xs.getD b.toNat 0 = ys.getD b.toNat 0) {x y : Int} {wx wy : List Int} (hx : Way ths b x wx) (hy : Way ths b y wy) (ha : Adj ths x y) : rid xs ys wy = carr xs ys (rid xs ys wx) y ↔ strk (alg xs (wx ++ wy.reverse)) = strk (alg ys (wx ++ wy.reverse)) := by
  have hs := hx.step ha
  have k := joins_iff (A := alg xs (wx ++ [y])) (B := alg ys (wx ++ [y])) (C := alg xs wy) (D := alg ys wy) (alg_head hs.head) (by rw [e]; exact alg_head hs.head) (alg_head hy.head) (by rw [e]; exact alg_head hy.head) (alg_last hs.last) (alg_last hs.last) (alg_last hy.last) (alg_last hy.last)
  have ep : ∀ zs : List Int, alg zs (wx ++ [y]) ++ (alg zs wy).reverse.tail = alg zs (wx ++ wy.reverse) := fun zs => by
    rw [alg_app, alg_app, alg_rev, List.append_assoc]
    congr 1
    have := alg_last (xs := zs) hy.last
    rw [← List.head?_reverse] at this
    cases hr : (alg zs wy).reverse with
    | nil => rw [hr] at this; cases this
    | cons p r => rw [hr] at this; cases this; rfl
  rw [ep, ep] at k
  rw [← k, ← rid_step hx.ne]
  exact ⟨fun h => h.symm, fun h => h.symm⟩
theorem rid_ends (e : xs.getD b.toNat 0 = ys.getD b.toNat 0) {w : List Int} (h : Way ths b v w) : EndsR xs ys (rid xs ys w) v := by
  have h1 := alg_last (xs := xs) h.last
  have h2 := alg_head (xs := xs) h.head
  have h3 := alg_head (xs := ys) h.head
  refine ⟨strk_str _, ?_, ?_⟩
  · unfold rid
    rw [strk_head, List.head?_append, List.head?_reverse, h1]
    rfl
  · unfold rid
    rw [strk_last, glue (c := xs.getD b.toNat 0) (by rw [List.getLast?_reverse]; exact h2) (by rw [e]; exact h3), List.getLast?_append, alg_last h.last]
    rfl
/-- along each thread the ways closed by it -/
def Clos (ths : List (Int × Int)) (W : Int → List Int) (xs ys : List Int) : Prop := ∀ t ∈ ths, strk (alg xs (W t.1 ++ (W t.2).reverse)) = strk (alg ys (W t.1 ++ (W t.2).reverse))
theorem link_clos {W : Int → List Int} (hi : InN n ths) (hw : ∀ p : Nat, p < n → Way ths b (p : Nat) (W (p : Nat))) (e : xs.getD b.toNat 0 = ys.getD b.toNat 0) {R : Int → List Int} (h : LinkR xs ys ths b [xs.getD b.toNat 0] R) : Clos ths W xs ys := fun t ht => by
  obtain ⟨t0, t1, t2⟩ := hi t ht
  have h1 := hw t.1.toNat (by omega)
  have h2 := hw t.2.toNat (by omega)
  rw [show ((t.1.toNat : Nat) : Int) = t.1 by omega] at h1
  rw [show ((t.2.toNat : Nat) : Int) = t.2 by omega] at h2
  rw [← closed_iff e h1 h2 (.inl ht), ← rid_of_link h h2, ← rid_of_link h h1]
  exact h.2 _ _ (.inl ht)
theorem clos_link {W : Int → List Int} (hi : InN n ths) (hw : ∀ p : Nat, p < n → Way ths b (p : Nat) (W (p : Nat))) (e : xs.getD b.toNat 0 = ys.getD b.toNat 0) (hb : W b = [b]) (h : Clos ths W xs ys) : LinkR xs ys ths b [xs.getD b.toNat 0] fun p => rid xs ys (W p) := by
  refine ⟨by show rid xs ys (W b) = _; rw [hb]; rfl, fun p c ha => ?_⟩
  rcases ha with ha | ha
  · obtain ⟨t0, t1, t2⟩ := hi _ ha
    have h1 := hw p.toNat (by omega)
    have h2 := hw c.toNat (by omega)
    rw [show ((p.toNat : Nat) : Int) = p by omega] at h1
    rw [show ((c.toNat : Nat) : Int) = c by omega] at h2
    exact (closed_iff e h1 h2 (.inl ha)).mpr (h _ ha)
  · obtain ⟨t0, t1, t2⟩ := hi _ ha
    have h1 := hw c.toNat (by omega)
    have h2 := hw p.toNat (by omega)
    rw [show ((c.toNat : Nat) : Int) = c by omega] at h1
    rw [show ((p.toNat : Nat) : Int) = p by omega] at h2
    have := (closed_iff e h1 h2 (.inl ha)).mpr (h _ ha)
    show rid xs ys (W c) = carr xs ys (rid xs ys (W p)) c
    rw [this, carr_back (rid_ends e h1)]
theorem clos_rev {W : Int → List Int} (h : Clos ths W xs ys) : Clos ths W ys xs := fun t ht => (h t ht).symm
theorem carr_rev {row : List Int} {p : Int} : carr ys xs row.reverse p = (carr xs ys row p).reverse := by
  unfold carr
  rw [← strk_rev, List.reverse_append, List.reverse_append, List.append_assoc]
  rfl
theorem LinkR.back {first : List Int} {R : Int → List Int} (h : LinkR xs ys ths b first R) : LinkR ys xs ths b first.reverse fun p => (R p).reverse :=
  ⟨by show (R b).reverse = _; rw [h.1], fun p c ha => by show (R c).reverse = _; rw [h.2 p c ha, carr_rev]⟩
end
/-! ### the rows of a link are straight rows of the table, of even steps -/
theorem rowAt_suf {rows : List (List Int)} {l m : List Int} (h : ∀ i, rowAt rows (l ++ m) i) : ∀ i, rowAt rows m i := fun i x hx => by
  have e : ∀ k, (l ++ m)[l.length + k]? = m[k]? := fun k => by rw [List.getElem?_append_right (by omega)]; congr 1; omega
  obtain ⟨h1, h2⟩ := h (l.length + i) x (by rw [e]; exact hx)
  exact ⟨h1, fun d h0 hd => h2 d (by omega) (by rw [show l.length + i - 1 = l.length + (i - 1) by omega, e]; exact hd)⟩
theorem rowAt_app {rows : List (List Int)} {l m : List Int} {t : Int} (h1 : ∀ i, rowAt rows (l ++ [t]) i) (h2 : ∀ i, rowAt rows ([t] ++ m) i) : ∀ i, rowAt rows (l ++ [t] ++ m) i := fun i x hx => by
  by_cases c : i < l.length + 1
  · have hc : i < (l ++ [t]).length := by rw [List.length_append]; exact c
    rw [List.getElem?_append_left hc] at hx
    refine ⟨(h1 i x hx).1, fun d h0 hd => (h1 i x hx).2 d h0 ?_⟩
    rw [List.getElem?_append_left (by omega)] at hd
    exact hd
  · have e : ∀ k, (l ++ [t] ++ m)[l.length + k]? = ([t] ++ m)[k]? := fun k => by rw [List.append_assoc, List.getElem?_append_right (by omega)]; congr 1; omega
    rw [show i = l.length + (i - l.length) by omega, e] at hx
    refine ⟨(h2 _ x hx).1, fun d h0 hd => (h2 _ x hx).2 d (by omega) ?_⟩
    rw [show i - 1 = l.length + (i - l.length - 1) by omega, e] at hd
    exact hd
theorem strk_at {rows : List (List Int)} : ∀ (ns l : List Int), (∀ i, rowAt rows (l ++ ns) i) → ∀ i, rowAt rows (ns.foldl stp l) i
  | [], l, h => by rw [List.append_nil] at h; exact h
  | c :: ns, l, h => by
    rw [List.foldl_cons]
    refine strk_at ns _ ?_
    rcases stp_cases l c with ⟨m, x, rfl, e⟩ | ⟨e, _⟩
    · rw [e]
      refine rowAt_app (rowAt_pre (m := [x] ++ c :: ns) ?_) (rowAt_suf (l := m ++ [c, x]) h)
      have e2 : m ++ [c] ++ ([x] ++ c :: ns) = m ++ [c, x] ++ c :: ns := by simp
      rw [e2]
      exact h
    · rw [e, List.append_assoc]
      exact h
theorem strk_par : ∀ (ns l : List Int), (ns.foldl stp l).length % 2 = (l.length + ns.length) % 2
  | [], l => by rfl
  | c :: ns, l => by
    rw [List.foldl_cons, strk_par ns, List.length_cons]
    rcases stp_cases l c with ⟨m, x, rfl, e⟩ | ⟨e, _⟩
    · rw [e, List.length_append, List.length_append]
      show (m.length + 1 + ns.length) % 2 = (m.length + 2 + (ns.length + 1)) % 2
      omega
    · rw [e, List.length_append]
      show (l.length + 1 + ns.length) % 2 = _
      omega
theorem rowAt_cons {rows : List (List Int)} {l : List Int} {c d : Int} (h : ∀ i, rowAt rows l i) (hc : 0 ≤ c ∧ c < (rows.length : Nat)) (hd : l.head? = some d) (hm : d ∈ rowOf rows c.toNat) : ∀ i, rowAt rows ([c] ++ l) i := fun i x hx => by
  cases i with
  | zero =>
    cases Option.some.inj hx
    exact ⟨hc, fun d h0 => absurd h0 (by omega)⟩
  | succ i =>
    have hx : l[i]? = some x := hx
    refine ⟨(h i x hx).1, fun e h0 he => ?_⟩
    cases i with
    | zero =>
      cases Option.some.inj he
      rw [List.head?_eq_getElem?, hx] at hd
      cases Option.some.inj hd
      exact hm
    | succ i => exact (h (i + 1) x hx).2 e (by omega) he
/-- what a link's row at p is -/
structure LkRow (rows : List (List Int)) (xs ys row : List Int) (p : Int) : Prop where
  ends : EndsR xs ys row p
  odd : row.length % 2 = 1
  at_ : ∀ i, rowAt rows row i
section
variable {rows : List (List Int)} {n : Nat} {ths : List (Int × Int)} {xs ys row : List Int}
theorem LkRow.carr (g : GoodT rows) (hi : InN n ths) (hx : Stand rows n ths xs) (hy : Stand rows n ths ys) {p c : Int} (h : LkRow rows xs ys row p) (ha : Adj ths p c) : LkRow rows xs ys (K.carr xs ys row c) c := by
  obtain ⟨⟨h1, h2, h3⟩, h4, h5⟩ := h
  have hc := adj_lt hi ha
  have c1 := hx.coat (p := c.toNat) (by omega)
  have c2 := hy.coat (p := c.toNat) (by omega)
  refine ⟨carr_ends, ?_, fun i => ?_⟩
  · have := strk_par ([xs.getD c.toNat 0] ++ row ++ [ys.getD c.toNat 0]) []
    unfold K.carr strk
    rw [this, List.length_append, List.length_append]
    show (0 + (1 + row.length + 1)) % 2 = 1
    omega
  · refine strk_at _ [] ?_ i
    refine rowAt_snoc (d := ys.getD p.toNat 0) (rowAt_cons h5 c1 h2 (hx.adj g hi ha.symm)) c2 ?_ (hy.adj g hi ha)
    rw [List.getLast?_append, h3]
    rfl
theorem LkRow.of (g : GoodT rows) (hi : InN n ths) (hC : Conn n ths) (hx : Stand rows n ths xs) (hy : Stand rows n ths ys) {b : Nat} (hb : b < n) (e : xs.getD b 0 = ys.getD b 0) {R : Int → List Int} (h : LinkR xs ys ths (b : Nat) [xs.getD b 0] R) : ∀ p : Nat, p < n → LkRow rows xs ys (R (p : Nat)) (p : Nat) :=
  hC.from_ hb (S := fun p => LkRow rows xs ys (R p) p) (by
    rw [h.1]
    refine ⟨⟨str_ix.mpr fun i hi => absurd hi (by show ¬ i + 2 < 1; omega), rfl, by rw [Int.toNat_natCast, e]; rfl⟩, rfl, (SRow.one (hx.coat hb)).at_⟩) fun p c hp ha => by
    rw [h.2 p c ha]
    exact hp.carr g hi hx hy ha
end
/-! ### ways found by a queue, in any order -/
structure Wk (ths : List (Int × Int)) (bs n : Nat) (ks qs : List Int) (W : Int → List Int) : Prop where
  b0 : ((bs : Nat) : Int) ∈ ks
  wb : W (bs : Nat) = [((bs : Nat) : Int)]
  nd : ks.Nodup
  rng : ∀ v ∈ ks, 0 ≤ v ∧ v < (n : Nat)
  way : ∀ v ∈ ks, Way ths (bs : Nat) v (W v) ∧ (W v).length ≤ ks.length
  sub : ∀ v ∈ qs, v ∈ ks
section
variable {ths : List (Int × Int)} {bs n : Nat} {ks qs : List Int} {W : Int → List Int}
theorem Wk.start (hb : bs < n) : Wk ths bs n [((bs : Nat) : Int)] [((bs : Nat) : Int)] (fun _ => [((bs : Nat) : Int)]) :=
  ⟨List.mem_singleton_self _, rfl, nodup1 _, fun v hv => by rw [List.mem_singleton.mp hv]; omega, fun v hv => by rw [List.mem_singleton.mp hv]; exact ⟨.one, Nat.le_refl _⟩, fun v hv => hv⟩
theorem Wk.size (h : Wk ths bs n ks qs W) : ks.length ≤ n := nodup_len n ks h.nd h.rng
theorem Wk.put (h : Wk ths bs n ks qs W) {v j : Int} (hv : v ∈ ks) (hj : j ∉ ks) (ha : Adj ths v j) (hr : 0 ≤ j ∧ j < (n : Nat)) : Wk ths bs n (ks ++ [j]) (qs ++ [j]) (fun q => if q = j then W v ++ [j] else W q) := by
  have ne : ∀ c, c ∈ ks → c ≠ j := fun c hc z => hj (z ▸ hc)
  refine ⟨List.mem_append_left _ h.b0, ?_, ?_, fun c hc => ?_, fun c hc => ?_, fun c hc => ?_⟩
  · rw [if_neg (ne _ h.b0)]; exact h.wb
  · refine List.nodup_append.mpr ⟨h.nd, nodup1 _, fun a ha b hb => ?_⟩
    rw [List.mem_singleton.mp hb]
    exact ne a ha
  · rcases List.mem_append.mp hc with hc | hc
    · exact h.rng c hc
    · rw [List.mem_singleton.mp hc]; exact hr
  · rw [List.length_append]
    show Way _ _ _ (if c = j then W v ++ [j] else W c) ∧ (if c = j then W v ++ [j] else W c).length ≤ ks.length + 1
    rcases List.mem_append.mp hc with hc | hc
    · rw [if_neg (ne c hc)]
      exact ⟨(h.way c hc).1, Nat.le_succ_of_le (h.way c hc).2⟩
    · rw [if_pos (List.mem_singleton.mp hc), List.mem_singleton.mp hc, List.length_append]
      exact ⟨(h.way v hv).1.step ha, Nat.succ_le_succ (h.way v hv).2⟩
  · rcases List.mem_append.mp hc with hc | hc
    · exact List.mem_append_left _ (h.sub c hc)
    · exact List.mem_append_right _ hc
theorem Wk.less (h : Wk ths bs n ks qs W) {qs' : List Int} (hq : ∀ v ∈ qs', v ∈ qs) : Wk ths bs n ks qs' W := ⟨h.b0, h.wb, h.nd, h.rng, h.way, fun v hv => h.sub v (hq v hv)⟩
end
theorem DRw.exb {K : PySem.W.Frag} {H H1 : Hp} {p d : Addr} {ks : List Int} {R : Int → List Int} (hp : Src H p) (e : Exb p H H1) (h : DRw K H d ks R) : DRw K H1 d ks R := by
  obtain ⟨es, h1, h2, h3⟩ := h
  refine ⟨es, e _ _ (fun z => ?_) h1, h2, fun f hf => e.tup hp (h3 f hf)⟩
  obtain ⟨x, y, hq, _⟩ := hp
  rw [z, hq] at h1
  cases h1
theorem erase_mem {qs : List Int} {i : Nat} {c v : Int} (hi : qs[i]? = some v) (h : c ∉ qs.eraseIdx i) : c = v ∨ c ∉ qs := by
  by_cases z : c ∈ qs
  · left
    obtain ⟨k, hk, rfl⟩ := List.getElem_of_mem z
    by_cases e : k = i
    · subst e
      rw [List.getElem?_eq_getElem hk] at hi
      exact Option.some.inj hi
    · exact absurd (List.mem_eraseIdx_iff_getElem.mpr ⟨k, hk, e, rfl⟩) h
  · exact .inr z
theorem map_erase : ∀ (l : List Int) (k : Nat), (l.map V.int).eraseIdx k = (l.eraseIdx k).map V.int
  | [], _ => rfl
  | _ :: _, 0 => rfl
  | x :: l, k + 1 => by
    show V.int x :: (l.map V.int).eraseIdx k = V.int x :: (l.eraseIdx k).map V.int
    rw [map_erase]
theorem seqIx {r : Int} {k : Nat} (h0 : 0 ≤ r) (h1 : r < (k : Nat)) : seqIndex? r k = some r.toNat := by
  unfold seqIndex?
  have e1 : (if r < 0 then r + (k : Int) else r) = r := if_neg (by omega)
  dsimp only
  rw [e1, if_pos (by rw [Bool.and_eq_true]; exact ⟨decide_eq_true h0, decide_eq_true h1⟩)]
def closL (ths : List (Int × Int)) (W : Int → List Int) (xs : List Int) : List (List Int) := ths.map fun t => strk (alg xs (W t.1 ++ (W t.2).reverse))
theorem closL_iff {ths : List (Int × Int)} {W : Int → List Int} {xs ys : List Int} : closL ths W xs = closL ths W ys ↔ Clos ths W xs ys := by
  unfold closL Clos
  exact List.map_inj_left
theorem yRngO {n : Nat} : ∀ (i : Nat) (H : Hp) (x : V) (H' : Hp), YFn (fun i => V.int (1 + (i : Int))) i H x H' → i < n → H' = H ∧ x = .int (((List.range n).map fun (i : Nat) => (1 + (i : Int))).getD i 0) := by
  rintro i H x H' ⟨h1, rfl⟩ hi
  refine ⟨h1, ?_⟩
  show V.int (1 + (i : Int)) = _
  rw [List.getD_eq_getElem?_getD, List.getElem?_map, List.getElem?_range hi]
  rfl
theorem tyT {K : PySem.W.Frag} {H : Hp} {a : Addr} {xs : List V} (h : SqT K H a xs) : TyX K H (.ref a) (.type "tuple") := by
  rcases h with (h | ⟨o, h⟩) | ⟨o, its, n, h1, h2, _⟩
  · exact .base (.tup h)
  · exact .fTuple h
  · exact .kTuple h1 h2

/-! ### faults of rows -/
def badAt : List Int → Nat → Option Nat
  | [], _ => none
  | c :: l, i => if 0 ≤ c ∧ c ≤ 7 then badAt l (i + 1) else some i
def rowFault (ns : List Int) : Option (Bool × Int) := if ¬ (1 ≤ ns.length ∧ ns.length ≤ 200) then some (true, ((ns.length : Nat) : Int)) else (badAt ns 0).map fun i => (false, ((i : Nat) : Int))
theorem badAt_none : ∀ (l : List Int) (i : Nat), badAt l i = none ↔ ∀ c ∈ l, 0 ≤ c ∧ c ≤ 7
  | [], _ => ⟨fun _ c hc => (by cases hc), fun _ => rfl⟩
  | a :: l, i => by
    unfold badAt
    by_cases h : 0 ≤ a ∧ a ≤ 7
    · rw [if_pos h, badAt_none l (i + 1)]
      exact ⟨fun z c hc => (List.mem_cons.mp hc).elim (fun e => e ▸ h) (z c), fun z c hc => z c (List.mem_cons_of_mem _ hc)⟩
    · rw [if_neg h]
      exact ⟨fun z => (by cases z), fun z => absurd (z a List.mem_cons_self) h⟩
theorem badAt_first : ∀ (l : List Int) (i k : Nat), (∀ j, j < k → ∃ c, l[j]? = some c ∧ 0 ≤ c ∧ c ≤ 7) → (∃ c, l[k]? = some c ∧ ¬ (0 ≤ c ∧ c ≤ 7)) → badAt l i = some (i + k)
  | [], _, _, _, ⟨c, hc, _⟩ => by cases hc
  | a :: l, i, 0, _, ⟨c, hc, hb⟩ => by
    cases Option.some.inj hc
    unfold badAt
    rw [if_neg hb]
    rfl
  | a :: l, i, k + 1, h, ⟨c, hc, hb⟩ => by
    unfold badAt
    obtain ⟨a', ha, h0⟩ := h 0 (by omega)
    cases Option.some.inj ha
    rw [if_pos h0, badAt_first l (i + 1) k (fun j hj => h (j + 1) (by omega)) ⟨c, hc, hb⟩]
    congr 1
    omega
theorem rowFault_row {ns : List Int} (h : rowFault ns = none) : Row ns := by
  unfold rowFault at h
  split at h
  · cases h
  · rename_i hl
    have hl := Decidable.not_not.mp hl
    have : badAt ns 0 = none := by
      cases e : badAt ns 0 with
      | none => rfl
      | some i => rw [e] at h; cases h
    exact ⟨hl.1, hl.2, (badAt_none ns 0).mp this⟩
theorem row_fault {ns : List Int} (h : Row ns) : rowFault ns = none := by
  unfold rowFault
  rw [if_neg (fun z => z ⟨h.1, h.2.1⟩), (badAt_none ns 0).mpr h.2.2]
  rfl
theorem fault_size {ns : List Int} (h : ¬ (1 ≤ ns.length ∧ ns.length ≤ 200)) : rowFault ns = some (true, ((ns.length : Nat) : Int)) := by unfold rowFault; rw [if_pos h]
theorem fault_coat {ns : List Int} (h : 1 ≤ ns.length ∧ ns.length ≤ 200) {k : Nat} (h1 : ∀ j, j < k → ∃ c, ns[j]? = some c ∧ 0 ≤ c ∧ c ≤ 7) (h2 : ∃ c, ns[k]? = some c ∧ ¬ (0 ≤ c ∧ c ≤ 7)) : rowFault ns = some (false, ((k : Nat) : Int)) := by
  unfold rowFault
  rw [if_neg (fun z => z h), badAt_first ns 0 k h1 h2, Nat.zero_add]
  rfl
/-- what is due of two rows that should meet -/
def dueR (one two : List Int) (ends : Int × Int) : Option ((Bool × Int) ⊕ (Int × Int)) := match rowFault one with
  | some f => some (.inl f)
  | none => match rowFault two with
    | some f => some (.inl f)
    | none => if ends.1 ≠ ends.2 then some (.inr ends) else none
theorem dueR_1 {one two : List Int} {ends : Int × Int} {f : Bool × Int} (h : rowFault one = some f) : dueR one two ends = some (.inl f) := by unfold dueR; rw [h]
theorem dueR_2 {one two : List Int} {ends : Int × Int} {f : Bool × Int} (h1 : rowFault one = none) (h : rowFault two = some f) : dueR one two ends = some (.inl f) := by unfold dueR; rw [h1, h]
theorem dueR_3 {one two : List Int} {ends : Int × Int} (h1 : rowFault one = none) (h : rowFault two = none) (e : ends.1 ≠ ends.2) : dueR one two ends = some (.inr ends) := by unfold dueR; rw [h1, h]; exact if_pos e
theorem dueR_4 {one two : List Int} {ends : Int × Int} (h1 : rowFault one = none) (h : rowFault two = none) (e : ends.1 = ends.2) : dueR one two ends = none := by unfold dueR; rw [h1, h]; exact if_neg (fun z => z e)
def hd0 (ns : List Int) : Int := ns.head?.getD 0
def lt0 (ns : List Int) : Int := ns.getLast?.getD 0
theorem hd0_of {ns : List Int} (h : 1 ≤ ns.length) : ns.head? = some (hd0 ns) := by
  cases ns with
  | nil => exact absurd h (by decide)
  | cons a l => rfl
theorem lt0_of {ns : List Int} (h : 1 ≤ ns.length) : ns.getLast? = some (lt0 ns) := by
  unfold lt0
  cases e : ns.getLast? with
  | none =>
    rw [List.getLast?_eq_none_iff] at e
    rw [e] at h
    exact absurd h (by decide)
  | some c => rfl

def top (i : Nat) : Stmt := PySem.Challenge.pw_betweencoats_k11_refusals_of_rows.main.body.getD i (.Pass ⟨0, 0, 0, 0⟩)
def meth (i j : Nat) : Stmt := match top i with
  | .ClassDef (body := b) .. => b.getD j (.Pass ⟨0, 0, 0, 0⟩)
  | _ => .Pass ⟨0, 0, 0, 0⟩
/-- the classes' addresses -/
structure CS where
  no : Unit := ()
  Refused : Addr
  BadSize : Addr
  BadCoat : Addr
  BadJoin : Addr
  fn_back : Addr
  fn_is_straight : Addr
  fn_rest : Addr
  fn_strikes : Addr
  fn_turns : Addr
  kc__law_right : Addr
  kp__law_right : Addr
def tbs (cs : CS) : List (Addr × Str) := [(cs.kp__law_right, ("_law_right" ++ ".<locals>." : Str) ++ "<lambda>")]
theorem tm__law_right (cs : CS) : (cs.kp__law_right, ("_law_right" ++ ".<locals>." : Str) ++ "<lambda>") ∈ tbs cs := by unfold tbs; simp only [List.mem_cons, true_or, or_true]
/-- what the module's names hold -/
structure Txn (K : PySem.W.Frag) (mg : Str → Option Value) (cs : CS) : Prop where
  n_ValueError : mg "ValueError" = none
  n_enumerate : mg "enumerate" = none
  n_int : mg "int" = none
  n_isinstance : mg "isinstance" = none
  n_len : mg "len" = none
  n_max : mg "max" = none
  n_min : mg "min" = none
  n_range : mg "range" = none
  n_repr : mg "repr" = none
  n_tuple : mg "tuple" = none
  g_LAST_COAT : ∃ t, mg "LAST_COAT" = some (.int 7 t)
  g_MOST_STONES : ∃ t, mg "MOST_STONES" = some (.int 200 t)
  gm_Refused : mg "Refused" = some (.ref cs.Refused)
  gm_BadSize : mg "BadSize" = some (.ref cs.BadSize)
  gm_BadCoat : mg "BadCoat" = some (.ref cs.BadCoat)
  gm_BadJoin : mg "BadJoin" = some (.ref cs.BadJoin)
  gf_back : mg "back" = some (.ref cs.fn_back)
  gf_is_straight : mg "is_straight" = some (.ref cs.fn_is_straight)
  gf_rest : mg "rest" = some (.ref cs.fn_rest)
  gf_strikes : mg "strikes" = some (.ref cs.fn_strikes)
  gf_turns : mg "turns" = some (.ref cs.fn_turns)
  xc_BadSize : XC K cs.BadSize
  xc_BadCoat : XC K cs.BadCoat
  xc_BadJoin : XC K cs.BadJoin
  ex_BadSize_Refused : PySem.W.exmOne K (.ref cs.BadSize) (.ref cs.Refused) = some true
  ex_BadCoat_Refused : PySem.W.exmOne K (.ref cs.BadCoat) (.ref cs.Refused) = some true
  ex_BadJoin_Refused : PySem.W.exmOne K (.ref cs.BadJoin) (.ref cs.Refused) = some true
  ki_BadSize_BadSize : PySem.W.kitOne K (.ref cs.BadSize) (.ref cs.BadSize) = some true
  ki_BadSize_BadCoat : PySem.W.kitOne K (.ref cs.BadSize) (.ref cs.BadCoat) = some false
  ki_BadSize_BadJoin : PySem.W.kitOne K (.ref cs.BadSize) (.ref cs.BadJoin) = some false
  ki_BadCoat_BadSize : PySem.W.kitOne K (.ref cs.BadCoat) (.ref cs.BadSize) = some false
  ki_BadCoat_BadCoat : PySem.W.kitOne K (.ref cs.BadCoat) (.ref cs.BadCoat) = some true
  ki_BadCoat_BadJoin : PySem.W.kitOne K (.ref cs.BadCoat) (.ref cs.BadJoin) = some false
  ki_BadJoin_BadSize : PySem.W.kitOne K (.ref cs.BadJoin) (.ref cs.BadSize) = some false
  ki_BadJoin_BadCoat : PySem.W.kitOne K (.ref cs.BadJoin) (.ref cs.BadCoat) = some false
  ki_BadJoin_BadJoin : PySem.W.kitOne K (.ref cs.BadJoin) (.ref cs.BadJoin) = some true
  ki_BadSize_tValueError : PySem.W.kitOne K (.ref cs.BadSize) (.type "ValueError") = some true
  ki_BadCoat_tValueError : PySem.W.kitOne K (.ref cs.BadCoat) (.type "ValueError") = some true
  ki_BadJoin_tValueError : PySem.W.kitOne K (.ref cs.BadJoin) (.type "ValueError") = some true
abbrev s_Refused_init : Stmt := meth 1 0
theorem sc_Refused_init : FnScope ["self", "what"] ["self", "what"] (defScope s_Refused_init) := ⟨rfl, rfl, rfl, by decide +kernel, rfl, by decide +kernel, by decide +kernel⟩
abbrev s_check_row : Stmt := top 8
theorem sc_check_row : FnScope ["row", "at", "coat"] ["row"] (defScope s_check_row) := ⟨rfl, rfl, rfl, by decide +kernel, rfl, by decide +kernel, by decide +kernel⟩
abbrev s_struck : Stmt := top 9
theorem sc_struck : FnScope ["stones", "left", "coat"] ["stones"] (defScope s_struck) := ⟨rfl, rfl, rfl, by decide +kernel, rfl, by decide +kernel, by decide +kernel⟩
abbrev s_bends : Stmt := top 10
theorem sc_bends : FnScope ["stones", "at"] ["stones"] (defScope s_bends) := ⟨rfl, rfl, rfl, by decide +kernel, rfl, by decide +kernel, by decide +kernel⟩
abbrev s_run_on : Stmt := top 17
theorem sc_run_on : FnScope ["one", "two"] ["one", "two"] (defScope s_run_on) := ⟨rfl, rfl, rfl, by decide +kernel, rfl, by decide +kernel, by decide +kernel⟩
abbrev s_gap_of : Stmt := top 23
theorem sc_gap_of : FnScope ["one", "two"] ["one", "two"] (defScope s_gap_of) := ⟨rfl, rfl, rfl, by decide +kernel, rfl, by decide +kernel, by decide +kernel⟩
abbrev s_tail_and_core : Stmt := top 20
theorem sc_tail_and_core : FnScope ["row", "left", "tail"] ["row"] (defScope s_tail_and_core) := ⟨rfl, rfl, rfl, by decide +kernel, rfl, by decide +kernel, by decide +kernel⟩
abbrev s_rest : Stmt := top 11
theorem sc_rest : FnScope ["row"] ["row"] (defScope s_rest) := ⟨rfl, rfl, rfl, by decide +kernel, rfl, by decide +kernel, by decide +kernel⟩
abbrev s_is_straight : Stmt := top 12
theorem sc_is_straight : FnScope ["row"] ["row"] (defScope s_is_straight) := ⟨rfl, rfl, rfl, by decide +kernel, rfl, by decide +kernel, by decide +kernel⟩
abbrev s_strikes : Stmt := top 13
theorem sc_strikes : FnScope ["row"] ["row"] (defScope s_strikes) := ⟨rfl, rfl, rfl, by decide +kernel, rfl, by decide +kernel, by decide +kernel⟩
abbrev s_turns : Stmt := top 14
theorem sc_turns : FnScope ["row"] ["row"] (defScope s_turns) := ⟨rfl, rfl, rfl, by decide +kernel, rfl, by decide +kernel, by decide +kernel⟩
abbrev s_back : Stmt := top 15
theorem sc_back : FnScope ["row"] ["row"] (defScope s_back) := ⟨rfl, rfl, rfl, by decide +kernel, rfl, by decide +kernel, by decide +kernel⟩
abbrev s_joined : Stmt := top 18
theorem sc_joined : FnScope ["one", "two"] ["one", "two"] (defScope s_joined) := ⟨rfl, rfl, rfl, by decide +kernel, rfl, by decide +kernel, by decide +kernel⟩
abbrev s_gap : Stmt := top 24
theorem sc_gap : FnScope ["one", "two"] ["one", "two"] (defScope s_gap) := ⟨rfl, rfl, rfl, by decide +kernel, rfl, by decide +kernel, by decide +kernel⟩
abbrev s_core : Stmt := top 21
theorem sc_core : FnScope ["row"] ["row"] (defScope s_core) := ⟨rfl, rfl, rfl, by decide +kernel, rfl, by decide +kernel, by decide +kernel⟩
abbrev s__law_pool : Stmt := top 26
theorem sc__law_pool : FnScope ["script", "k", "cell", "big", "mixed"] ["script", "k"] (defScope s__law_pool) := ⟨rfl, rfl, rfl, by decide +kernel, rfl, by decide +kernel, by decide +kernel⟩
abbrev s__law_take : Stmt := top 27
theorem sc__law_take : FnScope ["source", "top", "drawn"] ["source", "top"] (defScope s__law_take) := ⟨rfl, rfl, rfl, by decide +kernel, rfl, by decide +kernel, by decide +kernel⟩
abbrev s__law_one : Stmt := top 28
theorem sc__law_one : FnScope ["source", "things"] ["source", "things"] (defScope s__law_one) := ⟨rfl, rfl, rfl, by decide +kernel, rfl, by decide +kernel, by decide +kernel⟩
abbrev s__law_row : Stmt := top 29
theorem sc__law_row : FnScope ["source", "row", "turn", "way", "k"] ["source"] (defScope s__law_row) := ⟨rfl, rfl, rfl, by decide +kernel, rfl, by decide +kernel, by decide +kernel⟩
abbrev s__law_fault : Stmt := top 30
theorem sc__law_fault : FnScope ["row", "at", "coat"] ["row"] (defScope s__law_fault) := ⟨rfl, rfl, rfl, by decide +kernel, rfl, by decide +kernel, by decide +kernel⟩
abbrev s__law_told : Stmt := top 31
theorem sc__law_told : FnScope ["deed", "e", "kinds"] ["deed"] (defScope s__law_told) := ⟨rfl, rfl, rfl, by decide +kernel, rfl, by decide +kernel, by decide +kernel⟩
abbrev s__law_due : Stmt := top 32
theorem sc__law_due : FnScope ["one", "two", "ends", "row"] ["one", "two", "ends"] (defScope s__law_due) := ⟨rfl, rfl, rfl, by decide +kernel, rfl, by decide +kernel, by decide +kernel⟩
abbrev s__law_right : Stmt := top 33
theorem sc__law_right : FnScope ["source", "ends", "closed", "ask", "one", "two"] ["source"] (defScope s__law_right) := ⟨rfl, rfl, rfl, by decide +kernel, rfl, by decide +kernel, by decide +kernel⟩
abbrev s_law : Stmt := top 34
theorem sc_law : FnScope ["script", "k", "source", "turn"] ["script"] (defScope s_law) := ⟨rfl, rfl, rfl, by decide +kernel, rfl, by decide +kernel, by decide +kernel⟩
def kb_gap_two_one_g {α : Type} : List α → List α → List α
  | [], [w0, w1] => [w1, w0]
  | _, _ => []
theorem kb_gap_two_one : KwB "gap" s_gap ["one", "two"] ["two", "one"] kb_gap_two_one_g kb_gap_two_one_g where
  to := fun _ _ _ _ _ _ us ws h => by
    match us, ws, h with
    | [], [_, _], _ => rfl
  rel := fun {vs us zs ws} r s => by
    unfold kb_gap_two_one_g
    cases r with
    | cons _ _ => exact .nil
    | nil =>
      cases s with
      | nil => exact .nil
      | cons s0 s =>
        cases s with
        | nil => exact .nil
        | cons s1 s =>
          cases s with
          | cons _ _ => exact .nil
          | nil =>
            exact (.cons s1 (.cons s0 .nil))
section
variable {P : Program} {w : World} {K : PySem.W.Frag} {mg : Str → Option Value} {base : Heap} {f : Addr} {fd : FuncData} {cs : CS}
def sp_Refused_init (K : PySem.W.Frag) (_ : CS) : Sp := sp_init K
theorem ok_Refused_init (F : Fun K "__init__" "Refused.__init__" s_Refused_init f fd) (T : Txn K mg cs)  : FnOk P w K mg base CX0 1 f fd ["self", "what"] (sp_Refused_init K cs) := by
  refine F.ok sc_Refused_init (fun vs H Q E h => ?_) (fun cdv A outer s H vs Q E hr h => ?_)
  · obtain ⟨a, C, v, rfl, _⟩ := h
    rfl
  obtain ⟨a, C, v, rfl, hc, hn, ha, q⟩ := h
  refine ⟨_, (pss_one (ps_ost (pv 0) (pv 1))), ?_⟩
  exact ⟨v, rfl, .ref a, rfl, a, C, rfl, hc, hn, .inl ⟨ha, fun dx nd ne => q dx nd ne⟩⟩
structure Txt (P : Program) (w : World) (K : PySem.W.Frag) (mg : Str → Option Value) (base : Heap) (cs : CS) : Prop extends Txn K mg cs where
  one : True
  x_BadSize : XM P w K mg base "BadSize" cs.BadSize
  x_BadCoat : XM P w K mg base "BadCoat" cs.BadCoat
  x_BadJoin : XM P w K mg base "BadJoin" cs.BadJoin
  tb__law_right : LamX.TabB base mg cs.kc__law_right cs.kp__law_right
theorem tu__law_right {P : Program} {w : World} {K : PySem.W.Frag} {mg : Str → Option Value} {base : Heap} {cs : CS} (T : Txt P w K mg base cs) : ∀ p ∈ tbs cs, p.1 = cs.kp__law_right → p.2 = ("_law_right" ++ ".<locals>." : Str) ++ "<lambda>" := by
  intro p hp
  unfold tbs at hp
  simp only [List.mem_cons, List.not_mem_nil, or_false] at hp
  subst hp
  exact (fun _ => rfl)
def sp_check_row (K : PySem.W.Frag) (cs : CS) : Sp := fun vs H Q E => ∃ (a : Addr) (ns : List Int), vs = [.ref a] ∧ SqT K H a (ns.map V.int) ∧ ns.length ≤ 900 ∧ (rowFault ns = none → ∀ H', Same H H' → Q .non H') ∧ (∀ w x, rowFault ns = some (w, x) → ∀ d H', Same H H' → H' d = none → E (.ref (if w then cs.BadSize else cs.BadCoat)) (some d) (upd H' d (.xd [("what", .int x)])))
theorem ok_check_row (F : Fun K "check_row" "check_row" s_check_row f fd) (T : Txt P w K mg base cs)  : FnOk P w K mg base (L2.CX P w) 3 f fd ["row"] (sp_check_row K cs) := by
  refine F.okX sc_check_row (fun vs H Q E h => ?_) (fun cdv A outer s H vs Q E hr h => ?_)
  · obtain ⟨a, ns, rfl, _⟩ := h
    rfl
  obtain ⟨a, ns, rfl, hS, hL, q, qb⟩ := h
  refine ⟨_, (pss_cons (ps_if (pt_not (pt_chain op_le op_le pe_int (pe_callB (lenS K) (by rfl) T.n_len PySem.boot_len (pa_cons (pv 0) pa_nil)) (pe_gint rfl T.g_MOST_STONES))) (pss_one (ps_raiseW rfl T.x_BadSize (hr.mono (by decide)) (takes_of rfl rfl rfl rfl) (pa_cons (pe_callB (lenS K) (by rfl) T.n_len PySem.boot_len (pa_cons (pv 0) pa_nil)) pa_nil))) pss_nil)
      (pss_one (ps_for (passes_of rfl) rfl (pi_enumT (by rfl) T.n_enumerate (pa_cons (pv 0) pa_nil)) (pg_tup rfl (pgs_cons (pg_name (i := 1) sc_check_row.nd rfl (Or.inl rfl)) (pgs_cons (pg_name (i := 2) sc_check_row.nd rfl (Or.inl rfl)) pgs_nil))) (pss_one (ps_if (pt_not (pt_chain op_le op_le pe_int (pv 2) (pe_gint rfl T.g_LAST_COAT))) (pss_one (ps_raiseW rfl T.x_BadCoat (hr.mono (by decide)) (takes_of rfl rfl rfl rfl) (pa_cons (pv 1) pa_nil))) pss_nil))))), ?_⟩
  have el : ((ns.map V.int).length : Int) = (ns.length : Nat) := by rw [List.length_map]
  by_cases c1 : 1 ≤ ns.length ∧ ns.length ≤ 200
  · have e1 : decide ((1 : Int) ≤ ((ns.map V.int).length : Nat)) = true := decide_eq_true (by rw [List.length_map]; omega)
    have e2 : decide ((((ns.map V.int).length : Nat) : Int) ≤ 200) = true := decide_eq_true (by rw [List.length_map]; omega)
    refine ⟨.ref a, rfl, a, _, rfl, .inr hS, 1, _, rfl, rfl, _, rfl, itT e1 ⟨_, 200, rfl, rfl, _, rfl, ?_⟩⟩
    rw [e2]
    refine iteF ?_
    refine ⟨.ref a, rfl, a, _, rfl, hS, for_it walk_enumT (fun i σ H' => (∃ y1 y2, σ = [some (.ref a), y1, y2]) ∧ Same H H' ∧ ∀ j, j < i → ∃ c, ns[j]? = some c ∧ 0 ≤ c ∧ c ≤ 7) ⟨⟨_, _, rfl⟩, Same.refl _, fun j hj => absurd hj (by omega)⟩ (fun i σ H' _ h => Same.tup h.2.1 hS) ?_ ?_⟩
    · rintro i x σ H1 H2 hi ⟨⟨y1, y2, rfl⟩, sm, ok⟩ ⟨T', x1, x2, rfl, nT, rfl, f1, f2⟩
      obtain ⟨hi2, rfl⟩ := num_map i ns x2 f2
      cases Option.some.inj f1
      refine ⟨T', _, rfl, .inl (.inl upd_same), rfl, _, _, rfl, _, _, rfl, rfl, ?_⟩
      have s2 := sm.trans (Same.new (o := .tup [.int (i : Nat), .int ns[i]]) nT)
      have bad : ¬ (0 ≤ ns[i] ∧ ns[i] ≤ 7) → rowFault ns = some (false, ((i : Nat) : Int)) := fun z => fault_coat c1 ok ⟨_, List.getElem?_eq_getElem hi2, z⟩
      by_cases b0 : 0 ≤ ns[i]
      · refine ⟨_, rfl, 0, _, rfl, rfl, _, rfl, itT (decide_eq_true b0) ⟨_, 7, rfl, rfl, _, rfl, ?_⟩⟩
        by_cases b7 : ns[i] ≤ 7
        · rw [decide_eq_true b7]
          refine iteF ⟨⟨_, _, rfl⟩, s2, fun j hj => ?_⟩
          by_cases e : j < i
          · exact ok j e
          · obtain rfl : j = i := by omega
            exact ⟨_, List.getElem?_eq_getElem hi2, b0, b7⟩
        · rw [decide_eq_false b7]
          refine iteT ?_
          exact ⟨_, rfl, made_what T.xc_BadCoat fun d nd => qb false _ (bad fun z => b7 z.2) d _ s2 nd⟩
      · refine ⟨_, rfl, 0, _, rfl, rfl, _, rfl, itF (decide_eq_false b0) ⟨_, rfl, iteT ?_⟩⟩
        exact ⟨_, rfl, made_what T.xc_BadCoat fun d nd => qb false _ (bad fun z => b0 z.1) d _ s2 nd⟩
    · rintro σ H' ⟨_, sm, ok⟩
      refine q ?_ _ sm
      refine row_fault ⟨c1.1, c1.2, fun c hc => ?_⟩
      obtain ⟨i, hi, rfl⟩ := List.getElem_of_mem hc
      obtain ⟨c', hc', h0⟩ := ok i (by rw [List.length_map]; exact hi)
      rw [List.getElem?_eq_getElem hi] at hc'
      cases Option.some.inj hc'
      exact h0
  · have fs := fault_size c1
    by_cases b1 : 1 ≤ ns.length
    · refine ⟨.ref a, rfl, a, _, rfl, .inr hS, 1, _, rfl, rfl, _, rfl, itT (decide_eq_true (by rw [List.length_map]; omega)) ⟨_, 200, rfl, rfl, _, rfl, ?_⟩⟩
      rw [decide_eq_false (by rw [List.length_map]; omega)]
      refine iteT ?_
      refine ⟨.ref a, rfl, a, _, rfl, .inr hS, ?_⟩
      rw [el]
      exact made_what T.xc_BadSize fun d nd => qb true _ fs d _ (Same.refl _) nd
    · refine ⟨.ref a, rfl, a, _, rfl, .inr hS, 1, _, rfl, rfl, _, rfl, itF (decide_eq_false (by rw [List.length_map]; omega)) ⟨_, rfl, iteT ?_⟩⟩
      refine ⟨.ref a, rfl, a, _, rfl, .inr hS, ?_⟩
      rw [el]
      exact made_what T.xc_BadSize fun d nd => qb true _ fs d _ (Same.refl _) nd
def sp_struck (K : PySem.W.Frag) (cs : CS) : Sp := fun vs H Q E => ∃ (a : Addr) (ns : List Int), vs = [.ref a] ∧ SqT K H a (ns.map V.int) ∧ ns.length < 100000 ∧ ∀ p H', Same H H' → SqT K H' p ((strk ns).map V.int) → Q (.ref p) H'
theorem ok_struck (F : Fun K "struck" "struck" s_struck f fd) (T : Txt P w K mg base cs)  : FnOk P w K mg base CX0 1 f fd ["stones"] (sp_struck K cs) := by
  refine F.ok sc_struck (fun vs H Q E h => ?_) (fun cdv A outer s H vs Q E hr h => ?_)
  · obtain ⟨a, ns, rfl, _⟩ := h
    rfl
  obtain ⟨a, ns, rfl, hS, hlen, q⟩ := h
  refine ⟨_, (pss_cons (ps_set (i := 1) sc_struck.nd rfl (Or.inl rfl) (pe_lst pa_nil))
      (pss_cons (ps_for PassesOwn.never rfl (piT K (pv 0)) (pg_name (i := 2) sc_struck.nd rfl (Or.inl rfl)) (pss_one (ps_if (PW.pt (pw_and (pt_cmpR op_gt (pe_callB (lenS K) (by rfl) T.n_len PySem.boot_len (pa_cons (pv 1) pa_nil)) pe_int (nomark _)) (pw_and1 (pt_cmpR op_eq (pe_ix (ixL K) (pv 1) (pe_un un_neg pe_int) (fun _ _ => rfl)) (pv 2) (nomark _))))) (pss_one (ps_expr (pe_bm0 PySem.F.plainAttrs_list PySem.F.slot_list_pop PySem.F.type_list_pop mt_pop (pv 1)))) (pss_one (ps_expr (pe_bm PySem.F.plainAttrs_list PySem.F.slot_list_append PySem.F.type_list_append mt_append (pv 1) (pa_cons (pv 2) pa_nil)))))))
      (pss_one (ps_ret (pe_callTy (tupOf K) (by rfl) T.n_tuple (by decide +kernel) (pa_cons (pv 1) pa_nil)))))), ?_⟩
  refine ⟨Nat.zero_le _, fun l nl => ?_⟩
  refine ⟨.ref a, rfl, a, rfl, ⟨_, (Same.new nl).tup hS⟩, for_tup (xs := ns.map V.int) (fun i σ H' => (∃ y, σ = [some (.ref a), some (.ref l), y]) ∧ Same H H' ∧ H' l = some (.lst ((strk (ns.take i)).map V.int)))
    ⟨⟨_, rfl⟩, Same.new nl, upd_same⟩ (fun i σ H' _ h => h.2.1.tup hS) ?_ ?_⟩
  · rintro i x σ H1 hi ⟨⟨y, rfl⟩, sm, hl⟩
    obtain ⟨hi2, rfl⟩ := num_map i ns x hi
    have hst : strk (ns.take (i + 1)) = stp (strk (ns.take i)) ns[i] := by
      unfold strk
      rw [List.take_add_one, List.getElem?_eq_getElem hi2, List.foldl_append]
      rfl
    have hz : (strk (ns.take i)).length ≤ i := Nat.le_trans (strk_len _) (by rw [List.length_take]; omega)
    generalize strk (ns.take i) = st at hl hst hz
    refine ⟨.ref l, rfl, l, _, rfl, .inl (SqL.of hl), _, 1, rfl, rfl, _, rfl, ?_⟩
    by_cases h1 : st.length > 1
    · refine itT (decide_eq_true (by rw [List.length_map]; omega)) ?_
      have g : (st.map V.int)[st.length - 2]? = some (.int (st[st.length - 2]'(by omega))) := by
        rw [List.getElem?_map, List.getElem?_eq_getElem (by omega)]
        rfl
      refine ⟨.ref l, rfl, 2, rfl, l, _, _, _, rfl, rfl, SqL.of hl, atNeg g (by rw [List.length_map]; omega), _, rfl, rfl, _, rfl, ite2 (fun e => ?_) (fun e => ?_)⟩
      · have e' : st[st.length - 2]? = some ns[i] := by
          rw [List.getElem?_eq_getElem (by omega)]
          exact congrArg some (V.int.inj (of_decide_eq_true e))
        refine ⟨.ref l, rfl, .inl ⟨rfl, _, SqL.of hl⟩, l, _, .int (st[st.length - 1]'(by omega)), rfl, rfl, hl, ?_, ?_⟩
        · rw [List.length_map, List.getElem?_map, List.getElem?_eq_getElem (by omega)]
          rfl
        · refine ⟨⟨_, rfl⟩, sm.mut nl, ?_⟩
          rw [upd_same, hst, stp, if_pos ⟨h1, e'⟩, List.map_dropLast]
      · have e' : ¬ st[st.length - 2]? = some ns[i] := fun z => by
          rw [List.getElem?_eq_getElem (by omega)] at z
          exact e (decide_eq_true (congrArg V.int (Option.some.inj z)))
        refine ⟨.ref l, rfl, .inl ⟨rfl, _, SqL.of hl⟩, _, rfl, l, _, _, rfl, rfl, hl, smallLt (by rw [List.length_map]; omega), ?_⟩
        refine ⟨⟨_, rfl⟩, sm.mut nl, ?_⟩
        rw [upd_same, hst, stp, if_neg (fun z => e' z.2), List.map_append]
        rfl
    · refine itF (decide_eq_false (by rw [List.length_map]; omega)) ?_
      refine iteF ?_
      refine ⟨.ref l, rfl, .inl ⟨rfl, _, SqL.of hl⟩, _, rfl, l, _, _, rfl, rfl, hl, smallLt (by rw [List.length_map]; omega), ?_⟩
      refine ⟨⟨_, rfl⟩, sm.mut nl, ?_⟩
      rw [upd_same, hst, stp, if_neg (fun z => h1 z.1), List.map_append]
      rfl
  · rintro σ H' ⟨⟨y, rfl⟩, sm, hl⟩
    rw [List.length_map, List.take_length] at hl
    refine ⟨.ref l, rfl, l, _, rfl, .inl ⟨SqL.of hl, fun p np => ?_⟩⟩
    exact q p _ (sm.trans (Same.new np)) (SqT.of upd_same)
def sp_bends (K : PySem.W.Frag) (cs : CS) : Sp := fun vs H Q E => ∃ (a : Addr) (ns : List Int), vs = [.ref a] ∧ SqT K H a (ns.map V.int) ∧ ns.length < 10000 ∧ ∀ p H', Same H H' → SqT K H' p ((opn ns).map V.int) → Q (.ref p) H'
theorem ok_bends (F : Fun K "bends" "bends" s_bends f fd) (T : Txt P w K mg base cs)  : FnOk P w K mg base CX0 1 f fd ["stones"] (sp_bends K cs) := by
  refine F.ok sc_bends (fun vs H Q E h => ?_) (fun cdv A outer s H vs Q E hr h => ?_)
  · obtain ⟨a, ns, rfl, _⟩ := h
    rfl
  obtain ⟨a, ns, rfl, hS, hlen, q⟩ := h
  refine ⟨_, (pss_one (ps_ret (pe_callTy (tupOf K) (by rfl) T.n_tuple (by decide +kernel) (pa_cons (pe_lc (own := [("at", 1)]) rfl sc_bends.nd (pi_range2 (by rfl) T.n_range (pa_cons pe_int (pa_cons (pe_op op_sub (pe_callB (lenS K) (by rfl) T.n_len PySem.boot_len (pa_cons (pv 0) pa_nil)) pe_int) pa_nil))) (blkOk_by (own := [("at", 1)]) (N := ["stones", "at"]) (sc := defScope s_bends) (by decide +kernel)) (fun _ _ _ _ _ => (pg_name (i := 1) sc_bends.nd rfl (Or.inl rfl))) (fun _ _ _ _ _ => (pts_one (pt_cmpR op_eq (pe_ix (ixT K) (pv 0) (pe_op op_sub (pv 1) pe_int) (fun _ _ => rfl)) (pe_ix (ixT K) (pv 0) (pe_op op_add (pv 1) pe_int) (fun _ _ => rfl)) (nomark _)))) (fun _ _ _ _ _ => (pv 1))) pa_nil)))), ?_⟩
  refine ⟨.ref a, rfl, a, _, rfl, .inr hS, _, 1, rfl, rfl, 1, _, rfl, ⟨by decide, by decide, by rw [List.length_map]; omega, by rw [List.length_map]; omega⟩, fun D hD => ?_⟩
  have e0 : (((ns.map V.int).length : Int) - 1 - 1).toNat = ns.length - 2 := by rw [List.length_map]; omega
  have hget : ∀ i, i < ns.length - 2 → (ns.map V.int)[i]? = some (.int (ns.getD i 0)) ∧ (ns.map V.int)[i + 2]? = some (.int (ns.getD (i + 2) 0)) ∧ isOpn ns i = decide (V.int (ns.getD i 0) = V.int (ns.getD (i + 2) 0)) := fun i hi => by
    have h1 : ns[i]? = some ns[i] := List.getElem?_eq_getElem (by omega)
    have h2 : ns[i + 2]? = some ns[i + 2] := List.getElem?_eq_getElem (by omega)
    rw [List.getElem?_map, List.getElem?_map, List.getD_eq_getElem?_getD, List.getD_eq_getElem?_getD, h1, h2]
    refine ⟨rfl, rfl, ?_⟩
    unfold isOpn
    rw [h1, h2]
    exact decide_eq_decide.mpr ⟨fun z => congrArg V.int (Option.some.inj z), fun z => congrArg some (V.int.inj z)⟩
  refine lc_pure (fun i => .int (1 + (i : Int))) walk_range (fun _ _ _ _ y _ => y) (isOpn ns) (fun i => .int (1 + (i : Int))) hD (by omega) (fun _ _ => trivial) (fun _ => rfl) (fun i hi => ?_) (fun i hi _ => Evl.ev_var rfl) (fun H' sm hl => ?_)
  · obtain ⟨g1, g2, g3⟩ := hget i (by omega)
    rw [g3]
    exact Evl.et_test (Evl.ev_op (Evl.ev_op (Evl.ev_var rfl) (Evl.ev_op (Evl.ev_var rfl) Evl.ev_c Evl.rv_I0) (Evl.rv_ixT hS (atN g1 (by omega))))
      (Evl.ev_op (Evl.ev_var rfl) (Evl.ev_op (Evl.ev_var rfl) Evl.ev_c Evl.rv_I0) (Evl.rv_ixT hS (atN g2 (by omega)))) (Evl.rv_eq rfl))
  · rw [e0, given_opn] at hl
    exact ⟨D, _, rfl, .inl ⟨SqL.of hl, fun p np => q p _ (sm.trans (Same.new np)) (SqT.of upd_same)⟩⟩
def sp_run_on (K : PySem.W.Frag) (cs : CS) : Sp := fun vs H Q E => ∃ (a b : Addr) (ns ms : List Int), vs = [.ref a, .ref b] ∧ SqT K H a (ns.map V.int) ∧ SqT K H b (ms.map V.int) ∧ ns.length < 1000 ∧ ms.length < 1000 ∧ ∀ p H', Same H H' → SqT K H' p ((strk (ns ++ ms.tail)).map V.int) → Q (.ref p) H'
theorem ok_run_on (F : Fun K "run_on" "run_on" s_run_on f fd) (T : Txt P w K mg base cs) (c_struck : Cal P w K mg base CX0 1 "struck" ["stones"] s_struck (sp_struck K cs)) : FnOk P w K mg base CX0 2 f fd ["one", "two"] (sp_run_on K cs) := by
  refine F.ok sc_run_on (fun vs H Q E h => ?_) (fun cdv A outer s H vs Q E hr h => ?_)
  · obtain ⟨a, b, ns, ms, rfl, _⟩ := h
    rfl
  obtain ⟨a, b, ns, ms, rfl, ha, hb, z1, z2, q⟩ := h
  refine ⟨_, (pss_one (ps_ret (pe_cal c_struck (hr.mono (by decide)) pass0 (pa_cons (pe_op (catA K) (pv 0) (pe_slice (slT K) (pv 1) (po_some pe_int) poN)) pa_nil)))), ?_⟩
  refine ⟨.ref a, rfl, .ref b, rfl, 1, rfl, slA hb fun p1 H1 m1 h1 => ?_⟩
  rw [show (1 : Int) = ((1 : Nat) : Int) from rfl, cutV_from, ← List.map_drop, List.drop_one] at h1
  have hz : ms.tail.length ≤ ms.length := by rw [List.length_tail]; omega
  refine ctA (Same.tup m1 ha) h1 (by rw [List.length_map, List.length_map]; omega) fun p2 H2 m2 h2 => ?_
  rw [← List.map_append] at h2
  exact ⟨p2, _, rfl, h2, by rw [List.length_append]; omega, fun p3 H3 m3 h3 => q p3 H3 (Same.trans (Same.trans m1 m2) m3) h3⟩
def sp_gap_of (K : PySem.W.Frag) (cs : CS) : Sp := fun vs H Q E => ∃ (a b : Addr) (ns ms : List Int), vs = [.ref a, .ref b] ∧ SqT K H a (ns.map V.int) ∧ SqT K H b (ms.map V.int) ∧ ns.length < 1000 ∧ ms.length < 1000 ∧ ∀ H', Same H H' → Q (.int (((strk (ns.reverse ++ ms.tail)).length : Int) - 1)) H'
theorem ok_gap_of (F : Fun K "gap_of" "gap_of" s_gap_of f fd) (T : Txt P w K mg base cs) (c_run_on : Cal P w K mg base CX0 2 "run_on" ["one", "two"] s_run_on (sp_run_on K cs)) : FnOk P w K mg base CX0 3 f fd ["one", "two"] (sp_gap_of K cs) := by
  refine F.ok sc_gap_of (fun vs H Q E h => ?_) (fun cdv A outer s H vs Q E hr h => ?_)
  · obtain ⟨a, b, ns, ms, rfl, _⟩ := h
    rfl
  obtain ⟨a, b, ns, ms, rfl, ha, hb, z1, z2, q⟩ := h
  refine ⟨_, (pss_one (ps_ret (pe_op op_sub (pe_callB (lenS K) (by rfl) T.n_len PySem.boot_len (pa_cons (pe_cal c_run_on (hr.mono (by decide)) pass0 (pa_cons (pe_revTK K (pv 0)) (pa_cons (pv 1) pa_nil))) pa_nil)) pe_int))), ?_⟩
  refine ⟨.ref a, rfl, a, _, rfl, ha, fun x nx => ?_⟩
  refine ⟨.ref b, rfl, x, b, ns.reverse, ms, rfl, SqT.of (by rw [upd_same, List.map_reverse]), (Same.new nx).tup hb, by rw [List.length_reverse]; exact z1, z2, fun p H1 m1 h1 => ?_⟩
  refine ⟨p, _, rfl, .inr h1, _, _, rfl, rfl, ?_⟩
  rw [List.length_map]
  exact q _ (Same.trans (Same.new nx) m1)
def sp_tail_and_core (K : PySem.W.Frag) (cs : CS) : Sp := fun vs H Q E => ∃ (a : Addr) (ns : List Int), vs = [.ref a] ∧ SqT K H a (ns.map V.int) ∧ ns.length < 1000 ∧ 1 ≤ ns.length ∧ ∀ t p1 p2 H', Same H H' → SqT K H' t [.ref p1, .ref p2] → SqT K H' p1 ((coreOf (strk ns)).1.map V.int) → SqT K H' p2 ((coreOf (strk ns)).2.map V.int) → Q (.ref t) H'
theorem ok_tail_and_core (F : Fun K "tail_and_core" "tail_and_core" s_tail_and_core f fd) (T : Txt P w K mg base cs) (c_struck : Cal P w K mg base CX0 1 "struck" ["stones"] s_struck (sp_struck K cs)) : FnOk P w K mg base CX0 2 f fd ["row"] (sp_tail_and_core K cs) := by
  refine F.ok sc_tail_and_core (fun vs H Q E h => ?_) (fun cdv A outer s H vs Q E hr h => ?_)
  · obtain ⟨a, ns, rfl, _⟩ := h
    rfl
  obtain ⟨a, ns, rfl, hS, hz, hp, q⟩ := h
  refine ⟨_, (pss_cons (ps_set (i := 1) sc_tail_and_core.nd rfl (Or.inl rfl) (pe_cal c_struck (hr.mono (by decide)) pass0 (pa_cons (pv 0) pa_nil)))
      (pss_cons (ps_set (i := 2) sc_tail_and_core.nd rfl (Or.inl rfl) (pe_lst (pa_cons (pe_ix (ixT K) (pv 1) pe_int (fun _ _ => rfl)) pa_nil)))
      (pss_cons (ps_while PassesOwn.never (PW.pt (pw_and (pt_cmpR op_gt (pe_callB (lenS K) (by rfl) T.n_len PySem.boot_len (pa_cons (pv 1) pa_nil)) pe_int (nomark _)) (pw_and1 (pt_cmpR op_eq (pe_ix (ixT K) (pv 1) pe_int (fun _ _ => rfl)) (pe_ix (ixT K) (pv 1) (pe_un un_neg pe_int) (fun _ _ => rfl)) (nomark _))))) (pss_cons (ps_set (i := 1) sc_tail_and_core.nd rfl (Or.inl rfl) (pe_slice (slT K) (pv 1) (po_some pe_int) (po_some (pe_un un_neg pe_int))))
      (pss_one (ps_expr (pe_bm PySem.F.plainAttrs_list PySem.F.slot_list_append PySem.F.type_list_append mt_append (pv 2) (pa_cons (pe_ix (ixT K) (pv 1) pe_int (fun _ _ => rfl)) pa_nil))))))
      (pss_one (ps_ret (pe_tup (pa_cons (pe_callTy (tupOf K) (by rfl) T.n_tuple (by decide +kernel) (pa_cons (pv 2) pa_nil)) (pa_cons (pv 1) pa_nil)))))))), ?_⟩
  refine ⟨.ref a, rfl, a, ns, rfl, hS, by omega, fun lf0 H1 m1 h1 => ?_⟩
  have hlen := strk_len ns
  have hpos := strk_pos hp
  obtain ⟨c, hc⟩ : ∃ c, (strk ns).head? = some c := by
    cases e : strk ns with
    | nil => rw [e] at hpos; exact absurd hpos (by decide)
    | cons x r => exact ⟨x, rfl⟩
  refine ⟨.ref lf0, rfl, lf0, _, 0, .int c, rfl, rfl, h1, atHeadI hc, small (by show 1 ≤ 1000000; decide), fun tl ntl => ?_⟩
  refine ⟨fun m σ' H' => ∃ (lf : Addr) (t l : List Int), σ' = [some (.ref a), some (.ref lf), some (.ref tl)] ∧ Same H1 H' ∧ H' tl = some (.lst (t.map V.int)) ∧ SqT K H' lf (l.map V.int) ∧ TC (strk ns) t l ∧ t.length + l.length ≤ 2000 ∧ m = l.length,
    ⟨_, lf0, [c], strk ns, rfl, Same.new ntl, upd_same, (Same.new ntl).tup h1, by rw [show [c] = (strk ns).take 1 by cases e : strk ns with | nil => rw [e] at hc; cases hc | cons x r => rw [e] at hc; cases Option.some.inj hc; rfl]; exact tc_start _, by show 1 + _ ≤ 2000; omega, rfl⟩, ?_⟩
  rintro m σ' H2 ⟨lf, t, l, rfl, m2, ht, hl, htc, hsum, rfl⟩
  have fin : ¬ nxt l = true → ∀ H3, Same H2 H3 → H3 tl = some (.lst (t.map V.int)) → tRet (tTup (tCons (tCB (rTupOf K) (tCons (tVar 2) tNil)) (tCons (tVar 1) tNil))) { nx := fun _ H' => Q .non H', rt := Q } [some (.ref a), some (.ref lf), some (.ref tl)] H3 := fun hn H3 m3 ht3 => by
    have e := tc_end htc hn
    refine ⟨.ref tl, rfl, tl, _, rfl, .inl ⟨SqL.of ht3, fun p1 np1 => ⟨.ref lf, rfl, small (by show 2 ≤ 1000000; decide), fun t2 nt2 => ?_⟩⟩⟩
    have mm : Same H3 (upd (upd H3 p1 (.tup (t.map V.int))) t2 (.tup [.ref p1, .ref lf])) := (Same.new np1).trans (Same.new nt2)
    refine q t2 p1 lf _ ((m1.trans m2).trans (m3.trans mm)) (SqT.of upd_same) ?_ ?_
    · rw [e]
      exact (Same.new nt2).tup (SqT.of upd_same)
    · rw [e]
      exact (m3.trans mm).tup hl
  refine ⟨.ref lf, rfl, lf, _, rfl, .inr hl, _, 2, rfl, rfl, _, rfl, ite2 (fun c1 => ?_) (fun c1 => ?_)⟩
  · have c1' : l.length > 2 := by
      have := of_decide_eq_true c1
      rw [List.length_map] at this
      omega
    have g : ∀ i, (hi : i < l.length) → (l.map V.int)[i]? = some (.int l[i]) := fun i hi => by
      rw [List.getElem?_map, List.getElem?_eq_getElem hi]
      rfl
    refine ⟨.ref lf, rfl, lf, _, 1, _, rfl, rfl, hl, atN (g 1 (by omega)) rfl, .ref lf, rfl, 2, rfl, lf, _, _, _, rfl, rfl, hl, atNeg (g (l.length - 2) (by omega)) (by rw [List.length_map]; omega), rfl, _, rfl, ite2 (fun c2 => ?_) (fun c2 => ?_)⟩
    · have hn : nxt l = true := decide_eq_true ⟨c1', by
        rw [List.getElem?_eq_getElem (by omega), List.getElem?_eq_getElem (by omega)]
        exact congrArg some (V.int.inj (of_decide_eq_true c2))⟩
      have hil := inn_len l
      obtain ⟨d, hd⟩ : ∃ d, (inn l).head? = some d := by
        cases e : inn l with
        | nil => rw [e] at hil; simp at hil; omega
        | cons x r => exact ⟨x, rfl⟩
      have hcut : cutV (l.map V.int) (some 1) (some (-1)) = (inn l).map V.int := by
        rw [cutV_inn (by rw [List.length_map]; omega)]
        unfold inn
        rw [List.map_dropLast, List.map_tail]
      refine ⟨fun σ2 H3 => ∃ (lf : Addr), σ2 = [some (.ref a), some (.ref lf), some (.ref tl)] ∧ Same H1 H3 ∧ H3 tl = some (.lst ((t ++ (inn l).take 1).map V.int)) ∧ SqT K H3 lf ((inn l).map V.int), fun σ2 H3 h => ?_, ?_⟩
      · obtain ⟨lf, e, a1, a2, a3⟩ := h
        refine ⟨(inn l).length, by omega, lf, _, _, e, a1, a2, a3, tc_step htc hn, ?_, rfl⟩
        rw [List.length_append, List.length_take]
        omega
      refine ⟨.ref lf, rfl, 1, rfl, 1, rfl, _, rfl, slA hl fun lf2 H3 m3 h3 => ?_⟩
      rw [show (-(1 : Int)) = -1 from rfl, hcut] at h3
      have ht3 : H3 tl = some (.lst (t.map V.int)) := m3 _ _ ht
      refine ⟨.ref tl, rfl, .inl ⟨rfl, _, SqL.of ht3⟩, .ref lf2, rfl, lf2, _, 0, .int d, rfl, rfl, h3, atHeadI hd, tl, _, _, rfl, rfl, ht3, smallLt (by rw [List.length_map]; omega), ?_⟩
      refine ⟨lf2, rfl, (m2.trans m3).mut ntl, ?_, ?_⟩
      · rw [upd_same, List.map_append, List.map_take]
        cases e : inn l with
        | nil => rw [e] at hd; cases hd
        | cons x r =>
          rw [e] at hd
          cases Option.some.inj hd
          rfl
      · exact tup_upd h3 ht3
    · exact fin (fun z => c2 (decide_eq_true (by
        have := (of_decide_eq_true z).2
        rw [List.getElem?_eq_getElem (by omega), List.getElem?_eq_getElem (by omega)] at this
        exact congrArg V.int (Option.some.inj this)))) _ (Same.refl _) ht
  · refine iteF (fin (fun z => c1 (decide_eq_true ?_)) _ (Same.refl _) ht)
    have := (of_decide_eq_true z).1
    rw [List.length_map]
    omega
def sp_rest (K : PySem.W.Frag) (cs : CS) : Sp := fun vs H Q E => ∃ (a : Addr) (ns : List Int), vs = [.ref a] ∧ SqT K H a (ns.map V.int) ∧ ns.length ≤ 900 ∧ (rowFault ns = none → ∀ v H', Same H H' → Q v H') ∧ (∀ w x, rowFault ns = some (w, x) → ∀ d H', Same H H' → H' d = none → E (.ref (if w then cs.BadSize else cs.BadCoat)) (some d) (upd H' d (.xd [("what", .int x)])))
theorem ok_rest (F : Fun K "rest" "rest" s_rest f fd) (T : Txt P w K mg base cs) (c_check_row : Cal P w K mg base (L2.CX P w) 3 "check_row" ["row"] s_check_row (sp_check_row K cs)) (c_struck : Cal P w K mg base CX0 1 "struck" ["stones"] s_struck (sp_struck K cs)) : FnOk P w K mg base (L2.CX P w) 4 f fd ["row"] (sp_rest K cs) := by
  refine F.okX sc_rest (fun vs H Q E h => ?_) (fun cdv A outer s H vs Q E hr h => ?_)
  · obtain ⟨a, ns, rfl, _⟩ := h
    rfl
  obtain ⟨a, ns, rfl, hS, hL, q, qb⟩ := h
  refine ⟨_, (pss_cons (ps_expr (pe_cal c_check_row (hr.mono (by decide)) (passes_call (E := E) (takes_of rfl rfl rfl rfl) (fun _ _ _ _ h => h)) (pa_cons (pv 0) pa_nil)))
      (pss_one (ps_ret (pe_cal c_struck (hr.mono (by decide)) pass0 (pa_cons (pv 0) pa_nil))))), ?_⟩
  refine ⟨.ref a, rfl, a, ns, rfl, hS, hL, fun hz H1 s1 => ?_, fun w x hw d H' m nd => qb w x hw d H' m nd⟩
  have hR := rowFault_row hz
  have q := q hz
  refine ⟨.ref a, rfl, a, ns, rfl, s1.tup hS, Nat.lt_of_le_of_lt hR.2.1 (by decide), fun p H2 s2 hp => ?_⟩
  exact q _ H2 (s1.trans s2)
def sp_is_straight (K : PySem.W.Frag) (cs : CS) : Sp := fun vs H Q E => ∃ (a : Addr) (ns : List Int), vs = [.ref a] ∧ SqT K H a (ns.map V.int) ∧ ns.length ≤ 900 ∧ (rowFault ns = none → ∀ v H', Same H H' → Q v H') ∧ (∀ w x, rowFault ns = some (w, x) → ∀ d H', Same H H' → H' d = none → E (.ref (if w then cs.BadSize else cs.BadCoat)) (some d) (upd H' d (.xd [("what", .int x)])))
theorem ok_is_straight (F : Fun K "is_straight" "is_straight" s_is_straight f fd) (T : Txt P w K mg base cs) (c_check_row : Cal P w K mg base (L2.CX P w) 3 "check_row" ["row"] s_check_row (sp_check_row K cs)) (c_bends : Cal P w K mg base CX0 1 "bends" ["stones"] s_bends (sp_bends K cs)) : FnOk P w K mg base (L2.CX P w) 4 f fd ["row"] (sp_is_straight K cs) := by
  refine F.okX sc_is_straight (fun vs H Q E h => ?_) (fun cdv A outer s H vs Q E hr h => ?_)
  · obtain ⟨a, ns, rfl, _⟩ := h
    rfl
  obtain ⟨a, ns, rfl, hS, hL, q, qb⟩ := h
  refine ⟨_, (pss_cons (ps_expr (pe_cal c_check_row (hr.mono (by decide)) (passes_call (E := E) (takes_of rfl rfl rfl rfl) (fun _ _ _ _ h => h)) (pa_cons (pv 0) pa_nil)))
      (pss_one (ps_ret (pe_cmpR (eqD K hr.units) (pe_cal c_bends (hr.mono (by decide)) pass0 (pa_cons (pv 0) pa_nil)) (pe_tup pa_nil) (nomark _))))), ?_⟩
  refine ⟨.ref a, rfl, a, ns, rfl, hS, hL, fun hz H1 s1 => ?_, fun w x hw d H' m nd => qb w x hw d H' m nd⟩
  have hR := rowFault_row hz
  have q := q hz
  refine ⟨.ref a, rfl, a, ns, rfl, s1.tup hS, Nat.lt_of_le_of_lt hR.2.1 (by decide), fun p H2 s2 hp => ?_⟩
  refine ⟨Nat.zero_le _, fun e ne => ?_⟩
  exact eqT (ms := []) ((Same.new ne).tup hp) (SqT.of upd_same) (q _ _ ((s1.trans s2).trans (Same.new ne)))
def sp_strikes (K : PySem.W.Frag) (cs : CS) : Sp := fun vs H Q E => ∃ (a : Addr) (ns : List Int), vs = [.ref a] ∧ SqT K H a (ns.map V.int) ∧ ns.length ≤ 900 ∧ (rowFault ns = none → ∀ v H', Same H H' → Q v H') ∧ (∀ w x, rowFault ns = some (w, x) → ∀ d H', Same H H' → H' d = none → E (.ref (if w then cs.BadSize else cs.BadCoat)) (some d) (upd H' d (.xd [("what", .int x)])))
theorem ok_strikes (F : Fun K "strikes" "strikes" s_strikes f fd) (T : Txt P w K mg base cs) (c_check_row : Cal P w K mg base (L2.CX P w) 3 "check_row" ["row"] s_check_row (sp_check_row K cs)) (c_struck : Cal P w K mg base CX0 1 "struck" ["stones"] s_struck (sp_struck K cs)) : FnOk P w K mg base (L2.CX P w) 4 f fd ["row"] (sp_strikes K cs) := by
  refine F.okX sc_strikes (fun vs H Q E h => ?_) (fun cdv A outer s H vs Q E hr h => ?_)
  · obtain ⟨a, ns, rfl, _⟩ := h
    rfl
  obtain ⟨a, ns, rfl, hS, hL, q, qb⟩ := h
  refine ⟨_, (pss_cons (ps_expr (pe_cal c_check_row (hr.mono (by decide)) (passes_call (E := E) (takes_of rfl rfl rfl rfl) (fun _ _ _ _ h => h)) (pa_cons (pv 0) pa_nil)))
      (pss_one (ps_ret (pe_op op_fdivW (pe_op op_sub (pe_callB (lenS K) (by rfl) T.n_len PySem.boot_len (pa_cons (pv 0) pa_nil)) (pe_callB (lenS K) (by rfl) T.n_len PySem.boot_len (pa_cons (pe_cal c_struck (hr.mono (by decide)) pass0 (pa_cons (pv 0) pa_nil)) pa_nil))) pe_int)))), ?_⟩
  refine ⟨.ref a, rfl, a, ns, rfl, hS, hL, fun hz H1 s1 => ?_, fun w x hw d H' m nd => qb w x hw d H' m nd⟩
  have hR := rowFault_row hz
  have q := q hz
  refine ⟨.ref a, rfl, a, _, rfl, .inr (s1.tup hS), .ref a, rfl, a, ns, rfl, s1.tup hS, Nat.lt_of_le_of_lt hR.2.1 (by decide), fun p H2 s2 hp => ?_⟩
  exact ⟨p, _, rfl, .inr hp, _, _, rfl, rfl, _, 2, rfl, rfl, ⟨by decide, by decide⟩, q _ H2 (s1.trans s2)⟩
def sp_turns (K : PySem.W.Frag) (cs : CS) : Sp := fun vs H Q E => ∃ (a : Addr) (ns : List Int), vs = [.ref a] ∧ SqT K H a (ns.map V.int) ∧ ns.length ≤ 900 ∧ (rowFault ns = none → ∀ v H', Same H H' → Q v H') ∧ (∀ w x, rowFault ns = some (w, x) → ∀ d H', Same H H' → H' d = none → E (.ref (if w then cs.BadSize else cs.BadCoat)) (some d) (upd H' d (.xd [("what", .int x)])))
theorem ok_turns (F : Fun K "turns" "turns" s_turns f fd) (T : Txt P w K mg base cs) (c_check_row : Cal P w K mg base (L2.CX P w) 3 "check_row" ["row"] s_check_row (sp_check_row K cs)) (c_bends : Cal P w K mg base CX0 1 "bends" ["stones"] s_bends (sp_bends K cs)) : FnOk P w K mg base (L2.CX P w) 4 f fd ["row"] (sp_turns K cs) := by
  refine F.okX sc_turns (fun vs H Q E h => ?_) (fun cdv A outer s H vs Q E hr h => ?_)
  · obtain ⟨a, ns, rfl, _⟩ := h
    rfl
  obtain ⟨a, ns, rfl, hS, hL, q, qb⟩ := h
  refine ⟨_, (pss_cons (ps_expr (pe_cal c_check_row (hr.mono (by decide)) (passes_call (E := E) (takes_of rfl rfl rfl rfl) (fun _ _ _ _ h => h)) (pa_cons (pv 0) pa_nil)))
      (pss_one (ps_ret (pe_cal c_bends (hr.mono (by decide)) pass0 (pa_cons (pv 0) pa_nil))))), ?_⟩
  refine ⟨.ref a, rfl, a, ns, rfl, hS, hL, fun hz H1 s1 => ?_, fun w x hw d H' m nd => qb w x hw d H' m nd⟩
  have hR := rowFault_row hz
  have q := q hz
  refine ⟨.ref a, rfl, a, ns, rfl, s1.tup hS, Nat.lt_of_le_of_lt hR.2.1 (by decide), fun p H2 s2 hp => ?_⟩
  exact q _ H2 (s1.trans s2)
def sp_back (K : PySem.W.Frag) (cs : CS) : Sp := fun vs H Q E => ∃ (a : Addr) (ns : List Int), vs = [.ref a] ∧ SqT K H a (ns.map V.int) ∧ ns.length ≤ 900 ∧ (rowFault ns = none → ∀ v H', Same H H' → Q v H') ∧ (∀ w x, rowFault ns = some (w, x) → ∀ d H', Same H H' → H' d = none → E (.ref (if w then cs.BadSize else cs.BadCoat)) (some d) (upd H' d (.xd [("what", .int x)])))
theorem ok_back (F : Fun K "back" "back" s_back f fd) (T : Txt P w K mg base cs) (c_check_row : Cal P w K mg base (L2.CX P w) 3 "check_row" ["row"] s_check_row (sp_check_row K cs)) : FnOk P w K mg base (L2.CX P w) 4 f fd ["row"] (sp_back K cs) := by
  refine F.okX sc_back (fun vs H Q E h => ?_) (fun cdv A outer s H vs Q E hr h => ?_)
  · obtain ⟨a, ns, rfl, _⟩ := h
    rfl
  obtain ⟨a, ns, rfl, hS, hL, q, qb⟩ := h
  refine ⟨_, (pss_cons (ps_expr (pe_cal c_check_row (hr.mono (by decide)) (passes_call (E := E) (takes_of rfl rfl rfl rfl) (fun _ _ _ _ h => h)) (pa_cons (pv 0) pa_nil)))
      (pss_one (ps_ret (pe_revTK K (pv 0))))), ?_⟩
  refine ⟨.ref a, rfl, a, ns, rfl, hS, hL, fun hz H1 s1 => ?_, fun w x hw d H' m nd => qb w x hw d H' m nd⟩
  have hR := rowFault_row hz
  have q := q hz
  refine ⟨.ref a, rfl, a, _, rfl, s1.tup hS, fun p np => ?_⟩
  exact q _ _ (s1.trans (Same.new np))
def sp_joined (K : PySem.W.Frag) (cs : CS) : Sp := fun vs H Q E => ∃ (a b : Addr) (ns ms : List Int), vs = [.ref a, .ref b] ∧ SqT K H a (ns.map V.int) ∧ SqT K H b (ms.map V.int) ∧ ns.length ≤ 900 ∧ ms.length ≤ 900 ∧ (dueR ns ms (lt0 ns, hd0 ms) = none → ∀ v H', Same H H' → Q v H') ∧ (∀ w x, dueR ns ms (lt0 ns, hd0 ms) = some (.inl (w, x)) → ∀ d H', Same H H' → H' d = none → E (.ref (if w then cs.BadSize else cs.BadCoat)) (some d) (upd H' d (.xd [("what", .int x)]))) ∧ (∀ e, dueR ns ms (lt0 ns, hd0 ms) = some (.inr e) → ∀ pr d H', Same H H' → SqT K H' pr [.int e.1, .int e.2] → H' d = none → E (.ref cs.BadJoin) (some d) (upd H' d (.xd [("what", .ref pr)])))
theorem ok_joined (F : Fun K "joined" "joined" s_joined f fd) (T : Txt P w K mg base cs) (c_check_row : Cal P w K mg base (L2.CX P w) 3 "check_row" ["row"] s_check_row (sp_check_row K cs)) (c_run_on : Cal P w K mg base CX0 2 "run_on" ["one", "two"] s_run_on (sp_run_on K cs)) : FnOk P w K mg base (L2.CX P w) 4 f fd ["one", "two"] (sp_joined K cs) := by
  refine F.okX sc_joined (fun vs H Q E h => ?_) (fun cdv A outer s H vs Q E hr h => ?_)
  · obtain ⟨a, b, ns, ms, rfl, _⟩ := h
    rfl
  obtain ⟨a, b, ns, ms, rfl, ha, hb, lA, lB, q, qb, qj⟩ := h
  refine ⟨_, (pss_cons (ps_expr (pe_cal c_check_row (hr.mono (by decide)) (passes_call (E := E) (takes_of rfl rfl rfl rfl) (fun _ _ _ _ h => h)) (pa_cons (pv 0) pa_nil)))
      (pss_cons (ps_expr (pe_cal c_check_row (hr.mono (by decide)) (passes_call (E := E) (takes_of rfl rfl rfl rfl) (fun _ _ _ _ h => h)) (pa_cons (pv 1) pa_nil)))
      (pss_cons (ps_if (pt_cmpR op_ne (pe_ix (ixT K) (pv 0) (pe_un un_neg pe_int) (fun _ _ => rfl)) (pe_ix (ixT K) (pv 1) pe_int (fun _ _ => rfl)) (nomark _)) (pss_one (ps_raiseW rfl T.x_BadJoin (hr.mono (by decide)) (takes_of rfl rfl rfl rfl) (pa_cons (pe_tup (pa_cons (pe_ix (ixT K) (pv 0) (pe_un un_neg pe_int) (fun _ _ => rfl)) (pa_cons (pe_ix (ixT K) (pv 1) pe_int (fun _ _ => rfl)) pa_nil))) pa_nil))) pss_nil)
      (pss_one (ps_ret (pe_cal c_run_on (hr.mono (by decide)) pass0 (pa_cons (pv 0) (pa_cons (pv 1) pa_nil)))))))), ?_⟩
  refine ⟨.ref a, rfl, a, ns, rfl, ha, lA, fun z1 H1 m1 => ?_, fun w x hw d H' m nd => qb w x (dueR_1 hw) d H' m nd⟩
  refine ⟨.ref b, rfl, b, ms, rfl, m1.tup hb, lB, fun z2 H2 m2 => ?_, fun w x hw d H' m nd => qb w x (dueR_2 z1 hw) d H' (m1.trans m) nd⟩
  have r1 := rowFault_row z1
  have r2 := rowFault_row z2
  have m12 := m1.trans m2
  have ha2 := m12.tup ha
  have hb2 := m12.tup hb
  have e1 := lt0_of r1.1
  have e2 := hd0_of r2.1
  by_cases c : lt0 ns = hd0 ms
  · have q := q (dueR_4 z1 z2 c)
    refine ⟨.ref a, rfl, 1, rfl, a, _, _, .int _, rfl, rfl, ha2, atLastI e1, .ref b, rfl, b, _, 0, .int _, rfl, rfl, hb2, atHeadI e2, rfl, _, rfl, itF (by simp [c]) ?_⟩
    exact ⟨.ref a, rfl, .ref b, rfl, a, b, ns, ms, rfl, ha2, hb2, by omega, by omega, fun p H3 m3 h3 => q _ H3 (m12.trans m3)⟩
  · refine ⟨.ref a, rfl, 1, rfl, a, _, _, .int _, rfl, rfl, ha2, atLastI e1, .ref b, rfl, b, _, 0, .int _, rfl, rfl, hb2, atHeadI e2, rfl, _, rfl, itT (by simp [c]) ?_⟩
    refine ⟨.ref a, rfl, 1, rfl, a, _, _, .int _, rfl, rfl, ha2, atLastI e1, .ref b, rfl, b, _, 0, .int _, rfl, rfl, hb2, atHeadI e2, by show 2 ≤ sizeLine; decide, fun pr npr => ?_⟩
    exact made_what T.xc_BadJoin fun d nd => qj _ (dueR_3 z1 z2 c) pr d _ (m12.trans (Same.new npr)) (SqT.of upd_same) nd
def sp_gap (K : PySem.W.Frag) (cs : CS) : Sp := fun vs H Q E => ∃ (a b : Addr) (ns ms : List Int), vs = [.ref a, .ref b] ∧ SqT K H a (ns.map V.int) ∧ SqT K H b (ms.map V.int) ∧ ns.length ≤ 900 ∧ ms.length ≤ 900 ∧ (dueR ns ms (hd0 ns, hd0 ms) = none → ∀ v H', Same H H' → Q v H') ∧ (∀ w x, dueR ns ms (hd0 ns, hd0 ms) = some (.inl (w, x)) → ∀ d H', Same H H' → H' d = none → E (.ref (if w then cs.BadSize else cs.BadCoat)) (some d) (upd H' d (.xd [("what", .int x)]))) ∧ (∀ e, dueR ns ms (hd0 ns, hd0 ms) = some (.inr e) → ∀ pr d H', Same H H' → SqT K H' pr [.int e.1, .int e.2] → H' d = none → E (.ref cs.BadJoin) (some d) (upd H' d (.xd [("what", .ref pr)])))
theorem ok_gap (F : Fun K "gap" "gap" s_gap f fd) (T : Txt P w K mg base cs) (c_check_row : Cal P w K mg base (L2.CX P w) 3 "check_row" ["row"] s_check_row (sp_check_row K cs)) (c_gap_of : Cal P w K mg base CX0 3 "gap_of" ["one", "two"] s_gap_of (sp_gap_of K cs)) : FnOk P w K mg base (L2.CX P w) 4 f fd ["one", "two"] (sp_gap K cs) := by
  refine F.okX sc_gap (fun vs H Q E h => ?_) (fun cdv A outer s H vs Q E hr h => ?_)
  · obtain ⟨a, b, ns, ms, rfl, _⟩ := h
    rfl
  obtain ⟨a, b, ns, ms, rfl, ha, hb, lA, lB, q, qb, qj⟩ := h
  refine ⟨_, (pss_cons (ps_expr (pe_cal c_check_row (hr.mono (by decide)) (passes_call (E := E) (takes_of rfl rfl rfl rfl) (fun _ _ _ _ h => h)) (pa_cons (pv 0) pa_nil)))
      (pss_cons (ps_expr (pe_cal c_check_row (hr.mono (by decide)) (passes_call (E := E) (takes_of rfl rfl rfl rfl) (fun _ _ _ _ h => h)) (pa_cons (pv 1) pa_nil)))
      (pss_cons (ps_if (pt_cmpR op_ne (pe_ix (ixT K) (pv 0) pe_int (fun _ _ => rfl)) (pe_ix (ixT K) (pv 1) pe_int (fun _ _ => rfl)) (nomark _)) (pss_one (ps_raiseW rfl T.x_BadJoin (hr.mono (by decide)) (takes_of rfl rfl rfl rfl) (pa_cons (pe_tup (pa_cons (pe_ix (ixT K) (pv 0) pe_int (fun _ _ => rfl)) (pa_cons (pe_ix (ixT K) (pv 1) pe_int (fun _ _ => rfl)) pa_nil))) pa_nil))) pss_nil)
      (pss_one (ps_ret (pe_cal c_gap_of (hr.mono (by decide)) pass0 (pa_cons (pv 0) (pa_cons (pv 1) pa_nil)))))))), ?_⟩
  refine ⟨.ref a, rfl, a, ns, rfl, ha, lA, fun z1 H1 m1 => ?_, fun w x hw d H' m nd => qb w x (dueR_1 hw) d H' m nd⟩
  refine ⟨.ref b, rfl, b, ms, rfl, m1.tup hb, lB, fun z2 H2 m2 => ?_, fun w x hw d H' m nd => qb w x (dueR_2 z1 hw) d H' (m1.trans m) nd⟩
  have r1 := rowFault_row z1
  have r2 := rowFault_row z2
  have m12 := m1.trans m2
  have ha2 := m12.tup ha
  have hb2 := m12.tup hb
  have e1 := hd0_of r1.1
  have e2 := hd0_of r2.1
  by_cases c : hd0 ns = hd0 ms
  · have q := q (dueR_4 z1 z2 c)
    refine ⟨.ref a, rfl, a, _, 0, .int _, rfl, rfl, ha2, atHeadI e1, .ref b, rfl, b, _, 0, .int _, rfl, rfl, hb2, atHeadI e2, rfl, _, rfl, itF (by simp [c]) ?_⟩
    exact ⟨.ref a, rfl, .ref b, rfl, a, b, ns, ms, rfl, ha2, hb2, by omega, by omega, fun H3 m3 => q _ H3 (m12.trans m3)⟩
  · refine ⟨.ref a, rfl, a, _, 0, .int _, rfl, rfl, ha2, atHeadI e1, .ref b, rfl, b, _, 0, .int _, rfl, rfl, hb2, atHeadI e2, rfl, _, rfl, itT (by simp [c]) ?_⟩
    refine ⟨.ref a, rfl, a, _, 0, .int _, rfl, rfl, ha2, atHeadI e1, .ref b, rfl, b, _, 0, .int _, rfl, rfl, hb2, atHeadI e2, by show 2 ≤ sizeLine; decide, fun pr npr => ?_⟩
    exact made_what T.xc_BadJoin fun d nd => qj _ (dueR_3 z1 z2 c) pr d _ (m12.trans (Same.new npr)) (SqT.of upd_same) nd
def sp_core (K : PySem.W.Frag) (cs : CS) : Sp := fun vs H Q E => ∃ (a : Addr) (ns : List Int), vs = [.ref a] ∧ SqT K H a (ns.map V.int) ∧ ns.length ≤ 900 ∧ (dueR ns ns (hd0 ns, lt0 ns) = none → ∀ v H', Same H H' → Q v H') ∧ (∀ w x, dueR ns ns (hd0 ns, lt0 ns) = some (.inl (w, x)) → ∀ d H', Same H H' → H' d = none → E (.ref (if w then cs.BadSize else cs.BadCoat)) (some d) (upd H' d (.xd [("what", .int x)]))) ∧ (∀ e, dueR ns ns (hd0 ns, lt0 ns) = some (.inr e) → ∀ pr d H', Same H H' → SqT K H' pr [.int e.1, .int e.2] → H' d = none → E (.ref cs.BadJoin) (some d) (upd H' d (.xd [("what", .ref pr)])))
theorem ok_core (F : Fun K "core" "core" s_core f fd) (T : Txt P w K mg base cs) (c_check_row : Cal P w K mg base (L2.CX P w) 3 "check_row" ["row"] s_check_row (sp_check_row K cs)) (c_tail_and_core : Cal P w K mg base CX0 2 "tail_and_core" ["row"] s_tail_and_core (sp_tail_and_core K cs)) : FnOk P w K mg base (L2.CX P w) 4 f fd ["row"] (sp_core K cs) := by
  refine F.okX sc_core (fun vs H Q E h => ?_) (fun cdv A outer s H vs Q E hr h => ?_)
  · obtain ⟨a, ns, rfl, _⟩ := h
    rfl
  obtain ⟨a, ns, rfl, ha, lA, q, qb, qj⟩ := h
  refine ⟨_, (pss_cons (ps_expr (pe_cal c_check_row (hr.mono (by decide)) (passes_call (E := E) (takes_of rfl rfl rfl rfl) (fun _ _ _ _ h => h)) (pa_cons (pv 0) pa_nil)))
      (pss_cons (ps_if (pt_cmpR op_ne (pe_ix (ixT K) (pv 0) pe_int (fun _ _ => rfl)) (pe_ix (ixT K) (pv 0) (pe_un un_neg pe_int) (fun _ _ => rfl)) (nomark _)) (pss_one (ps_raiseW rfl T.x_BadJoin (hr.mono (by decide)) (takes_of rfl rfl rfl rfl) (pa_cons (pe_tup (pa_cons (pe_ix (ixT K) (pv 0) pe_int (fun _ _ => rfl)) (pa_cons (pe_ix (ixT K) (pv 0) (pe_un un_neg pe_int) (fun _ _ => rfl)) pa_nil))) pa_nil))) pss_nil)
      (pss_one (ps_ret (pe_cal c_tail_and_core (hr.mono (by decide)) pass0 (pa_cons (pv 0) pa_nil)))))), ?_⟩
  refine ⟨.ref a, rfl, a, ns, rfl, ha, lA, fun z1 H1 m1 => ?_, fun w x hw d H' m nd => qb w x (dueR_1 hw) d H' m nd⟩
  have r1 := rowFault_row z1
  have ha2 := m1.tup ha
  have e1 := hd0_of r1.1
  have e2 := lt0_of r1.1
  by_cases c : hd0 ns = lt0 ns
  · have q := q (dueR_4 z1 z1 c)
    refine ⟨.ref a, rfl, a, _, 0, .int _, rfl, rfl, ha2, atHeadI e1, .ref a, rfl, 1, rfl, a, _, _, .int _, rfl, rfl, ha2, atLastI e2, rfl, _, rfl, itF (by simp [c]) ?_⟩
    exact ⟨.ref a, rfl, a, ns, rfl, ha2, by omega, r1.1, fun t p1 p2 H2 m2 _ _ _ => q _ H2 (m1.trans m2)⟩
  · refine ⟨.ref a, rfl, a, _, 0, .int _, rfl, rfl, ha2, atHeadI e1, .ref a, rfl, 1, rfl, a, _, _, .int _, rfl, rfl, ha2, atLastI e2, rfl, _, rfl, itT (by simp [c]) ?_⟩
    refine ⟨.ref a, rfl, a, _, 0, .int _, rfl, rfl, ha2, atHeadI e1, .ref a, rfl, 1, rfl, a, _, _, .int _, rfl, rfl, ha2, atLastI e2, by show 2 ≤ sizeLine; decide, fun pr npr => ?_⟩
    exact made_what T.xc_BadJoin fun d nd => qj _ (dueR_3 z1 z1 c) pr d _ (m1.trans (Same.new npr)) (SqT.of upd_same) nd
def sp__law_pool (K : PySem.W.Frag) (cs : CS) : Sp := fun vs H Q E => ∃ (a : Addr) (ns : List Int) (k : Int), vs = [.ref a, .int k] ∧ SqL K H a (ns.map V.int) ∧ 0 ≤ k ∧ k < 1000 ∧ ∀ p H', H p = none → Same H H' → Src H' p → Q (.ref p) H'
theorem ok__law_pool (F : Fun K "_law_pool" "_law_pool" s__law_pool f fd) (T : Txt P w K mg base cs)  : FnOk P w K mg base CX0 1 f fd ["script", "k"] (sp__law_pool K cs) := by
  refine F.ok sc__law_pool (fun vs H Q E h => ?_) (fun cdv A outer s H vs Q E hr h => ?_)
  · obtain ⟨a, ns, k, rfl, _⟩ := h
    rfl
  obtain ⟨a, ns, k, rfl, hS, hk, hk2, q⟩ := h
  obtain ⟨j, rfl⟩ : ∃ j : Nat, k = (j : Int) := ⟨k.toNat, by omega⟩
  have hjj : (0 : Int) ≤ 7919 * (j : Int) * (j : Int) ∧ 7919 * (j : Int) * (j : Int) ≤ 7919000 * 1000 := by
    have h1 : (0 : Int) ≤ 7919 * (j : Int) := by omega
    have h2 : 7919 * (j : Int) ≤ 7919000 := by omega
    exact ⟨Int.mul_nonneg h1 hk, Int.mul_le_mul h2 (by omega) hk (by decide)⟩
  refine ⟨_, (pss_cons (ps_set (i := 2) sc__law_pool.nd rfl (Or.inl rfl) pe_int)
      (pss_cons (ps_if (pt_cmpR op_lt (pv 1) (pe_callB (lenS K) (by rfl) T.n_len PySem.boot_len (pa_cons (pv 0) pa_nil)) (nomark _)) (pss_one (ps_set (i := 2) sc__law_pool.nd rfl (Or.inl rfl) (pe_ix (ixL K) (pv 0) (pv 1) (fun _ _ => rfl)))) (pss_one (ps_if (pt_truth (pv 0) (by intro _; rfl)) (pss_one (ps_set (i := 2) sc__law_pool.nd rfl (Or.inl rfl) (pe_ix (ixL K) (pv 0) pe_int (fun _ _ => rfl)))) pss_nil)))
      (pss_cons (ps_set (i := 3) sc__law_pool.nd rfl (Or.inl rfl) (pe_callB (call_max2 rfl) (by rfl) T.n_max (by decide +kernel) (pa_cons (pe_callTy call_int1 (by rfl) T.n_int (by decide +kernel) (pa_cons (pv 2) pa_nil)) (pa_cons (pe_callTy call_int1 (by rfl) T.n_int (by decide +kernel) (pa_cons (pe_op op_sub (pe_un un_neg pe_int) (pv 2)) pa_nil)) pa_nil))))
      (pss_cons (ps_set (i := 4) sc__law_pool.nd rfl (Or.inl rfl) (pe_op op_mod (pe_callTy call_int1 (by rfl) T.n_int (by decide +kernel) (pa_cons (pe_op op_mul (pe_op op_add (pe_op op_add (pe_op op_add (pe_op op_mod (pe_callTy call_int1 (by rfl) T.n_int (by decide +kernel) (pa_cons (pv 3) pa_nil)) pe_int) (pe_op op_mul (pe_op op_mul pe_int (pv 1)) (pv 1))) (pe_op op_mul pe_int (pv 1))) pe_int) pe_int) pa_nil)) pe_int))
      (pss_one (ps_ret (pe_lst (pa_cons (pe_op op_mul (pv 3) (pe_callTy call_int1 (by rfl) T.n_int (by decide +kernel) (pa_cons (pe_cmpR op_ge (pv 3) (pe_op op_pow pe_int pe_int) (nomark _)) pa_nil))) (pa_cons (pv 4) pa_nil))))))))), ?_⟩
  refine ⟨.int j, rfl, .ref a, rfl, a, _, rfl, .inl hS, j, _, rfl, rfl, _, rfl, ite2
    (fun c => ⟨.ref a, rfl, .int j, rfl, a, _, j, .int (ns.getD j 0), rfl, rfl, hS, atI_nat ?_, ?_⟩)
    (fun c => ⟨.ref a, rfl, _, .inl ⟨_, hS, rfl⟩, ite2 (fun c2 => ⟨.ref a, rfl, a, _, 0, .int (ns.getD 0 0), rfl, rfl, hS, atN (j := 0) ?_ rfl, ?_⟩) (fun c2 => ?_)⟩)⟩
  · have h1 : j < ns.length := by
      have z := of_decide_eq_true c
      rw [List.length_map] at z
      omega
    rw [List.getElem?_map, List.getD_eq_getElem?_getD, List.getElem?_eq_getElem h1]
    rfl
  rotate_left
  · cases ns with
    | nil => cases c2
    | cons n ns => rfl
  all_goals
    refine ⟨_, rfl, .inl ⟨_, rfl, 1, rfl, _, rfl, _, _, rfl, rfl, .inl ⟨_, rfl, _, _, rfl, ?_⟩⟩⟩
    refine ⟨_, rfl, .inl ⟨_, rfl, _, 2147483629, rfl, rfl, by show (0 : Int) < 2147483629; decide, _, rfl, _, _, rfl, rfl, .inl ⟨by omega, by omega⟩, _, rfl, _, _, rfl, rfl, .inl ⟨by omega, by omega⟩, _, _, rfl, rfl, _, rfl, _, _, rfl, rfl, .inl ⟨by omega, by omega⟩, _, _, rfl, rfl, _, _, rfl, rfl, _, _, rfl, rfl, .inl ?_, .inl ⟨_, rfl, _, 2147483647, rfl, rfl, by show (0 : Int) < 2147483647; decide, ?_⟩⟩⟩
    · exact mixB hjj hk hk2
    · refine ⟨_, rfl, _, rfl, _, _, rfl, rfl, ⟨by decide, by decide, by decide⟩, _, _, rfl, rfl, .inr ⟨_, rfl, _, _, rfl, rfl, .inr (b01 _), _, rfl, by show 2 ≤ sizeLine; decide, fun p np => ?_⟩⟩
      refine q p _ np (Same.new np) ⟨_, _, upd_same, ?_, Int.emod_nonneg _ (by decide), Int.emod_lt_of_pos _ (by decide)⟩
      refine Int.mul_nonneg ?_ ?_
      · split <;> omega
      · exact b0 _
def sp__law_take (K : PySem.W.Frag) (cs : CS) : Sp := fun vs H Q E => ∃ (p : Addr) (t : Int), vs = [.ref p, .int t] ∧ Src H p ∧ 0 < t ∧ t < 2000000000 ∧ ∀ r H', 0 ≤ r → r < t → Src H' p → Exb p H H' → Q (.int r) H'
theorem ok__law_take (F : Fun K "_law_take" "_law_take" s__law_take f fd) (T : Txt P w K mg base cs)  : FnOk P w K mg base CX0 1 f fd ["source", "top"] (sp__law_take K cs) := by
  refine F.ok sc__law_take (fun vs H Q E h => ?_) (fun cdv A outer s H vs Q E hr h => ?_)
  · obtain ⟨p, t, rfl, _⟩ := h
    rfl
  obtain ⟨p, t, rfl, ⟨a, b, hp, ha, hb, hb2⟩, ht, ht2, q⟩ := h
  refine ⟨_, (pss_cons (ps_if (pt_cmpR op_gt (pe_ix (ixL K) (pv 0) pe_int (fun _ _ => rfl)) pe_int (nomark _)) (pss_cons (ps_set (i := 2) sc__law_take.nd rfl (Or.inl rfl) (pe_op op_mod (pe_callTy call_int1 (by rfl) T.n_int (by decide +kernel) (pa_cons (pe_ix (ixL K) (pv 0) pe_int (fun _ _ => rfl)) pa_nil)) (pv 1)))
      (pss_cons (ps_asg (pe_op op_fdivW (pe_ix (ixL K) (pv 0) pe_int (fun _ _ => rfl)) (pv 1)) (pg_sub (pv 0) pe_int set_list))
      (pss_one (ps_ret (pv 2))))) pss_nil)
      (pss_cons (ps_asg (pe_op op_mod (pe_callTy call_int1 (by rfl) T.n_int (by decide +kernel) (pa_cons (pe_op op_add (pe_op op_mul (pe_ix (ixL K) (pv 0) pe_int (fun _ _ => rfl)) pe_int) pe_int) pa_nil)) pe_int) (pg_sub (pv 0) pe_int set_list))
      (pss_one (ps_ret (pe_op op_mod (pe_callTy call_int1 (by rfl) T.n_int (by decide +kernel) (pa_cons (pe_op op_fdivW (pe_op op_mod (pe_callTy call_int1 (by rfl) T.n_int (by decide +kernel) (pa_cons (pe_op op_mul (pe_ix (ixL K) (pv 0) pe_int (fun _ _ => rfl)) (pe_ix (ixL K) (pv 0) pe_int (fun _ _ => rfl))) pa_nil)) pe_int) pe_int) pa_nil)) (pv 1)))))), ?_⟩
  -- source[0] > 0
  refine ⟨.ref p, rfl, p, _, 0, .int a, rfl, rfl, SqL.of hp, atI0, a, 0, rfl, rfl, _, rfl, ite2 (fun c => ?_) (fun c => ?_)⟩
  · -- drawn = int(source[0]) % top; source[0] = source[0] // top; return drawn
    refine ⟨.ref p, rfl, p, _, 0, .int a, rfl, rfl, SqL.of hp, atI0, .inl ⟨a, rfl, .int t, rfl, a, t, rfl, rfl, ht, ?_⟩⟩
    refine ⟨.ref p, rfl, p, _, 0, .int a, rfl, rfl, SqL.of hp, atI0, .int t, rfl, a, t, rfl, rfl, wide_div (b := 64) ht (by omega) (by decide) (by decide), ?_⟩
    refine ⟨.ref p, rfl, p, _, 0, 0, rfl, rfl, hp, rfl, ?_⟩
    refine ⟨.int (a % t), rfl, ?_⟩
    exact q _ _ (Int.emod_nonneg _ (by omega)) (Int.emod_lt_of_pos _ ht) ⟨a / t, b, upd_same, Int.ediv_nonneg ha (by omega), hb, hb2⟩ Exb.at
  · refine ⟨.ref p, rfl, p, _, 1, .int b, rfl, rfl, SqL.of hp, atI1, b, 39373, rfl, rfl, .inl ⟨by omega, by omega⟩, _, 7, rfl, rfl, .inl ⟨_, rfl, _, 2147483647, rfl, rfl, by show (0 : Int) < 2147483647; decide, ?_⟩⟩
    refine ⟨.ref p, rfl, p, _, 1, 1, rfl, rfl, hp, rfl, ?_⟩
    have h1 : (0 : Int) ≤ (b * 39373 + 7) % 2147483647 := Int.emod_nonneg _ (by decide)
    have h2 : (b * 39373 + 7) % 2147483647 < 2147483647 := Int.emod_lt_of_pos _ (by decide)
    have hp2 : (upd H p (.lst [.int a, .int ((b * 39373 + 7) % 2147483647)])) p = some (.lst [.int a, .int ((b * 39373 + 7) % 2147483647)]) := upd_same
    refine ⟨.ref p, rfl, p, [.int a, .int ((b * 39373 + 7) % 2147483647)], 1, _, rfl, rfl, SqL.of hp2, atI1, .ref p, rfl, p, [.int a, .int ((b * 39373 + 7) % 2147483647)], 1, _, rfl, rfl, SqL.of hp2, atI1, _, _, rfl, rfl, .inl ⟨by omega, by omega⟩, ?_⟩
    refine .inl ⟨_, rfl, _, 2147483629, rfl, rfl, by show (0 : Int) < 2147483629; decide, _, 32, rfl, rfl, ⟨by decide, by decide⟩, .inl ⟨_, rfl, .int t, rfl, _, t, rfl, rfl, ht, ?_⟩⟩
    exact q _ _ (Int.emod_nonneg _ (by omega)) (Int.emod_lt_of_pos _ ht) ⟨a, _, hp2, ha, h1, h2⟩ Exb.at
def sp__law_one (K : PySem.W.Frag) (cs : CS) : Sp := fun vs H Q E => ∃ (p a : Addr) (xs : List V), vs = [.ref p, .ref a] ∧ Src H p ∧ ((H a = some (.lst xs) ∧ a ≠ p) ∨ SqT K H a xs) ∧ 0 < xs.length ∧ xs.length < 1000000 ∧ ∀ v H', v ∈ xs → Src H' p → Exb p H H' → Q v H'
theorem ok__law_one (F : Fun K "_law_one" "_law_one" s__law_one f fd) (T : Txt P w K mg base cs) (c__law_take : Cal P w K mg base CX0 1 "_law_take" ["source", "top"] s__law_take (sp__law_take K cs)) : FnOk P w K mg base CX0 2 f fd ["source", "things"] (sp__law_one K cs) := by
  refine F.ok sc__law_one (fun vs H Q E h => ?_) (fun cdv A outer s H vs Q E hr h => ?_)
  · obtain ⟨p, a, xs, rfl, _⟩ := h
    rfl
  obtain ⟨p, a, xs, rfl, hs, ha, h0, h1, q⟩ := h
  refine ⟨_, (pss_one (ps_ret (pe_ix (ixS K) (pv 1) (pe_cal c__law_take (hr.mono (by decide)) pass0 (pa_cons (pv 0) (pa_cons (pe_callB (lenS K) (by rfl) T.n_len PySem.boot_len (pa_cons (pv 1) pa_nil)) pa_nil))) (fun _ _ => rfl)))), ?_⟩
  have sa : SqL K H a xs ∨ SqT K H a xs := ha.imp (fun h => SqL.of h.1) id
  have kp : ∀ H', Exb p H H' → SqL K H' a xs ∨ SqT K H' a xs := fun H' e => ha.imp (fun h => SqL.of (e.lst h.2 h.1)) (fun h => e.tup hs h)
  refine ⟨.ref a, rfl, .ref p, rfl, .ref a, rfl, a, xs, rfl, sa, p, xs.length, rfl, hs, by omega, by omega, fun r H' r0 r1 s' e => ?_⟩
  obtain ⟨j, rfl⟩ : ∃ j : Nat, r = (j : Int) := ⟨r.toNat, by omega⟩
  have hj : j < xs.length := by omega
  rcases kp _ e with hx | hx
  · exact .inl ⟨a, xs, j, xs[j], rfl, rfl, hx, atI_nat (List.getElem?_eq_getElem hj), q _ _ (List.getElem_mem hj) s' e⟩
  · exact .inr ⟨a, xs, j, xs[j], rfl, rfl, hx, atI_nat (List.getElem?_eq_getElem hj), q _ _ (List.getElem_mem hj) s' e⟩
theorem one_int {K : PySem.W.Frag} {cs : CS} {H : Hp} {p l : Addr} {ns : List Int} {Q : VK} (hs : Src H p) (nl : H l = none) (h0 : 0 < ns.length) (h1 : ns.length < 1000000) (q : ∀ n H', n ∈ ns → Src H' p → Exb p H H' → Q (.int n) H') : sp__law_one K cs [.ref p, .ref l] (upd H l (.lst (ns.map V.int))) Q E0 := by
  have kl := Same.new (o := .lst (ns.map V.int)) nl
  refine ⟨p, l, ns.map V.int, rfl, kl.src hs, .inl ⟨upd_same, hs.ne nl⟩, by rw [List.length_map]; exact h0, by rw [List.length_map]; exact h1, fun v H' hv s' e' => ?_⟩
  obtain ⟨n, hn, rfl⟩ := List.mem_map.mp hv
  exact q n H' hn s' ((Exb.of kl).trans e')
def sp__law_row (K : PySem.W.Frag) (cs : CS) : Sp := fun vs H Q E => ∃ (p : Addr), vs = [.ref p] ∧ Src H p ∧ ∀ (t : Addr) (ns : List Int) H', SqT K H' t (ns.map V.int) → ns.length ≤ 300 → (∀ c ∈ ns, c.natAbs < 2 ^ 31) → Src H' p → Exb p H H' → Q (.ref t) H'
theorem ok__law_row (F : Fun K "_law_row" "_law_row" s__law_row f fd) (T : Txt P w K mg base cs) (c__law_take : Cal P w K mg base CX0 1 "_law_take" ["source", "top"] s__law_take (sp__law_take K cs)) (c__law_one : Cal P w K mg base CX0 2 "_law_one" ["source", "things"] s__law_one (sp__law_one K cs)) : FnOk P w K mg base CX0 3 f fd ["source"] (sp__law_row K cs) := by
  refine F.ok sc__law_row (fun vs H Q E h => ?_) (fun cdv A outer s H vs Q E hr h => ?_)
  · obtain ⟨p, rfl, _⟩ := h
    rfl
  obtain ⟨p, rfl, hs, q⟩ := h
  have e31 : (2 : Nat) ^ 31 = 2147483648 := by decide
  have e9 : (10 : Int) ^ (9 : Int).toNat = 1000000000 := by decide
  refine ⟨_, (pss_cons (ps_setLc (i := 1) (own := [("k", 4)]) rfl sc__law_row.nd rfl rfl (sw_true rfl rfl rfl (by decide +kernel)) (pi_range1 (by rfl) T.n_range (pa_cons (pe_cal c__law_one (hr.mono (by decide)) pass0 (pa_cons (pv 0) (pa_cons (pe_lst (pa_cons pe_int (pa_cons pe_int (pa_cons pe_int (pa_cons pe_int (pa_cons pe_int pa_nil)))))) pa_nil))) pa_nil)) (blkOk_by (own := [("k", 4)]) (N := ["source", "row", "turn", "way", "k"]) (sc := defScope s__law_row) (by decide +kernel)) (fun _ _ _ _ _ => (pg_name (i := 4) sc__law_row.nd rfl (Or.inl rfl))) (fun _ _ _ _ _ => pts_nil) (fun _ _ _ _ _ => (pe_cal c__law_take (hr.mono (by decide)) pass0 (pa_cons (pv 0) (pa_cons pe_int pa_nil)))))
      (pss_cons (ps_for PassesOwn.never rfl (pi_range1 (by rfl) T.n_range (pa_cons (pe_cal c__law_one (hr.mono (by decide)) pass0 (pa_cons (pv 0) (pa_cons (pe_lst (pa_cons pe_int (pa_cons pe_int (pa_cons pe_int (pa_cons pe_int (pa_cons pe_int pa_nil)))))) pa_nil))) pa_nil)) (pg_name (i := 2) sc__law_row.nd rfl (Or.inl rfl)) (pss_cons (ps_set (i := 3) sc__law_row.nd rfl (Or.inl rfl) (pe_cal c__law_take (hr.mono (by decide)) pass0 (pa_cons (pv 0) (pa_cons pe_int pa_nil))))
      (pss_one (ps_if (pt_cmpR op_eq (pv 3) pe_int (nomark _)) (pss_one (ps_set (i := 1) sc__law_row.nd rfl (Or.inl rfl) (pe_lst pa_nil))) (pss_one (ps_if (pt_cmpR op_eq (pv 3) pe_int (nomark _)) (pss_one (ps_set (i := 1) sc__law_row.nd rfl (Or.inl rfl) (pe_op op_cat (pv 1) (pe_op op_rep (pe_lst (pa_cons (pe_cal c__law_take (hr.mono (by decide)) pass0 (pa_cons (pv 0) (pa_cons pe_int pa_nil))) pa_nil)) (pe_op op_sub (pe_cal c__law_one (hr.mono (by decide)) pass0 (pa_cons (pv 0) (pa_cons (pe_lst (pa_cons pe_int (pa_cons pe_int (pa_cons (pe_op op_add pe_int (pe_cal c__law_take (hr.mono (by decide)) pass0 (pa_cons (pv 0) (pa_cons pe_int pa_nil)))) pa_nil)))) pa_nil))) (pe_callB (lenS K) (by rfl) T.n_len PySem.boot_len (pa_cons (pv 1) pa_nil))))))) (pss_one (ps_if (pt_cmpR (neD K hr.units) (pv 1) (pe_lst pa_nil) (nomark _)) (pss_one (ps_asg (pe_cal c__law_one (hr.mono (by decide)) pass0 (pa_cons (pv 0) (pa_cons (pe_lst (pa_cons (pe_un un_neg pe_int) (pa_cons pe_int (pa_cons (pe_op op_add pe_int (pe_cal c__law_take (hr.mono (by decide)) pass0 (pa_cons (pv 0) (pa_cons (pe_op op_pow pe_int pe_int) pa_nil)))) (pa_cons (pe_op op_sub (pe_un un_neg pe_int) (pe_cal c__law_take (hr.mono (by decide)) pass0 (pa_cons (pv 0) (pa_cons (pe_op op_pow pe_int pe_int) pa_nil)))) (pa_cons pe_int (pa_cons pe_int pa_nil))))))) pa_nil))) (pg_sub (pv 1) (pe_cal c__law_take (hr.mono (by decide)) pass0 (pa_cons (pv 0) (pa_cons (pe_callB (lenS K) (by rfl) T.n_len PySem.boot_len (pa_cons (pv 1) pa_nil)) pa_nil))) set_list))) pss_nil))))))))
      (pss_one (ps_ret (pe_callTy (tupOf K) (by rfl) T.n_tuple (by decide +kernel) (pa_cons (pv 1) pa_nil)))))), ?_⟩
  refine ⟨_, rfl, by show 5 ≤ sizeLine; decide, fun l nl => one_int (cs := cs) (ns := [1, 2, 3, 6, 9]) hs nl (by decide) (by decide) fun n H1 hn s1 e1 => ?_⟩
  have hn9 : 0 ≤ n ∧ n ≤ 9 := by
    simp only [List.mem_cons, List.not_mem_nil, or_false] at hn
    omega
  refine ⟨n, rfl, by omega, by omega, fun D nD => lc_draw 8 p nD s1 (by omega) (fun _ => wipe1) (fun i hi H' Q s k => ⟨_, rfl, p, 8, rfl, s, by decide, by decide, k⟩) (fun ns H2 z hc nDp hl s2 e2 => ?_)⟩
  have nDH : H D = none := e1.fresh (s1.ne nD) nD
  have e02 := e1.trans e2
  dsimp only
  refine seqK (fun σ' H' => ∃ (D : Addr) (ns : List Int) (y2 y3 y4 : Option V), σ' = [some (.ref p), some (.ref D), y2, y3, y4] ∧ H D = none ∧ H' D = some (.lst (ns.map V.int)) ∧ ns.length ≤ 300 ∧ (∀ c ∈ ns, c.natAbs < 2 ^ 31) ∧ Src H' p ∧ Exb p H H') (fun N hN => ?_) ?_
  · refine ⟨_, rfl, by show 5 ≤ sizeLine; decide, fun l nl => one_int (cs := cs) (ns := [0, 0, 1, 1, 2]) s2 nl (by decide) (by decide) fun m H3 hm s3 e3 => ?_⟩
    have hm9 : 0 ≤ m ∧ m ≤ 2 := by
      simp only [List.mem_cons, List.not_mem_nil, or_false] at hm
      omega
    refine ⟨m, rfl, by omega, by omega, ?_⟩
    refine for_range (fun k σ' H' => ∃ (D : Addr) (ns : List Int) (y2 y3 y4 : Option V), σ' = [some (.ref p), some (.ref D), y2, y3, y4] ∧ H D = none ∧ H' D = some (.lst (ns.map V.int)) ∧ ns.length ≤ 300 ∧ (∀ c ∈ ns, c.natAbs < 2 ^ 31) ∧ Src H' p ∧ Exb p H H') ⟨D, ns, _, _, _, rfl, nDH, e3.lst nDp hl, by omega, fun c hcm => by have := hc c hcm; omega, s3, e02.trans e3⟩ ?_ ?_
    · clear hl hc nDp nDH z e02 e1 e2 s1 s2 s3 e3 nD
      rintro k σ' H4 hk ⟨D, ns, y2, y3, y4, rfl, nD, hl, hnl, hc, s4, e4⟩
      have nDp : D ≠ p := hs.ne nD
      refine gN ?_
      dsimp only
      refine ⟨_, rfl, p, 6, rfl, s4, by decide, by decide, fun way H5 w0 w6 s5 e5 => ?_⟩
      have e05 := e4.trans e5
      have hl5 := e5.lst nDp hl
      dsimp only
      refine tdIf (.test (.eq (.var rfl) .c)) (fun c1 => ?_) (fun c1 => ?_)
      · refine ⟨Nat.zero_le _, fun D2 nD2 => ⟨D2, [], _, _, _, rfl, e05.fresh (s5.ne nD2) nD2, upd_same, Nat.zero_le _, fun c hc => (by cases hc), (Same.new nD2).src s5, e05.trans (Exb.of (Same.new nD2))⟩⟩
      refine tdIf (.test (.eq (.var rfl) .c)) (fun c2 => ?_) (fun c2 => ?_)
      · refine ⟨_, rfl, _, rfl, p, 8, rfl, s5, by decide, by decide, fun a1 H6 a0 a8 s6 e6 => ⟨by show 1 ≤ sizeLine; decide, fun L1 nL1 => ?_⟩⟩
        have k6 := Same.new (o := .lst [.int a1]) nL1
        have nL1p := s6.ne nL1
        have s7 := k6.src s6
        have hL1 : (upd H6 L1 (.lst [.int a1])) L1 = some (.lst [.int a1]) := upd_same
        refine ⟨_, rfl, _, rfl, p, 50, rfl, s7, by decide, by decide, fun b1 H8 b0 b50 s8 e8 => ⟨_, _, rfl, rfl, by show 3 ≤ sizeLine; decide, fun l nl => one_int (cs := cs) (ns := [200, 201, 202 + b1]) s8 nl (by show 0 < 3; decide) (by show 3 < 1000000; decide) fun m2 H9 hm2 s9 e9' => ?_⟩⟩
        have hm3 : 200 ≤ m2 ∧ m2 ≤ 252 := by
          simp only [List.mem_cons, List.not_mem_nil, or_false] at hm2
          omega
        have e79 : Exb p H6 H9 := ((Exb.of k6).trans e8).trans e9'
        have hl9 := e79.lst nDp (e6.lst nDp hl5)
        have hL19 := (e8.trans e9').lst nL1p hL1
        refine ⟨_, rfl, D, _, rfl, .inl (SqL.of hl9), _, _, rfl, rfl, ?_⟩
        rw [List.length_map]
        refine ⟨L1, _, _, rfl, rfl, hL19, by omega, by omega, small (by show 1 * _ ≤ _; omega), fun L2 nL2 => ?_⟩
        have k9 := Same.new (o := .lst (List.replicate (m2 - (ns.length : Int)).toNat [V.int a1]).flatten) nL2
        have hrep : (upd H9 L2 (.lst (List.replicate (m2 - (ns.length : Int)).toNat [V.int a1]).flatten)) L2 = some (.lst ((List.replicate (m2 - (ns.length : Int)).toNat a1).map V.int)) := by rw [upd_same, reps_int]
        refine ⟨D, L2, _, _, rfl, rfl, k9 _ _ hl9, hrep, small (by rw [List.length_map, List.length_map, List.length_replicate]; omega), fun D2 nD2 => ?_⟩
        have eall := ((e05.trans e6).trans e79).trans (Exb.of k9)
        have sall := k9.src s9
        refine ⟨D2, ns ++ List.replicate (m2 - (ns.length : Int)).toNat a1, _, _, _, rfl, eall.fresh (sall.ne nD2) nD2, by rw [upd_same, List.map_append], by rw [List.length_append, List.length_replicate]; omega, fun c hcm => ?_, (Same.new nD2).src sall, eall.trans (Exb.of (Same.new nD2))⟩
        rcases List.mem_append.mp hcm with hcm | hcm
        · exact hc c hcm
        · rw [(List.mem_replicate.mp hcm).2]
          omega
      refine ⟨_, rfl, Nat.zero_le _, fun u nu => ?_⟩
      have ku := Same.new (o := .lst []) nu
      refine neL (ns := ns) (ms := []) (SqL.of (ku _ _ hl5)) (SqL.of upd_same) ⟨_, rfl, ?_⟩
      have s6 := ku.src s5
      have e06 := e05.trans (Exb.of ku)
      have hl6 := ku _ _ hl5
      generalize upd H5 u (.lst []) = H6 at *
      by_cases c3 : ns = []
      · exact itF (by rw [decide_eq_true c3]; rfl) ⟨D, ns, _, _, _, rfl, nD, hl6, hnl, hc, s6, e06⟩
      · refine itT (by rw [decide_eq_false c3]; rfl) ?_
        have hnp : 0 < ns.length := List.length_pos_iff.mpr c3
        refine ⟨_, rfl, 1, rfl, _, rfl, _, _, rfl, rfl, ⟨by decide, by decide, by decide⟩, p, _, rfl, s6, by rw [e9]; decide, by rw [e9]; decide, fun a1 H7 a0 a9 s7 e7 => ⟨_, _, rfl, rfl, 1, rfl, _, rfl, _, _, rfl, rfl, ⟨by decide, by decide, by decide⟩, p, _, rfl, s7, by rw [e9]; decide, by rw [e9]; decide, fun b1 H8 b0 b9 s8 e8 => ⟨_, _, rfl, rfl, by show 6 ≤ sizeLine; decide, fun l nl => one_int (cs := cs) (ns := [-1, 8, 9 + a1, -1 - b1, 7, 0]) s8 nl (by show 0 < 6; decide) (by show 6 < 1000000; decide) fun m2 H9 hm2 s9 e9' => ?_⟩⟩⟩
        rw [e9] at a9 b9
        have hm3 : m2.natAbs < 2 ^ 31 := by
          simp only [List.mem_cons, List.not_mem_nil, or_false] at hm2
          omega
        have e69 := (e7.trans e8).trans e9'
        have hl9 := e69.lst nDp hl6
        refine ⟨_, rfl, _, rfl, _, rfl, D, _, rfl, .inl (SqL.of hl9), p, _, rfl, s9, by rw [List.length_map]; omega, by rw [List.length_map]; omega, fun r Ha r0 r1 sa ea => ?_⟩
        rw [List.length_map] at r1
        have hla := ea.lst nDp hl9
        obtain ⟨j, rfl⟩ : ∃ j : Nat, r = (j : Int) := ⟨r.toNat, by omega⟩
        refine ⟨D, _, _, j, rfl, rfl, hla, by rw [List.length_map]; unfold ixN; rw [if_pos (by omega), if_pos (by omega), Int.toNat_natCast], ?_⟩
        refine ⟨D, ns.set j m2, _, _, _, rfl, nD, by rw [upd_same, List.map_set], by rw [List.length_set]; exact hnl, fun c hcm => ?_, sa.put nDp, ((e06.trans e69).trans ea).mut nD⟩
        rcases List.mem_or_eq_of_mem_set hcm with hcm | rfl
        · exact hc c hcm
        · exact hm3
    · rintro σ' H4 h
      exact hN _ _ h
  rintro σ' H4 ⟨D, ns, y2, y3, y4, rfl, nD, hl, hnl, hc, s4, e4⟩
  refine ⟨_, rfl, D, _, rfl, .inl ⟨SqL.of hl, fun t nt => ?_⟩⟩
  exact q t ns _ (SqT.of upd_same) hnl hc ((Same.new nt).src s4) (e4.trans (Exb.of (Same.new nt)))
def rfWord (w : Bool) : Str := if w then "size" else "coat"
def rfV : Option (Bool × Int) → List V
  | none => []
  | some (w, x) => [.str (rfWord w), .int x]
def sp__law_fault (K : PySem.W.Frag) (cs : CS) : Sp := fun vs H Q E => ∃ (a : Addr) (ns : List Int), vs = [.ref a] ∧ SqT K H a (ns.map V.int) ∧ ns.length ≤ 900 ∧ ∀ y H', Same H H' → SqT K H' y (rfV (rowFault ns)) → Q (.ref y) H'
theorem ok__law_fault (F : Fun K "_law_fault" "_law_fault" s__law_fault f fd) (T : Txt P w K mg base cs)  : FnOk P w K mg base CX0 1 f fd ["row"] (sp__law_fault K cs) := by
  refine F.ok sc__law_fault (fun vs H Q E h => ?_) (fun cdv A outer s H vs Q E hr h => ?_)
  · obtain ⟨a, ns, rfl, _⟩ := h
    rfl
  obtain ⟨a, ns, rfl, hS, hL, q⟩ := h
  refine ⟨_, (pss_cons (ps_if (pt_not (pt_chain op_le op_le pe_int (pe_callB (lenS K) (by rfl) T.n_len PySem.boot_len (pa_cons (pv 0) pa_nil)) pe_int)) (pss_one (ps_ret (pe_tup (pa_cons pe_str (pa_cons (pe_callB (lenS K) (by rfl) T.n_len PySem.boot_len (pa_cons (pv 0) pa_nil)) pa_nil))))) pss_nil)
      (pss_cons (ps_for PassesOwn.never rfl (pi_enumT (by rfl) T.n_enumerate (pa_cons (pv 0) pa_nil)) (pg_tup rfl (pgs_cons (pg_name (i := 1) sc__law_fault.nd rfl (Or.inl rfl)) (pgs_cons (pg_name (i := 2) sc__law_fault.nd rfl (Or.inl rfl)) pgs_nil))) (pss_one (ps_if (pt_not (pt_chain op_le op_le pe_int (pv 2) pe_int)) (pss_one (ps_ret (pe_tup (pa_cons pe_str (pa_cons (pv 1) pa_nil))))) pss_nil)))
      (pss_one (ps_ret (pe_tup pa_nil))))), ?_⟩
  have el : ((ns.map V.int).length : Int) = (ns.length : Nat) := by rw [List.length_map]
  refine seqK (fun σ' H' => (1 ≤ ns.length ∧ ns.length ≤ 200) ∧ H = H' ∧ σ' = [some (.ref a), none, none]) (fun N hN => ?_) ?_
  · have bad : ¬ (1 ≤ ns.length ∧ ns.length ≤ 200) → tRet (tTup (tCons (tC (V.str "size")) (tCons (tCB (Evl.rLenS K) (tCons (tVar 0) tNil)) tNil))) { nx := N, rt := Q } [some (.ref a), none, none] H := fun b =>
      ⟨.ref a, rfl, a, _, rfl, .inr hS, by show 2 ≤ sizeLine; decide, fun y ny => q y _ (Same.new ny) (by rw [fault_size b, el]; exact SqT.of upd_same)⟩
    by_cases c1 : 1 ≤ ns.length
    · refine ⟨.ref a, rfl, a, _, rfl, .inr hS, 1, _, rfl, rfl, _, rfl, itT (decide_eq_true (by rw [List.length_map]; omega)) ⟨_, 200, rfl, rfl, _, rfl, ?_⟩⟩
      by_cases c2 : ns.length ≤ 200
      · rw [decide_eq_true (by rw [List.length_map]; omega)]
        exact iteF (hN _ _ ⟨⟨c1, c2⟩, rfl, rfl⟩)
      · rw [decide_eq_false (by rw [List.length_map]; omega)]
        exact iteT (bad fun z => c2 z.2)
    · exact ⟨.ref a, rfl, a, _, rfl, .inr hS, 1, _, rfl, rfl, _, rfl, itF (decide_eq_false (by rw [List.length_map]; omega)) ⟨_, rfl, iteT (bad fun z => c1 z.1)⟩⟩
  rintro σ' H' ⟨c1, rfl, rfl⟩
  refine seqK (fun σ' H' => rowFault ns = none ∧ Same H H') (fun N hN => ?_) ?_
  · refine ⟨.ref a, rfl, a, _, rfl, hS, for_it walk_enumT (fun i σ H' => (∃ y1 y2, σ = [some (.ref a), y1, y2]) ∧ Same H H' ∧ ∀ j, j < i → ∃ c, ns[j]? = some c ∧ 0 ≤ c ∧ c ≤ 7) ⟨⟨_, _, rfl⟩, Same.refl _, fun j hj => absurd hj (by omega)⟩ (fun i σ H' _ h => Same.tup h.2.1 hS) ?_ ?_⟩
    · rintro i x σ H1 H2 hi ⟨⟨y1, y2, rfl⟩, sm, ok⟩ ⟨T', x1, x2, rfl, nT, rfl, f1, f2⟩
      obtain ⟨hi2, rfl⟩ := num_map i ns x2 f2
      cases Option.some.inj f1
      refine ⟨T', _, rfl, .inl (.inl upd_same), rfl, _, _, rfl, _, _, rfl, rfl, ?_⟩
      have s2 := sm.trans (Same.new (o := .tup [.int (i : Nat), .int ns[i]]) nT)
      have bad : ¬ (0 ≤ ns[i] ∧ ns[i] ≤ 7) → rowFault ns = some (false, ((i : Nat) : Int)) := fun z => fault_coat c1 ok ⟨_, List.getElem?_eq_getElem hi2, z⟩
      have fin : ¬ (0 ≤ ns[i] ∧ ns[i] ≤ 7) → ∀ (H3 : Hp) (D : Ends), Same H H3 → D.rt = Q → tRet (tTup (tCons (tC (V.str "coat")) (tCons (tVar 1) tNil))) D [some (.ref a), some (.int (i : Nat)), some (.int ns[i])] H3 := fun b H3 D s3 hD =>
        ⟨_, rfl, by show 2 ≤ sizeLine; decide, fun y ny => by
          rw [hD]
          exact q y _ (s3.trans (Same.new ny)) (by rw [bad b]; exact SqT.of upd_same)⟩
      by_cases b0 : 0 ≤ ns[i]
      · refine ⟨_, rfl, 0, _, rfl, rfl, _, rfl, itT (decide_eq_true b0) ⟨_, 7, rfl, rfl, _, rfl, ?_⟩⟩
        by_cases b7 : ns[i] ≤ 7
        · rw [decide_eq_true b7]
          refine iteF ⟨⟨_, _, rfl⟩, s2, fun j hj => ?_⟩
          by_cases e : j < i
          · exact ok j e
          · obtain rfl : j = i := by omega
            exact ⟨_, List.getElem?_eq_getElem hi2, b0, b7⟩
        · rw [decide_eq_false b7]
          exact iteT (fin (fun z => b7 z.2) _ _ s2 rfl)
      · exact ⟨_, rfl, 0, _, rfl, rfl, _, rfl, itF (decide_eq_false b0) ⟨_, rfl, iteT (fin (fun z => b0 z.1) _ _ s2 rfl)⟩⟩
    · rintro σ H' ⟨_, sm, ok⟩
      refine hN _ _ ⟨row_fault ⟨c1.1, c1.2, fun c hc => ?_⟩, sm⟩
      obtain ⟨i, hi, rfl⟩ := List.getElem_of_mem hc
      obtain ⟨c', hc', h0⟩ := ok i (by rw [List.length_map]; exact hi)
      rw [List.getElem?_eq_getElem hi] at hc'
      cases Option.some.inj hc'
      exact h0
  rintro σ' H1 ⟨hf, s1⟩
  exact ⟨Nat.zero_le _, fun y ny => q y _ (s1.trans (Same.new ny)) (by rw [hf]; exact SqT.of upd_same)⟩
inductive RW3 where
  | size | coat | join
def RW3.cls (cs : CS) : RW3 → Addr
  | .size => cs.BadSize
  | .coat => cs.BadCoat
  | .join => cs.BadJoin
def RW3.wd : RW3 → Str
  | .size => "size"
  | .coat => "coat"
  | .join => "join"
def RW3.ix : RW3 → Nat
  | .size => 0
  | .coat => 1
  | .join => 2
def RW3.is : RW3 → RW3 → Bool
  | .size, .size => true
  | .coat, .coat => true
  | .join, .join => true
  | _, _ => false
def kinds3 (a : RW3) : List V := [.bl (a.is .size), .bl (a.is .coat), .bl (a.is .join)]
def words3 : List V := [.str "size", .str "coat", .str "join"]
theorem xc_w {P : Program} {w : World} {K : PySem.W.Frag} {mg : Str → Option Value} {base : Heap} {cs : CS} (T : Txt P w K mg base cs) (a : RW3) : XC K (a.cls cs) := by
  cases a <;> unfold RW3.cls
  · exact T.xc_BadSize
  · exact T.xc_BadCoat
  · exact T.xc_BadJoin
theorem ex_w {P : Program} {w : World} {K : PySem.W.Frag} {mg : Str → Option Value} {base : Heap} {cs : CS} (T : Txt P w K mg base cs) (a : RW3) : PySem.W.exmOne K (.ref (a.cls cs)) (.ref cs.Refused) = some true := by
  cases a <;> unfold RW3.cls
  · exact T.ex_BadSize_Refused
  · exact T.ex_BadCoat_Refused
  · exact T.ex_BadJoin_Refused
theorem kv_w {P : Program} {w : World} {K : PySem.W.Frag} {mg : Str → Option Value} {base : Heap} {cs : CS} (T : Txt P w K mg base cs) (a : RW3) : PySem.W.kitOne K (.ref (a.cls cs)) (.type "ValueError") = some true := by
  cases a <;> unfold RW3.cls
  · exact T.ki_BadSize_tValueError
  · exact T.ki_BadCoat_tValueError
  · exact T.ki_BadJoin_tValueError
theorem ki_w {P : Program} {w : World} {K : PySem.W.Frag} {mg : Str → Option Value} {base : Heap} {cs : CS} (T : Txt P w K mg base cs) (a b : RW3) : PySem.W.kitOne K (.ref (a.cls cs)) (.ref (b.cls cs)) = some (a.is b) := by
  cases a <;> cases b <;> unfold RW3.cls
  · exact T.ki_BadSize_BadSize
  · exact T.ki_BadSize_BadCoat
  · exact T.ki_BadSize_BadJoin
  · exact T.ki_BadCoat_BadSize
  · exact T.ki_BadCoat_BadCoat
  · exact T.ki_BadCoat_BadJoin
  · exact T.ki_BadJoin_BadSize
  · exact T.ki_BadJoin_BadCoat
  · exact T.ki_BadJoin_BadJoin
def TT__law_told (K : PySem.W.Frag) (cs : CS) : (XK → Hp → VK → Prop) → Hp → VK → Prop := fun tl H Q => ∃ (Gd : V → Hp → Prop) (Bd : Value → Option Addr → Hp → Prop), (∀ (E : XK) (Q0 : VK), (∀ v H', Gd v H' → Q0 v H') → (∀ c d H', Bd c d H' → E c d H') → tl E H Q0) ∧
  (∀ v H', Gd v H' → ∀ y H2, Same H' H2 → SqT K H2 y [] → Q (.ref y) H2) ∧
  (∀ c d H', Bd c d H' → ∃ (a : RW3) (x : V) (dd : Addr), c = .ref (a.cls cs) ∧ d = some dd ∧ H' dd = some (.xd [("what", x)]) ∧ ∀ y H2, Same H' H2 → SqT K H2 y [.str a.wd, x] → Q (.ref y) H2)
theorem giv__law_told (T : Txt P w K mg base cs)  (A : Around) (stk : List Env) (g : Addr) (cdg : Value) (q : Str) : GivesP P w K mg base A stk ["deed", "e", "kinds"] "_law_told" (defScope s__law_told) g cdg (defBody s__law_told) "deed" q 1 (TT__law_told K cs) := by
  intro lf lc s H Q tl hr act hc h
  obtain ⟨Gd, Bd, hl, hg, hb⟩ := h
  refine ⟨_, (pss_cons (ps_try_as (i := 1) (tb := fun W => (tDrop (tAct W lf lc q tl))) (ts := fun a cls d => (tSeq (tAsg (tLst (tCons (tCB (rIsX K a cls d) (tCons (tVar 1) (tCons (tC (V.ref cs.BadSize)) tNil))) (tCons (tCB (rIsX K a cls d) (tCons (tVar 1) (tCons (tC (V.ref cs.BadCoat)) tNil))) (tCons (tCB (rIsX K a cls d) (tCons (tVar 1) (tCons (tC (V.ref cs.BadJoin)) tNil))) tNil)))) (gName 2)) (tSeq (tIfS (tOr (tTest (tOp rNe (tBM K "list" (rCountV K) (tVar 2) (tCons (tC (V.bl true)) tNil)) (tC (V.int 1)))) (tNot (tB (tCB (rIsX K a cls d) (tCons (tVar 1) (tCons (tC (V.ty "ValueError")) tNil)))))) (tRet (tTup (tCons (tC (V.str "other")) (tCons (tC (V.int 0)) tNil)))) tNext) (tRet (tTup (tCons (tOp (rIxL K) (tLst (tCons (tC (V.str "size")) (tCons (tC (V.str "coat")) (tCons (tC (V.str "join")) tNil)))) (tBM K "list" (rIndex K) (tVar 2) (tCons (tC (V.bl true)) tNil))) (tCons (tWhat K a cls d (tVar 1)) tNil))))))) (Wout := fun _ _ _ _ => False) rfl rfl sc__law_told.nd rfl rfl ⟨rfl, by decide, Or.inl T.gm_Refused⟩ takes0 (fun W pn xe tk _ => (pss_one (ps_expr (show PE _ _ (tAct W lf lc q tl) from act W pn xe _ _ tk)))) (fun a oe cls d pn hz hf => (pss_cons (ps_set (i := 2) sc__law_told.nd rfl (Or.inl rfl) (pe_lst (pa_cons (pe_callB (isX K hz hf) (by rfl) T.n_isinstance (by decide +kernel) (pa_cons (pv 1) (pa_cons (pe_glob rfl T.gm_BadSize rfl) pa_nil))) (pa_cons (pe_callB (isX K hz hf) (by rfl) T.n_isinstance (by decide +kernel) (pa_cons (pv 1) (pa_cons (pe_glob rfl T.gm_BadCoat rfl) pa_nil))) (pa_cons (pe_callB (isX K hz hf) (by rfl) T.n_isinstance (by decide +kernel) (pa_cons (pv 1) (pa_cons (pe_glob rfl T.gm_BadJoin rfl) pa_nil))) pa_nil)))))
      (pss_cons (ps_if (PW.pt (pw_or (pt_cmpR op_ne (pe_bmK K PySem.F.plainAttrs_list PySem.F.slot_list_count PySem.F.type_list_count (countL K) (pv 2) (pa_cons pe_bl pa_nil)) pe_int (nomark _)) (pw_or1 (pt_not (pt_val (pe_callB (isX K hz hf) (by rfl) T.n_isinstance (by decide +kernel) (pa_cons (pv 1) (pa_cons (pe_ty (T := "ValueError") (by rfl) T.n_ValueError (by decide +kernel)) pa_nil)))))))) (pss_one (ps_ret (pe_tup (pa_cons pe_str (pa_cons pe_int pa_nil))))) pss_nil)
      (pss_one (ps_ret (pe_tup (pa_cons (pe_ix (ixL K) (pe_lst (pa_cons pe_str (pa_cons pe_str (pa_cons pe_str pa_nil)))) (pe_bmK K PySem.F.plainAttrs_list PySem.F.slot_list_index PySem.F.type_list_index (indexL K) (pv 2) (pa_cons pe_bl pa_nil)) (fun _ _ => rfl)) (pa_cons (whatX K hz hf (pv 1)) pa_nil)))))))))
      (pss_one (ps_ret (pe_tup pa_nil)))), ?_⟩
  refine ⟨rfl, hc, hl _ _ (fun v H' hv => ⟨Nat.zero_le _, fun y ny => hg v H' hv y _ (Same.new ny) (SqT.of upd_same)⟩) (fun c d H' hd => ?_)⟩
  obtain ⟨a, x, dd, rfl, rfl, hx, q⟩ := hb c d H' hd
  refine ⟨true, ex_w T a, fun _ e na => ?_, fun z => Bool.noConfusion z⟩
  refine ⟨_, rfl, a.cls cs, .ref cs.BadSize, .ref cs.BadSize, a.is .size, dd, _, rfl, rfl, xc_w T a, fun u h => h, ki_w T a .size, rfl, hx, ?_⟩
  refine ⟨_, rfl, a.cls cs, .ref cs.BadCoat, .ref cs.BadCoat, a.is .coat, dd, _, rfl, rfl, xc_w T a, fun u h => h, ki_w T a .coat, rfl, hx, ?_⟩
  refine ⟨_, rfl, a.cls cs, .ref cs.BadJoin, .ref cs.BadJoin, a.is .join, dd, _, rfl, rfl, xc_w T a, fun u h => h, ki_w T a .join, rfl, hx, ?_⟩
  refine ⟨by show 3 ≤ sizeLine; decide, fun k3 nk3 => ?_⟩
  have e3 := Same.new (o := .lst (kinds3 a)) nk3
  have hx3 := e3 _ _ hx
  have hk : (upd H' k3 (.lst (kinds3 a))) k3 = some (.lst (kinds3 a)) := upd_same
  change gName 2 (.ref k3) _ (upd H' k3 (.lst (kinds3 a))) _
  generalize upd H' k3 (.lst (kinds3 a)) = H4 at *
  have fl : (kinds3 a).all flatV = true := by cases a <;> rfl
  have hc1 : (kinds3 a).countP (fun z => eqV z (.bl true)) = 1 := by cases a <;> rfl
  have hi1 : (kinds3 a)[a.ix]? = some (.bl true) := by cases a <;> rfl
  have hi2 : ∀ (m : Nat) (z' : V), m < a.ix → (kinds3 a)[m]? = some z' → eqV z' (.bl true) = false := by
    intro m z' hm hz
    cases a <;> simp only [RW3.ix] at hm <;> first
      | omega
      | (match m, hm, hz with
        | 0, hq, hz => cases Option.some.inj hz; first | rfl | exact absurd hq (by decide)
        | 1, hq, hz => cases Option.some.inj hz; first | rfl | exact absurd hq (by decide))
  have hw1 : words3[a.ix]? = some (.str a.wd) := by cases a <;> rfl
  refine ⟨.ref k3, rfl, .inl ⟨rfl, _, SqL.of hk⟩, k3, kinds3 a, .bl true, rfl, rfl, SqL.of hk, rfl, fl, ?_⟩
  rw [hc1]
  refine ⟨rfl, _, rfl, itF (by decide) ?_⟩
  refine ⟨_, rfl, a.cls cs, .ty "ValueError", .type "ValueError", true, dd, _, rfl, rfl, xc_w T a, fun u h => h, kv_w T a, rfl, hx3, _, rfl, iteF ?_⟩
  refine ⟨by show 3 ≤ sizeLine; decide, fun k4 nk4 => ?_⟩
  have e4 := Same.new (o := .lst words3) nk4
  have hk4 := e4 _ _ hk
  have hx4 := e4 _ _ hx3
  refine ⟨.ref k3, rfl, .inl ⟨rfl, _, SqL.of hk4⟩, k3, kinds3 a, .bl true, a.ix, .bl true, rfl, rfl, SqL.of hk4, rfl, fl, hi1, rfl, hi2, k4, words3, _, .str a.wd, rfl, rfl, SqL.of upd_same, atN hw1 rfl, ?_⟩
  refine ⟨_, rfl, rfl, _, dd, _, rfl, xc_w T a, rfl, hx4, by show 2 ≤ sizeLine; decide, fun y ny => q y _ ((e3.trans e4).trans (Same.new ny)) (SqT.of upd_same)⟩
/-- what _law_due tells -/
def dueV (pr : Addr) : Option ((Bool × Int) ⊕ (Int × Int)) → List V
  | none => []
  | some (.inl f) => rfV (some f)
  | some (.inr _) => [.str "join", .ref pr]
def sp__law_due (K : PySem.W.Frag) (cs : CS) : Sp := fun vs H Q E => ∃ (a b pr : Addr) (ns ms : List Int) (e : Int × Int), vs = [.ref a, .ref b, .ref pr] ∧ SqT K H a (ns.map V.int) ∧ SqT K H b (ms.map V.int) ∧ ns.length ≤ 900 ∧ ms.length ≤ 900 ∧ SqT K H pr [.int e.1, .int e.2] ∧ ∀ y H', Same H H' → SqT K H' y (dueV pr (dueR ns ms e)) → Q (.ref y) H'
theorem ok__law_due (F : Fun K "_law_due" "_law_due" s__law_due f fd) (T : Txt P w K mg base cs) (c__law_fault : Cal P w K mg base CX0 1 "_law_fault" ["row"] s__law_fault (sp__law_fault K cs)) : FnOk P w K mg base CX0 2 f fd ["one", "two", "ends"] (sp__law_due K cs) := by
  refine F.ok sc__law_due (fun vs H Q E h => ?_) (fun cdv A outer s H vs Q E hr h => ?_)
  · obtain ⟨a, b, pr, ns, ms, e, rfl, _⟩ := h
    rfl
  obtain ⟨a, b, pr, ns, ms, e, rfl, ha, hb, la, lb, hp, q⟩ := h
  refine ⟨_, (pss_cons (ps_for PassesOwn.never rfl (piL K (pe_lst (pa_cons (pv 0) (pa_cons (pv 1) pa_nil)))) (pg_name (i := 3) sc__law_due.nd rfl (Or.inl rfl)) (pss_one (ps_if (pt_cmpR (neD K hr.units) (pe_cal c__law_fault (hr.mono (by decide)) pass0 (pa_cons (pv 3) pa_nil)) (pe_tup pa_nil) (nomark _)) (pss_one (ps_ret (pe_cal c__law_fault (hr.mono (by decide)) pass0 (pa_cons (pv 3) pa_nil)))) pss_nil)))
      (pss_one (ps_ret (pe_ifExp (pt_cmpR op_ne (pe_ix (ixT K) (pv 2) pe_int (fun _ _ => rfl)) (pe_ix (ixT K) (pv 2) pe_int (fun _ _ => rfl)) (nomark _)) (pe_tup (pa_cons pe_str (pa_cons (pv 2) pa_nil))) (pe_tup pa_nil))))), ?_⟩
  refine seqK (fun σ' H' => rowFault ns = none ∧ rowFault ms = none ∧ Same H H' ∧ ∃ y, σ' = [some (.ref a), some (.ref b), some (.ref pr), y]) (fun N hN => ?_) ?_
  · refine ⟨_, rfl, _, rfl, by show 2 ≤ sizeLine; decide, fun l nl => ?_⟩
    have kl := Same.new (o := .lst [.ref a, .ref b]) nl
    have hl0 : upd H l (.lst [.ref a, .ref b]) l = some (.lst [.ref a, .ref b]) := upd_same
    generalize upd H l (.lst [.ref a, .ref b]) = H0 at *
    refine ⟨l, rfl, ⟨_, SqL.of hl0⟩, ?_⟩
    refine for_list (xs := [V.ref a, .ref b]) (fun k σ H' => (∃ y, σ = [some (.ref a), some (.ref b), some (.ref pr), y]) ∧ Same H0 H' ∧ (0 < k → rowFault ns = none) ∧ (1 < k → rowFault ms = none)) ⟨⟨_, rfl⟩, Same.refl _, fun z => absurd z (by omega), fun z => absurd z (by omega)⟩ (fun _ _ _ _ h => SqL.of (h.2.1 _ _ hl0)) ?_ ?_
    · rintro j x σ H1 hj ⟨⟨y, rfl⟩, s1, q1, q2⟩
      obtain ⟨c, ks, rfl, hk, lk, hcase⟩ : ∃ (c : Addr) (ks : List Int), x = .ref c ∧ SqT K H c (ks.map V.int) ∧ ks.length ≤ 900 ∧ ((j = 0 ∧ ks = ns) ∨ (j = 1 ∧ ks = ms)) := by
        match j, hj with
        | 0, hj => exact ⟨a, ns, (Option.some.inj hj).symm, ha, la, .inl ⟨rfl, rfl⟩⟩
        | 1, hj => exact ⟨b, ms, (Option.some.inj hj).symm, hb, lb, .inr ⟨rfl, rfl⟩⟩
        | n + 2, hj => cases hj
      refine gN ?_
      dsimp only
      have s01 := kl.trans s1
      refine ⟨_, rfl, c, ks, rfl, s01.tup hk, lk, fun y1 H2 m2 h1 => ?_⟩
      refine ⟨Nat.zero_le _, fun u nu => ?_⟩
      have ku := Same.new (o := .tup []) nu
      have m3 := m2.trans ku
      cases hf : rowFault ks with
      | none =>
        rw [hf] at h1
        refine ⟨_, _, dpT (ns := []) (ku.tup h1), dpT (ns := []) (SqT.of upd_same), shT [], shT [], _, rfl, iteF ⟨⟨_, rfl⟩, s1.trans m3, fun _ => ?_, fun _ => ?_⟩⟩
        · rcases hcase with ⟨_, rfl⟩ | ⟨rfl, rfl⟩
          · exact hf
          · exact q1 (by omega)
        · rcases hcase with ⟨rfl, rfl⟩ | ⟨rfl, rfl⟩
          · rename_i z
            omega
          · exact hf
      | some f =>
        obtain ⟨w, x⟩ := f
        rw [hf] at h1
        have shf : SeqAt.shaped (.tuple [.str (rfWord w), .int x]) = true := by
          unfold SeqAt.shaped
          rw [PyData.canLay0, PyData.canLayAll0, PyData.canLayAll0, PyData.canLayAll0, PyData.canLay0, PyData.canLay0, show PyData.strOk (rfWord w) = true by cases w <;> decide +kernel]
          simp [PyData.depth, PyData.depthAll]
        refine ⟨_, _, dp2 (ku.tup h1) (.str _) (.int _), dpT (ns := []) (SqT.of upd_same), shf, shT [], _, rfl, ?_⟩
        rw [show PyData.eqv (.tuple [.str (rfWord w), .int x]) (.tuple (([] : List Int).map PyData.int)) = false by rw [PyData.eqv]; rfl]
        refine iteT ⟨_, rfl, c, ks, rfl, (s01.trans m3).tup hk, lk, fun y2 H4 m4 h4 => q y2 H4 ((s01.trans m3).trans m4) ?_⟩
        have : dueR ns ms e = some (.inl (w, x)) := by
          rcases hcase with ⟨_, rfl⟩ | ⟨rfl, rfl⟩
          · exact dueR_1 hf
          · exact dueR_2 (q1 (by omega)) hf
        rw [this]
        rw [hf] at h4
        exact h4
    · rintro σ H1 ⟨⟨y, rfl⟩, s1, q1, q2⟩
      exact hN _ _ ⟨q1 (show 0 < 2 by decide), q2 (show 1 < 2 by decide), kl.trans s1, _, rfl⟩
  rintro σ' H1 ⟨z1, z2, s1, y, rfl⟩
  have hp1 := s1.tup hp
  refine ⟨.ref pr, rfl, pr, _, 0, _, rfl, rfl, hp1, atI0, .ref pr, rfl, pr, _, 1, _, rfl, rfl, hp1, atI1, rfl, _, rfl, ?_⟩
  have ee : (!decide (V.int e.1 = V.int e.2)) = decide (e.1 ≠ e.2) := by
    rw [← decide_not]
    exact decide_eq_decide.mpr ⟨fun z z2 => z (by rw [z2]), fun z z2 => z (V.int.inj z2)⟩
  rw [ee]
  by_cases c : e.1 ≠ e.2
  · refine itT (decide_eq_true c) ⟨_, rfl, by show 2 ≤ sizeLine; decide, fun y2 ny => q y2 _ (s1.trans (Same.new ny)) ?_⟩
    rw [dueR_3 z1 z2 c]
    exact SqT.of upd_same
  · refine itF (decide_eq_false c) ⟨Nat.zero_le _, fun y2 ny => q y2 _ (s1.trans (Same.new ny)) ?_⟩
    rw [dueR_4 z1 z2 (Decidable.not_not.mp c)]
    exact SqT.of upd_same
def dueP : Option ((Bool × Int) ⊕ (Int × Int)) → PyData
  | none => .tuple []
  | some (.inl (w, x)) => .tuple [.str (rfWord w), .int x]
  | some (.inr e) => .tuple [.str "join", .tuple [.int e.1, .int e.2]]
theorem badAt_lt : ∀ (l : List Int) (i k : Nat), badAt l i = some k → k < i + l.length
  | [], _, _, h => by cases h
  | a :: l, i, k, h => by
    unfold badAt at h
    split at h
    · have := badAt_lt l (i + 1) k h
      rw [List.length_cons]
      omega
    · cases Option.some.inj h
      rw [List.length_cons]
      omega
theorem rowFault_abs {ns : List Int} (hl : ns.length ≤ 900) {w : Bool} {x : Int} (h : rowFault ns = some (w, x)) : x.natAbs ≤ 900 := by
  unfold rowFault at h
  split at h
  · cases Option.some.inj h
    omega
  · cases e : badAt ns 0 with
    | none => rw [e] at h; cases h
    | some i =>
      rw [e] at h
      have := badAt_lt ns 0 i e
      cases Option.some.inj h
      omega
theorem cut_sub (ns : List Int) (lo hi : Option Int) : ∃ ms : List Int, cutV (ns.map V.int) lo hi = ms.map V.int ∧ ms.length ≤ ns.length ∧ ∀ c ∈ ms, c ∈ ns := by
  unfold cutV
  rw [← List.map_drop, ← List.map_take]
  refine ⟨_, rfl, ?_, fun c hc => List.mem_of_mem_drop (List.mem_of_mem_take hc)⟩
  rw [List.length_take, List.length_drop]
  omega
theorem due_nil {ns ms : List Int} {e e' : Int × Int} (h : ns = [] ∨ ms = []) : dueR ns ms e = dueR ns ms e' := by
  cases f1 : rowFault ns with
  | some f => rw [dueR_1 f1, dueR_1 f1]
  | none =>
    rcases h with rfl | rfl
    · rw [fault_size (by decide)] at f1
      cases f1
    · have f2 := fault_size (ns := []) (by decide)
      rw [dueR_2 f1 f2, dueR_2 f1 f2]
theorem maxB2 (x : Int) (h : 0 ≤ x) : 1 ≤ (if (if 2 < x then 2 else x) > 1 then (if 2 < x then 2 else x) else 1) ∧ (if (if 2 < x then 2 else x) > 1 then (if 2 < x then 2 else x) else 1) ≤ 2 := by
  split <;> split <;> omega
theorem str_sh {w : Str} (h1 : (PyData.str w).showable = true) (h2 : (PyData.str w).leavesShort 64 = true) (h3 : (PyData.str w).bulk ≤ 100) (h4 : (PyData.str w).depth ≤ 0) : Sh 100 0 (.str w) := ⟨h1, rfl, h2, h4, h3⟩
theorem dueP_sh {ns ms : List Int} {e : Int × Int} (l1 : ns.length ≤ 900) (l2 : ms.length ≤ 900) (h1 : e.1.natAbs < 2 ^ 31) (h2 : e.2.natAbs < 2 ^ 31) : Sh 1000 3 (dueP (dueR ns ms e)) := by
  have e60 : (2 : Nat) ^ 60 = 1152921504606846976 := by decide
  have e31 : (2 : Nat) ^ 31 = 2147483648 := by decide
  have hw : ∀ w, Sh 100 0 (.str (rfWord w)) := fun w => by cases w <;> exact ⟨by decide +kernel, rfl, by decide +kernel, by decide +kernel, by decide +kernel⟩
  have one : ∀ (f : Bool × Int), f.2.natAbs ≤ 900 → Sh 1000 3 (dueP (some (.inl f))) := fun f hf => (Sh.pair (hw f.1) ((Sh.int (n := f.2) (by omega)).le (by decide) (by decide))).le (by decide) (by decide)
  have hn : Sh 1000 3 (dueP none) := ⟨rfl, rfl, by decide +kernel, by decide +kernel, by decide +kernel⟩
  unfold dueR
  cases f1 : rowFault ns with
  | some f => exact one f (rowFault_abs l1 f1)
  | none =>
    dsimp only
    cases f2 : rowFault ms with
    | some f => exact one f (rowFault_abs l2 f2)
    | none =>
      dsimp only
      split
      · exact (Sh.pair (b := 200) (k := 1) ((⟨by decide +kernel, rfl, by decide +kernel, by decide +kernel, by decide +kernel⟩ : Sh 100 0 (.str "join")).le (by decide) (by decide)) ((Sh.pair (Sh.int (n := e.1) (by omega)) (Sh.int (n := e.2) (by omega))).le (by decide) (by decide))).le (by decide) (by decide)
      · exact hn
theorem dueV_dp {K : PySem.W.Frag} {H : Hp} {y pr : Addr} {ns ms : List Int} {e : Int × Int} (hp : SqT K H pr [.int e.1, .int e.2]) (h : SqT K H y (dueV pr (dueR ns ms e))) : Dp K H (.ref y) (dueP (dueR ns ms e)) := by
  cases hr : dueR ns ms e with
  | none =>
    rw [hr] at h
    exact .tup h .nil
  | some r =>
    rw [hr] at h
    cases r with
    | inl f => exact dp2 h (.str _) (.int _)
    | inr e' =>
      have : e' = e := by
        unfold dueR at hr
        split at hr
        · cases hr
        · split at hr
          · cases hr
          · split at hr
            · cases hr
              rfl
            · cases hr
      rw [this]
      exact dp2 h (.str _) (dp2 hp (.int _) (.int _))
theorem tolds {K : PySem.W.Frag} {cs : CS} {tl : XK → Hp → VK → Prop} {Q : VK} {H9 : Hp} (ns ms : List Int) (e : Int × Int)
    (hl : ∀ (E : XK) (Q0 : VK), (dueR ns ms e = none → ∀ v H', Same H9 H' → Q0 v H') → (∀ w x, dueR ns ms e = some (.inl (w, x)) → ∀ d H', Same H9 H' → H' d = none → E (.ref (if w then cs.BadSize else cs.BadCoat)) (some d) (upd H' d (.xd [("what", .int x)]))) →
      (∀ e', dueR ns ms e = some (.inr e') → ∀ pr d H', Same H9 H' → SqT K H' pr [.int e'.1, .int e'.2] → H' d = none → E (.ref cs.BadJoin) (some d) (upd H' d (.xd [("what", .ref pr)]))) → tl E H9 Q0)
    (fin : ∀ y' H10, Same H9 H10 → Dp K H10 (.ref y') (dueP (dueR ns ms e)) → Q (.ref y') H10) : TT__law_told K cs tl H9 Q := by
  refine ⟨fun v H' => dueR ns ms e = none ∧ Same H9 H', fun c d H' => (∃ w x dd, dueR ns ms e = some (.inl (w, x)) ∧ c = .ref (if w then cs.BadSize else cs.BadCoat) ∧ d = some dd ∧ Same H9 H' ∧ H' dd = some (.xd [("what", .int x)])) ∨ (∃ e' pr dd, dueR ns ms e = some (.inr e') ∧ c = .ref cs.BadJoin ∧ d = some dd ∧ Same H9 H' ∧ SqT K H' pr [.int e'.1, .int e'.2] ∧ H' dd = some (.xd [("what", .ref pr)])), fun E Q0 hg hb => hl E Q0 (fun hn v H' m => hg _ _ ⟨hn, m⟩) (fun w x hr d H' m nd => hb _ _ _ (.inl ⟨w, x, d, hr, rfl, rfl, m.trans (Same.new nd), upd_same⟩)) (fun e' hr pr d H' m hp nd => hb _ _ _ (.inr ⟨e', pr, d, hr, rfl, rfl, m.trans (Same.new nd), (Same.new nd).tup hp, upd_same⟩)), ?_, ?_⟩
  · rintro v H' ⟨hn, m⟩ y H2 m2 hy
    refine fin y H2 (m.trans m2) ?_
    rw [hn]
    exact .tup hy .nil
  · rintro c d H' (⟨w, x, dd, hr, rfl, rfl, m, hx⟩ | ⟨e', pr, dd, hr, rfl, rfl, m, hp, hx⟩)
    · refine ⟨if w then .size else .coat, .int x, dd, by cases w <;> rfl, rfl, hx, fun y H2 m2 hy => fin y H2 (m.trans m2) ?_⟩
      rw [hr]
      have : (RW3.wd (if w then .size else .coat)) = rfWord w := by cases w <;> rfl
      rw [this] at hy
      exact dp2 hy (.str _) (.int _)
    · refine ⟨.join, .ref pr, dd, rfl, rfl, hx, fun y H2 m2 hy => fin y H2 (m.trans m2) ?_⟩
      rw [hr]
      exact dp2 hy (.str _) (dp2 (m2.tup hp) (.int _) (.int _))
def sp__law_right (K : PySem.W.Frag) (cs : CS) : Sp := fun vs H Q E => ∃ (p : Addr), vs = [.ref p] ∧ Src H p ∧ LamX.Tabs (tbs cs) H ∧ ∀ H', ExN p H H' → Src H' p → LamX.Tabs (tbs cs) H' → Q (.bl true) H'
theorem ok__law_right (F : FunC K "_law_right" "_law_right" s__law_right f fd cs.kc__law_right) (T : Txt P w K mg base cs) (c_rest : Cal P w K mg base (L2.CX P w) 4 "rest" ["row"] s_rest (sp_rest K cs)) (c_is_straight : Cal P w K mg base (L2.CX P w) 4 "is_straight" ["row"] s_is_straight (sp_is_straight K cs)) (c_strikes : Cal P w K mg base (L2.CX P w) 4 "strikes" ["row"] s_strikes (sp_strikes K cs)) (c_turns : Cal P w K mg base (L2.CX P w) 4 "turns" ["row"] s_turns (sp_turns K cs)) (c_back : Cal P w K mg base (L2.CX P w) 4 "back" ["row"] s_back (sp_back K cs)) (c_joined : Cal P w K mg base (L2.CX P w) 4 "joined" ["one", "two"] s_joined (sp_joined K cs)) (c_gap : Cal P w K mg base (L2.CX P w) 4 "gap" ["one", "two"] s_gap (sp_gap K cs)) (c_core : Cal P w K mg base (L2.CX P w) 4 "core" ["row"] s_core (sp_core K cs)) (c__law_take : Cal P w K mg base CX0 1 "_law_take" ["source", "top"] s__law_take (sp__law_take K cs)) (c__law_one : Cal P w K mg base CX0 2 "_law_one" ["source", "things"] s__law_one (sp__law_one K cs)) (c__law_row : Cal P w K mg base CX0 3 "_law_row" ["source"] s__law_row (sp__law_row K cs)) (c__law_fault : Cal P w K mg base CX0 1 "_law_fault" ["row"] s__law_fault (sp__law_fault K cs)) (c__law_told : CalL P w K mg base 1 "_law_told" s__law_told ["deed", "e", "kinds"] "deed" (TT__law_told K cs)) (c__law_due : Cal P w K mg base CX0 2 "_law_due" ["one", "two", "ends"] s__law_due (sp__law_due K cs)) : FnG P w K mg base CX0 7 f fd ["source"] (sp__law_right K cs) := by
  refine fnC_of F sc__law_right (fun vs H Q E h => ?_) (fun A outer s H vs Q E hg hr h => ?_)
  · obtain ⟨p, rfl, _⟩ := h
    rfl
  obtain ⟨p, rfl, hs, hTb, q⟩ := h
  have e31 : (2 : Nat) ^ 31 = 2147483648 := by decide
  refine ⟨_, (PSs.nox (pss_cons (ps_asg (pe_tup (pa_cons (pe_cal c__law_row (hr.mono (by decide)) pass0 (pa_cons (pv 0) pa_nil)) (pa_cons (pe_cal c__law_row (hr.mono (by decide)) pass0 (pa_cons (pv 0) pa_nil)) pa_nil))) (pg_tup rfl (pgs_cons (pg_name (i := 4) sc__law_right.nd rfl (Or.inr rfl)) (pgs_cons (pg_name (i := 5) sc__law_right.nd rfl (Or.inr rfl)) pgs_nil))))
      (pss_cons (ps_if (PW.pt (pw_and (pt_cmpR op_eq (pe_cal c__law_take (hr.mono (by decide)) pass0 (pa_cons (pv 0) (pa_cons pe_int pa_nil))) pe_int (nomark _)) (pw_and (pt_cmpR (neD K hr.units) (pv 4) (pe_tup pa_nil) (nomark _)) (pw_and1 (pt_cmpR (neD K hr.units) (pv 5) (pe_tup pa_nil) (nomark _)))))) (pss_one (ps_set (i := 5) sc__law_right.nd rfl (Or.inr rfl) (pe_op (catA K) (pe_cal c__law_one (hr.mono (by decide)) pass0 (pa_cons (pv 0) (pa_cons (pe_lst (pa_cons (pe_slice (slT K) (pv 4) (po_some (pe_un un_neg pe_int)) poN) (pa_cons (pe_slice (slT K) (pv 4) poN (po_some pe_int)) pa_nil))) pa_nil))) (pe_slice (slT K) (pv 5) (po_some pe_int) poN)))) pss_nil)
      (pss_cons (ps_for PassesOwn.never rfl (piL K (pe_lst (pa_cons (pe_glob (v := V.ref cs.fn_rest) rfl T.gf_rest rfl) (pa_cons (pe_glob (v := V.ref cs.fn_is_straight) rfl T.gf_is_straight rfl) (pa_cons (pe_glob (v := V.ref cs.fn_strikes) rfl T.gf_strikes rfl) (pa_cons (pe_glob (v := V.ref cs.fn_turns) rfl T.gf_turns rfl) (pa_cons (pe_glob (v := V.ref cs.fn_back) rfl T.gf_back rfl) pa_nil))))))) (pg_name (i := 3) sc__law_right.nd rfl (Or.inr rfl)) (pss_one (ps_if (pt_cmpR op_ne (pe_callB (reprD K hg hr) (by rfl) T.n_repr (by decide +kernel) (pa_cons (pe_lamC (L := LamX.lamS_by (sc := defScope s__law_right) (by decide +kernel)) (k := 4) c__law_told T.tb__law_right (tm__law_right cs) (tu__law_right T) (hr.mono (by decide)) (fun A outer s H E f c' hr => (pe_calVar (i := 3) (fs := [(cs.fn_rest, sp_rest K cs), (cs.fn_is_straight, sp_is_straight K cs), (cs.fn_strikes, sp_strikes K cs), (cs.fn_turns, sp_turns K cs), (cs.fn_back, sp_back K cs)]) (List.forall_mem_cons.mpr ⟨calAt c_rest T.gf_rest (by decide), (List.forall_mem_cons.mpr ⟨calAt c_is_straight T.gf_is_straight (by decide), (List.forall_mem_cons.mpr ⟨calAt c_strikes T.gf_strikes (by decide), (List.forall_mem_cons.mpr ⟨calAt c_turns T.gf_turns (by decide), (List.forall_mem_cons.mpr ⟨calAt c_back T.gf_back (by decide), (fun _ h => nomatch h)⟩)⟩)⟩)⟩)⟩) hr (passes_call (E := E) (takes_of rfl rfl rfl rfl) (fun _ _ _ _ h => h)) (pa_cons (pv 4) pa_nil) (by rfl) (by first | exact Or.inl rfl | exact Or.inr (Or.inl rfl) | exact Or.inr (Or.inr rfl)))) rfl (Or.inl rfl)) pa_nil)) (pe_callB (reprD K hg hr) (by rfl) T.n_repr (by decide +kernel) (pa_cons (pe_cal c__law_fault (hr.mono (by decide)) pass0 (pa_cons (pv 4) pa_nil)) pa_nil)) (nomark _)) (pss_one (ps_ret pe_bl)) pss_nil)))
      (pss_cons (ps_set (i := 1) sc__law_right.nd rfl (Or.inl rfl) (pe_lst (pa_cons (pe_tup (pa_cons pe_int (pa_cons pe_int pa_nil))) (pa_cons (pe_tup (pa_cons pe_int (pa_cons pe_int pa_nil))) (pa_cons (pe_tup (pa_cons pe_int (pa_cons pe_int pa_nil))) pa_nil)))))
      (pss_cons (ps_if (PW.pt (pw_and (pt_cmpR (neD K hr.units) (pv 4) (pe_tup pa_nil) (nomark _)) (pw_and1 (pt_cmpR (neD K hr.units) (pv 5) (pe_tup pa_nil) (nomark _))))) (pss_one (ps_set (i := 1) sc__law_right.nd rfl (Or.inl rfl) (pe_lst (pa_cons (pe_tup (pa_cons (pe_ix (ixT K) (pv 4) (pe_un un_neg pe_int) (fun _ _ => rfl)) (pa_cons (pe_ix (ixT K) (pv 5) pe_int (fun _ _ => rfl)) pa_nil))) (pa_cons (pe_tup (pa_cons (pe_ix (ixT K) (pv 4) pe_int (fun _ _ => rfl)) (pa_cons (pe_ix (ixT K) (pv 5) pe_int (fun _ _ => rfl)) pa_nil))) (pa_cons (pe_tup (pa_cons (pe_ix (ixT K) (pv 4) pe_int (fun _ _ => rfl)) (pa_cons (pe_ix (ixT K) (pv 4) (pe_un un_neg pe_int) (fun _ _ => rfl)) pa_nil))) pa_nil)))))) pss_nil)
      (pss_cons (ps_if (pt_cmpR op_ne (pe_callB (reprD K hg hr) (by rfl) T.n_repr (by decide +kernel) (pa_cons (pe_lamC (L := LamX.lamS_by (sc := defScope s__law_right) (by decide +kernel)) (k := 4) c__law_told T.tb__law_right (tm__law_right cs) (tu__law_right T) (hr.mono (by decide)) (fun A outer s H E f c' hr => (pe_cal c_joined (hr.mono (by decide)) (passes_call (E := E) (takes_of rfl rfl rfl rfl) (fun _ _ _ _ h => h)) (pa_cons (pv 4) (pa_cons (pv 5) pa_nil)))) rfl (Or.inl rfl)) pa_nil)) (pe_callB (reprD K hg hr) (by rfl) T.n_repr (by decide +kernel) (pa_cons (pe_cal c__law_due (hr.mono (by decide)) pass0 (pa_cons (pv 4) (pa_cons (pv 5) (pa_cons (pe_ix (ixL K) (pv 1) pe_int (fun _ _ => rfl)) pa_nil)))) pa_nil)) (nomark _)) (pss_one (ps_ret pe_bl)) pss_nil)
      (pss_cons (ps_if (pt_cmpR op_ne (pe_callB (reprD K hg hr) (by rfl) T.n_repr (by decide +kernel) (pa_cons (pe_lamC (L := LamX.lamS_by (sc := defScope s__law_right) (by decide +kernel)) (k := 4) c__law_told T.tb__law_right (tm__law_right cs) (tu__law_right T) (hr.mono (by decide)) (fun A outer s H E f c' hr => (pe_calK0 c_gap kb_gap_two_one (hr.mono (by decide)) (passes_call (E := E) (takes_of rfl rfl rfl rfl) (fun _ _ _ _ h => h)) (pk_cons (pv 5) (pk_cons (pv 4) pk_nil)))) rfl (Or.inl rfl)) pa_nil)) (pe_callB (reprD K hg hr) (by rfl) T.n_repr (by decide +kernel) (pa_cons (pe_cal c__law_due (hr.mono (by decide)) pass0 (pa_cons (pv 4) (pa_cons (pv 5) (pa_cons (pe_ix (ixL K) (pv 1) pe_int (fun _ _ => rfl)) pa_nil)))) pa_nil)) (nomark _)) (pss_one (ps_ret pe_bl)) pss_nil)
      (pss_cons (ps_set (i := 2) sc__law_right.nd rfl (Or.inl rfl) (pe_ifExp (pt_cmpR (neD K hr.units) (pv 4) (pe_tup pa_nil) (nomark _)) (pe_tup (pa_cons (pe_ix (ixT K) (pv 4) pe_int (fun _ _ => rfl)) (pa_cons (pe_ix (ixT K) (pv 4) (pe_un un_neg pe_int) (fun _ _ => rfl)) pa_nil))) (pe_tup (pa_cons pe_int (pa_cons pe_int pa_nil)))))
      (pss_one (ps_ret (pe_cmpR op_eq (pe_callB (reprD K hg hr) (by rfl) T.n_repr (by decide +kernel) (pa_cons (pe_lamC (L := LamX.lamS_by (sc := defScope s__law_right) (by decide +kernel)) (k := 4) c__law_told T.tb__law_right (tm__law_right cs) (tu__law_right T) (hr.mono (by decide)) (fun A outer s H E f c' hr => (pe_cal c_core (hr.mono (by decide)) (passes_call (E := E) (takes_of rfl rfl rfl rfl) (fun _ _ _ _ h => h)) (pa_cons (pv 4) pa_nil))) rfl (Or.inl rfl)) pa_nil)) (pe_callB (reprD K hg hr) (by rfl) T.n_repr (by decide +kernel) (pa_cons (pe_cal c__law_due (hr.mono (by decide)) pass0 (pa_cons (pv 4) (pa_cons (pv 4) (pa_cons (pv 2) pa_nil)))) pa_nil)) (nomark _))))))))))))), ?_⟩
  refine ⟨_, rfl, p, rfl, hs, fun t1 ns H1 h1 l1 c1 s1 e1 => ⟨_, rfl, p, rfl, s1, fun t2 ms H2 h2 l2 c2 s2 e2 => ⟨by show 2 ≤ sizeLine; decide, fun tp ntp => ⟨tp, _, rfl, SqT.of upd_same, rfl, _, _, rfl, _, _, rfl, rfl, ?_⟩⟩⟩⟩
  have kp := Same.new (o := .tup [.ref t1, .ref t2]) ntp
  have s3 := kp.src s2
  have e03 := (e1.trans e2).trans (Exb.of kp)
  have h13 := kp.tup (e2.tup s1 h1)
  have h23 := kp.tup h2
  have T3 := hTb.exb hs e03
  generalize upd H2 tp (.tup [.ref t1, .ref t2]) = H3 at *
  clear h1 h2 e1 e2 s1 s2 kp ntp
  dsimp only
  refine seqK (fun σ' H' => ∃ (t2 : Addr) (ms : List Int), σ' = [some (.ref p), none, none, none, some (.ref t1), some (.ref t2)] ∧ SqT K H' t1 (ns.map V.int) ∧ SqT K H' t2 (ms.map V.int) ∧ ms.length ≤ 700 ∧ (∀ c ∈ ms, c.natAbs < 2 ^ 31) ∧ Src H' p ∧ Exb p H H' ∧ LamX.Tabs (tbs cs) H') (fun N hN => ?_) ?_
  · refine ⟨_, rfl, p, 2, rfl, s3, by decide, by decide, fun r H4 r0 r1 s4 e4 => ⟨rfl, _, rfl, ?_⟩⟩
    have h14 := e4.tup s3 h13
    have h24 := e4.tup s3 h23
    have e04 := e03.trans e4
    have T4 := T3.exb s3 e4
    have skip : ∀ H', Same H4 H' → N [some (.ref p), none, none, none, some (.ref t1), some (.ref t2)] H' := fun H' m => hN _ _ ⟨t2, ms, rfl, m.tup h14, m.tup h24, by omega, c2, m.src s4, e04.trans (Exb.of m), T4.same m⟩
    by_cases c : r = 0
    rotate_left
    · exact itF (by rw [dvI]; exact decide_eq_false c) (iteF (skip _ (Same.refl _)))
    refine itT (by rw [dvI]; exact decide_eq_true c) ?_
    refine ⟨_, rfl, Nat.zero_le _, fun u nu => ?_⟩
    have ku := Same.new (o := .tup []) nu
    refine neT (ns := ns) (ms := []) (ku.tup h14) (SqT.of upd_same) ⟨_, rfl, ?_⟩
    by_cases z1 : ns = []
    · exact itF (by rw [decide_eq_true z1]; rfl) (iteF (skip _ ku))
    refine itT (by rw [decide_eq_false z1]; rfl) ?_
    refine ⟨_, rfl, Nat.zero_le _, fun u2 nu2 => ?_⟩
    have ku2 := ku.trans (Same.new (o := .tup []) nu2)
    refine neT (ns := ms) (ms := []) (ku2.tup h24) (SqT.of upd_same) ⟨_, rfl, ?_⟩
    by_cases z2 : ms = []
    · exact itF (by rw [decide_eq_true z2]; rfl) (skip _ ku2)
    refine itT (by rw [decide_eq_false z2]; rfl) ?_
    refine ⟨_, rfl, .ref t1, rfl, 1, rfl, _, rfl, slA (ku2.tup h14) fun a1 Ha ma ha => ?_⟩
    obtain ⟨ka, hka, lka, mka⟩ := cut_sub ns (some (-1)) none
    rw [hka] at ha
    have m2 := ku2.trans ma
    refine ⟨.ref t1, rfl, 1, rfl, slA (m2.tup h14) fun b1 Hb mb hb => ?_⟩
    obtain ⟨kb, hkb, lkb, mkb⟩ := cut_sub ns none (some 1)
    rw [hkb] at hb
    have m3 := m2.trans mb
    refine ⟨by show 2 ≤ sizeLine; decide, fun L nL => ?_⟩
    have kL := Same.new (o := .lst [.ref a1, .ref b1]) nL
    have sL := (m3.trans kL).src s4
    refine ⟨p, L, _, rfl, sL, .inl ⟨upd_same, (m3.src s4).ne nL⟩, by show 0 < 2; decide, by show 2 < 1000000; decide, fun v H5 hv s5 e5 => ?_⟩
    obtain ⟨d1, kd, rfl, hd, lkd, mkd⟩ : ∃ (d1 : Addr) (kd : List Int), v = .ref d1 ∧ SqT K H5 d1 (kd.map V.int) ∧ kd.length ≤ 300 ∧ ∀ c ∈ kd, c.natAbs < 2 ^ 31 := by
      simp only [List.mem_cons, List.not_mem_nil, or_false] at hv
      rcases hv with rfl | rfl
      · exact ⟨a1, ka, rfl, e5.tup sL ((mb.trans kL).tup ha), by omega, fun c hc => c1 c (mka c hc)⟩
      · exact ⟨b1, kb, rfl, e5.tup sL (kL.tup hb), by omega, fun c hc => c1 c (mkb c hc)⟩
    have e45 : Exb p H4 H5 := (Exb.of (m3.trans kL)).trans e5
    have h25 := e45.tup s4 h24
    refine ⟨.ref t2, rfl, 1, rfl, slA h25 fun g1 Hg mg_ hg_ => ?_⟩
    obtain ⟨kg, hkg, lkg, mkg⟩ := cut_sub ms (some 1) none
    rw [hkg] at hg_
    refine ctA (mg_.tup hd) hg_ (by rw [List.length_map, List.length_map]; omega) fun g2 Hh mh hh => ?_
    rw [← List.map_append] at hh
    have m58 := mg_.trans mh
    refine hN _ _ ⟨g2, kd ++ kg, rfl, m58.tup (e45.tup s4 h14), hh, by rw [List.length_append]; omega, fun c hc => ?_, m58.src s5, (e04.trans e45).trans (Exb.of m58), (T4.exb s4 e45).same m58⟩
    rcases List.mem_append.mp hc with hc | hc
    · exact mkd c hc
    · exact c2 c (mkg c hc)
  rintro σ' H4 ⟨t2, ms, rfl, h1, h2, l2, c2, s4, e4, T4⟩
  clear h13 h23 T3 e03 s3 H3
  have b00 : ∀ r : List Int, r.length ≤ 900 → _ := fun r hr => (dueP_sh (ns := r) (ms := r) (e := (0, 0)) hr hr (by decide) (by decide)).all (by decide) (by decide)
  refine seqK (fun σ' H' => ∃ y3, LamX.ExtN H4 H' ∧ LamX.Tabs (tbs cs) H' ∧ σ' = [some (.ref p), none, none, y3, some (.ref t1), some (.ref t2)]) (fun N hN => ?_) ?_
  · refine ⟨by show 5 ≤ sizeLine; decide, fun L nL => ?_⟩
    have kL := Same.new (o := .lst [.ref cs.fn_rest, .ref cs.fn_is_straight, .ref cs.fn_strikes, .ref cs.fn_turns, .ref cs.fn_back]) nL
    refine ⟨L, rfl, ⟨_, SqL.of upd_same⟩, ?_⟩
    refine for_list (xs := [V.ref cs.fn_rest, .ref cs.fn_is_straight, .ref cs.fn_strikes, .ref cs.fn_turns, .ref cs.fn_back]) (fun k σ' H' => ∃ y3, LamX.ExtN (upd H4 L (.lst [.ref cs.fn_rest, .ref cs.fn_is_straight, .ref cs.fn_strikes, .ref cs.fn_turns, .ref cs.fn_back])) H' ∧ LamX.Tabs (tbs cs) H' ∧ σ' = [some (.ref p), none, none, y3, some (.ref t1), some (.ref t2)]) ⟨_, LamX.ExtN.refl _, T4.same kL, rfl⟩ (fun _ _ _ _ h => h.choose_spec.1.lst (SqL.of upd_same)) ?_ ?_
    · rintro k z σ' Ha hk ⟨y3, xa0, Ta, rfl⟩
      have xa := (LamX.ExtN.of kL).trans xa0
      have hz := List.mem_of_getElem? hk
      refine gN ?_
      dsimp only
      refine ⟨Ta, fun Hb xb Tb => ?_⟩
      have xab := xa.trans xb
      have h1b := xab.tup h1
      obtain ⟨g1, g2, g3, g4⟩ := b00 ns (by omega)
      refine tolds ns ns (0, 0) (fun E Q0 hn hf _ => ?_) (fun y' Hc mc hy' => ?_)
      · have ask : ∀ (q1 : rowFault ns = none → ∀ v H', Same Hb H' → Q0 v H') (q2 : ∀ w x, rowFault ns = some (w, x) → ∀ d H', Same Hb H' → H' d = none → E (.ref (if w then cs.BadSize else cs.BadCoat)) (some d) (upd H' d (.xd [("what", .int x)]))), tCallVar 3 [(cs.fn_rest, sp_rest K cs), (cs.fn_is_straight, sp_is_straight K cs), (cs.fn_strikes, sp_strikes K cs), (cs.fn_turns, sp_turns K cs), (cs.fn_back, sp_back K cs)] E (tCons (tVar 4) tNil) [some (.ref p), none, none, some z, some (.ref t1), some (.ref t2)] Hb Q0 := fun q1 q2 => by
          simp only [List.mem_cons, List.not_mem_nil, or_false] at hz
          rcases hz with rfl | rfl | rfl | rfl | rfl
          · exact ⟨(cs.fn_rest, sp_rest K cs), by simp, rfl, _, rfl, t1, ns, rfl, h1b, by omega, q1, q2⟩
          · exact ⟨(cs.fn_is_straight, sp_is_straight K cs), by simp, rfl, _, rfl, t1, ns, rfl, h1b, by omega, q1, q2⟩
          · exact ⟨(cs.fn_strikes, sp_strikes K cs), by simp, rfl, _, rfl, t1, ns, rfl, h1b, by omega, q1, q2⟩
          · exact ⟨(cs.fn_turns, sp_turns K cs), by simp, rfl, _, rfl, t1, ns, rfl, h1b, by omega, q1, q2⟩
          · exact ⟨(cs.fn_back, sp_back K cs), by simp, rfl, _, rfl, t1, ns, rfl, h1b, by omega, q1, q2⟩
        exact ask (fun z1 => hn (dueR_4 z1 z1 rfl)) (fun w x z1 => hf w x (dueR_1 z1))
      · refine ⟨y', _, rfl, hy', g1, g2, g3, g4, ?_⟩
        refine ⟨_, rfl, t1, ns, rfl, mc.tup h1b, by omega, fun y2 Hd md hy2 => ?_⟩
        have hd2 : Dp K Hd (.ref y2) (dueP (dueR ns ns (0, 0))) := by
          cases hf : rowFault ns with
          | none =>
            rw [hf] at hy2
            rw [dueR_4 hf hf rfl]
            exact .tup hy2 .nil
          | some f =>
            rw [hf] at hy2
            rw [dueR_1 hf]
            exact dp2 hy2 (.str _) (.int _)
        refine ⟨y2, _, rfl, hd2, g1, g2, g3, g4, ?_⟩
        exact ⟨rfl, _, rfl, itF (by simp) ⟨_, (xa0.trans xb).trans (LamX.ExtN.of (mc.trans md)), (Tb.same mc).same md, rfl⟩⟩
    · rintro σ' Ha ⟨y3, xa, Ta, rfl⟩
      exact hN _ _ ⟨_, (LamX.ExtN.of kL).trans xa, Ta, rfl⟩
  rintro σ' Ha ⟨y3, xa, Ta, rfl⟩
  have s5 : Src Ha p := xa.src s4
  have e5 : ExN p H Ha := (ExN.ofB e4).trans (ExN.ofN xa)
  have h15 := xa.tup h1
  have h25 := xa.tup h2
  clear h1 h2 e4 s4 T4 xa
  have bd0 : ∀ r : List Int, (∀ c ∈ r, c.natAbs < 2 ^ 31) → (hd0 r).natAbs < 2 ^ 31 ∧ (lt0 r).natAbs < 2 ^ 31 := fun r hr => by
    by_cases z : r = []
    · rw [z]
      exact ⟨by decide, by decide⟩
    · have h1 : 1 ≤ r.length := List.length_pos_iff.mpr z
      exact ⟨hr _ (List.mem_of_head? (hd0_of h1)), hr _ (List.mem_of_getLast? (lt0_of h1))⟩
  have hbn := bd0 ns c1
  have hbm := bd0 ms c2
  refine asgK (fun v H' => ∃ (el p1 p2 p3 : Addr), v = .ref el ∧ Same Ha H' ∧ H' el = some (.lst [.ref p1, .ref p2, .ref p3]) ∧ SqT K H' p1 [.int 0, .int 0] ∧ SqT K H' p2 [.int 0, .int 0] ∧ SqT K H' p3 [.int 0, .int 0]) (fun R hR => ?_) ?_
  · refine ⟨by show 2 ≤ sizeLine; decide, fun p1 np1 => ⟨by show 2 ≤ sizeLine; decide, fun p2 np2 => ⟨by show 2 ≤ sizeLine; decide, fun p3 np3 => ⟨by show 3 ≤ sizeLine; decide, fun el nel => ?_⟩⟩⟩⟩
    have k1 := Same.new (H := Ha) (o := .tup [.int 0, .int 0]) np1
    have k2 := Same.new (o := .tup [.int 0, .int 0]) np2
    have k3 := Same.new (o := .tup [.int 0, .int 0]) np3
    have k4 := Same.new (o := .lst [.ref p1, .ref p2, .ref p3]) nel
    exact hR _ _ ⟨el, p1, p2, p3, rfl, ((k1.trans k2).trans k3).trans k4, upd_same, ((k2.trans k3).trans k4).tup (SqT.of upd_same), (k3.trans k4).tup (SqT.of upd_same), k4.tup (SqT.of upd_same)⟩
  rintro v Hb ⟨el, p1, p2, p3, rfl, mb, hel, hp1, hp2, hp3⟩
  refine seqK (fun σ' H' => ∃ (el p1 p2 p3 : Addr) (e1 e2 e3 : Int × Int), Same Ha H' ∧ H' el = some (.lst [.ref p1, .ref p2, .ref p3]) ∧ SqT K H' p1 [.int e1.1, .int e1.2] ∧ SqT K H' p2 [.int e2.1, .int e2.2] ∧ dueR ns ms e1 = dueR ns ms (lt0 ns, hd0 ms) ∧ dueR ns ms e2 = dueR ns ms (hd0 ns, hd0 ms) ∧ e1.1.natAbs < 2 ^ 31 ∧ e1.2.natAbs < 2 ^ 31 ∧ e2.1.natAbs < 2 ^ 31 ∧ e2.2.natAbs < 2 ^ 31 ∧ σ' = [some (.ref p), some (.ref el), none, y3, some (.ref t1), some (.ref t2)]) (fun N hN => ?_) ?_
  · have skip : (ns = [] ∨ ms = []) → ∀ H', Same Hb H' → N [some (.ref p), some (.ref el), none, y3, some (.ref t1), some (.ref t2)] H' := fun hz H' m => hN _ _ ⟨el, p1, p2, p3, (0, 0), (0, 0), (0, 0), mb.trans m, m _ _ hel, m.tup hp1, m.tup hp2, due_nil hz, due_nil hz, by decide, by decide, by decide, by decide, rfl⟩
    refine ⟨_, rfl, Nat.zero_le _, fun u nu => ?_⟩
    have ku := Same.new (o := .tup []) nu
    refine neT (ns := ns) (ms := []) (ku.tup (mb.tup h15)) (SqT.of upd_same) ⟨_, rfl, ?_⟩
    by_cases z1 : ns = []
    · exact itF (by rw [decide_eq_true z1]; rfl) (iteF (skip (.inl z1) _ ku))
    refine itT (by rw [decide_eq_false z1]; rfl) ?_
    refine ⟨_, rfl, Nat.zero_le _, fun u2 nu2 => ?_⟩
    have ku2 := ku.trans (Same.new (o := .tup []) nu2)
    refine neT (ns := ms) (ms := []) (ku2.tup (mb.tup h25)) (SqT.of upd_same) ⟨_, rfl, ?_⟩
    by_cases z2 : ms = []
    · exact itF (by rw [decide_eq_true z2]; rfl) (skip (.inr z2) _ ku2)
    refine itT (by rw [decide_eq_false z2]; rfl) ?_
    have n1 : 1 ≤ ns.length := List.length_pos_iff.mpr z1
    have n2 : 1 ≤ ms.length := List.length_pos_iff.mpr z2
    have g1 := hd0_of n1
    have g2 := lt0_of n1
    have g3 := hd0_of n2
    have mc := mb.trans ku2
    have h16 := mc.tup h15
    have h26 := mc.tup h25
    refine ⟨.ref t1, rfl, 1, rfl, t1, _, _, .int _, rfl, rfl, h16, atLastI g2, .ref t2, rfl, t2, _, 0, .int _, rfl, rfl, h26, atHeadI g3, by show 2 ≤ sizeLine; decide, fun p1 np1 => ?_⟩
    have k1 := Same.new (o := .tup [.int (lt0 ns), .int (hd0 ms)]) np1
    refine ⟨.ref t1, rfl, t1, _, 0, .int _, rfl, rfl, k1.tup h16, atHeadI g1, .ref t2, rfl, t2, _, 0, .int _, rfl, rfl, k1.tup h26, atHeadI g3, by show 2 ≤ sizeLine; decide, fun p2 np2 => ?_⟩
    have k2 := Same.new (o := .tup [.int (hd0 ns), .int (hd0 ms)]) np2
    have k12 := k1.trans k2
    refine ⟨.ref t1, rfl, t1, _, 0, .int _, rfl, rfl, k12.tup h16, atHeadI g1, .ref t1, rfl, 1, rfl, t1, _, _, .int _, rfl, rfl, k12.tup h16, atLastI g2, by show 2 ≤ sizeLine; decide, fun p3 np3 => ⟨by show 3 ≤ sizeLine; decide, fun el nel => ?_⟩⟩
    have k3 := Same.new (o := .tup [.int (hd0 ns), .int (lt0 ns)]) np3
    have k4 := Same.new (o := .lst [.ref p1, .ref p2, .ref p3]) nel
    exact hN _ _ ⟨el, p1, p2, p3, (lt0 ns, hd0 ms), (hd0 ns, hd0 ms), (0, 0), mc.trans ((k12.trans k3).trans k4), upd_same, ((k2.trans k3).trans k4).tup (SqT.of upd_same), (k3.trans k4).tup (SqT.of upd_same), rfl, rfl, hbn.2, hbm.1, hbn.1, hbm.1, rfl⟩
  clear hel hp1 hp2 hp3 mb Hb p1 p2 p3 el
  rintro σ' Hb ⟨el, p1, p2, p3, f1, f2, f3, mb, hel, hp1, hp2, d1, d2, b1, b2, b3, b4, rfl⟩
  have s6 := mb.src s5
  have e6 := e5.trans (ExN.of mb)
  have h16 := mb.tup h15
  have h26 := mb.tup h25
  have T6 := Ta.same mb
  have q1 := (dueP_sh (ns := ns) (ms := ms) (e := f1) (by omega) (by omega) b1 b2).all (by decide) (by decide)
  have q2 := (dueP_sh (ns := ns) (ms := ms) (e := f2) (by omega) (by omega) b3 b4).all (by decide) (by decide)
  -- joined
  refine seqK (fun σ' H' => LamX.ExtN Hb H' ∧ LamX.Tabs (tbs cs) H' ∧ σ' = [some (.ref p), some (.ref el), none, y3, some (.ref t1), some (.ref t2)]) (fun N hN => ?_) ?_
  · refine ⟨T6, fun Hc xc Tc => ?_⟩
    obtain ⟨g1, g2, g3, g4⟩ := q1
    refine tolds ns ms f1 (fun E Q0 hn hf hj => ?_) (fun y' Hd md hy' => ?_)
    · rw [d1] at hn hf hj
      exact ⟨_, rfl, _, rfl, t1, t2, ns, ms, rfl, xc.tup h16, xc.tup h26, by omega, by omega, hn, hf, hj⟩
    · refine ⟨y', _, rfl, hy', g1, g2, g3, g4, ?_⟩
      have xd := xc.trans (LamX.ExtN.of md)
      refine ⟨_, rfl, _, rfl, .ref el, rfl, el, _, 0, _, rfl, rfl, xd.lst (SqL.of hel), atI0, t1, t2, p1, ns, ms, f1, rfl, xd.tup h16, xd.tup h26, by omega, by omega, xd.tup hp1, fun y2 He me hy2 => ?_⟩
      refine ⟨y2, _, rfl, dueV_dp (me.tup (xd.tup hp1)) hy2, g1, g2, g3, g4, ?_⟩
      exact ⟨rfl, _, rfl, itF (by simp) (hN _ _ ⟨xd.trans (LamX.ExtN.of me), (Tc.same md).same me, rfl⟩)⟩
  rintro σ' Hc ⟨xc, Tc, rfl⟩
  -- gap
  refine seqK (fun σ' H' => LamX.ExtN Hb H' ∧ LamX.Tabs (tbs cs) H' ∧ σ' = [some (.ref p), some (.ref el), none, y3, some (.ref t1), some (.ref t2)]) (fun N hN => ?_) ?_
  · refine ⟨Tc, fun Hd xd0 Td => ?_⟩
    have xd := xc.trans xd0
    obtain ⟨g1, g2, g3, g4⟩ := q2
    refine tolds ns ms f2 (fun E Q0 hn hf hj => ?_) (fun y' He me hy' => ?_)
    · rw [d2] at hn hf hj
      exact ⟨_, rfl, _, rfl, t1, t2, ns, ms, rfl, xd.tup h16, xd.tup h26, by omega, by omega, hn, hf, hj⟩
    · refine ⟨y', _, rfl, hy', g1, g2, g3, g4, ?_⟩
      have xe := xd.trans (LamX.ExtN.of me)
      refine ⟨_, rfl, _, rfl, .ref el, rfl, el, _, 1, _, rfl, rfl, xe.lst (SqL.of hel), atI1, t1, t2, p2, ns, ms, f2, rfl, xe.tup h16, xe.tup h26, by omega, by omega, xe.tup hp2, fun y2 Hf mf hy2 => ?_⟩
      refine ⟨y2, _, rfl, dueV_dp (mf.tup (xe.tup hp2)) hy2, g1, g2, g3, g4, ?_⟩
      exact ⟨rfl, _, rfl, itF (by simp) (hN _ _ ⟨xe.trans (LamX.ExtN.of mf), (Td.same me).same mf, rfl⟩)⟩
  clear xc Tc Hc
  rintro σ' Hc ⟨xc, Tc, rfl⟩
  have h17 := xc.tup h16
  -- closed
  refine asgK (fun v H' => ∃ (pc : Addr) (e : Int × Int), v = .ref pc ∧ Same Hc H' ∧ SqT K H' pc [.int e.1, .int e.2] ∧ dueR ns ns e = dueR ns ns (hd0 ns, lt0 ns) ∧ e.1.natAbs < 2 ^ 31 ∧ e.2.natAbs < 2 ^ 31) (fun R hR => ?_) ?_
  · refine ⟨_, rfl, Nat.zero_le _, fun u nu => ?_⟩
    have ku := Same.new (o := .tup []) nu
    refine neT (ns := ns) (ms := []) (ku.tup h17) (SqT.of upd_same) ⟨_, rfl, ?_⟩
    by_cases z1 : ns = []
    · refine itF (by rw [decide_eq_true z1]; rfl) ⟨by show 2 ≤ sizeLine; decide, fun pc npc => hR _ _ ⟨pc, (0, 0), rfl, ku.trans (Same.new npc), SqT.of upd_same, due_nil (.inl z1), by decide, by decide⟩⟩
    · have n1 : 1 ≤ ns.length := List.length_pos_iff.mpr z1
      have h18 := ku.tup h17
      refine itT (by rw [decide_eq_false z1]; rfl) ⟨.ref t1, rfl, t1, _, 0, .int _, rfl, rfl, h18, atHeadI (hd0_of n1), .ref t1, rfl, 1, rfl, t1, _, _, .int _, rfl, rfl, h18, atLastI (lt0_of n1), by show 2 ≤ sizeLine; decide, fun pc npc => hR _ _ ⟨pc, (hd0 ns, lt0 ns), rfl, ku.trans (Same.new npc), SqT.of upd_same, rfl, hbn.1, hbn.2⟩⟩
  rintro v Hd ⟨pc, f, rfl, md, hpc, d3, b5, b6⟩
  obtain ⟨g1, g2, g3, g4⟩ := (dueP_sh (ns := ns) (ms := ns) (e := f) (by omega) (by omega) b5 b6).all (by decide) (by decide)
  refine ⟨Tc.same md, fun He xe Te => ?_⟩
  have h18 := xe.tup (md.tup h17)
  refine tolds ns ns f (fun E Q0 hn hf hj => ?_) (fun y' Hf mf hy' => ?_)
  · rw [d3] at hn hf hj
    exact ⟨_, rfl, t1, ns, rfl, h18, by omega, hn, hf, hj⟩
  · refine ⟨y', _, rfl, hy', g1, g2, g3, g4, ?_⟩
    have hpf := mf.tup (xe.tup hpc)
    refine ⟨_, rfl, _, rfl, _, rfl, t1, t1, pc, ns, ns, f, rfl, mf.tup h18, mf.tup h18, by omega, by omega, hpf, fun y2 Hg mg2 hy2 => ?_⟩
    refine ⟨y2, _, rfl, dueV_dp (mg2.tup hpf) hy2, g1, g2, g3, g4, ?_⟩
    refine ⟨rfl, ?_⟩
    rw [decide_eq_true rfl]
    have xall := (xc.trans (LamX.ExtN.of md)).trans (xe.trans (LamX.ExtN.of (mf.trans mg2)))
    exact q _ (e6.trans (ExN.ofN xall)) (xall.src s6) ((Te.same mf).same mg2)
def sp_law (K : PySem.W.Frag) (cs : CS) : Sp := fun vs H Q E => ∃ (a : Addr) (ns : List Int), vs = [.ref a] ∧ SqL K H a (ns.map V.int) ∧ ns.length ≤ 63 ∧ LamX.Tabs (tbs cs) H ∧ ∀ H', Q (.bl true) H'
theorem ok_law (F : Fun K "law" "law" s_law f fd) (T : Txt P w K mg base cs) (c__law_pool : Cal P w K mg base CX0 1 "_law_pool" ["script", "k"] s__law_pool (sp__law_pool K cs)) (c__law_right : CalG P w K mg base CX0 7 "_law_right" ["source"] s__law_right (sp__law_right K cs)) : FnG P w K mg base CX0 8 f fd ["script"] (sp_law K cs) := by
  refine fnG_of F sc_law (fun vs H Q E h => ?_) (fun cdv A outer s H vs Q E hg hr h => ?_)
  · obtain ⟨a, ns, rfl, _⟩ := h
    rfl
  obtain ⟨a, ns, rfl, hS, hz, hT, q⟩ := h
  refine ⟨_, (PSs.nox (pss_cons (ps_for PassesOwn.never rfl (pi_range1 (by rfl) T.n_range (pa_cons (pe_callB (call_max2 rfl) (by rfl) T.n_max (by decide +kernel) (pa_cons pe_int (pa_cons (pe_callB (call_min2 rfl) (by rfl) T.n_min (by decide +kernel) (pa_cons (pe_callB (lenS K) (by rfl) T.n_len PySem.boot_len (pa_cons (pv 0) pa_nil)) (pa_cons pe_int pa_nil))) pa_nil))) pa_nil)) (pg_name (i := 1) sc_law.nd rfl (Or.inl rfl)) (pss_cons (ps_set (i := 2) sc_law.nd rfl (Or.inl rfl) (pe_cal c__law_pool (hr.mono (by decide)) pass0 (pa_cons (pv 0) (pa_cons (pv 1) pa_nil))))
      (pss_one (ps_for PassesOwn.never rfl (pi_range1 (by rfl) T.n_range (pa_cons pe_int pa_nil)) (pg_name (i := 3) sc_law.nd rfl (Or.inl rfl)) (pss_one (ps_if (pt_not (pt_val (pe_calG c__law_right hg (hr.mono (by decide)) pass0 (pa_cons (pv 2) pa_nil)))) (pss_one (ps_ret pe_bl)) pss_nil))))))
      (pss_one (ps_ret pe_bl)))), ?_⟩
  have hb := maxB2 ((ns.map V.int).length : Nat) (Int.natCast_nonneg _)
  refine ⟨.ref a, rfl, a, _, rfl, .inl hS, _, _, rfl, _, _, rfl, _, rfl, by omega, by omega, for_range (fun i σ H' => (∃ y y2 y3, σ = [some (.ref a), y, y2, y3]) ∧ LamX.ExtN H H' ∧ LamX.Tabs (tbs cs) H') ⟨⟨_, _, _, rfl⟩, LamX.ExtN.refl _, hT⟩ ?_ ?_⟩
  · rintro i σ H1 hi ⟨⟨y, y2, y3, rfl⟩, m1, T1⟩
    refine gN ?_
    dsimp only
    refine ⟨.ref a, rfl, .int (0 + (i : Int)), rfl, a, ns, _, rfl, m1.lst hS, by omega, by omega, fun p H2 np m2 s2 => ?_⟩
    dsimp only
    refine ⟨6, rfl, by decide, by decide, for_range (fun j σ H' => (∃ y3, σ = [some (.ref a), some (.int (0 + (i : Int))), some (.ref p), y3]) ∧ Src H' p ∧ ExN p H2 H' ∧ LamX.Tabs (tbs cs) H') ⟨⟨_, rfl⟩, s2, ExN.refl, T1.same m2⟩ ?_ ?_⟩
    · rintro j σ H3 hj ⟨⟨y3, rfl⟩, s3, e3, T3⟩
      refine ⟨_, rfl, p, rfl, s3, T3, fun H4 e4 s4 T4 => ⟨_, rfl, iteF ?_⟩⟩
      exact ⟨⟨_, rfl⟩, s4, e3.trans e4, T4⟩
    · rintro σ H3 ⟨⟨y3, rfl⟩, s3, e3, T3⟩
      exact ⟨⟨_, _, _, rfl⟩, m1.trans fun b o h hn => e3 b o (ne_of_none h np) hn (m2 b o h), T3⟩
  · rintro σ H1 _
    exact q _
end
theorem law_start {K : PySem.W.Frag} {cs : CS} {H : Hp} (a : Addr) (ns : List Int) (hl : ns.length ≤ 63) (hT : LamX.Tabs (tbs cs) H) (hS : SqL K H a (ns.map V.int)) : sp_law K cs [.ref a] H (fun v _ => v = .bl true) fun _ _ _ => False := ⟨a, ns, rfl, hS, hl, hT, fun _ => rfl⟩
/-! ### what the top has written -/
theorem all_mk {l : PySem.W.OpenLaw} {w : World} {K : PySem.W.Frag} {h : Heap} {mg : Str → Option Value} {fa : Addr} (X : K.In h) (G : h.Ns mainGlobals mg) (hfa : mg "law" = some (.ref fa))
    {od0 an0 : Option Addr} {sl0 : Array (Option Value)} {oc0 kV0 dc0 pm0 cd0 ct0 : Value} {f0 : Addr}
    {od1 an1 : Option Addr} {sl1 : Array (Option Value)} {oc1 kV1 dc1 pm1 cd1 ct1 : Value} {f1 : Addr}
    {od2 an2 : Option Addr} {sl2 : Array (Option Value)} {oc2 kV2 dc2 pm2 cd2 ct2 : Value} {f2 : Addr}
    {od3 an3 : Option Addr} {sl3 : Array (Option Value)} {oc3 kV3 dc3 pm3 cd3 ct3 : Value} {f3 : Addr}
    {od4 an4 : Option Addr} {sl4 : Array (Option Value)} {oc4 kV4 dc4 pm4 cd4 ct4 : Value} {f4 : Addr}
    {od5 an5 : Option Addr} {sl5 : Array (Option Value)} {oc5 kV5 dc5 pm5 cd5 ct5 : Value} {f5 : Addr}
    {od6 an6 : Option Addr} {sl6 : Array (Option Value)} {oc6 kV6 dc6 pm6 cd6 ct6 : Value} {f6 : Addr}
    {od7 an7 : Option Addr} {sl7 : Array (Option Value)} {oc7 kV7 dc7 pm7 cd7 ct7 : Value} {f7 : Addr}
    {od8 an8 : Option Addr} {sl8 : Array (Option Value)} {oc8 kV8 dc8 pm8 cd8 ct8 : Value} {f8 : Addr}
    {od9 an9 : Option Addr} {sl9 : Array (Option Value)} {oc9 kV9 dc9 pm9 cd9 ct9 : Value} {f9 : Addr}
    {od10 an10 : Option Addr} {sl10 : Array (Option Value)} {oc10 kV10 dc10 pm10 cd10 ct10 : Value} {f10 : Addr}
    {od11 an11 : Option Addr} {sl11 : Array (Option Value)} {oc11 kV11 dc11 pm11 cd11 ct11 : Value} {f11 : Addr}
    {od12 an12 : Option Addr} {sl12 : Array (Option Value)} {oc12 kV12 dc12 pm12 cd12 ct12 : Value} {f12 : Addr}
    {od13 an13 : Option Addr} {sl13 : Array (Option Value)} {oc13 kV13 dc13 pm13 cd13 ct13 : Value} {f13 : Addr}
    {od14 an14 : Option Addr} {sl14 : Array (Option Value)} {oc14 kV14 dc14 pm14 cd14 ct14 : Value} {f14 : Addr}
    {od15 an15 : Option Addr} {sl15 : Array (Option Value)} {oc15 kV15 dc15 pm15 cd15 ct15 : Value} {f15 : Addr}
    {od16 an16 : Option Addr} {sl16 : Array (Option Value)} {oc16 kV16 dc16 pm16 cd16 ct16 : Value} {f16 : Addr}
    {od17 an17 : Option Addr} {sl17 : Array (Option Value)} {oc17 kV17 dc17 pm17 cd17 ct17 : Value} {f17 : Addr}
    {od18 an18 : Option Addr} {sl18 : Array (Option Value)} {oc18 kV18 dc18 pm18 cd18 ct18 : Value} {f18 : Addr}
    {od19 an19 : Option Addr} {sl19 : Array (Option Value)} {oc19 kV19 dc19 pm19 cd19 ct19 : Value} {f19 : Addr}
    {od20 an20 : Option Addr} {sl20 : Array (Option Value)} {oc20 kV20 dc20 pm20 cd20 ct20 : Value} {f20 : Addr}
    {od21 an21 : Option Addr} {sl21 : Array (Option Value)} {oc21 kV21 dc21 pm21 cd21 ct21 : Value} {f21 : Addr}
    {od22 an22 : Option Addr} {sl22 : Array (Option Value)} {oc22 kV22 dc22 pm22 ct22 : Value} {f22 : Addr}
    {od23 an23 : Option Addr} {sl23 : Array (Option Value)} {oc23 kV23 dc23 pm23 cd23 ct23 : Value} {f23 : Addr}
    {C_Refused C_BadSize C_BadCoat C_BadJoin : Addr}
    {cc22 PP22 : Addr} {ck22 : Value} {co22 : Option Addr} {vs22 : Array Value} {cq22 : Array (Option Value)}
    {ts : List Addr} (hts : ∀ P ∈ ts, h.get? P = some { cls := .none, data := .fields #[] })
    {nm_Refused q_Refused : Str} {N_Refused : Addr} {bs_Refused bm_Refused : List Value} {sn_Refused : List Str} {su_Refused : List Value} {ab_Refused : Bool} {co_Refused : Option Bool} {dd_Refused : Option Addr} {m0_Refused m1_Refused m2_Refused m3_Refused m5_Refused : Option Value}
    {nm_BadSize q_BadSize : Str} {N_BadSize : Addr} {bs_BadSize bm_BadSize : List Value} {sn_BadSize : List Str} {su_BadSize : List Value} {ab_BadSize : Bool} {co_BadSize : Option Bool} {dd_BadSize : Option Addr} {m0_BadSize m1_BadSize m2_BadSize m3_BadSize m5_BadSize : Option Value}
    {nm_BadCoat q_BadCoat : Str} {N_BadCoat : Addr} {bs_BadCoat bm_BadCoat : List Value} {sn_BadCoat : List Str} {su_BadCoat : List Value} {ab_BadCoat : Bool} {co_BadCoat : Option Bool} {dd_BadCoat : Option Addr} {m0_BadCoat m1_BadCoat m2_BadCoat m3_BadCoat m5_BadCoat : Option Value}
    {nm_BadJoin q_BadJoin : Str} {N_BadJoin : Addr} {bs_BadJoin bm_BadJoin : List Value} {sn_BadJoin : List Str} {su_BadJoin : List Value} {ab_BadJoin : Bool} {co_BadJoin : Option Bool} {dd_BadJoin : Option Addr} {m0_BadJoin m1_BadJoin m2_BadJoin m3_BadJoin m5_BadJoin : Option Value}
    
    (A_Refused : PySem.W.nsIn K mainGlobals "Refused" = some (some (.ref C_Refused)))
    (A_BadSize : PySem.W.nsIn K mainGlobals "BadSize" = some (some (.ref C_BadSize)))
    (A_BadCoat : PySem.W.nsIn K mainGlobals "BadCoat" = some (some (.ref C_BadCoat)))
    (A_BadJoin : PySem.W.nsIn K mainGlobals "BadJoin" = some (some (.ref C_BadJoin)))
    (a0 : PySem.W.findIn K (.ref C_Refused) "__init__" = some (some (.ref f0)))
    (t0 : PySem.W.typeIn K (.ref f0) = some (.type "function"))
    (l0 : K.lookup f0 = some ⟨oc0, od0, .func (PySem.W.fnOf "__init__" "Refused.__init__" (defArgs s_Refused_init) (defBody s_Refused_init) (defScope s_Refused_init) .none kV0 dc0 pm0 an0 cd0 ct0), sl0⟩)
    (c0 : PySem.W.codeIn K cd0 "Refused.__init__" = true)
    (k0 : PySem.W.keepIn K (.ref f0) = true)
    (a1 : PySem.W.nsIn K mainGlobals "check_row" = some (some (.ref f1)))
    (l1 : K.lookup f1 = some ⟨oc1, od1, .func (PySem.W.fnOf "check_row" "check_row" (defArgs s_check_row) (defBody s_check_row) (defScope s_check_row) .none kV1 dc1 pm1 an1 cd1 ct1), sl1⟩)
    (c1 : PySem.W.codeIn K cd1 "check_row" = true)
    (k1 : PySem.W.keepIn K (.ref f1) = true)
    (a2 : PySem.W.nsIn K mainGlobals "struck" = some (some (.ref f2)))
    (l2 : K.lookup f2 = some ⟨oc2, od2, .func (PySem.W.fnOf "struck" "struck" (defArgs s_struck) (defBody s_struck) (defScope s_struck) .none kV2 dc2 pm2 an2 cd2 ct2), sl2⟩)
    (c2 : PySem.W.codeIn K cd2 "struck" = true)
    (k2 : PySem.W.keepIn K (.ref f2) = true)
    (a3 : PySem.W.nsIn K mainGlobals "bends" = some (some (.ref f3)))
    (l3 : K.lookup f3 = some ⟨oc3, od3, .func (PySem.W.fnOf "bends" "bends" (defArgs s_bends) (defBody s_bends) (defScope s_bends) .none kV3 dc3 pm3 an3 cd3 ct3), sl3⟩)
    (c3 : PySem.W.codeIn K cd3 "bends" = true)
    (k3 : PySem.W.keepIn K (.ref f3) = true)
    (a4 : PySem.W.nsIn K mainGlobals "run_on" = some (some (.ref f4)))
    (l4 : K.lookup f4 = some ⟨oc4, od4, .func (PySem.W.fnOf "run_on" "run_on" (defArgs s_run_on) (defBody s_run_on) (defScope s_run_on) .none kV4 dc4 pm4 an4 cd4 ct4), sl4⟩)
    (c4 : PySem.W.codeIn K cd4 "run_on" = true)
    (k4 : PySem.W.keepIn K (.ref f4) = true)
    (a5 : PySem.W.nsIn K mainGlobals "gap_of" = some (some (.ref f5)))
    (l5 : K.lookup f5 = some ⟨oc5, od5, .func (PySem.W.fnOf "gap_of" "gap_of" (defArgs s_gap_of) (defBody s_gap_of) (defScope s_gap_of) .none kV5 dc5 pm5 an5 cd5 ct5), sl5⟩)
    (c5 : PySem.W.codeIn K cd5 "gap_of" = true)
    (k5 : PySem.W.keepIn K (.ref f5) = true)
    (a6 : PySem.W.nsIn K mainGlobals "tail_and_core" = some (some (.ref f6)))
    (l6 : K.lookup f6 = some ⟨oc6, od6, .func (PySem.W.fnOf "tail_and_core" "tail_and_core" (defArgs s_tail_and_core) (defBody s_tail_and_core) (defScope s_tail_and_core) .none kV6 dc6 pm6 an6 cd6 ct6), sl6⟩)
    (c6 : PySem.W.codeIn K cd6 "tail_and_core" = true)
    (k6 : PySem.W.keepIn K (.ref f6) = true)
    (a7 : PySem.W.nsIn K mainGlobals "rest" = some (some (.ref f7)))
    (l7 : K.lookup f7 = some ⟨oc7, od7, .func (PySem.W.fnOf "rest" "rest" (defArgs s_rest) (defBody s_rest) (defScope s_rest) .none kV7 dc7 pm7 an7 cd7 ct7), sl7⟩)
    (c7 : PySem.W.codeIn K cd7 "rest" = true)
    (k7 : PySem.W.keepIn K (.ref f7) = true)
    (a8 : PySem.W.nsIn K mainGlobals "is_straight" = some (some (.ref f8)))
    (l8 : K.lookup f8 = some ⟨oc8, od8, .func (PySem.W.fnOf "is_straight" "is_straight" (defArgs s_is_straight) (defBody s_is_straight) (defScope s_is_straight) .none kV8 dc8 pm8 an8 cd8 ct8), sl8⟩)
    (c8 : PySem.W.codeIn K cd8 "is_straight" = true)
    (k8 : PySem.W.keepIn K (.ref f8) = true)
    (a9 : PySem.W.nsIn K mainGlobals "strikes" = some (some (.ref f9)))
    (l9 : K.lookup f9 = some ⟨oc9, od9, .func (PySem.W.fnOf "strikes" "strikes" (defArgs s_strikes) (defBody s_strikes) (defScope s_strikes) .none kV9 dc9 pm9 an9 cd9 ct9), sl9⟩)
    (c9 : PySem.W.codeIn K cd9 "strikes" = true)
    (k9 : PySem.W.keepIn K (.ref f9) = true)
    (a10 : PySem.W.nsIn K mainGlobals "turns" = some (some (.ref f10)))
    (l10 : K.lookup f10 = some ⟨oc10, od10, .func (PySem.W.fnOf "turns" "turns" (defArgs s_turns) (defBody s_turns) (defScope s_turns) .none kV10 dc10 pm10 an10 cd10 ct10), sl10⟩)
    (c10 : PySem.W.codeIn K cd10 "turns" = true)
    (k10 : PySem.W.keepIn K (.ref f10) = true)
    (a11 : PySem.W.nsIn K mainGlobals "back" = some (some (.ref f11)))
    (l11 : K.lookup f11 = some ⟨oc11, od11, .func (PySem.W.fnOf "back" "back" (defArgs s_back) (defBody s_back) (defScope s_back) .none kV11 dc11 pm11 an11 cd11 ct11), sl11⟩)
    (c11 : PySem.W.codeIn K cd11 "back" = true)
    (k11 : PySem.W.keepIn K (.ref f11) = true)
    (a12 : PySem.W.nsIn K mainGlobals "joined" = some (some (.ref f12)))
    (l12 : K.lookup f12 = some ⟨oc12, od12, .func (PySem.W.fnOf "joined" "joined" (defArgs s_joined) (defBody s_joined) (defScope s_joined) .none kV12 dc12 pm12 an12 cd12 ct12), sl12⟩)
    (c12 : PySem.W.codeIn K cd12 "joined" = true)
    (k12 : PySem.W.keepIn K (.ref f12) = true)
    (a13 : PySem.W.nsIn K mainGlobals "gap" = some (some (.ref f13)))
    (l13 : K.lookup f13 = some ⟨oc13, od13, .func (PySem.W.fnOf "gap" "gap" (defArgs s_gap) (defBody s_gap) (defScope s_gap) .none kV13 dc13 pm13 an13 cd13 ct13), sl13⟩)
    (c13 : PySem.W.codeIn K cd13 "gap" = true)
    (k13 : PySem.W.keepIn K (.ref f13) = true)
    (a14 : PySem.W.nsIn K mainGlobals "core" = some (some (.ref f14)))
    (l14 : K.lookup f14 = some ⟨oc14, od14, .func (PySem.W.fnOf "core" "core" (defArgs s_core) (defBody s_core) (defScope s_core) .none kV14 dc14 pm14 an14 cd14 ct14), sl14⟩)
    (c14 : PySem.W.codeIn K cd14 "core" = true)
    (k14 : PySem.W.keepIn K (.ref f14) = true)
    (a15 : PySem.W.nsIn K mainGlobals "_law_pool" = some (some (.ref f15)))
    (l15 : K.lookup f15 = some ⟨oc15, od15, .func (PySem.W.fnOf "_law_pool" "_law_pool" (defArgs s__law_pool) (defBody s__law_pool) (defScope s__law_pool) .none kV15 dc15 pm15 an15 cd15 ct15), sl15⟩)
    (c15 : PySem.W.codeIn K cd15 "_law_pool" = true)
    (k15 : PySem.W.keepIn K (.ref f15) = true)
    (a16 : PySem.W.nsIn K mainGlobals "_law_take" = some (some (.ref f16)))
    (l16 : K.lookup f16 = some ⟨oc16, od16, .func (PySem.W.fnOf "_law_take" "_law_take" (defArgs s__law_take) (defBody s__law_take) (defScope s__law_take) .none kV16 dc16 pm16 an16 cd16 ct16), sl16⟩)
    (c16 : PySem.W.codeIn K cd16 "_law_take" = true)
    (k16 : PySem.W.keepIn K (.ref f16) = true)
    (a17 : PySem.W.nsIn K mainGlobals "_law_one" = some (some (.ref f17)))
    (l17 : K.lookup f17 = some ⟨oc17, od17, .func (PySem.W.fnOf "_law_one" "_law_one" (defArgs s__law_one) (defBody s__law_one) (defScope s__law_one) .none kV17 dc17 pm17 an17 cd17 ct17), sl17⟩)
    (c17 : PySem.W.codeIn K cd17 "_law_one" = true)
    (k17 : PySem.W.keepIn K (.ref f17) = true)
    (a18 : PySem.W.nsIn K mainGlobals "_law_row" = some (some (.ref f18)))
    (l18 : K.lookup f18 = some ⟨oc18, od18, .func (PySem.W.fnOf "_law_row" "_law_row" (defArgs s__law_row) (defBody s__law_row) (defScope s__law_row) .none kV18 dc18 pm18 an18 cd18 ct18), sl18⟩)
    (c18 : PySem.W.codeIn K cd18 "_law_row" = true)
    (k18 : PySem.W.keepIn K (.ref f18) = true)
    (a19 : PySem.W.nsIn K mainGlobals "_law_fault" = some (some (.ref f19)))
    (l19 : K.lookup f19 = some ⟨oc19, od19, .func (PySem.W.fnOf "_law_fault" "_law_fault" (defArgs s__law_fault) (defBody s__law_fault) (defScope s__law_fault) .none kV19 dc19 pm19 an19 cd19 ct19), sl19⟩)
    (c19 : PySem.W.codeIn K cd19 "_law_fault" = true)
    (k19 : PySem.W.keepIn K (.ref f19) = true)
    (a20 : PySem.W.nsIn K mainGlobals "_law_told" = some (some (.ref f20)))
    (l20 : K.lookup f20 = some ⟨oc20, od20, .func (PySem.W.fnOf "_law_told" "_law_told" (defArgs s__law_told) (defBody s__law_told) (defScope s__law_told) .none kV20 dc20 pm20 an20 cd20 ct20), sl20⟩)
    (c20 : PySem.W.codeIn K cd20 "_law_told" = true)
    (k20 : PySem.W.keepIn K (.ref f20) = true)
    (a21 : PySem.W.nsIn K mainGlobals "_law_due" = some (some (.ref f21)))
    (l21 : K.lookup f21 = some ⟨oc21, od21, .func (PySem.W.fnOf "_law_due" "_law_due" (defArgs s__law_due) (defBody s__law_due) (defScope s__law_due) .none kV21 dc21 pm21 an21 cd21 ct21), sl21⟩)
    (c21 : PySem.W.codeIn K cd21 "_law_due" = true)
    (k21 : PySem.W.keepIn K (.ref f21) = true)
    (a22 : PySem.W.nsIn K mainGlobals "_law_right" = some (some (.ref f22)))
    (l22 : K.lookup f22 = some ⟨oc22, od22, .func (PySem.W.fnOf "_law_right" "_law_right" (defArgs s__law_right) (defBody s__law_right) (defScope s__law_right) .none kV22 dc22 pm22 an22 (.ref cc22) ct22), sl22⟩)
    (c22 : PySem.W.codeIn K (.ref cc22) "_law_right" = true)
    (k22 : PySem.W.keepIn K (.ref f22) = true)
    (a23 : PySem.W.nsIn K mainGlobals "law" = some (some (.ref f23)))
    (l23 : K.lookup f23 = some ⟨oc23, od23, .func (PySem.W.fnOf "law" "law" (defArgs s_law) (defBody s_law) (defScope s_law) .none kV23 dc23 pm23 an23 cd23 ct23), sl23⟩)
    (c23 : PySem.W.codeIn K cd23 "law" = true)
    (k23 : PySem.W.keepIn K (.ref f23) = true)
    (E1_Refused : K.lookup C_Refused = some (excClassObj nm_Refused q_Refused C_Refused N_Refused bs_Refused bm_Refused true sn_Refused su_Refused ab_Refused co_Refused dd_Refused m0_Refused m1_Refused m2_Refused m3_Refused m5_Refused "ValueError.__new__"))
    (E4_Refused : PySem.W.subIn K (.ref C_Refused) (.type "BaseException") = some true)
    (E5_Refused : PySem.W.typeIn K (.ref C_Refused) = some (.type "type"))
    (E9_Refused : PySem.W.hasDictIn K C_Refused = true)
    (E1_BadSize : K.lookup C_BadSize = some (excClassObj nm_BadSize q_BadSize C_BadSize N_BadSize bs_BadSize bm_BadSize true sn_BadSize su_BadSize ab_BadSize co_BadSize dd_BadSize m0_BadSize m1_BadSize m2_BadSize m3_BadSize m5_BadSize "ValueError.__new__"))
    (E4_BadSize : PySem.W.subIn K (.ref C_BadSize) (.type "BaseException") = some true)
    (E5_BadSize : PySem.W.typeIn K (.ref C_BadSize) = some (.type "type"))
    (E9_BadSize : PySem.W.hasDictIn K C_BadSize = true)
    (E2_BadSize : HandSPX.refsVE bm_BadSize = true)
    (E3_BadSize : PySem.W.findIn K (.ref C_BadSize) "__setattr__" = some (some (.builtin "object.__setattr__")))
    (E6_BadSize : PySem.W.keepIn K (.ref C_BadSize) = true)
    (E7_BadSize : PySem.W.findIn K (.ref C_BadSize) "__getattribute__" = some (some (.builtin "BaseException.__getattribute__")))
    (E8_BadSize : PySem.W.findIn K (.ref C_BadSize) "__getattr__" = some none)
    (EA_BadSize : (PySem.W.clsIn K C_BadSize).isSome = true)
    (EB_BadSize : PySem.W.findIn K (.ref C_BadSize) "__class__" = some (some (.builtin "object.__class__")))
    (EC_BadSize : PySem.W.mroIn K C_BadSize (.type "object") = some true)
    (ED_BadSize : PySem.W.findIn K (.ref C_BadSize) "what" = some none)
    (EI_BadSize : PySem.W.findIn K (.ref C_BadSize) "__init__" = some (some (.ref f0)))
    (E1_BadCoat : K.lookup C_BadCoat = some (excClassObj nm_BadCoat q_BadCoat C_BadCoat N_BadCoat bs_BadCoat bm_BadCoat true sn_BadCoat su_BadCoat ab_BadCoat co_BadCoat dd_BadCoat m0_BadCoat m1_BadCoat m2_BadCoat m3_BadCoat m5_BadCoat "ValueError.__new__"))
    (E4_BadCoat : PySem.W.subIn K (.ref C_BadCoat) (.type "BaseException") = some true)
    (E5_BadCoat : PySem.W.typeIn K (.ref C_BadCoat) = some (.type "type"))
    (E9_BadCoat : PySem.W.hasDictIn K C_BadCoat = true)
    (E2_BadCoat : HandSPX.refsVE bm_BadCoat = true)
    (E3_BadCoat : PySem.W.findIn K (.ref C_BadCoat) "__setattr__" = some (some (.builtin "object.__setattr__")))
    (E6_BadCoat : PySem.W.keepIn K (.ref C_BadCoat) = true)
    (E7_BadCoat : PySem.W.findIn K (.ref C_BadCoat) "__getattribute__" = some (some (.builtin "BaseException.__getattribute__")))
    (E8_BadCoat : PySem.W.findIn K (.ref C_BadCoat) "__getattr__" = some none)
    (EA_BadCoat : (PySem.W.clsIn K C_BadCoat).isSome = true)
    (EB_BadCoat : PySem.W.findIn K (.ref C_BadCoat) "__class__" = some (some (.builtin "object.__class__")))
    (EC_BadCoat : PySem.W.mroIn K C_BadCoat (.type "object") = some true)
    (ED_BadCoat : PySem.W.findIn K (.ref C_BadCoat) "what" = some none)
    (EI_BadCoat : PySem.W.findIn K (.ref C_BadCoat) "__init__" = some (some (.ref f0)))
    (E1_BadJoin : K.lookup C_BadJoin = some (excClassObj nm_BadJoin q_BadJoin C_BadJoin N_BadJoin bs_BadJoin bm_BadJoin true sn_BadJoin su_BadJoin ab_BadJoin co_BadJoin dd_BadJoin m0_BadJoin m1_BadJoin m2_BadJoin m3_BadJoin m5_BadJoin "ValueError.__new__"))
    (E4_BadJoin : PySem.W.subIn K (.ref C_BadJoin) (.type "BaseException") = some true)
    (E5_BadJoin : PySem.W.typeIn K (.ref C_BadJoin) = some (.type "type"))
    (E9_BadJoin : PySem.W.hasDictIn K C_BadJoin = true)
    (E2_BadJoin : HandSPX.refsVE bm_BadJoin = true)
    (E3_BadJoin : PySem.W.findIn K (.ref C_BadJoin) "__setattr__" = some (some (.builtin "object.__setattr__")))
    (E6_BadJoin : PySem.W.keepIn K (.ref C_BadJoin) = true)
    (E7_BadJoin : PySem.W.findIn K (.ref C_BadJoin) "__getattribute__" = some (some (.builtin "BaseException.__getattribute__")))
    (E8_BadJoin : PySem.W.findIn K (.ref C_BadJoin) "__getattr__" = some none)
    (EA_BadJoin : (PySem.W.clsIn K C_BadJoin).isSome = true)
    (EB_BadJoin : PySem.W.findIn K (.ref C_BadJoin) "__class__" = some (some (.builtin "object.__class__")))
    (EC_BadJoin : PySem.W.mroIn K C_BadJoin (.type "object") = some true)
    (ED_BadJoin : PySem.W.findIn K (.ref C_BadJoin) "what" = some none)
    (EI_BadJoin : PySem.W.findIn K (.ref C_BadJoin) "__init__" = some (some (.ref f0)))
    (EG : PySem.W.specialIn K (.builtin "object.__class__") "__get__" = some (some (.builtin "getset_descriptor.__get__")))
    (ET : PySem.W.takesIn K (.builtin "object.__class__") = some true)
    (X_BadSize_Refused : PySem.W.exmOne K (.ref C_BadSize) (.ref C_Refused) = some true)
    (X_BadCoat_Refused : PySem.W.exmOne K (.ref C_BadCoat) (.ref C_Refused) = some true)
    (X_BadJoin_Refused : PySem.W.exmOne K (.ref C_BadJoin) (.ref C_Refused) = some true)
    (I_BadSize_BadSize : PySem.W.kitOne K (.ref C_BadSize) (.ref C_BadSize) = some true)
    (I_BadSize_BadCoat : PySem.W.kitOne K (.ref C_BadSize) (.ref C_BadCoat) = some false)
    (I_BadSize_BadJoin : PySem.W.kitOne K (.ref C_BadSize) (.ref C_BadJoin) = some false)
    (I_BadCoat_BadSize : PySem.W.kitOne K (.ref C_BadCoat) (.ref C_BadSize) = some false)
    (I_BadCoat_BadCoat : PySem.W.kitOne K (.ref C_BadCoat) (.ref C_BadCoat) = some true)
    (I_BadCoat_BadJoin : PySem.W.kitOne K (.ref C_BadCoat) (.ref C_BadJoin) = some false)
    (I_BadJoin_BadSize : PySem.W.kitOne K (.ref C_BadJoin) (.ref C_BadSize) = some false)
    (I_BadJoin_BadCoat : PySem.W.kitOne K (.ref C_BadJoin) (.ref C_BadCoat) = some false)
    (I_BadJoin_BadJoin : PySem.W.kitOne K (.ref C_BadJoin) (.ref C_BadJoin) = some true)
    (I_BadSize_tValueError : PySem.W.kitOne K (.ref C_BadSize) (.type "ValueError") = some true)
    (I_BadCoat_tValueError : PySem.W.kitOne K (.ref C_BadCoat) (.type "ValueError") = some true)
    (I_BadJoin_tValueError : PySem.W.kitOne K (.ref C_BadJoin) (.type "ValueError") = some true)
    (z_ValueError : PySem.W.nsIn K mainGlobals "ValueError" = some none)
    (z_enumerate : PySem.W.nsIn K mainGlobals "enumerate" = some none)
    (z_int : PySem.W.nsIn K mainGlobals "int" = some none)
    (z_isinstance : PySem.W.nsIn K mainGlobals "isinstance" = some none)
    (z_len : PySem.W.nsIn K mainGlobals "len" = some none)
    (z_max : PySem.W.nsIn K mainGlobals "max" = some none)
    (z_min : PySem.W.nsIn K mainGlobals "min" = some none)
    (z_range : PySem.W.nsIn K mainGlobals "range" = some none)
    (z_repr : PySem.W.nsIn K mainGlobals "repr" = some none)
    (z_tuple : PySem.W.nsIn K mainGlobals "tuple" = some none)
    (v22 : K.lookup cc22 = some ⟨ck22, co22, .fields vs22, cq22⟩)
    (p22 : vs22[11]? = some (Value.ref PP22))
    (h22 : PySem.W.codeHdIn K cc22 PP22 = true)
    (m22 : PP22 ∈ ts)
    (n22 : K.lookup PP22 = none)
    (y_LAST_COAT : ∃ t, PySem.W.nsIn K mainGlobals "LAST_COAT" = some (some (.int 7 t)))
    (y_MOST_STONES : ∃ t, PySem.W.nsIn K mainGlobals "MOST_STONES" = some (some (.int 200 t))) :
    LawAtG l w K CX0 8 63 "script" mg fa h := by
  have e := hfa.symm.trans (PySem.W.mg_of X G a23)
  cases e
  have T0 : Txn K mg (⟨(), C_Refused, C_BadSize, C_BadCoat, C_BadJoin, f11, f8, f7, f9, f10, cc22, PP22⟩ : CS) := ⟨PySem.W.mg_none_of X G z_ValueError, PySem.W.mg_none_of X G z_enumerate, PySem.W.mg_none_of X G z_int, PySem.W.mg_none_of X G z_isinstance, PySem.W.mg_none_of X G z_len, PySem.W.mg_none_of X G z_max, PySem.W.mg_none_of X G z_min, PySem.W.mg_none_of X G z_range, PySem.W.mg_none_of X G z_repr, PySem.W.mg_none_of X G z_tuple, (let ⟨t, y⟩ := y_LAST_COAT; ⟨t, PySem.W.mg_of X G y⟩), (let ⟨t, y⟩ := y_MOST_STONES; ⟨t, PySem.W.mg_of X G y⟩), PySem.W.mg_of X G A_Refused, PySem.W.mg_of X G A_BadSize, PySem.W.mg_of X G A_BadCoat, PySem.W.mg_of X G A_BadJoin, PySem.W.mg_of X G a11, PySem.W.mg_of X G a8, PySem.W.mg_of X G a7, PySem.W.mg_of X G a9, PySem.W.mg_of X G a10, ⟨⟨⟨_, _, _, _, _, _, _, _, _, _, _, _, _, _, _, E1_BadSize, E2_BadSize⟩, E3_BadSize, E4_BadSize, E5_BadSize, E6_BadSize⟩, ED_BadSize, ⟨E7_BadSize, E8_BadSize, E4_BadSize, E9_BadSize⟩, EA_BadSize, EB_BadSize, EG, ET, EC_BadSize⟩, ⟨⟨⟨_, _, _, _, _, _, _, _, _, _, _, _, _, _, _, E1_BadCoat, E2_BadCoat⟩, E3_BadCoat, E4_BadCoat, E5_BadCoat, E6_BadCoat⟩, ED_BadCoat, ⟨E7_BadCoat, E8_BadCoat, E4_BadCoat, E9_BadCoat⟩, EA_BadCoat, EB_BadCoat, EG, ET, EC_BadCoat⟩, ⟨⟨⟨_, _, _, _, _, _, _, _, _, _, _, _, _, _, _, E1_BadJoin, E2_BadJoin⟩, E3_BadJoin, E4_BadJoin, E5_BadJoin, E6_BadJoin⟩, ED_BadJoin, ⟨E7_BadJoin, E8_BadJoin, E4_BadJoin, E9_BadJoin⟩, EA_BadJoin, EB_BadJoin, EG, ET, EC_BadJoin⟩, X_BadSize_Refused, X_BadCoat_Refused, X_BadJoin_Refused, I_BadSize_BadSize, I_BadSize_BadCoat, I_BadSize_BadJoin, I_BadCoat_BadSize, I_BadCoat_BadCoat, I_BadCoat_BadJoin, I_BadJoin_BadSize, I_BadJoin_BadCoat, I_BadJoin_BadJoin, I_BadSize_tValueError, I_BadCoat_tValueError, I_BadJoin_tValueError⟩
  have F0 := fun_mk (x := "__init__") (qual := "Refused.__init__") (st := s_Refused_init) l0 c0 k0
  have b0 := F0.binds (ps := ["self", "what"]) fun _ _ _ _ _ _ us hl => match us, hl with | [_, _], _ => rfl
  have F1 := fun_mk (x := "check_row") (qual := "check_row") (st := s_check_row) l1 c1 k1
  have b1 := F1.binds (ps := ["row"]) fun _ _ _ _ _ _ us hl => match us, hl with | [_], _ => rfl
  have F2 := fun_mk (x := "struck") (qual := "struck") (st := s_struck) l2 c2 k2
  have b2 := F2.binds (ps := ["stones"]) fun _ _ _ _ _ _ us hl => match us, hl with | [_], _ => rfl
  have F3 := fun_mk (x := "bends") (qual := "bends") (st := s_bends) l3 c3 k3
  have b3 := F3.binds (ps := ["stones"]) fun _ _ _ _ _ _ us hl => match us, hl with | [_], _ => rfl
  have F4 := fun_mk (x := "run_on") (qual := "run_on") (st := s_run_on) l4 c4 k4
  have b4 := F4.binds (ps := ["one", "two"]) fun _ _ _ _ _ _ us hl => match us, hl with | [_, _], _ => rfl
  have F5 := fun_mk (x := "gap_of") (qual := "gap_of") (st := s_gap_of) l5 c5 k5
  have b5 := F5.binds (ps := ["one", "two"]) fun _ _ _ _ _ _ us hl => match us, hl with | [_, _], _ => rfl
  have F6 := fun_mk (x := "tail_and_core") (qual := "tail_and_core") (st := s_tail_and_core) l6 c6 k6
  have b6 := F6.binds (ps := ["row"]) fun _ _ _ _ _ _ us hl => match us, hl with | [_], _ => rfl
  have F7 := fun_mk (x := "rest") (qual := "rest") (st := s_rest) l7 c7 k7
  have b7 := F7.binds (ps := ["row"]) fun _ _ _ _ _ _ us hl => match us, hl with | [_], _ => rfl
  have F8 := fun_mk (x := "is_straight") (qual := "is_straight") (st := s_is_straight) l8 c8 k8
  have b8 := F8.binds (ps := ["row"]) fun _ _ _ _ _ _ us hl => match us, hl with | [_], _ => rfl
  have F9 := fun_mk (x := "strikes") (qual := "strikes") (st := s_strikes) l9 c9 k9
  have b9 := F9.binds (ps := ["row"]) fun _ _ _ _ _ _ us hl => match us, hl with | [_], _ => rfl
  have F10 := fun_mk (x := "turns") (qual := "turns") (st := s_turns) l10 c10 k10
  have b10 := F10.binds (ps := ["row"]) fun _ _ _ _ _ _ us hl => match us, hl with | [_], _ => rfl
  have F11 := fun_mk (x := "back") (qual := "back") (st := s_back) l11 c11 k11
  have b11 := F11.binds (ps := ["row"]) fun _ _ _ _ _ _ us hl => match us, hl with | [_], _ => rfl
  have F12 := fun_mk (x := "joined") (qual := "joined") (st := s_joined) l12 c12 k12
  have b12 := F12.binds (ps := ["one", "two"]) fun _ _ _ _ _ _ us hl => match us, hl with | [_, _], _ => rfl
  have F13 := fun_mk (x := "gap") (qual := "gap") (st := s_gap) l13 c13 k13
  have b13 := F13.binds (ps := ["one", "two"]) fun _ _ _ _ _ _ us hl => match us, hl with | [_, _], _ => rfl
  have F14 := fun_mk (x := "core") (qual := "core") (st := s_core) l14 c14 k14
  have b14 := F14.binds (ps := ["row"]) fun _ _ _ _ _ _ us hl => match us, hl with | [_], _ => rfl
  have F15 := fun_mk (x := "_law_pool") (qual := "_law_pool") (st := s__law_pool) l15 c15 k15
  have b15 := F15.binds (ps := ["script", "k"]) fun _ _ _ _ _ _ us hl => match us, hl with | [_, _], _ => rfl
  have F16 := fun_mk (x := "_law_take") (qual := "_law_take") (st := s__law_take) l16 c16 k16
  have b16 := F16.binds (ps := ["source", "top"]) fun _ _ _ _ _ _ us hl => match us, hl with | [_, _], _ => rfl
  have F17 := fun_mk (x := "_law_one") (qual := "_law_one") (st := s__law_one) l17 c17 k17
  have b17 := F17.binds (ps := ["source", "things"]) fun _ _ _ _ _ _ us hl => match us, hl with | [_, _], _ => rfl
  have F18 := fun_mk (x := "_law_row") (qual := "_law_row") (st := s__law_row) l18 c18 k18
  have b18 := F18.binds (ps := ["source"]) fun _ _ _ _ _ _ us hl => match us, hl with | [_], _ => rfl
  have F19 := fun_mk (x := "_law_fault") (qual := "_law_fault") (st := s__law_fault) l19 c19 k19
  have b19 := F19.binds (ps := ["row"]) fun _ _ _ _ _ _ us hl => match us, hl with | [_], _ => rfl
  have F20 := fun_mk (x := "_law_told") (qual := "_law_told") (st := s__law_told) l20 c20 k20
  have b20 := F20.binds (ps := ["deed"]) fun _ _ _ _ _ _ us hl => match us, hl with | [_], _ => rfl
  have F21 := fun_mk (x := "_law_due") (qual := "_law_due") (st := s__law_due) l21 c21 k21
  have b21 := F21.binds (ps := ["one", "two", "ends"]) fun _ _ _ _ _ _ us hl => match us, hl with | [_, _, _], _ => rfl
  have FC22 := funC_mk (x := "_law_right") (qual := "_law_right") (st := s__law_right) l22 c22 k22
  have F22 := FC22.fn
  have b22 := F22.binds (ps := ["source"]) fun _ _ _ _ _ _ us hl => match us, hl with | [_], _ => rfl
  have F23 := fun_mk (x := "law") (qual := "law") (st := s_law) l23 c23 k23
  refine ⟨PySem.W.fnOf "law" "law" (defArgs s_law) (defBody s_law) (defScope s_law) .none kV23 dc23 pm23 an23 cd23 ct23, [(cc22, PP22)], sp_law K (⟨(), C_Refused, C_BadSize, C_BadCoat, C_BadJoin, f11, f8, f7, f9, f10, cc22, PP22⟩ : CS), (List.forall_mem_cons.mpr ⟨hts _ m22, (fun _ h => nomatch h)⟩), (List.forall_mem_cons.mpr ⟨n22, (fun _ h => nomatch h)⟩), (List.forall_mem_cons.mpr ⟨PySem.W.codeHd_of_K X h22, (fun _ h => nomatch h)⟩), fun s v => .of_eq rfl, fun H a ns hl hT hS => law_start a ns hl ?_ hS, fun base _ _ hTB => ?_⟩
  · intro p hp
    unfold tbs at hp
    simp only [List.mem_cons, List.not_mem_nil, or_false] at hp
    subst hp
    · exact LamX.TabS.nil (hT (cc22, PP22) (by simp only [List.mem_cons, true_or, or_true]))
  have T : Txt l.prog w K mg base (⟨(), C_Refused, C_BadSize, C_BadCoat, C_BadJoin, f11, f8, f7, f9, f10, cc22, PP22⟩ : CS) := ⟨T0, trivial, ⟨T0.gm_BadSize, T0.xc_BadSize, _, _, EI_BadSize, t0, ok_Refused_init F0 T0, b0⟩, ⟨T0.gm_BadCoat, T0.xc_BadCoat, _, _, EI_BadCoat, t0, ok_Refused_init F0 T0, b0⟩, ⟨T0.gm_BadJoin, T0.xc_BadJoin, _, _, EI_BadJoin, t0, ok_Refused_init F0 T0, b0⟩, hTB (cc22, PP22) (by simp only [List.mem_cons, true_or, or_true])⟩
  have c_check_row : Cal l.prog w K mg base (L2.CX l.prog w) 3 "check_row" ["row"] s_check_row (sp_check_row K (⟨(), C_Refused, C_BadSize, C_BadCoat, C_BadJoin, f11, f8, f7, f9, f10, cc22, PP22⟩ : CS)) := ⟨_, _, ok_check_row F1 T , F1, PySem.W.mg_of X G a1, b1⟩
  have c_struck : Cal l.prog w K mg base CX0 1 "struck" ["stones"] s_struck (sp_struck K (⟨(), C_Refused, C_BadSize, C_BadCoat, C_BadJoin, f11, f8, f7, f9, f10, cc22, PP22⟩ : CS)) := ⟨_, _, ok_struck F2 T , F2, PySem.W.mg_of X G a2, b2⟩
  have c_bends : Cal l.prog w K mg base CX0 1 "bends" ["stones"] s_bends (sp_bends K (⟨(), C_Refused, C_BadSize, C_BadCoat, C_BadJoin, f11, f8, f7, f9, f10, cc22, PP22⟩ : CS)) := ⟨_, _, ok_bends F3 T , F3, PySem.W.mg_of X G a3, b3⟩
  have c_run_on : Cal l.prog w K mg base CX0 2 "run_on" ["one", "two"] s_run_on (sp_run_on K (⟨(), C_Refused, C_BadSize, C_BadCoat, C_BadJoin, f11, f8, f7, f9, f10, cc22, PP22⟩ : CS)) := ⟨_, _, ok_run_on F4 T c_struck, F4, PySem.W.mg_of X G a4, b4⟩
  have c_gap_of : Cal l.prog w K mg base CX0 3 "gap_of" ["one", "two"] s_gap_of (sp_gap_of K (⟨(), C_Refused, C_BadSize, C_BadCoat, C_BadJoin, f11, f8, f7, f9, f10, cc22, PP22⟩ : CS)) := ⟨_, _, ok_gap_of F5 T c_run_on, F5, PySem.W.mg_of X G a5, b5⟩
  have c_tail_and_core : Cal l.prog w K mg base CX0 2 "tail_and_core" ["row"] s_tail_and_core (sp_tail_and_core K (⟨(), C_Refused, C_BadSize, C_BadCoat, C_BadJoin, f11, f8, f7, f9, f10, cc22, PP22⟩ : CS)) := ⟨_, _, ok_tail_and_core F6 T c_struck, F6, PySem.W.mg_of X G a6, b6⟩
  have c_rest : Cal l.prog w K mg base (L2.CX l.prog w) 4 "rest" ["row"] s_rest (sp_rest K (⟨(), C_Refused, C_BadSize, C_BadCoat, C_BadJoin, f11, f8, f7, f9, f10, cc22, PP22⟩ : CS)) := ⟨_, _, ok_rest F7 T c_check_row c_struck, F7, PySem.W.mg_of X G a7, b7⟩
  have c_is_straight : Cal l.prog w K mg base (L2.CX l.prog w) 4 "is_straight" ["row"] s_is_straight (sp_is_straight K (⟨(), C_Refused, C_BadSize, C_BadCoat, C_BadJoin, f11, f8, f7, f9, f10, cc22, PP22⟩ : CS)) := ⟨_, _, ok_is_straight F8 T c_check_row c_bends, F8, PySem.W.mg_of X G a8, b8⟩
  have c_strikes : Cal l.prog w K mg base (L2.CX l.prog w) 4 "strikes" ["row"] s_strikes (sp_strikes K (⟨(), C_Refused, C_BadSize, C_BadCoat, C_BadJoin, f11, f8, f7, f9, f10, cc22, PP22⟩ : CS)) := ⟨_, _, ok_strikes F9 T c_check_row c_struck, F9, PySem.W.mg_of X G a9, b9⟩
  have c_turns : Cal l.prog w K mg base (L2.CX l.prog w) 4 "turns" ["row"] s_turns (sp_turns K (⟨(), C_Refused, C_BadSize, C_BadCoat, C_BadJoin, f11, f8, f7, f9, f10, cc22, PP22⟩ : CS)) := ⟨_, _, ok_turns F10 T c_check_row c_bends, F10, PySem.W.mg_of X G a10, b10⟩
  have c_back : Cal l.prog w K mg base (L2.CX l.prog w) 4 "back" ["row"] s_back (sp_back K (⟨(), C_Refused, C_BadSize, C_BadCoat, C_BadJoin, f11, f8, f7, f9, f10, cc22, PP22⟩ : CS)) := ⟨_, _, ok_back F11 T c_check_row, F11, PySem.W.mg_of X G a11, b11⟩
  have c_joined : Cal l.prog w K mg base (L2.CX l.prog w) 4 "joined" ["one", "two"] s_joined (sp_joined K (⟨(), C_Refused, C_BadSize, C_BadCoat, C_BadJoin, f11, f8, f7, f9, f10, cc22, PP22⟩ : CS)) := ⟨_, _, ok_joined F12 T c_check_row c_run_on, F12, PySem.W.mg_of X G a12, b12⟩
  have c_gap : Cal l.prog w K mg base (L2.CX l.prog w) 4 "gap" ["one", "two"] s_gap (sp_gap K (⟨(), C_Refused, C_BadSize, C_BadCoat, C_BadJoin, f11, f8, f7, f9, f10, cc22, PP22⟩ : CS)) := ⟨_, _, ok_gap F13 T c_check_row c_gap_of, F13, PySem.W.mg_of X G a13, b13⟩
  have c_core : Cal l.prog w K mg base (L2.CX l.prog w) 4 "core" ["row"] s_core (sp_core K (⟨(), C_Refused, C_BadSize, C_BadCoat, C_BadJoin, f11, f8, f7, f9, f10, cc22, PP22⟩ : CS)) := ⟨_, _, ok_core F14 T c_check_row c_tail_and_core, F14, PySem.W.mg_of X G a14, b14⟩
  have c__law_pool : Cal l.prog w K mg base CX0 1 "_law_pool" ["script", "k"] s__law_pool (sp__law_pool K (⟨(), C_Refused, C_BadSize, C_BadCoat, C_BadJoin, f11, f8, f7, f9, f10, cc22, PP22⟩ : CS)) := ⟨_, _, ok__law_pool F15 T , F15, PySem.W.mg_of X G a15, b15⟩
  have c__law_take : Cal l.prog w K mg base CX0 1 "_law_take" ["source", "top"] s__law_take (sp__law_take K (⟨(), C_Refused, C_BadSize, C_BadCoat, C_BadJoin, f11, f8, f7, f9, f10, cc22, PP22⟩ : CS)) := ⟨_, _, ok__law_take F16 T , F16, PySem.W.mg_of X G a16, b16⟩
  have c__law_one : Cal l.prog w K mg base CX0 2 "_law_one" ["source", "things"] s__law_one (sp__law_one K (⟨(), C_Refused, C_BadSize, C_BadCoat, C_BadJoin, f11, f8, f7, f9, f10, cc22, PP22⟩ : CS)) := ⟨_, _, ok__law_one F17 T c__law_take, F17, PySem.W.mg_of X G a17, b17⟩
  have c__law_row : Cal l.prog w K mg base CX0 3 "_law_row" ["source"] s__law_row (sp__law_row K (⟨(), C_Refused, C_BadSize, C_BadCoat, C_BadJoin, f11, f8, f7, f9, f10, cc22, PP22⟩ : CS)) := ⟨_, _, ok__law_row F18 T c__law_take c__law_one, F18, PySem.W.mg_of X G a18, b18⟩
  have c__law_fault : Cal l.prog w K mg base CX0 1 "_law_fault" ["row"] s__law_fault (sp__law_fault K (⟨(), C_Refused, C_BadSize, C_BadCoat, C_BadJoin, f11, f8, f7, f9, f10, cc22, PP22⟩ : CS)) := ⟨_, _, ok__law_fault F19 T , F19, PySem.W.mg_of X G a19, b19⟩
  have c__law_told : CalL l.prog w K mg base 1 "_law_told" s__law_told ["deed", "e", "kinds"] "deed" (TT__law_told K (⟨(), C_Refused, C_BadSize, C_BadCoat, C_BadJoin, f11, f8, f7, f9, f10, cc22, PP22⟩ : CS)) := ⟨⟨_, _, F20, PySem.W.mg_of X G a20, b20⟩, sc__law_told, fun A stk g cdg q => giv__law_told T  A stk g cdg q⟩
  have c__law_due : Cal l.prog w K mg base CX0 2 "_law_due" ["one", "two", "ends"] s__law_due (sp__law_due K (⟨(), C_Refused, C_BadSize, C_BadCoat, C_BadJoin, f11, f8, f7, f9, f10, cc22, PP22⟩ : CS)) := ⟨_, _, ok__law_due F21 T c__law_fault, F21, PySem.W.mg_of X G a21, b21⟩
  have c__law_right : CalG l.prog w K mg base CX0 7 "_law_right" ["source"] s__law_right (sp__law_right K (⟨(), C_Refused, C_BadSize, C_BadCoat, C_BadJoin, f11, f8, f7, f9, f10, cc22, PP22⟩ : CS)) := ⟨_, _, ok__law_right FC22 T c_rest c_is_straight c_strikes c_turns c_back c_joined c_gap c_core c__law_take c__law_one c__law_row c__law_fault c__law_told c__law_due, F22, PySem.W.mg_of X G a22, b22⟩
  have zz := ok_law F23 T c__law_pool c__law_right
  exact zz
end K
open PySem PySem.W PyProof.Rows
set_option maxHeartbeats 0 in
theorem PySem.Challenge.cw_betweencoats_k11_refusals_of_rows_holds : PySem.Challenge.rw_betweencoats_k11_refusals_of_rows.Holds := by
  w_on; o_law; k_head; (case hw => w_witness2)
  k_fill
  refine Bw.walk_ofTG (l := PySem.Challenge.rw_betweencoats_k11_refusals_of_rows) (n := 63) (k := 8) (x := "script") (CX := fun _ => L2.CX0) rfl (by decide) rfl ⟨rfl, by decide, by decide⟩ (fun w h Y => PySem.W.km_in_of Y) ?F (fun _ _ _ _ _ h => h)
  case F =>
    intro w mg fa h Y KX G hmg
    refine' K.all_mk KX G hmg (PySem.W.km_tabs_of Y) ?A_Refused ?A_BadSize ?A_BadCoat ?A_BadJoin ?a0 ?t0 ?l0 ?c0 ?k0 ?a1 ?l1 ?c1 ?k1 ?a2 ?l2 ?c2 ?k2 ?a3 ?l3 ?c3 ?k3 ?a4 ?l4 ?c4 ?k4 ?a5 ?l5 ?c5 ?k5 ?a6 ?l6 ?c6 ?k6 ?a7 ?l7 ?c7 ?k7 ?a8 ?l8 ?c8 ?k8 ?a9 ?l9 ?c9 ?k9 ?a10 ?l10 ?c10 ?k10 ?a11 ?l11 ?c11 ?k11 ?a12 ?l12 ?c12 ?k12 ?a13 ?l13 ?c13 ?k13 ?a14 ?l14 ?c14 ?k14 ?a15 ?l15 ?c15 ?k15 ?a16 ?l16 ?c16 ?k16 ?a17 ?l17 ?c17 ?k17 ?a18 ?l18 ?c18 ?k18 ?a19 ?l19 ?c19 ?k19 ?a20 ?l20 ?c20 ?k20 ?a21 ?l21 ?c21 ?k21 ?a22 ?l22 ?c22 ?k22 ?a23 ?l23 ?c23 ?k23 ?E1_Refused ?E4_Refused ?E5_Refused ?E9_Refused ?E1_BadSize ?E4_BadSize ?E5_BadSize ?E9_BadSize ?E2_BadSize ?E3_BadSize ?E6_BadSize ?E7_BadSize ?E8_BadSize ?EA_BadSize ?EB_BadSize ?EC_BadSize ?ED_BadSize ?EI_BadSize ?E1_BadCoat ?E4_BadCoat ?E5_BadCoat ?E9_BadCoat ?E2_BadCoat ?E3_BadCoat ?E6_BadCoat ?E7_BadCoat ?E8_BadCoat ?EA_BadCoat ?EB_BadCoat ?EC_BadCoat ?ED_BadCoat ?EI_BadCoat ?E1_BadJoin ?E4_BadJoin ?E5_BadJoin ?E9_BadJoin ?E2_BadJoin ?E3_BadJoin ?E6_BadJoin ?E7_BadJoin ?E8_BadJoin ?EA_BadJoin ?EB_BadJoin ?EC_BadJoin ?ED_BadJoin ?EI_BadJoin ?EG ?ET ?X_BadSize_Refused ?X_BadCoat_Refused ?X_BadJoin_Refused ?I_BadSize_BadSize ?I_BadSize_BadCoat ?I_BadSize_BadJoin ?I_BadCoat_BadSize ?I_BadCoat_BadCoat ?I_BadCoat_BadJoin ?I_BadJoin_BadSize ?I_BadJoin_BadCoat ?I_BadJoin_BadJoin ?I_BadSize_tValueError ?I_BadCoat_tValueError ?I_BadJoin_tValueError ?z_ValueError ?z_enumerate ?z_int ?z_isinstance ?z_len ?z_max ?z_min ?z_range ?z_repr ?z_tuple ?v22 ?p22 ?h22 ?m22 ?n22 ?y_LAST_COAT ?y_MOST_STONES
    (case A_Refused => first | k_is | rfl)
    (case A_BadSize => first | k_is | rfl)
    (case A_BadCoat => first | k_is | rfl)
    (case A_BadJoin => first | k_is | rfl)
    (case a0 => first | k_is | rfl)
    (case t0 => first | k_is | rfl)
    (case l0 => first | k_is | rfl)
    (case c0 => first | k_is | rfl)
    (case k0 => first | k_is | rfl)
    (case a1 => first | k_is | rfl)
    (case l1 => first | k_is | rfl)
    (case c1 => first | k_is | rfl)
    (case k1 => first | k_is | rfl)
    (case a2 => first | k_is | rfl)
    (case l2 => first | k_is | rfl)
    (case c2 => first | k_is | rfl)
    (case k2 => first | k_is | rfl)
    (case a3 => first | k_is | rfl)
    (case l3 => first | k_is | rfl)
    (case c3 => first | k_is | rfl)
    (case k3 => first | k_is | rfl)
    (case a4 => first | k_is | rfl)
    (case l4 => first | k_is | rfl)
    (case c4 => first | k_is | rfl)
    (case k4 => first | k_is | rfl)
    (case a5 => first | k_is | rfl)
    (case l5 => first | k_is | rfl)
    (case c5 => first | k_is | rfl)
    (case k5 => first | k_is | rfl)
    (case a6 => first | k_is | rfl)
    (case l6 => first | k_is | rfl)
    (case c6 => first | k_is | rfl)
    (case k6 => first | k_is | rfl)
    (case a7 => first | k_is | rfl)
    (case l7 => first | k_is | rfl)
    (case c7 => first | k_is | rfl)
    (case k7 => first | k_is | rfl)
    (case a8 => first | k_is | rfl)
    (case l8 => first | k_is | rfl)
    (case c8 => first | k_is | rfl)
    (case k8 => first | k_is | rfl)
    (case a9 => first | k_is | rfl)
    (case l9 => first | k_is | rfl)
    (case c9 => first | k_is | rfl)
    (case k9 => first | k_is | rfl)
    (case a10 => first | k_is | rfl)
    (case l10 => first | k_is | rfl)
    (case c10 => first | k_is | rfl)
    (case k10 => first | k_is | rfl)
    (case a11 => first | k_is | rfl)
    (case l11 => first | k_is | rfl)
    (case c11 => first | k_is | rfl)
    (case k11 => first | k_is | rfl)
    (case a12 => first | k_is | rfl)
    (case l12 => first | k_is | rfl)
    (case c12 => first | k_is | rfl)
    (case k12 => first | k_is | rfl)
    (case a13 => first | k_is | rfl)
    (case l13 => first | k_is | rfl)
    (case c13 => first | k_is | rfl)
    (case k13 => first | k_is | rfl)
    (case a14 => first | k_is | rfl)
    (case l14 => first | k_is | rfl)
    (case c14 => first | k_is | rfl)
    (case k14 => first | k_is | rfl)
    (case a15 => first | k_is | rfl)
    (case l15 => first | k_is | rfl)
    (case c15 => first | k_is | rfl)
    (case k15 => first | k_is | rfl)
    (case a16 => first | k_is | rfl)
    (case l16 => first | k_is | rfl)
    (case c16 => first | k_is | rfl)
    (case k16 => first | k_is | rfl)
    (case a17 => first | k_is | rfl)
    (case l17 => first | k_is | rfl)
    (case c17 => first | k_is | rfl)
    (case k17 => first | k_is | rfl)
    (case a18 => first | k_is | rfl)
    (case l18 => first | k_is | rfl)
    (case c18 => first | k_is | rfl)
    (case k18 => first | k_is | rfl)
    (case a19 => first | k_is | rfl)
    (case l19 => first | k_is | rfl)
    (case c19 => first | k_is | rfl)
    (case k19 => first | k_is | rfl)
    (case a20 => first | k_is | rfl)
    (case l20 => first | k_is | rfl)
    (case c20 => first | k_is | rfl)
    (case k20 => first | k_is | rfl)
    (case a21 => first | k_is | rfl)
    (case l21 => first | k_is | rfl)
    (case c21 => first | k_is | rfl)
    (case k21 => first | k_is | rfl)
    (case a22 => first | k_is | rfl)
    (case l22 => first | k_is | rfl)
    (case c22 => first | k_is | rfl)
    (case k22 => first | k_is | rfl)
    (case a23 => first | k_is | rfl)
    (case l23 => first | k_is | rfl)
    (case c23 => first | k_is | rfl)
    (case k23 => first | k_is | rfl)
    (case E1_Refused => first | k_is | rfl)
    (case E4_Refused => first | k_is | rfl)
    (case E5_Refused => first | k_is | rfl)
    (case E9_Refused => first | k_is | rfl)
    (case E1_BadSize => first | k_is | rfl)
    (case E4_BadSize => first | k_is | rfl)
    (case E5_BadSize => first | k_is | rfl)
    (case E9_BadSize => first | k_is | rfl)
    (case E2_BadSize => first | rfl | decide +kernel | k_is)
    (case E3_BadSize => first | k_is | rfl)
    (case E6_BadSize => first | k_is | rfl)
    (case E7_BadSize => first | k_is | rfl)
    (case E8_BadSize => first | k_is | rfl)
    (case EA_BadSize => first | k_is | rfl)
    (case EB_BadSize => first | k_is | rfl)
    (case EC_BadSize => first | k_is | rfl)
    (case ED_BadSize => first | k_is | rfl)
    (case EI_BadSize => first | k_is | rfl)
    (case E1_BadCoat => first | k_is | rfl)
    (case E4_BadCoat => first | k_is | rfl)
    (case E5_BadCoat => first | k_is | rfl)
    (case E9_BadCoat => first | k_is | rfl)
    (case E2_BadCoat => first | rfl | decide +kernel | k_is)
    (case E3_BadCoat => first | k_is | rfl)
    (case E6_BadCoat => first | k_is | rfl)
    (case E7_BadCoat => first | k_is | rfl)
    (case E8_BadCoat => first | k_is | rfl)
    (case EA_BadCoat => first | k_is | rfl)
    (case EB_BadCoat => first | k_is | rfl)
    (case EC_BadCoat => first | k_is | rfl)
    (case ED_BadCoat => first | k_is | rfl)
    (case EI_BadCoat => first | k_is | rfl)
    (case E1_BadJoin => first | k_is | rfl)
    (case E4_BadJoin => first | k_is | rfl)
    (case E5_BadJoin => first | k_is | rfl)
    (case E9_BadJoin => first | k_is | rfl)
    (case E2_BadJoin => first | rfl | decide +kernel | k_is)
    (case E3_BadJoin => first | k_is | rfl)
    (case E6_BadJoin => first | k_is | rfl)
    (case E7_BadJoin => first | k_is | rfl)
    (case E8_BadJoin => first | k_is | rfl)
    (case EA_BadJoin => first | k_is | rfl)
    (case EB_BadJoin => first | k_is | rfl)
    (case EC_BadJoin => first | k_is | rfl)
    (case ED_BadJoin => first | k_is | rfl)
    (case EI_BadJoin => first | k_is | rfl)
    (case EG => first | k_is | rfl)
    (case ET => first | k_is | rfl)
    (case X_BadSize_Refused => first | k_is | rfl)
    (case X_BadCoat_Refused => first | k_is | rfl)
    (case X_BadJoin_Refused => first | k_is | rfl)
    (case I_BadSize_BadSize => first | k_is | rfl)
    (case I_BadSize_BadCoat => first | k_is | rfl)
    (case I_BadSize_BadJoin => first | k_is | rfl)
    (case I_BadCoat_BadSize => first | k_is | rfl)
    (case I_BadCoat_BadCoat => first | k_is | rfl)
    (case I_BadCoat_BadJoin => first | k_is | rfl)
    (case I_BadJoin_BadSize => first | k_is | rfl)
    (case I_BadJoin_BadCoat => first | k_is | rfl)
    (case I_BadJoin_BadJoin => first | k_is | rfl)
    (case I_BadSize_tValueError => first | k_is | rfl)
    (case I_BadCoat_tValueError => first | k_is | rfl)
    (case I_BadJoin_tValueError => first | k_is | rfl)
    (case z_ValueError => first | k_is | rfl)
    (case z_enumerate => first | k_is | rfl)
    (case z_int => first | k_is | rfl)
    (case z_isinstance => first | k_is | rfl)
    (case z_len => first | k_is | rfl)
    (case z_max => first | k_is | rfl)
    (case z_min => first | k_is | rfl)
    (case z_range => first | k_is | rfl)
    (case z_repr => first | k_is | rfl)
    (case z_tuple => first | k_is | rfl)
    (case v22 => first | k_is | rfl)
    (case p22 => rfl)
    (case h22 => first | rfl | decide +kernel | k_is)
    (case m22 => first | decide | simp)
    (case n22 => first | rfl | decide +kernel | k_is)
    (case y_LAST_COAT => exact ⟨_, by k_is⟩)
    (case y_MOST_STONES => exact ⟨_, by k_is⟩)
