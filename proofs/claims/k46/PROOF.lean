import PyProof.Rows.All
import Wide.All
import OpenK.AllK
import Wide.FinOn
import HandS.ForMost
import HandS.IsInst
import HandS.TupAny
import HandS.Style
import HandS.Wide
import HandS.Walk
import HandS.WordsExc
import KE.GoesEnum
import PyProof.ReprRoads
import HandS.Evl
import KE.Datum
import HandS.ForExc
import HandS.ExcInit
import HandS.ExcField
import KE.KExcIs
import HandS.Conv
import HandS.TupLe
import HandS.Deep
import HandS.SortRule
import HandS.Flow
import HandS.More
import HandS.SetFor
import HandS.TupMul
import HandS.Gcd
import KE.KMathGC
import PySem.Challenge.RW_betweencoats_k46_even_counts_by_their_re
set_option Elab.async false
set_option linter.all false
set_option maxRecDepth 100000
namespace Bw
open PySem PySem.Spec PyProof.Rows L2

/-! ### a def that is called by its name -/
structure Cal (P : Program) (w : World) (K : PySem.W.Frag) (mg : Str → Option Value) (base : Heap) (CX : CXT) (k : Nat) (x : Str) (ps : List Str) (st : Stmt) (sp : Sp) : Prop where
  ex : ∃ (f : Addr) (fd : FuncData), FnOk P w K mg base CX k f fd ps sp ∧ Fun K x x st f fd ∧ mg x = some (.ref f) ∧ Binds K fd ps []
section
variable {X : Cx} {CX : CXT} {k : Nat} {x : Str} {ps ks : List Str} {st : Stmt} {sp : Sp} {E : XK} {p pos : Pos} {e : Expr} {es : List Expr} {kws : List Keyword} {t tk : TA}
theorem pe_cal (c : Cal X.prog X.w X.K X.mg X.base CX k x ps st sp) (hr : Room k X.A) (hx : Passes CX X E) (ha : PA X (e :: es) t) (hg : Gl X x := by rfl) (hdb : (x == ("__debug__" : Str)) = false := by decide)
    (he : starEach (e :: es) X.env = (false, eval e X.env) :: starEach es X.env := by rfl) (hpl : (backTo pos (starEach es X.env)).any (·.1) = false := by rfl) : PE X (.Call (.Name x p) (e :: es) [] pos) (tCall sp [] E t) := by
  obtain ⟨f, fd, G, F, hm, hb⟩ := c.ex
  exact pe_call G hr hg hm F.kp hb .nil hx ha hdb he hpl
theorem pe_cal0 (c : Cal X.prog X.w X.K X.mg X.base CX k x ps st sp) (hr : Room k X.A) (hx : Passes CX X E) (hg : Gl X x := by rfl) (hdb : (x == ("__debug__" : Str)) = false := by decide) : PE X (.Call (.Name x p) [] [] pos) (tCall sp [] E tNil) := by
  obtain ⟨f, fd, G, F, hm, hb⟩ := c.ex
  exact pe_call0 G hr hg hm F.kp hb .nil hx hdb
/-- how a call with keywords binds, whatever the function object -/
structure KwB (x : Str) (st : Stmt) (ps ks : List Str) (g : List Value → List Value → List Value) (gV : List V → List V → List V) : Prop where
  to : ∀ (kV doc pm : Value) (an : Option Addr) (cdv ct : Value) (us ws : List Value), (g us ws).length = ps.length →
    bindArgs (PySem.W.fnOf x x (defArgs st) (defBody st) (defScope st) .none kV doc pm an cdv ct) ⟨us, ks.zip ws⟩ = pure (ps.zip (g us ws))
  rel : ∀ {vs : List V} {us : List Value} {zs : List V} {ws : List Value}, Vals vs us → Vals zs ws → Vals (gV vs zs) (g us ws)
variable {g : List Value → List Value → List Value} {gV : List V → List V → List V}
theorem KwB.binds {K : PySem.W.Frag} {f : Addr} {fd : FuncData} (B : KwB x st ps ks g gV) (F : Fun K x x st f fd) : KBinds K fd ps ks g gV := by
  obtain ⟨oc, od, kV, doc, pm, an, cdv, ct, osl, rfl, lk, hcd⟩ := F.ex
  exact ⟨fun s us ws _ hl => .of_eq (B.to kV doc pm an cdv ct us ws hl), fun r rz => B.rel r rz⟩
theorem pe_calK (c : Cal X.prog X.w X.K X.mg X.base CX k x ps st sp) (B : KwB x st ps ks g gV) (hr : Room k X.A) (hx : Passes CX X E) (ha : PA X (e :: es) t) (hkw : PK X kws tk) (hg : Gl X x := by rfl)
    (hall : (backToKw pos (keywordEach kws X.env)).all (·.1.isSome) = true := by rfl) (hks : (backToKw pos (keywordEach kws X.env)).filterMap (·.1) = ks := by rfl)
    (hdb : (x == ("__debug__" : Str)) = false := by decide) (he : starEach (e :: es) X.env = (false, eval e X.env) :: starEach es X.env := by rfl)
    (hpl : ((backTo pos (starEach (e :: es) X.env)).any (·.1) || (backToKw pos (keywordEach kws X.env)).any (·.1.isNone)) = false := by rfl) :
    PE X (.Call (.Name x p) (e :: es) kws pos) (tCallK sp gV E t tk) := by
  obtain ⟨f, fd, G, F, hm, hb⟩ := c.ex
  exact pe_callK G hr hg hm F.kp (B.binds F) hx ha hkw hall hks hdb he hpl
/-- keywords alone -/
theorem pe_calK0 (c : Cal X.prog X.w X.K X.mg X.base CX k x ps st sp) (B : KwB x st ps ks g gV) (hr : Room k X.A) (hx : Passes CX X E) (hkw : PK X kws tk) (hg : Gl X x := by rfl)
    (hall : (backToKw pos (keywordEach kws X.env)).all (·.1.isSome) = true := by rfl) (hks : (backToKw pos (keywordEach kws X.env)).filterMap (·.1) = ks := by rfl)
    (hdb : (x == ("__debug__" : Str)) = false := by decide)
    (hpl : ((backTo pos (starEach [] X.env)).any (·.1) || (backToKw pos (keywordEach kws X.env)).any (·.1.isNone)) = false := by rfl) :
    PE X (.Call (.Name x p) [] kws pos) (tCallK sp gV E tNil tk) := by
  obtain ⟨f, fd, G, F, hm, hb⟩ := c.ex
  refine ⟨fun pins s σ H Q I h => ?_⟩
  refine wpAny_Call_Name_kw (ld_glob I hg hm ?_ hdb)
  refine PySem.W.callWith_KW0 (h₀ := X.base) I.ok.mod.kin F.kp hall (thn (hkw.run pos pins s σ H _ I h) fun ws s2 ⟨zs, H2, I2, rz, q2⟩ => ⟨I2.kIn, ?_⟩) hpl
  rw [hks]
  exact run_fnk (us := []) (vs := []) G hr (B.binds F) hx I2 .nil rz q2
end

/-! ### enumerate of a tuple -/
def IteT (K : PySem.W.Frag) (a : Addr) : It :=
  ⟨fun i H => ∃ (xs : List V) (x : V), SqT K H a xs ∧ xs[i]? = some x, fun i H v H' => ∃ T x, v = .ref T ∧ H T = none ∧ H' = upd H T (.tup [.int (i : Nat), x]) ∧ ∀ xs, SqT K H a xs → xs[i]? = some x, fun i H => ∃ xs : List V, SqT K H a xs ∧ i = xs.length⟩
set_option maxHeartbeats 1000000 in
theorem meets_enum_tup {v : Value} {o : Obj} {H : Heap → Prop} (B : Begins v o H) :
    Meets (Builtin.«enumerate.__new__» ⟨[.type "enumerate", v], []⟩) (fun _ R s => H s.heap ∧
      R (.ok (.ret (.ref (s.heap.push o).objs.size))) { s with heap := (s.heap.push o).push { cls := .type "enumerate", data := .fields #[.none, .bool false, .ref s.heap.objs.size, rawInt 0, .none, .none] } }) :=
  .of_wp fun prog w A R s h => by
    obtain ⟨hp, g, d, tk, os⟩ := s; obtain ⟨h1, h⟩ := h
    have hsub := sub_enumerate
    have q1 : ∀ {A' : Around} {E : Value → Shared → Prop} {Q : Value → Shared → Prop}, Q (.ref hp.objs.size) ⟨hp.push o, g, d, tk, os⟩ → wpAny (model prog w) A' (pyIter v) Q E ⟨hp, g, d, tk, os⟩ :=
      fun q => B.iter prog w _ _ ⟨hp, g, d, tk, os⟩ _ h1 q
    wp_walk using q1
    refine wpAny_stack_any fun st => wpAny_pure ?_
    split
    · rename_i c _ _ _ _ _
      cases (c == Value.type "enumerate")
      · wp_walk using q1
        exact ⟨_, rfl, h⟩
      · wp_walk using q1
        exact ⟨_, rfl, h⟩
    · wp_walk using q1
      exact ⟨_, rfl, h⟩
end Bw

namespace HT
open PySem PySem.Spec PyProof.Rows
section
variable {prog : Program} {w : World} {A : Around} {E : Value → Shared → Prop} {s : Shared}
theorem sliceApplied_rev {sl : Addr} {vk : Value} {n : Nat} {Q : Int × Int × Nat → Shared → Prop} (hs : s.heap.IsSliceOf sl .none .none vk) (pk : IsPart vk (some (-1)))
    (h : Q ((n : Int) - 1, -1, n) s) : wpAny (model prog w) A (Builtin.Slice.sliceApplied (.ref sl) (pure (n : Int))) Q E s := by
  obtain ⟨os, hos, hcs, hds⟩ := id hs
  unfold Builtin.Slice.sliceApplied Builtin.Slice.sliceFields
  refine wpAny_bind (wpAny_bind (wpAny_field hos hds (x := .none) rfl (wpAny_bind (wpAny_field hos hds (x := .none) rfl (wpAny_bind (wpAny_field hos hds (x := vk) rfl (wpAny_pure ?_)))))))
  refine wpAny_bind (slicePart_ pk ?_)
  show wpAny _ _ (if ((-1 : Int) == 0) = true then _ else _) _ _ s
  rw [if_neg (by decide)]
  refine wpAny_bind (slicePart_ .none (wpAny_bind (slicePart_ .none (wpAny_bind (wpAny_pure ?_)))))
  show wpAny _ _ (pure ((n : Int) - 1, (-1 : Int), Builtin.Slice.slicePlaces ((n : Int) - 1) (-1) (-1))) _ _ s
  have e : Builtin.Slice.slicePlaces ((n : Int) - 1) (-1) (-1) = n := by
    unfold Builtin.Slice.slicePlaces
    rw [if_neg (by decide)]
    by_cases h0 : n = 0
    · subst h0; decide
    · rw [if_pos (show (n : Int) - 1 > -1 by omega), show (- -1 : Int) = 1 by decide, Int.ediv_one]
      omega
  rw [e]
  exact wpAny_pure h
theorem pick_rev (xs : Array Value) : ((List.range xs.size).filterMap fun (m : Nat) => xs[(((xs.size : Int) - 1) + (m : Int) * (-1)).toNat]?).toArray = xs.toList.reverse.toArray := by
  have e : (List.range xs.size).filterMap (fun (m : Nat) => xs[(((xs.size : Int) - 1) + (m : Int) * (-1)).toNat]?) = xs.toList.reverse := by
    apply List.ext_getElem?
    intro i
    have gen : ∀ l : List Nat, (∀ m ∈ l, m < xs.size) → l.filterMap (fun (m : Nat) => xs[(((xs.size : Int) - 1) + (m : Int) * (-1)).toNat]?) = l.map (fun m => xs[xs.size - 1 - m]?.getD .none) := by
      intro l
      induction l with
      | nil => intro _; rfl
      | cons m l ih =>
        intro hl
        have hm := hl m List.mem_cons_self
        have e2 : (((xs.size : Int) - 1) + (m : Int) * (-1)).toNat = xs.size - 1 - m := by omega
        have e3 : xs[xs.size - 1 - m]? = some (xs[xs.size - 1 - m]'(by omega)) := Array.getElem?_eq_getElem (by omega)
        rw [List.map_cons, ← ih fun k hk => hl k (List.mem_cons_of_mem _ hk)]
        simp only [List.filterMap_cons, e2, e3, Option.getD_some]
    have e1 := gen (List.range xs.size) fun m hm => List.mem_range.mp hm
    rw [e1]
    by_cases hi : i < xs.size
    · rw [List.getElem?_map, List.getElem?_range hi, List.getElem?_reverse (by simpa using hi)]
      simp only [Option.map_some, Array.length_toList, Array.getElem?_toList]
      rw [Array.getElem?_eq_getElem (by omega)]
      rfl
    · rw [List.getElem?_eq_none (by simpa using hi), List.getElem?_eq_none (by simpa using hi)]
  rw [e]
theorem getItem_tuple_rev {t sl : Addr} {items : Array Value} {vk : Value} {Q : Value → Shared → Prop} (ht : IsTup s.heap t items) (hs : s.heap.IsSliceOf sl .none .none vk) (pk : IsPart vk (some (-1)))
    (h : Q (.ref s.heap.objs.size) { s with heap := s.heap.push { cls := .type "tuple", data := .seq items.toList.reverse.toArray } })
    (hsz : items.size ≤ sizeLine) : wpAny (model prog w) A (getItem (.ref t) (.ref sl)) Q E s := by
  have htake : sizeOk (.seq items.toList.reverse.toArray) := by
    show items.toList.reverse.toArray.size ≤ sizeLine
    rw [List.size_toArray, List.length_reverse, Array.length_toList]
    exact hsz
  obtain ⟨os, hos, hcs, hds⟩ := id hs
  have hTs : s.TypeIs (.ref sl) "slice" := ⟨os, hos, hcs⟩
  unfold getItem
  try with_reducible refine wpAny_holding ?_
  first | refine wpAny_bind (wpAny_pure ?_) | skip
  refine wpAny_bind (wpAny_sequenceKey ht.typeIs (by decide) ?_)
  refine wpAny_bind (wpAny_callSpecial?_slot (name := Str.ofString "__getitem__") ht.typeIs PyProof.Rows.slot_tuple_getitem
    (wpAny_call_entry PyProof.Rows.slot_tuple_getitem ht.typeIs entry_tuple_getitem ?_ (args_tuple_getitem _ _)))
  show wpAny _ _ (Builtin.Tuple.tupleItemsOf (.ref t) >>= _) _ _ s
  refine wpAny_bind (tupleItemsOf_ ht ?_)
  refine wpAny_bind (wpAny_typeOf hTs ?_)
  rw [if_pos (by decide)]
  refine wpAny_bind (sliceApplied_rev hs pk ?_)
  have hno : ¬ (((((items.size : Int) - 1)) == 0 && (-1 : Int) == 1 && items.size == items.size) = true) := by
    intro q
    rw [Bool.and_eq_true, Bool.and_eq_true] at q
    exact absurd q.1.2 (by decide)
  show wpAny _ _ (if (((items.size : Int) - 1) == 0 && (-1 : Int) == 1 && items.size == items.size) = true then _ else _) _ _ s
  rw [if_neg hno, pick_rev]
  first
    | exact wpAny_bind (m := Builtin.Tuple.tupleExact _) (wpAny_newObj_type (wpAny_pure ⟨_, rfl, wpAny_pure h⟩) htake)
    | exact wpAny_bind (m := Builtin.Tuple.tupleExact _) (wpAny_newObj_type (wpAny_bind (wpAny_pure (wpAny_pure ⟨_, rfl, wpAny_pure h⟩))) htake)
    | exact wpAny_bind (wpAny_bind (m := Builtin.Tuple.tupleExact _) (wpAny_newObj_type (wpAny_pure (wpAny_pure ⟨_, rfl, wpAny_pure h⟩)) htake))
    | exact wpAny_bind (wpAny_bind (m := Builtin.Tuple.tupleExact _) (wpAny_newObj_type (wpAny_pure ⟨_, rfl, wpAny_pure h⟩) htake))
end
end HT
namespace Bw
open PySem PySem.Spec PyProof.Rows L2
/-! ### t[::-1] -/
def tRevT (K : PySem.W.Frag) (te : TE) : TE := fun σ H Q => te σ H fun x H1 => ∃ a xs, x = .ref a ∧ SqT K H1 a xs ∧ ∀ p, H1 p = none → Q (.ref p) (upd H1 p (.tup xs.reverse))
theorem pe_revT {X : Cx} {e : Expr} {te : TE} {k : Nat} {p1 p2 p3 pos : Pos} (he : PE X e te) : PE X (.Subscript e (.Slice none none (some (.UnaryOp .USub (.Constant (.int 1) k p1) p2)) p3) pos) (tRevT X.K te) := by
  refine ⟨fun pins s σ H Q I h => ?_⟩
  refine Subscript_ (thn (he.run pins s σ H _ I h) fun v s1 ⟨x, H1, I1, r1, q1⟩ => ?_)
  obtain ⟨a, xs, ex, hx, q⟩ := q1
  subst ex
  cases r1
  have hst : PO X (some (.UnaryOp .USub (.Constant (.int 1) k p1) p2)) (tPart (tUn (rU fun i => .int (-i)) (tC (.int 1)))) := po_some (pe_un un_neg pe_int)
  refine wpAny_Slice (thn (po_none.run pins s1 σ H1 (fun o H2 => o = none ∧ H2 = H1) I1 ⟨rfl, rfl⟩) fun vl s2 ⟨l, H2, I2, pl, el, e2⟩ => ?_)
  subst el e2
  refine thn (po_none.run pins s2 σ H2 (fun o H3 => o = none ∧ H3 = H2) I2 ⟨rfl, rfl⟩) fun vu s3 ⟨u, H3, I3, pu, eu, e3⟩ => ?_
  subst eu e3
  refine thn (hst.run pins s3 σ H3 (fun o H4 => o = some (-1) ∧ H4 = H3) I3 ⟨1, rfl, -1, rfl, rfl, rfl⟩) fun vs s4 ⟨o, H4, I4, ps, eo, e4⟩ => ?_
  subst eo e4
  cases pl
  cases pu
  have I5 : Inv X pins σ H4 { s4 with heap := s4.heap.push { cls := .type "slice", data := .fields #[.none, .none, vs] } } := I4.kept (t' := s4.toks) fun b ob q => Heap.get?_push_of_some _ q
  obtain ⟨its, r, ht, hz⟩ := I5.tuple hx
  have hlen := r.length
  show wpAny (model X.prog X.w) X.A (subscriptTail e (.Slice none none (some (.UnaryOp .USub (.Constant (.int 1) k p1) p2)) p3) (.ref a) (.ref s4.heap.objs.size)) (EP X pins σ Q) X.xe { s4 with heap := s4.heap.push { cls := .type "slice", data := .fields #[.none, .none, vs] } }
  refine tail_any (ops := [.ref a, .ref s4.heap.objs.size]) ht.typeIs (PyProof.Rows.slot_tuple_getitem.lookup) ?_ (by with_unfolding_all rfl)
  refine HT.getItem_tuple_rev ht (Heap.IsSliceOf.new _ .none .none vs) ps ?_ (by rw [List.size_toArray]; omega)
  refine ⟨.ref _, _, I5.laid (t' := s4.toks) (o := .tup xs.reverse) (fun b ob q => Heap.get?_push_of_some _ q) (Nat.le_refl _) ?_, rfl, q _ (I5.hok.fresh (Nat.le_refl _))⟩
  exact ⟨by rw [List.length_reverse]; exact hz, _, r.reverse, IsTup.new _ _⟩
/-! ### enumerate of a tuple -/
theorem turn_enumT {P : Program} {w : World} {K : PySem.W.Frag} {elts : List Expr} {kk : Nat} {tpos : Pos} (a e it : Addr) (hai : a ≠ it) (hea : e ≠ a) :
    Turn P w K (.Tuple elts kk tpos) (IteT K a) [e, it] e (fun i h => (∃ old, IsEnum h e it ((i : Nat) : Int) old) ∧ h.IsTupleIter it a i ∧ e ≠ it) where
  mem := by simp
  obj := fun i h st b hb => by
    obtain ⟨⟨old, he⟩, ⟨o, ho, hc, hd⟩, _⟩ := st
    have e' : b = e ∨ b = it := by simpa using hb
    rcases e' with z | z
    · rw [z]; exact ⟨_, he, fun v q => nomatch q⟩
    · rw [z]; exact ⟨o, ho, fun v q => by rw [hd] at q; cases q⟩
  keep := fun i h h' st k => let ⟨⟨old, he⟩, hi, hne⟩ := st; ⟨⟨old, k e (by simp) _ he⟩, hi.at fun o q => k it (by simp) o q, hne⟩
  item := by
    intro X hP hw hK hc i pins s σ H E I hf st hg
    subst hP hw hK
    obtain ⟨⟨old, he⟩, hit, hne⟩ := st
    obtain ⟨xs, x, hq, hx⟩ := hg
    obtain ⟨its, rv, p, hz⟩ := I.tuple hq
    obtain ⟨u, hu, ru⟩ := rv.get hx
    have hel : e < s.heap.objs.size := Heap.lt_size he
    have hil : it < s.heap.objs.size := by obtain ⟨_, q, _⟩ := hit; exact Heap.lt_size q
    have hD := Draws.tuple (prog := X.prog) (w := X.w) (A := X.A.in1) (show X.A.in1.handled = none from I.ok.hd hc) it a hai its.toArray
    have hlt : i < its.toArray.size := by
      have := (List.getElem?_eq_some_iff.mp hu).1
      simpa using this
    refine wpAny_pyNext_enum_itemD hD he ⟨hit, p⟩ hlt hne (by simp [hne, hea]) fun x' h' tk hx' ho hst' hT hsz hk => ?_
    have ex' : x' = u := by
      have := hx'.symm.trans (show its.toArray[i]? = some u by simpa using hu)
      exact Option.some.inj this
    subst ex'
    refine ⟨_, rfl, wpAny_letOwnedTupleGo_enum (s := { s with heap := h', toks := tk + 1 }) ho fun h'' he' sb => ?_⟩
    have hT2 : h''.get? s.heap.objs.size = some { cls := .type "tuple", data := .seq #[.int i tk, x'] } := (sb.2 _ (Nat.ne_of_gt hel)).trans hT
    have new : ObjOk X.prog X.w (upd H s.heap.objs.size (.tup [.int (i : Nat), x])) h'' s.heap.objs.size (.tup [.int (i : Nat), x]) :=
      ⟨by show 2 ≤ sizeLine; decide, [.int i tk, x'], .cons ⟨_, rfl⟩ (.cons ru .nil), ⟨_, hT2, rfl, _, rfl⟩⟩
    have I1 : Inv X pins σ (upd H s.heap.objs.size (.tup [.int (i : Nat), x])) { s with heap := h'', toks := tk + 1 } :=
      I.turnedNew (ch := [e, it]) (fun b ob hb q => (sb.2 b (fun z => hb (by simp [z]))).trans (hk b ob (fun z => hb (by simp [z])) (fun z => hb (by simp [z])) q)) hf (Nat.le_refl _) new
    refine ⟨.ref s.heap.objs.size, _, I1, rfl, ⟨_, x, rfl, I.hok.fresh (Nat.le_refl _), rfl, fun ys hy => by rw [I.tuple_inj hy hq]; exact hx⟩, ⟨⟨x', ?_⟩, hst'.1.at fun o q => (sb.2 it (Ne.symm hne)).trans q, hne⟩, fun b hb => ?_⟩
    · have e1 : ((i + 1 : Nat) : Int) = (i : Int) + 1 := by omega
      rw [e1]; exact he'
    · have hb' : b < s.heap.objs.size := by
        have e' : b = e ∨ b = it := by simpa using hb
        rcases e' with z | z
        · rw [z]; exact hel
        · rw [z]; exact hil
      rw [upd_ne (Nat.ne_of_lt hb')]
      exact (hf b hb).1
  done := by
    intro X hP hw hK hc i pins s σ H E I hf st hg
    subst hP hw hK
    obtain ⟨⟨old, he⟩, hit, hne⟩ := st
    obtain ⟨xs, hq, hx⟩ := hg
    obtain ⟨its, rv, p, hz⟩ := I.tuple hq
    obtain ⟨f0, f1, f2, f3, f4, f5⟩ := hf it (by simp)
    have hl := rv.length
    have hD := Draws.tuple (prog := X.prog) (w := X.w) (A := X.A.in1) (show X.A.in1.handled = none from I.ok.hd hc) it a hai its.toArray
    have hi : i = its.toArray.size := by rw [List.size_toArray]; omega
    subst hi
    exact wpAny_pyNext_enum_endD hD he ⟨hit, p⟩ fun h' eb => ⟨rfl, I.turned (t' := s.toks) (fun b o hb q => eb b o hb q) f0 f1 f3 f4 f5⟩
  self := fun A i s Q E st h => let ⟨⟨_, he⟩, _⟩ := st; wpAny_pyIter_enum he h
def iEnumT (K : PySem.W.Frag) (ta : TA) : TI := fun σ H R => ta σ H fun vs H1 => ∃ a xs, vs = [.ref a] ∧ SqT K H1 a xs ∧ R (IteT K a) H1
theorem pi_enumT {X : Cx} {e : Expr} {ta : TA} {p pos tpos : Pos} {elts : List Expr} {kk : Nat} (hg : Gl X "enumerate") (hm : X.mg "enumerate" = none) (ha : PA X [e] ta) (hs : starEach [e] X.env = [(false, eval e X.env)] := by rfl) :
    PI X (.Tuple elts kk tpos) (.Call (.Name "enumerate" p) [e] [] pos) (iEnumT X.K ta) := by
  refine ⟨fun pins s σ H R I h => ?_⟩
  refine Call_ (ld_blt I hg hm boot_enumerate (PyProof.Rows.callWith_type1 (thn (ha.run pos pins s σ H _ I h) fun us s1 ⟨vs, H1, I1, r1, q1⟩ => ?_) hs rfl))
  obtain ⟨a, xs, ex, hq, q⟩ := q1
  subst ex
  cases r1 with
  | cons r rr =>
    cases rr
    cases r
    obtain ⟨its, rv, p', hz⟩ := I1.tuple hq
    have hla : a < s1.heap.objs.size := by obtain ⟨o, ho, _⟩ := p'; exact Heap.lt_size ho
    refine callType_new F.called_enumerate (by decide) (F.typeCall_enumerate_1 _) (F.newCall_enumerate_1 _) (fun obj => F.args_object_init_2 obj _) F.entry_enumerate_new
      (meets_enum_tup (begins_tuple a its.toArray)) ⟨p', ?_⟩
    have hz1 : (s1.heap.push { cls := .type "tuple_iterator", data := .fields #[.ref a, .int 0 0] }).objs.size = s1.heap.objs.size + 1 := Heap.size_push ..
    have he : IsEnum ((s1.heap.push { cls := .type "tuple_iterator", data := .fields #[.ref a, .int 0 0] }).push
        { cls := .type "enumerate", data := .fields #[.none, .bool false, .ref s1.heap.objs.size, rawInt 0, .none, .none] }) (s1.heap.objs.size + 1) s1.heap.objs.size 0 .none := by
      have := Heap.get?_push_size (s1.heap.push { cls := .type "tuple_iterator", data := .fields #[.ref a, .int 0 0] })
        (o := { cls := .type "enumerate", data := .fields #[.none, .bool false, .ref s1.heap.objs.size, rawInt 0, .none, .none] }) rfl
      rw [hz1] at this; exact this
    have hit : ((s1.heap.push { cls := .type "tuple_iterator", data := .fields #[.ref a, .int 0 0] }).push
        { cls := .type "enumerate", data := .fields #[.none, .bool false, .ref s1.heap.objs.size, rawInt 0, .none, .none] }).IsTupleIter s1.heap.objs.size a 0 := ⟨_, Heap.get?_push_of_some _ (Heap.get?_push_size _ rfl), rfl, rfl⟩
    show _ ∧ _
    rw [hz1]
    refine ⟨⟨_, he, rfl⟩, wpAny_pyIter_enum he ?_⟩
    have I2 : Inv X pins σ H1 { s1 with heap := (s1.heap.push { cls := .type "tuple_iterator", data := .fields #[.ref a, .int 0 0] }).push { cls := .type "enumerate", data := .fields #[.none, .bool false, .ref s1.heap.objs.size, rawInt 0, .none, .none] } } :=
      I1.kept (t' := s1.toks) fun b o x => Heap.get?_push_of_some _ (Heap.get?_push_of_some _ x)
    refine ⟨s1.heap.objs.size + 1, [s1.heap.objs.size + 1, s1.heap.objs.size], _, _, H1, rfl, I2, turn_enumT a (s1.heap.objs.size + 1) s1.heap.objs.size (Nat.ne_of_lt hla) (Nat.ne_of_gt (Nat.lt_succ_of_lt hla)), ⟨⟨.none, he⟩, hit, Nat.succ_ne_self _⟩, fun b hb => ?_, q⟩
    have e' : b = s1.heap.objs.size + 1 ∨ b = s1.heap.objs.size := by simpa using hb
    have hle : s1.heap.objs.size ≤ b := by
      rcases e' with z | z
      · rw [z]; exact Nat.le_add_right _ _
      · rw [z]; exact Nat.le_refl _
    exact I1.fpOk hle (I1.hok.fresh hle)
theorem walk_enumT {K : PySem.W.Frag} {a : Addr} {xs : List V} : Walk (IteT K a) xs.length (fun H => SqT K H a xs) (YPair (fun i => some (.int (i : Nat))) (fun i => xs[i]?)) := by
  refine ⟨fun i _ hi q => ⟨xs, xs[i], q, by simp [hi]⟩, fun _ q => ⟨xs, q, rfl⟩, fun i H v H' _ q y => ?_⟩
  obtain ⟨T, x, h1, h2, h3, h4⟩ := y
  exact ⟨T, .int (i : Nat), x, h1, h2, h3, rfl, h4 xs q⟩
/-! ### repr of data -/
theorem call_reprD {X : Cx} (hg : X.A.guards = some []) (hu : X.A.units + 80 < cLine) : CallR X (.builtin "repr") (fun xs H Q => ∃ a d, xs = [.ref a] ∧ Dp X.K H (.ref a) d ∧ d.showable = true ∧ d.hasDict = false ∧ d.depth < 64 ∧ d.shown.length ≤ sizeLine ∧ Q (.str d.shown) H) := by
  intro pins s σ H xs us Q I r h
  obtain ⟨a, d, rfl, hd, hs, hn, hp, hz, q⟩ := h
  obtain ⟨u, rfl, ru⟩ := vals1 r
  obtain ⟨as, hr⟩ := Dp.reads I d _ _ hd ru
  cases ru
  exact repr_of_reads' hr hs (PyData.noDict_hsm hn) hg (by omega) (fun _ _ e => e) (fun h' u tk hk => ⟨.str _, H, I.kept (t' := tk) hk, ⟨_, rfl⟩, q⟩) hz
end Bw

namespace Bw
open PySem PySem.Spec PyProof.Rows L2
/-! ### the drawn source and what a def leaves -/
def Src (H : Hp) (p : Addr) : Prop := ∃ a b : Int, H p = some (.lst [.int a, .int b]) ∧ 0 ≤ a ∧ 0 ≤ b ∧ b < 2147483647
/-- all that was tracked but at p is as it was -/
def Exb (p : Addr) (H H' : Hp) : Prop := ∀ b o, b ≠ p → H b = some o → H' b = some o
section
variable {p q a : Addr} {H H1 H2 : Hp} {K : PySem.W.Frag} {xs : List V} {o : HO}
theorem Exb.refl : Exb p H H := fun _ _ _ h => h
theorem Exb.trans (e : Exb p H H1) (f : Exb p H1 H2) : Exb p H H2 := fun b o n h => f b o n (e b o n h)
theorem Exb.of (e : Same H H1) : Exb p H H1 := fun b o _ h => e b o h
theorem Exb.new (h : H q = none) : Exb p H (upd H q o) := fun b u _ e => by
  rw [upd_ne (ne_of_none e h)]
  exact e
theorem _root_.L2.Same.new (h : H q = none) : Same H (upd H q o) := fun b u e => by
  rw [upd_ne (ne_of_none e h)]
  exact e
theorem Exb.at : Exb p H (upd H p o) := fun b u n e => by
  rw [upd_ne n]
  exact e
theorem Exb.put (e : Exb p H H1) : Exb p H (upd H1 p o) := fun b u n h => by
  rw [upd_ne n]
  exact e b u n h
/-- an object that H did not know may change -/
theorem _root_.L2.Same.mut (e : Same H H1) (h : H q = none) : Same H (upd H1 q o) := fun b u hb => by
  rw [upd_ne (ne_of_none hb h)]
  exact e b u hb
theorem Exb.mut (e : Exb p H H1) (h : H q = none) : Exb p H (upd H1 q o) := fun b u n hb => by
  rw [upd_ne (ne_of_none hb h)]
  exact e b u n hb
theorem _root_.L2.Same.tup (e : Same H H1) (h : SqT K H a xs) : SqT K H1 a xs := by
  rcases h with (h | ⟨o, h⟩) | h
  · exact .inl (.inl (e _ _ h))
  · exact .inl (.inr ⟨o, e _ _ h⟩)
  · exact .inr h
theorem Exb.tup (e : Exb p H H1) (s : Src H p) (h : SqT K H a xs) : SqT K H1 a xs := by
  obtain ⟨x, y, hp, _⟩ := s
  rcases h with (h | ⟨o, h⟩) | h
  · exact .inl (.inl (e _ _ (fun z => by rw [z, hp] at h; cases h) h))
  · exact .inl (.inr ⟨o, e _ _ (fun z => by rw [z, hp] at h; cases h) h⟩)
  · exact .inr h
theorem Exb.lst (e : Exb p H H1) (n : q ≠ p) (h : H q = some (.lst xs)) : H1 q = some (.lst xs) := e _ _ n h
theorem _root_.L2.Same.src (e : Same H H1) (s : Src H p) : Src H1 p := by
  obtain ⟨x, y, hp, h⟩ := s
  exact ⟨x, y, e _ _ hp, h⟩
theorem Src.ne (s : Src H p) (h : H q = none) : q ≠ p := fun z => by
  obtain ⟨x, y, hp, _⟩ := s
  rw [z, hp] at h
  cases h
theorem Src.put (s : Src H p) (n : q ≠ p) : Src (upd H q o) p := by
  obtain ⟨x, y, hp, h⟩ := s
  exact ⟨x, y, by rw [upd_ne n.symm]; exact hp, h⟩
theorem Exb.fresh (e : Exb p H H1) (n : q ≠ p) (h : H1 q = none) : H q = none := by
  cases z : H q with
  | none => rfl
  | some o => rw [e q o n z] at h; cases h
end
theorem atI0 {x : V} {r : List V} : atI (x :: r) 0 = some x := atI_nat (j := 0) rfl
theorem atI1 {x y : V} {r : List V} : atI (x :: y :: r) 1 = some y := atI_nat (j := 1) rfl
theorem ixN_nat {n : Nat} {i : Int} {j : Nat} (e : i = (j : Int)) (h : j < n) : ixN n i = some j := by
  subst e
  unfold ixN
  rw [if_pos (by omega), if_pos (by omega)]; simp
theorem ixN_neg {n : Nat} {i : Int} {j : Nat} (e : i = (j : Int) - (n : Int)) (h : j < n) : ixN n i = some j := by
  subst e
  unfold ixN
  rw [if_neg (by omega), if_pos (by omega)]
  congr 1
  omega
theorem atN {α : Type} {xs : List α} {i : Int} {j : Nat} {v : α} (h : xs[j]? = some v) (e : i = (j : Int)) : atI xs i = some v := by
  subst e
  exact atI_nat h
theorem atNeg {α : Type} {xs : List α} {i : Int} {j : Nat} {v : α} (h : xs[j]? = some v) (e : i = (j : Int) - (xs.length : Int)) : atI xs i = some v := by
  unfold atI
  rw [ixN_neg e (List.getElem?_eq_some_iff.mp h).1]
  exact h
theorem num_map (i : Nat) (ns : List Int) (x : V) (h : (ns.map V.int)[i]? = some x) : ∃ (hi : i < ns.length), x = .int ns[i] := by
  rw [List.getElem?_map] at h
  cases e : ns[i]? with
  | none => rw [e] at h; cases h
  | some z =>
    obtain ⟨h1, h2⟩ := List.getElem?_eq_some_iff.mp e
    rw [e] at h
    exact ⟨h1, by rw [h2]; exact (Option.some.inj h).symm⟩
theorem itT {c : Bool} {A B : Prop} (hc : c = true) (h : A) : if c = true then A else B := by
  rw [if_pos hc]
  exact h
theorem itF {c : Bool} {A B : Prop} (hc : c = false) (h : B) : if c = true then A else B := by
  rw [hc, if_neg Bool.false_ne_true]
  exact h
theorem pe_gint {X : Cx} {x : Str} {pos : Pos} {i : Int} (hg : Gl X x) (h : ∃ t, X.mg x = some (.int i t)) (hd : (x == ("__debug__" : Str)) = false := by decide) : PE X (.Name x pos) (tC (.int i)) := by
  obtain ⟨t, y⟩ := h
  exact pe_glob hg y ⟨t, rfl⟩ hd
theorem pe_ty {X : Cx} {x : Str} {pos : Pos} {T : String} (hg : Gl X x) (hm : X.mg x = none) (hv : bootBuiltins x = some (.type T)) (hn : x ≠ "__name__" := by decide) (hd : (x == ("__debug__" : Str)) = false := by decide) : PE X (.Name x pos) (tC (.ty T)) :=
  pe_bltn hg hm hv rfl hn hd
theorem small {n : Nat} (h : n ≤ 1000000) : n ≤ sizeLine := Nat.le_trans h (by decide)
theorem smallLt {n : Nat} (h : n < 1000000) : n < sizeLine := Nat.lt_of_lt_of_le h (by decide)

/-! ### the layer's rules with the written part told -/
section
variable {X : Cx}
abbrev tNoP : TO := fun _ H Q => Q none H
theorem poN : PO X none tNoP := po_none
theorem ixL (K : PySem.W.Frag) (h : X.K = K := by rfl) : IxR X (rIxL K) := h ▸ ix_list
theorem ixT (K : PySem.W.Frag) (h : X.K = K := by rfl) : IxR X (rIxT K) := h ▸ ix_tup
theorem slT (K : PySem.W.Frag) (h : X.K = K := by rfl) : SlR X (rSlA K) := h ▸ sl_tupA
theorem slL (K : PySem.W.Frag) (h : X.K = K := by rfl) : SlR X (rSlL K) := h ▸ sl_list
theorem lenS (K : PySem.W.Frag) (h : X.K = K := by rfl) : CallR X (.builtin "len") (Evl.rLenS K) := by subst h; exact call_len_seq
def rTupOf (K : PySem.W.Frag) : List V → Hp → VK → Prop := fun xs H Q => ∃ p ys, xs = [.ref p] ∧ ((SqL K H p ys ∧ ∀ l, H l = none → Q (.ref l) (upd H l (.tup ys))) ∨ (SqT K H p ys ∧ Q (.ref p) H))
theorem tupOf (K : PySem.W.Frag) (h : X.K = K := by rfl) : CallR X (.type "tuple") (rTupOf K) := by subst h; exact call_tuple_of
def rListOf (K : PySem.W.Frag) : List V → Hp → VK → Prop := fun xs H Q => ∃ p ys, xs = [.ref p] ∧ (SqL K H p ys ∨ SqT K H p ys) ∧ ∀ l, H l = none → Q (.ref l) (upd H l (.lst ys))
theorem listOf (K : PySem.W.Frag) (h : X.K = K := by rfl) : CallR X (.type "list") (rListOf K) := by subst h; exact call_list_of
theorem catA (K : PySem.W.Frag) (h : X.K = K := by rfl) : OpR X (binaryOp .Add) (rCatA K) := h ▸ op_catA
theorem eqD (K : PySem.W.Frag) (hu : X.A.units + 64 < cLine) (h : X.K = K := by rfl) : OpR X (compareOp .Eq) (rEqD K) := h ▸ op_eqD hu
theorem neD (K : PySem.W.Frag) (hu : X.A.units + 64 < cLine) (h : X.K = K := by rfl) : OpR X (compareOp .NotEq) (rNeD K) := h ▸ op_neD hu
theorem inS (K : PySem.W.Frag) (h : X.K = K := by rfl) : OpR X (compareOp .In) (rIn K false) := h ▸ op_in_seq
theorem ninS (K : PySem.W.Frag) (h : X.K = K := by rfl) : OpR X (compareOp .NotIn) (rIn K true) := h ▸ op_notIn_seq
theorem isI (K : PySem.W.Frag) (h : X.K = K := by rfl) : CallR X (.builtin "isinstance") (rIsi K) := h ▸ call_isi
theorem maxL (K : PySem.W.Frag) (hc : X.calm = true) (h : X.K = K := by rfl) : CallR X (.builtin "max") (rMax K) := h ▸ cr_max hc
theorem minL (K : PySem.W.Frag) (hc : X.calm = true) (h : X.K = K := by rfl) : CallR X (.builtin "min") (rMin K) := h ▸ cr_min hc
theorem sortL (K : PySem.W.Frag) (h : X.K = K := by rfl) : CallR X (.builtin "sorted") (rSorted K) := h ▸ cr_sorted
theorem piL (K : PySem.W.Frag) {tg l : Expr} {tl : TE} (hl : PE X l tl) (h : X.K = K := by rfl) : PI X tg l (iList K tl) := h ▸ pi_list hl
theorem piT (K : PySem.W.Frag) {tg l : Expr} {tl : TE} (hl : PE X l tl) (h : X.K = K := by rfl) : PI X tg l (iTup K tl) := h ▸ pi_tup hl
end
/-! ### data in the heap -/
theorem dpAllI {K : PySem.W.Frag} {H : Hp} : ∀ ns : List Int, DpAll K H (ns.map V.int) (ns.map PyData.int)
  | [] => .nil
  | n :: ns => .cons (.int n) (dpAllI ns)
theorem dpT {K : PySem.W.Frag} {H : Hp} {a : Addr} {ns : List Int} (h : SqT K H a (ns.map V.int)) : Dp K H (.ref a) (.tuple (ns.map PyData.int)) := .tup h (dpAllI ns)
theorem dpL {K : PySem.W.Frag} {H : Hp} {a : Addr} {ns : List Int} (h : SqL K H a (ns.map V.int)) : Dp K H (.ref a) (.list (ns.map PyData.int)) := .lst h (dpAllI ns)

theorem shAll : ∀ ns : List Int, PyData.canLayAll0 (ns.map PyData.int) = true
  | [] => rfl
  | n :: ns => by rw [List.map_cons, PyData.canLayAll0, shAll ns]; rfl
theorem dpAll0 : ∀ ns : List Int, PyData.depthAll (ns.map PyData.int) = 0
  | [] => rfl
  | n :: ns => by rw [List.map_cons, PyData.depthAll, dpAll0 ns]; rfl
theorem shT (ns : List Int) : SeqAt.shaped (.tuple (ns.map PyData.int)) = true := by
  unfold SeqAt.shaped
  rw [PyData.canLay0, shAll, PyData.depth, dpAll0]
  rfl
theorem shL (ns : List Int) : SeqAt.shaped (.list (ns.map PyData.int)) = true := by
  unfold SeqAt.shaped
  rw [PyData.canLay0, shAll, PyData.depth, dpAll0]
  rfl
theorem eqvI : ∀ ns ms : List Int, PyData.eqvAll (ns.map PyData.int) (ms.map PyData.int) = decide (ns = ms)
  | [], [] => by simp only [List.map_nil, PyData.eqvAll, decide_true]
  | [], _ :: _ => by simp [PyData.eqvAll]
  | _ :: _, [] => by simp [PyData.eqvAll]
  | x :: xs, y :: ys => by
    rw [List.map_cons, List.map_cons, PyData.eqvAll, eqvI xs ys, PyData.eqv]
    have e : (x == y) = decide (x = y) := by rw [Bool.eq_iff_iff, beq_iff_eq, decide_eq_true_eq]
    rw [e, ← Bool.decide_and]
    exact decide_eq_decide.mpr (by rw [List.cons.injEq])
section
variable {K : PySem.W.Frag} {H : Hp} {a b : Addr} {ns ms : List Int} {Q : VK}
theorem eqT (ha : SqT K H a (ns.map V.int)) (hb : SqT K H b (ms.map V.int)) (q : Q (.bl (decide (ns = ms))) H) : rEqD K (.ref a) (.ref b) H Q :=
  ⟨_, _, dpT ha, dpT hb, shT _, shT _, by rw [PyData.eqv, eqvI]; exact q⟩
theorem neT (ha : SqT K H a (ns.map V.int)) (hb : SqT K H b (ms.map V.int)) (q : Q (.bl (!decide (ns = ms))) H) : rNeD K (.ref a) (.ref b) H Q :=
  ⟨_, _, dpT ha, dpT hb, shT _, shT _, by rw [PyData.eqv, eqvI]; exact q⟩
theorem eqL (ha : SqL K H a (ns.map V.int)) (hb : SqL K H b (ms.map V.int)) (q : Q (.bl (decide (ns = ms))) H) : rEqD K (.ref a) (.ref b) H Q :=
  ⟨_, _, dpL ha, dpL hb, shL _, shL _, by rw [PyData.eqv, eqvI]; exact q⟩
theorem neL (ha : SqL K H a (ns.map V.int)) (hb : SqL K H b (ms.map V.int)) (q : Q (.bl (!decide (ns = ms))) H) : rNeD K (.ref a) (.ref b) H Q :=
  ⟨_, _, dpL ha, dpL hb, shL _, shL _, by rw [PyData.eqv, eqvI]; exact q⟩
theorem tyT {xs : List V} (h : SqT K H a xs) : TyX K H (.ref a) (.type "tuple") := by
  rcases h with (h | ⟨o, h⟩) | ⟨o, its, n, h, c, _⟩
  · exact .base (.tup h)
  · exact .fTuple h
  · exact .kTuple h c
/-- isinstance(t, tuple) of a tuple -/
theorem isTup {xs : List V} (h : SqT K H a xs) (q : Q (.bl true) H) : rIsi K [.ref a, .ty "tuple"] H Q := ⟨.ref a, .ty "tuple", .type "tuple", .type "tuple", true, rfl, .ty _, tyT h, kit_ty (by decide +kernel), q⟩
end
theorem call_reprB {X : Cx} : CallR X (.builtin "repr") (fun xs H Q => ∃ b : Bool, xs = [.bl b] ∧ Q (.str (if b then "True" else "False")) H) := by
  intro pins s σ H xs us Q I r h
  obtain ⟨b, rfl, q⟩ := h
  obtain ⟨u, rfl, ru⟩ := vals1 r
  cases (show u = Value.bool b from ru)
  exact PySem.P.repr_of_bool ⟨.str _, H, I.tok _, ⟨_, rfl⟩, q⟩

/-! ### a comprehension whose test and element only read -/
open Evl in
theorem lc_pure {J : It} {n : Nat} {G : Hp → Prop} {Y : Nat → Hp → V → Hp → Prop} (u : Nat → V) (w : Walk J n G Y) (hY : ∀ i H x H', Y i H x H' → i < n → H' = H ∧ x = u i) {j : Nat} {vs : List Nat} {σ : L2.St} {H1 : Hp} {D : Addr} {tt : TT} {te : TE} {Qd : Hp → Prop} (f : Nat → Bool) (v : Nat → V)
    (hD : H1 D = none) (hn : n < 50000) (hG : ∀ H', Same H1 H' → G H') (hw : ∀ x, wipe ((wipe σ vs).set j (some x)) vs = wipe σ vs)
    (ht : ∀ i, i < n → EvT tt ((wipe σ vs).set j (some (u i))) H1 (f i)) (he : ∀ i, i < n → f i = true → Ev te ((wipe σ vs).set j (some (u i))) H1 (v i)) (hd : ∀ H', Same H1 H' → H' D = some (.lst (given n f v)) → Qd H') :
    ∃ W : Nat → Nat → Hp → Prop, (∃ m, W 0 m (upd H1 D (.lst []))) ∧ ∀ i m H, W i m H →
      (J.stop i H ∧ Qd H) ∨ (J.go i H ∧ ∃ Nx : Hp → Prop, (∀ H', Nx H' → ∃ m', m' < m ∧ W (i + 1) m' H') ∧ ∀ x H', J.yld i H x H' → gName j x (wipe σ vs) H' fun σ2 H2 => wipe σ2 vs = wipe σ vs ∧ tt σ2 H2 fun b H3 =>
        if b = true then te σ2 H3 fun y H4 => ∃ acc, H4 D = some (.lst acc) ∧ acc.length < sizeLine ∧ Nx (upd H4 D (.lst (acc ++ [y]))) else Nx H3) := by
  refine lc_it w (fun i H' => Cw H1 f v D i H') ⟨hD, Ex.new hD, upd_same⟩ (fun i H' _ p => hG H' p.2.1) (fun i x H H' hi p y => ?_) (fun H' p => hd H' p.2.1 p.2.2)
  obtain ⟨rfl, rfl⟩ := hY i H x H' y hi
  exact ⟨hw _, cw_turn p (by omega) (ht i hi) (he i hi)⟩
theorem b01 (c : Prop) [Decidable c] : (-(2 ^ 64) : Int) < (if c then 1 else 0) ∧ (if c then (1 : Int) else 0) < 2 ^ 64 := by
  split <;> decide
theorem b0 (c : Prop) [Decidable c] : (0 : Int) ≤ (if c then 1 else 0) := by
  split <;> decide
theorem mixB {x y j : Int} (h : 0 ≤ y ∧ y ≤ 7919000 * 1000) (h0 : 0 ≤ j) (h1 : j < 1000) : -(2 ^ 64) < x % 2147483629 + y + 31 * j + 17 ∧ x % 2147483629 + y + 31 * j + 17 < 2 ^ 64 := by
  omega
/-! ### slices and sums of tuples, whichever object they are -/
section
variable {K : PySem.W.Frag} {H : Hp} {a b : Addr} {xs ys : List V} {lo hi : Option Int} {Q : VK}
theorem cutV_whole (h : HT.sIx xs.length 0 lo = 0 ∧ HT.sIx xs.length xs.length hi = xs.length) : cutV xs lo hi = xs := by
  unfold cutV
  rw [h.1, h.2]
  exact List.take_length
theorem slA (h : SqT K H a xs) (q : ∀ p H', Same H H' → SqT K H' p (cutV xs lo hi) → Q (.ref p) H') : rSlA K (.ref a) lo hi H Q :=
  ⟨a, xs, rfl, h, fun hw => q a H (Same.refl H) (by rw [cutV_whole hw]; exact h), fun _ p np => q p _ (Same.new np) (SqT.of upd_same)⟩
theorem ctA (ha : SqT K H a xs) (hb : SqT K H b ys) (hz : xs.length + ys.length ≤ 1000000) (q : ∀ p H', Same H H' → SqT K H' p (xs ++ ys) → Q (.ref p) H') : rCatA K (.ref a) (.ref b) H Q := by
  refine ⟨a, b, xs, ys, rfl, rfl, ha, hb, small hz, fun e => ?_, fun _ e => ?_, fun _ _ p np => q p _ (Same.new np) (SqT.of upd_same)⟩
  · subst e
    exact q b H (Same.refl H) hb
  · subst e
    exact q a H (Same.refl H) (by rw [List.append_nil]; exact ha)
theorem cutV_from (i : Nat) : cutV xs (some (i : Int)) none = xs.drop i := by
  unfold cutV
  rw [HT.sIx_nat, HT.sIx_none]
  by_cases h : i ≤ xs.length
  · rw [Nat.min_eq_left h]
    exact List.take_of_length_le (by rw [List.length_drop]; omega)
  · rw [Nat.min_eq_right (by omega), List.drop_eq_nil_of_le (by omega), List.drop_eq_nil_of_le (by omega)]
    exact List.take_nil
theorem cutV_to (i : Nat) : cutV xs none (some (i : Int)) = xs.take i := by
  unfold cutV
  rw [HT.sIx_nat, HT.sIx_none, List.drop_zero, Nat.sub_zero]
  by_cases h : i ≤ xs.length
  · rw [Nat.min_eq_left h]
  · rw [Nat.min_eq_right (by omega), List.take_length, List.take_of_length_le (by omega)]
end
theorem maxB (x : Int) (h : 0 ≤ x) : 1 ≤ (if (if 3 < x then 3 else x) > 1 then (if 3 < x then 3 else x) else 1) ∧ (if (if 3 < x then 3 else x) > 1 then (if 3 < x then 3 else x) else 1) ≤ 3 := by
  split <;> split <;> omega
/-- a new source is used and left behind -/
theorem Same.used {p : Addr} {H H1 H2 H3 : Hp} (a : Same H H1) (np : H1 p = none) (b : Same H1 H2) (c : Exb p H2 H3) : Same H H3 := fun x o h =>
  c x o (fun z => by rw [z, a.free np] at h; cases h) (b x o (a x o h))
theorem atLastI {ns : List Int} {c : Int} (h : ns.getLast? = some c) : atI (ns.map V.int) (-1) = some (.int c) := by
  rcases List.eq_nil_or_concat ns with rfl | ⟨m, x, rfl⟩
  · cases h
  · rw [List.concat_eq_append] at *
    rw [List.getLast?_concat] at h
    cases Option.some.inj h
    rw [List.map_append]
    exact atI_last _ _
theorem atHeadI {ns : List Int} {c : Int} (h : ns.head? = some c) : atI (ns.map V.int) 0 = some (.int c) := by
  cases ns with
  | nil => cases h
  | cons x r =>
    cases Option.some.inj h
    exact atI0
theorem cutV_last {xs : List V} (h : 0 < xs.length) : cutV xs (some (-1)) none = xs.drop (xs.length - 1) := by
  unfold cutV
  rw [HT.sIx_none]
  have e : HT.sIx xs.length 0 (some (-1)) = xs.length - 1 := by
    show (if (-1 : Int) < 0 then (-1 + (xs.length : Int)).toNat else min (-1 : Int).toNat xs.length) = xs.length - 1
    rw [if_pos (by decide)]
    omega
  rw [e]
  exact List.take_of_length_le (by rw [List.length_drop]; omega)
theorem cutV_inn {xs : List V} (h : 2 ≤ xs.length) : cutV xs (some 1) (some (-1)) = xs.tail.dropLast := by
  unfold cutV
  have e1 : HT.sIx xs.length 0 (some 1) = 1 := by
    rw [show (1 : Int) = ((1 : Nat) : Int) from rfl, HT.sIx_nat]
    omega
  have e2 : HT.sIx xs.length xs.length (some (-1)) = xs.length - 1 := by
    show (if (-1 : Int) < 0 then (-1 + (xs.length : Int)).toNat else min (-1 : Int).toNat xs.length) = xs.length - 1
    rw [if_pos (by decide)]
    omega
  rw [e1, e2, List.drop_one, List.dropLast_eq_take, List.length_tail]
/-- a tuple is not where a list stands -/
theorem tup_upd {K : PySem.W.Frag} {H : Hp} {a q : Addr} {xs ys : List V} {o : HO} (h : SqT K H a xs) (hq : H q = some (.lst ys)) : SqT K (upd H q o) a xs := by
  rcases h with (h | ⟨f, h⟩) | h
  · exact .inl (.inl (by rw [upd_ne (fun z => by rw [z, hq] at h; cases h)]; exact h))
  · exact .inl (.inr ⟨f, by rw [upd_ne (fun z => by rw [z, hq] at h; cases h)]; exact h⟩)
  · exact .inr h
end Bw

namespace Bw
open PySem PySem.Spec PyProof.Rows L2
open PySem.W (Datum Tup)
/-! ### data by its Lean type -/
class Lay (α : Type) [DecidableEq α] [Datum α] : Prop where
  lay : ∀ a : α, (Datum.toD a).canLay0 = true
theorem layAll {α : Type} [DecidableEq α] [Datum α] [Lay α] : ∀ xs : List α, PyData.canLayAll0 (xs.map Datum.toD) = true
  | [] => rfl
  | x :: xs => by rw [List.map_cons, PyData.canLayAll0, Lay.lay x, layAll xs]; rfl
instance : Lay Int := ⟨fun _ => rfl⟩
instance : Lay Bool := ⟨fun _ => rfl⟩
instance {α : Type} [DecidableEq α] [Datum α] [Lay α] : Lay (Tup α) := ⟨fun t => by
  show PyData.canLay0 (.tuple (t.items.map Datum.toD)) = true
  rw [PyData.canLay0]
  exact layAll t.items⟩
instance {α : Type} [DecidableEq α] [Datum α] [Lay α] : Lay (List α) := ⟨fun t => by
  show PyData.canLay0 (.list (t.map Datum.toD)) = true
  rw [PyData.canLay0]
  exact layAll t⟩
instance {α β : Type} [DecidableEq α] [Datum α] [Lay α] [DecidableEq β] [Datum β] [Lay β] : Lay (α × β) := ⟨fun p => by
  show PyData.canLay0 (.tuple [Datum.toD p.1, Datum.toD p.2]) = true
  rw [PyData.canLay0, PyData.canLayAll0, PyData.canLayAll0, PyData.canLayAll0, Lay.lay, Lay.lay]
  rfl⟩
/-- v holds the datum a -/
def Hd {α : Type} [DecidableEq α] [Datum α] (K : PySem.W.Frag) (H : Hp) (v : V) (a : α) : Prop := Dp K H v (Datum.toD a)
section
variable {α β : Type} [DecidableEq α] [Datum α] [Lay α] [DecidableEq β] [Datum β] [Lay β] {K : PySem.W.Frag} {H : Hp} {x y : V} {a b : α} {Q : VK}
theorem shaped_of (a : α) (h : Datum.depth α ≤ 64) : SeqAt.shaped (Datum.toD a) = true := by
  unfold SeqAt.shaped
  rw [Lay.lay a, decide_eq_true (Nat.le_trans (Datum.depth_le a) h)]
  rfl
theorem eqH (ha : Hd K H x a) (hb : Hd K H y b) (q : Q (.bl (decide (a = b))) H) (hd : Datum.depth α ≤ 64 := by decide) : rEqD K x y H Q :=
  ⟨_, _, ha, hb, shaped_of a hd, shaped_of b hd, by rw [Datum.eqv]; exact q⟩
theorem neH (ha : Hd K H x a) (hb : Hd K H y b) (q : Q (.bl (!decide (a = b))) H) (hd : Datum.depth α ≤ 64 := by decide) : rNeD K x y H Q :=
  ⟨_, _, ha, hb, shaped_of a hd, shaped_of b hd, by rw [Datum.eqv]; exact q⟩
theorem hdI (i : Int) : Hd K H (.int i) i := .int i
theorem hdB (i : Bool) : Hd K H (.bl i) i := .bl i
theorem hdT {p : Addr} {ns : List Int} (h : SqT K H p (ns.map V.int)) : Hd K H (.ref p) (Tup.mk ns) := dpT h
theorem hdL {p : Addr} {ns : List Int} (h : SqL K H p (ns.map V.int)) : Hd K H (.ref p) ns := dpL h
theorem hdP {p : Addr} {c : β} (h : SqT K H p [x, y]) (ha : Hd K H x a) (hb : Hd K H y c) : Hd K H (.ref p) (a, c) := .tup h (.cons ha (.cons hb .nil))
end
/-! ### what stays under a change elsewhere -/
mutual
theorem dp_same {K : PySem.W.Frag} {H H1 : Hp} (e : Same H H1) : ∀ (d : PyData) (v : V), Dp K H v d → Dp K H1 v d
  | .none, _, h => by cases h; exact .non
  | .bool _, _, h => by cases h; exact .bl _
  | .int _, _, h => by cases h; exact .int _
  | .str _, _, h => by cases h; exact .str _
  | .list ds, _, h => by
    cases h with
    | lst hs ha => exact .lst (e.seq hs) (dp_sameAll e ds _ ha)
  | .tuple ds, _, h => by
    cases h with
    | tup hs ha => exact .tup (e.tup hs) (dp_sameAll e ds _ ha)
  | .dict _, _, h => by cases h
theorem dp_sameAll {K : PySem.W.Frag} {H H1 : Hp} (e : Same H H1) : ∀ (ds : List PyData) (vs : List V), DpAll K H vs ds → DpAll K H1 vs ds
  | [], _, h => by cases h; exact .nil
  | d :: ds, _, h => by
    cases h with
    | cons a b => exact .cons (dp_same e d _ a) (dp_sameAll e ds _ b)
end
theorem Hd.same {α : Type} [DecidableEq α] [Datum α] {K : PySem.W.Frag} {H H1 : Hp} {v : V} {a : α} (e : Same H H1) (h : Hd K H v a) : Hd K H1 v a := dp_same e _ _ h
/-! ### a list of draws -/
/-- what an expression that draws below t from the source at p gives -/
def Dr (te : TE) (σ : L2.St) (p : Addr) (t : Int) : Prop := ∀ (H : Hp) (Q : VK), Src H p → (∀ r H', 0 ≤ r → r < t → Src H' p → Exb p H H' → Q (.int r) H') → te σ H Q
theorem tYes_i {σ : L2.St} {H : Hp} {Q : Bool → Hp → Prop} (h : Q true H) : tYes σ H Q := h
theorem lc_draw {n j : Nat} {vs : List Nat} {σ : L2.St} {H1 : Hp} {D : Addr} {te : TE} {Qd : Hp → Prop} (t : Int) (p : Addr) (hD : H1 D = none) (s : Src H1 p) (hn : n < 100000) (hw : ∀ x, wipe ((wipe σ vs).set j (some x)) vs = wipe σ vs)
    (hd : ∀ i : Nat, i < n → Dr te ((wipe σ vs).set j (some (.int (0 + (i : Int))))) p t)
    (fin : ∀ (ns : List Int) H', ns.length = n → (∀ c ∈ ns, 0 ≤ c ∧ c < t) → D ≠ p → H' D = some (.lst (ns.map V.int)) → Src H' p → Exb p H1 H' → Qd H') :
    ∃ W : Nat → Nat → Hp → Prop, (∃ m, W 0 m (upd H1 D (.lst []))) ∧ ∀ i m H, W i m H →
      ((Itr 0 n).stop i H ∧ Qd H) ∨ ((Itr 0 n).go i H ∧ ∃ Nx : Hp → Prop, (∀ H', Nx H' → ∃ m', m' < m ∧ W (i + 1) m' H') ∧ ∀ x H', (Itr 0 n).yld i H x H' → gName j x (wipe σ vs) H' fun σ2 H2 => wipe σ2 vs = wipe σ vs ∧ tYes σ2 H2 fun b H3 =>
        if b = true then te σ2 H3 fun y H4 => ∃ acc, H4 D = some (.lst acc) ∧ acc.length < sizeLine ∧ Nx (upd H4 D (.lst (acc ++ [y]))) else Nx H3) := by
  have nDp := s.ne hD
  refine lc_it walk_range (fun i H' => ∃ ns : List Int, H' D = some (.lst (ns.map V.int)) ∧ ns.length = i ∧ (∀ c ∈ ns, 0 ≤ c ∧ c < t) ∧ Src H' p ∧ Exb p H1 H') ⟨[], upd_same, rfl, (fun c hc => by cases hc), s.put nDp, Exb.new hD⟩ (fun _ _ _ _ => trivial) (fun i x H2 H3 hi h y => ?_) (fun H' h => ?_)
  · obtain ⟨ns, h1, h2, h3, h4, h5⟩ := h
    obtain ⟨rfl, rfl⟩ := y
    refine ⟨hw _, ?_⟩
    refine tYes_i ?_
    refine iteT ?_
    refine hd i hi H3 _ h4 fun r H4 r0 r1 s4 e4 => ⟨_, e4.lst nDp h1, smallLt (by rw [List.length_map]; omega), ns ++ [r], by rw [upd_same, List.map_append]; rfl, by rw [List.length_append, h2]; rfl, fun c hc => ?_, s4.put nDp, (h5.trans e4).mut hD⟩
    rcases List.mem_append.mp hc with h | h
    · exact h3 c h
    · rw [List.mem_singleton.mp h]; exact ⟨r0, r1⟩
  · obtain ⟨ns, h1, h2, h3, h4, h5⟩ := h
    exact fin ns H' h2 h3 nDp h1 h4 h5
end Bw

set_option maxHeartbeats 1000000
namespace Bw
open PySem PySem.Spec PyProof.Rows L2
/-! ### defs that are run where no repr is under way -/
structure FnG (P : Program) (w : World) (K : PySem.W.Frag) (mg : Str → Option Value) (base : Heap) (CX : CXT) (k : Nat) (f : Addr) (fd : FuncData) (ps : List Str) (sp : Sp) : Prop where
  len : ∀ vs H Q E, sp vs H Q E → vs.length = ps.length
  go : ∀ (A : Around) (outer : List Env) (s : Shared) (H : Hp) (args : Args) (us : List Value) (vs : List V) (Q : VK) (E : XK), A.guards = some [] → Room k A → Env0 P w K mg base A outer s H → BindsTo s fd args (ps.zip us) → Vals vs us → sp vs H Q E →
    codeAny (model P w) A (.call (.ref f) args) (CR CX outer P w H s Q E) s
theorem FnG.of {P : Program} {w : World} {K : PySem.W.Frag} {mg : Str → Option Value} {base : Heap} {CX : CXT} {k : Nat} {f : Addr} {fd : FuncData} {ps : List Str} {sp : Sp} (F : FnOk P w K mg base CX k f fd ps sp) : FnG P w K mg base CX k f fd ps sp :=
  ⟨F.len, fun A outer s H args us vs Q E _ hr => F.run A outer s H args us vs Q E hr⟩
/-- a def by its body, as Fun.ok and Fun.okX, where no repr is under way -/
theorem fnG_of {CX : CXT} {P : Program} {w : World} {K : PySem.W.Frag} {mg : Str → Option Value} {base : Heap} {k : Nat} {x qual : Str} {st : Stmt} {f : Addr} {fd : FuncData} {N ps : List Str} {sp : Sp} (F : Fun K x qual st f fd) (S : FnScope N ps (defScope st))
    (len : ∀ vs H Q E, sp vs H Q E → vs.length = ps.length)
    (hbody : ∀ (cdv : Value) (A : Around) (outer : List Env) (s : Shared) (H : Hp) (vs : List V) (Q : VK) (E : XK), (A.deeper (envOfC qual (defScope st) s.heap.objs.size f cdv)).guards = some [] → Room k (A.deeper (envOfC qual (defScope st) s.heap.objs.size f cdv)) → sp vs H Q E →
      ∃ t, PSs (cxOf CX P w K mg base N qual (defScope st) f cdv A outer s H E) (defBody st) t ∧ t { nx := fun _ H' => Q .non H', rt := Q } (start N vs) H) : FnG P w K mg base CX (k + 1) f fd ps sp := by
  obtain ⟨oc, od, kV, doc, pm, an, cdv, ct, osl, rfl, lk, hcd⟩ := F.ex
  refine ⟨len, fun A outer s H args us vs Q E hg hr e0 hb r hsp => ?_⟩
  have stays : ∀ (b : Addr) (o : Obj), base.get? b = some o → s.heap.get? b = some o := fun b o z => (e0.bs b o z).1
  have inK : K.In s.heap := e0.mod.kin.keeps stays
  have pars : ∀ y ∈ ps.zip us, (defScope st).names.lookup y.1 = some .local ∨ ((defScope st).names.lookup y.1 = some .cell ∧ ((cellsFrom (s.heap.objs.size + 1) (defScope st).names []).lookup y.1).isSome = true) := by
    intro y hy
    rcases S.par y.1 (List.of_mem_zip (a := y.1) (b := y.2) hy).1 with z | z
    · exact .inl z
    · exact .inr ⟨z, PySem.W.cellsFrom_some _ _ _ (.inl z)⟩
  refine codeAny_call_function hr.depth (inK _ _ lk) rfl S.co S.gen rfl (PySem.W.codeRec_of inK hcd) (hb _ _ _ _ ?_)
  refine wpAny_newFunctionEnv_cells S.kind pars fun env he s1 x => ?_
  subst he
  refine ⟨(e0.mod.nolimit.keeps stays).keeps x.toInCall.keep, codeAny_func ?_⟩
  obtain ⟨t, ht, hq⟩ := hbody cdv A outer s H vs Q E hg (hr.deeper _) hsp
  have I := inv_start (CX := CX) (E := E) S hr.hd e0 (len _ _ _ _ hsp) r x
  refine wpAny_mono (ht.run [] s1 (start N vs) H _ I hq) ?_ (fun _ _ z => z)
  intro fl s' hs
  cases fl with
  | next =>
    obtain ⟨σ', H', J, z⟩ := hs
    exact ⟨.non, H', J.os, J.bare, J.base, J.hok, rfl, z⟩
  | ret u =>
    obtain ⟨v, σ', H', J, rv, z⟩ := hs
    exact ⟨v, H', J.os, J.bare, J.base, J.hok, rv, z⟩
  | brk => exact hs.elim fun _ h => h.elim fun _ h => h.2.elim
  | cont => exact hs.elim fun _ h => h.elim fun _ h => h.2.elim
/-- such a def, called by its name -/
structure CalG (P : Program) (w : World) (K : PySem.W.Frag) (mg : Str → Option Value) (base : Heap) (CX : CXT) (k : Nat) (x : Str) (ps : List Str) (st : Stmt) (sp : Sp) : Prop where
  ex : ∃ (f : Addr) (fd : FuncData), FnG P w K mg base CX k f fd ps sp ∧ Fun K x x st f fd ∧ mg x = some (.ref f) ∧ Binds K fd ps []
section
variable {X : Cx} {CX : CXT} {k : Nat} {x : Str} {ps : List Str} {st : Stmt} {sp : Sp} {E : XK} {p pos : Pos} {e : Expr} {es : List Expr} {t : TA}
theorem pe_calG (c : CalG X.prog X.w X.K X.mg X.base CX k x ps st sp) (hG : X.A.guards = some []) (hr : Room k X.A) (hx : Passes CX X E) (ha : PA X (e :: es) t) (hg : Gl X x := by rfl) (hdb : (x == ("__debug__" : Str)) = false := by decide)
    (he : starEach (e :: es) X.env = (false, eval e X.env) :: starEach es X.env := by rfl) (hpl : (backTo pos (starEach es X.env)).any (·.1) = false := by rfl) : PE X (.Call (.Name x p) (e :: es) [] pos) (tCall sp [] E t) := by
  obtain ⟨f, fd, G, F, hm, hb⟩ := c.ex
  refine ⟨fun pins s σ H Q I h => ?_⟩
  refine wpAny_Call_Name_kw (ld_glob I hg hm ?_ hdb)
  refine PySem.W.callWith_K (h₀ := X.base) I.ok.mod.kin F.kp (thn (ha.run pos pins s σ H _ I h) fun us s1 z => ?_) he hpl
  obtain ⟨vs, H1, I1, r, q⟩ := z
  refine ⟨I1.kIn, ?_⟩
  have r2 : Vals (vs ++ []) us := by rw [List.append_nil]; exact r
  have hl : us.length = ps.length := by rw [← r2.length]; exact G.len _ _ _ _ q
  have hb2 := hb s1 us I1.kIn (by rw [List.append_nil]; exact hl)
  rw [List.append_nil] at hb2
  refine wpAny_call (codeAny_mono (G.go X.A X.stack s1 H1 ⟨us, []⟩ us (vs ++ []) Q E hG hr I1.env0 hb2 r2 q) fun r' s' hq => ?_)
  match r', hq with
  | .error e, hq => exact hx pins σ H1 s1 e s' I1 hq
  | .ok (.ret u), hq => exact I1.after hq
  | .ok .next, hq => exact False.elim hq
  | .ok .brk, hq => exact False.elim hq
  | .ok .cont, hq => exact False.elim hq
end
end Bw

set_option maxHeartbeats 1000000
namespace Bw
open PySem PySem.Spec PyProof.Rows L2
/-- the heap that a law meets: nothing is tracked but the script -/
theorem first_heap {P : Program} {w : World} {K : PySem.W.Frag} {h : Heap} {a : Addr} {vs : List Value} {ns : List Int} (KX : K.In h) (ha : h.get? a = some { cls := .type "list", data := .seq vs.toArray }) (hi : IntsAre vs ns) (hl : ns.length ≤ sizeLine) :
    ∃ H : Hp, Only H ∧ SqL K H a (ns.map V.int) ∧ HOk P w H h ∧ (∀ b u, H b = some u → b = a ∧ K.lookup b = none) := by
  have rv := vals_ints hi
  by_cases hk : K.lookup a = none
  · let u : HO := .frz { cls := .type "list", data := .seq vs.toArray } (.lst (ns.map V.int))
    have ev : ∀ b z, (if b = a then some u else none) = some z → b = a ∧ z = u := fun b z e => by
      by_cases hb : b = a
      · rw [if_pos hb] at e
        exact ⟨hb, (Option.some.inj e).symm⟩
      · rw [if_neg hb] at e
        cases e
    refine ⟨fun b => if b = a then some u else none, fun b => ?_, .inl (.inr ⟨_, if_pos rfl⟩), fun b z e => ?_, fun b z e => ?_⟩
    · by_cases hb : b = a
      · exact .inr ⟨_, _, if_pos hb⟩
      · exact .inl (if_neg hb)
    · obtain ⟨rfl, rfl⟩ := ev b z e
      exact ⟨ha, by rw [List.length_map]; exact hl, vs, _, rv, ha⟩
    · obtain ⟨rfl, rfl⟩ := ev b z e
      exact ⟨rfl, hk⟩
  · obtain ⟨o, ho⟩ := Option.ne_none_iff_exists'.mp hk
    have e := KX a o ho
    rw [ha] at e
    cases e
    exact ⟨fun _ => none, fun _ => .inl rfl, .inr ⟨_, vs.toArray, _, ho, rfl, rfl, rfl, by rw [List.size_toArray, hi.length]; exact hl, by simpa using rv⟩, fun _ _ z => (by cases z), fun _ _ z => (by cases z)⟩
theorem law_callG {P : Program} {w : World} {K : PySem.W.Frag} {mg mb : Str → Option Value} {CX : CXT} {k : Nat} {fa a : Addr} {fd : FuncData} {x : Str} {sp : Sp} {s₁ : Shared} {vs : List Value} {ns : List Int}
    (KX : K.In s₁.heap) (hns : s₁.heap.Ns mainGlobals mg) (hb : s₁.heap.Ns builtinsNs mb) (hbb : ∀ x : Str, x ≠ "__name__" → mb x = bootBuiltins x) (hlim : s₁.heap.NoLimit) (hg : s₁.gens = #[])
    (ha : s₁.heap.get? a = some { cls := .type "list", data := .seq vs.toArray }) (hi : IntsAre vs ns) (hl : ns.length ≤ sizeLine) (hr : Room k callerA)
    (F : ∀ base : Heap, K.In base → base.Ns mainGlobals mg → FnG P w K mg base CX k fa fd [x] sp) (hbind : ∀ (s : Shared) (u : Value), BindsTo s fd ⟨[u], []⟩ [(x, u)])
    (hsp : ∀ H : Hp, SqL K H a (ns.map V.int) → sp [.ref a] H (fun v _ => v = .bl true) fun _ _ _ => False)
    (hCX : ∀ H e s', CX [] H s₁ (fun _ _ _ => False) e s' → False) :
    codeAny (model P w) callerA (.call (.ref fa) ⟨[.ref a], []⟩) (fun r s' => r = .ok (.ret (.bool true)) ∧ OldK s₁.heap s'.heap ∧ s'.os = s₁.os ∧ AllBare s'.gens) s₁ := by
  obtain ⟨H, hO, hS, hok, hA⟩ := first_heap (P := P) (w := w) KX ha hi hl
  let B := hidT s₁.heap H
  have inB : ∀ {b : Addr} {o : Obj}, s₁.heap.get? b = some o → (∀ u, H b ≠ some u) → B.get? b = some o := fun {b o} e n => hidT_get e (by
    cases q : H b with
    | none => rfl
    | some u => exact absurd q (n u))
  have nsB : ∀ {b : Addr} {m : Str → Option Value}, s₁.heap.Ns b m → B.Ns b m := fun {b m} hm => by
    obtain ⟨o, es, ep, e, dt, r⟩ := hm
    refine ⟨o, es, ep, inB e fun u q => ?_, dt, r⟩
    obtain ⟨rfl, _⟩ := hA b u q
    rw [ha] at e
    cases e
    cases dt
  have kB : K.In B := fun b o e => inB (KX b o e) fun u q => by
    rw [(hA b u q).2] at e
    cases e
  have limB : B.NoLimit := by
    obtain ⟨mc, h1, h2⟩ := hlim
    exact ⟨mc, nsB h1, h2⟩
  have e0 : Env0 P w K mg B callerA [] s₁ H := ⟨rfl, ⟨kB, nsB hns, ⟨mb, nsB hb, hbb⟩, limB⟩, fun b o e => of_hidT e, Nat.le_of_eq (hidT_size _ _), trivial, fun b hb => absurd (show b ∈ ([] : List Addr) from hb) (by simp), hok, .of_eq hg⟩
  have run := (F B kB (nsB hns)).go callerA [] s₁ H ⟨[.ref a], []⟩ [.ref a] [.ref a] _ _ rfl hr e0 (hbind s₁ (.ref a)) (.cons rfl .nil) (hsp H hS)
  refine codeAny_mono run fun r s' h => ?_
  match r, h with
  | .error e, h => exact (hCX H e s' h).elim
  | .ok .next, h => exact False.elim h
  | .ok .brk, h => exact False.elim h
  | .ok .cont, h => exact False.elim h
  | .ok (.ret u), h =>
    obtain ⟨v, H', os, bare, un, hok', r', q⟩ := h
    have q' : v = .bl true := q
    subst q'
    obtain rfl : u = Value.bool true := r'
    refine ⟨rfl, OldK.of_keep fun b o e => ?_, os, bare⟩
    rcases hO b with z | ⟨ob, xs, z⟩
    · exact un.keep b o e z (fun w => absurd (show b ∈ ([] : List Addr) from w) (by simp)) (by simp)
    · have z1 := (hok b _ z).1
      have z2 := (hok' b _ (un.frzs b ob _ z)).1
      rw [e] at z1
      cases z1
      exact z2
theorem walk_ofG {l : PySem.W.OpenLaw} {n k : Nat} {q : Program} {loose : List Str} {XP : (Str → Option Value) → Heap → Prop} {YP : World → Heap → Prop} {d : DefRec} {K : Params → PySem.W.Frag} {CX : World → CXT} {sp : World → Sp} {x : Str}
    (hn : l.most = some n) (hn2 : n ≤ sizeLine) (hdf : d.params.defaults = []) (hr : Room k callerA) (hY : ∀ (w : World) (h : Heap), YP w h → (K w.params).In h)
    (F : ∀ (w : World) (mg : Str → Option Value) (fa : Addr) (h : Heap), (K w.params).In h → h.Ns mainGlobals mg → mg d.name = some (.ref fa) →
      ∃ fd : FuncData, (∀ (s : Shared) (u : Value), BindsTo s fd ⟨[u], []⟩ [(x, u)]) ∧ ∀ base : Heap, (K w.params).In base → base.Ns mainGlobals mg → FnG l.prog w (K w.params) mg base (CX w) k fa fd [x] (sp w))
    (hsp : ∀ (w : World) (H : Hp) (a : Addr) (ns : List Int), ns.length ≤ n → SqL (K w.params) H a (ns.map V.int) → sp w [.ref a] H (fun v _ => v = .bl true) fun _ _ _ => False)
    (hCX : ∀ (w : World) (H : Hp) (s : Shared) (e : Value) (s' : Shared), CX w [] H s (fun _ _ _ => False) e s' → False) :
    PySem.W.WalkO q loose XP YP l.row.toRowW d [] (fun f vs => PySem.call f vs) := by
  refine Att.attach_call hn hdf fun w s₀ s₁ mg mb fa o pm cd doc a vs ns G Y ho hd hcd hmg hobj hints hlen hg => ?_
  obtain ⟨fd, hb, hF⟩ := F w mg fa _ (hY w _ Y) G.T.g hmg
  exact law_callG (hY w _ Y) G.T.g G.T.b G.T.builtins G.T.nolimit hg hobj hints (Nat.le_trans hlen hn2) hr hF hb (fun H hS => hsp w H a ns hlen hS) fun H e s' => hCX w H s₁ e s'
end Bw

set_option maxHeartbeats 1000000
namespace Bw
open PySem PySem.Spec PyProof.Rows L2
/-! ### the errors of the program: classes under Refused, which keep one thing in what -/
structure XC (K : PySem.W.Frag) (C : Addr) : Prop where
  oex : OexC K C
  noW : PySem.W.findIn K (.ref C) "what" = some none
  xf : XfC K C
  hcl : (PySem.W.clsIn K C).isSome = true
  ha : PySem.W.findIn K (.ref C) "__class__" = some (some (.builtin "object.__class__"))
  hn : PySem.W.specialIn K (.builtin "object.__class__") "__get__" = some (some (.builtin "getset_descriptor.__get__"))
  ht : PySem.W.takesIn K (.builtin "object.__class__") = some true
  hm : PySem.W.mroIn K C (.type "object") = some true
/-- the promise of their __init__ -/
def sp_init (K : PySem.W.Frag) : Sp := fun vs H Q _ => ∃ (a C : Addr) (v : V), vs = [.ref a, v] ∧ OexC K C ∧ PySem.W.findIn K (.ref C) "what" = some none ∧ H a = some (exo a C none) ∧
  ∀ d, H d = none → d ≠ a → Q .non (upd (upd H d (exd d [("what", v)])) a (exo a C (some d)))
/-- an error's class and its __init__ -/
structure XM (P : Program) (w : World) (K : PySem.W.Frag) (mg : Str → Option Value) (base : Heap) (x : Str) (C : Addr) : Prop where
  gm : mg x = some (.ref C)
  c : XC K C
  init : ∃ (f : Addr) (fd : FuncData), PySem.W.findIn K (.ref C) "__init__" = some (some (.ref f)) ∧ PySem.W.typeIn K (.ref f) = some (.type "function") ∧ FnOk P w K mg base CX0 1 f fd ["self", "what"] (sp_init K) ∧ Binds K fd ["self", "what"] []
/-- what making such an error wants behind its argument -/
theorem made_what {K : PySem.W.Frag} {C : Addr} {v : V} {H : Hp} {Q : XK} (T : XC K C) (q : ∀ d, H d = none → Q (.ref C) (some d) (upd H d (.xd [("what", v)]))) :
    [v].length ≤ 1000 ∧ ∀ a, H a = none → sp_init K (.ref a :: ([v] ++ [])) (upd H a (exo a C none))
      (fun u H2 => u = .non ∧ ∃ (d : Addr) (fs : List (Str × V)), H2 a = some (exo a C (some d)) ∧ H2 d = some (exd d fs) ∧ H d = none ∧ Q (.ref C) (some d) (upd (del H2 a) d (.xd fs))) (fun _ _ _ => False) := by
  refine ⟨by show 1 ≤ 1000; decide, fun a na => ⟨a, C, v, rfl, T.oex, T.noW, upd_same, fun d nd nda => ⟨rfl, d, [("what", v)], upd_same, by rw [upd_ne nda, upd_same], by rw [upd_ne nda] at nd; exact nd, ?_⟩⟩⟩
  rw [upd_ne nda] at nd
  have e : upd (del (upd (upd (upd H a (exo a C none)) d (exd d [("what", v)])) a (exo a C (some d))) a) d (.xd [("what", v)]) = upd H d (.xd [("what", v)]) := by
    funext b
    by_cases hd : b = d
    · rw [hd, upd_same, upd_same]
    · rw [upd_ne hd, upd_ne hd]
      by_cases ha : b = a
      · rw [ha, del_same, na]
      · rw [del_ne ha, upd_ne ha, upd_ne hd, upd_ne ha]
  rw [e]
  exact q d nd
section
variable {X : Cx} {x : Str} {C : Addr} {e : Expr} {ta : TA} {p pos pos2 : Pos} {E : XK} {W : WX}
/-- raise X(e) -/
theorem ps_raiseW (hc : X.calm = true) (T : XM X.prog X.w X.K X.mg X.base x C) (hr : Room 2 X.A) (tk : Takes X W) (ha : PA X [e] ta) (hg : Gl X x := by rfl) (hdb : (x == ("__debug__" : Str)) = false := by decide)
    (he : starEach [e] X.env = (false, eval e X.env) :: starEach [] X.env := by rfl) (hpl : (backTo pos (starEach [] X.env)).any (·.1) = false := by rfl) :
    PS X (.Raise (some (.Call (.Name x p) [e] [] pos)) none pos2) (fun _ σ H => tMkO C (sp_init X.K) [] ta σ H fun cls d H' => W cls d σ H') := by
  obtain ⟨f, fd, hi, ht, F, b⟩ := T.init
  exact ps_raise hc tk (pmk_oex T.c.oex hi ht F hr b .nil pass0 hg T.gm ha hdb he hpl)
/-- isinstance(e, c), e the error that the suite holds -/
def rIsX (K : PySem.W.Frag) (a : Addr) (cls : Value) (d : Option Addr) : List V → Hp → VK → Prop := fun xs H Q => ∃ (D : Addr) (c : V) (cv : Value) (b : Bool) (dd : Addr) (fs : List (Str × V)),
  xs = [.ref a, c] ∧ cls = .ref D ∧ XC K D ∧ (∀ u, RelV c u → u = cv) ∧ PySem.W.kitOne K (.ref D) cv = some b ∧ d = some dd ∧ H dd = some (.xd fs) ∧ Q (.bl b) H
theorem call_isX {a : Addr} {oe : Obj} {cls : Value} {d : Option Addr} {pn : List (Addr × Obj)} (hz : Zc cls d oe) (hf : ∃ vs, oe.data = .fields vs) : CallR (X.suite a ((a, oe) :: pn)) (.builtin "isinstance") (rIsX X.K a cls d) := by
  intro pins s σ H xs us Q I r h
  obtain ⟨D, c, cv, b, dd, fs, rfl, rfl, T, hcv, hk, rfl, hx, q⟩ := h
  obtain ⟨u1, u2, rfl, r1, r2⟩ := vals2 r
  cases (show u1 = Value.ref a from r1)
  cases hcv _ r2
  obtain ⟨vs, hv⟩ := hf
  obtain ⟨ha, _⟩ := I.pin (a, oe) (List.mem_append_left _ List.mem_cons_self)
  have hxo : ObjOk X.prog X.w H s.heap dd (.xd fs) := I.hok dd _ hx
  obtain ⟨mA, hns, _⟩ := hxo
  obtain ⟨od, ho, _⟩ := lookIn_ns hns
  have J : PySem.W.InstAt s.heap a oe D (some od) := ⟨ha, hz.1, by unfold PySem.W.notCls; rw [hv] <;> rfl, by rw [hz.2]; exact ho⟩
  exact PySem.W.kia_one (PySem.W.kitx_exc T.hcl T.xf.ga T.xf.gg T.xf.exC T.ha T.hn T.ht T.hm) I.kIn J hk (fun z => nomatch z) fun tk => ⟨.bl b, H, I.kept (t' := tk) fun _ _ z => z, rfl, q⟩
/-- e.what, e the error that the suite holds -/
def tWhat (K : PySem.W.Frag) (a : Addr) (cls : Value) (d : Option Addr) (te : TE) : TE := fun σ H Q => te σ H fun x H1 => x = .ref a ∧ ∃ (D dd : Addr) (v : V), cls = .ref D ∧ XC K D ∧ d = some dd ∧ H1 dd = some (.xd [("what", v)]) ∧ Q v H1
theorem pe_what {a : Addr} {oe : Obj} {cls : Value} {d : Option Addr} {pn : List (Addr × Obj)} {te : TE} (hz : Zc cls d oe) (hf : ∃ vs, oe.data = .fields vs) (he : PE (X.suite a ((a, oe) :: pn)) e te)
    (hb : attributeBase e "what" X.env (eval e X.env) = eval e X.env := by rfl) : PE (X.suite a ((a, oe) :: pn)) (.Attribute e "what" pos) (tWhat X.K a cls d te) := by
  refine ⟨fun pins s σ H Q I h => ?_⟩
  refine attr_of hb (thn (he.run pins s σ H _ I h) fun u s1 z => ?_)
  obtain ⟨x, H1, I1, rx, rfl, D, dd, v, rfl, T, rfl, ea, q⟩ := z
  cases (show u = Value.ref a from rx)
  obtain ⟨ha, _⟩ := I1.pin (a, oe) (List.mem_append_left _ List.mem_cons_self)
  obtain ⟨vs, hd⟩ := hf
  have hx : ObjOk X.prog X.w H1 s1.heap dd (.xd [("what", v)]) := I1.hok dd _ ea
  obtain ⟨mA, hns, hr⟩ := hx
  obtain ⟨od, ho, hl⟩ := lookIn_ns hns
  obtain ⟨u, hu, ru⟩ := RelO.some_of (v := v) (o := mA "what") (by
    have := hr "what"
    simpa [List.lookup] using this)
  have J : PySem.W.InstAt s1.heap a oe D (some od) := ⟨ha, hz.1, by unfold PySem.W.notCls; rw [hd] <;> rfl, by rw [hz.2]; exact ho⟩
  exact HandSPX.exc_get I1.kIn J T.xf.ga T.xf.gg T.xf.exC (PySem.W.findObj_own T.xf.hdC T.noW rfl (by rw [hl, hu])) (handed_of ru) ⟨v, H1, I1.tok _, ru, q⟩
end
end Bw

set_option maxHeartbeats 1000000
namespace Bw
open PySem PySem.Spec PyProof.Rows L2
/-! ### a class of the program, made by its __init__ -/
structure CalC (P : Program) (w : World) (K : PySem.W.Frag) (mg : Str → Option Value) (base : Heap) (k : Nat) (x : Str) (C : Addr) (ps : List Str) (sp : Sp) : Prop where
  ex : ∃ (f : Addr) (fd : FuncData), Mk K C f ∧ FnOk P w K mg base CX0 k f fd ps sp ∧ mg x = some (.ref C) ∧ Binds K fd ps []
section
variable {X : Cx} {CX : CXT} {k : Nat} {x f : Str} {C : Addr} {ps ks : List Str} {st : Stmt} {sp : Sp} {E : XK} {p pos : Pos} {e : Expr} {es : List Expr} {kws : List Keyword} {t tk : TA} {ta : TE} {W : WX}
theorem pe_mk (c : CalC X.prog X.w X.K X.mg X.base k x C ps sp) (hr : Room (k + 1) X.A) (ha : PA X (e :: es) t) (hg : Gl X x := by rfl) (hdb : (x == ("__debug__" : Str)) = false := by decide)
    (he : starEach (e :: es) X.env = (false, eval e X.env) :: starEach es X.env := by rfl) (hpl : (backTo pos (starEach es X.env)).any (·.1) = false := by rfl) : PE X (.Call (.Name x p) (e :: es) [] pos) (tMake C sp [] E0 t) := by
  obtain ⟨f, fd, M, F, hm, hb⟩ := c.ex
  exact pe_make M F hr hg hm hb .nil pass0 ha hdb he hpl
/-- o.f, the written part told -/
theorem peF (K : PySem.W.Frag) (he : PE X e ta) (h : X.K = K := by rfl) (hb : attributeBase e f X.env (eval e X.env) = eval e X.env := by rfl) : PE X (.Attribute e f pos) (tFld K ta f) := h ▸ pe_fld he hb
/-- in a try's body: a call that may raise -/
theorem pe_calS (c : Cal X.prog X.w X.K X.mg X.base (L2.CX X.prog X.w) k x ps st sp) (hr : Room k X.A) (tk : Takes X W) (ha : PA X (e :: es) t) (hg : Gl X x := by rfl) (hdb : (x == ("__debug__" : Str)) = false := by decide)
    (he : starEach (e :: es) X.env = (false, eval e X.env) :: starEach es X.env := by rfl) (hpl : (backTo pos (starEach es X.env)).any (·.1) = false := by rfl) : PE X (.Call (.Name x p) (e :: es) [] pos) (tCallS sp (WE W) t) := by
  obtain ⟨f, fd, G, F, hm, hb⟩ := c.ex
  exact pe_callS G hr hg hm F.kp hb (fun σ => passAt tk σ) ha hdb he hpl
def tCallKS (sp : Sp) (gV : List V → List V → List V) (E : L2.St → XK) (tk : TA) : TE := fun σ H Q => tk σ H fun zs H2 => sp (gV [] zs) H2 Q (E σ)
theorem pe_calKS0 {g : List Value → List Value → List Value} {gV : List V → List V → List V} (c : Cal X.prog X.w X.K X.mg X.base (L2.CX X.prog X.w) k x ps st sp) (B : KwB x st ps ks g gV) (hr : Room k X.A) (tkW : Takes X W) (hkw : PK X kws tk) (hg : Gl X x := by rfl)
    (hall : (backToKw pos (keywordEach kws X.env)).all (·.1.isSome) = true := by rfl) (hks : (backToKw pos (keywordEach kws X.env)).filterMap (·.1) = ks := by rfl)
    (hdb : (x == ("__debug__" : Str)) = false := by decide)
    (hpl : ((backTo pos (starEach [] X.env)).any (·.1) || (backToKw pos (keywordEach kws X.env)).any (·.1.isNone)) = false := by rfl) :
    PE X (.Call (.Name x p) [] kws pos) (tCallKS sp gV (WE W) tk) := by
  obtain ⟨f, fd, G, F, hm, hb⟩ := c.ex
  refine ⟨fun pins s σ H Q I h => ?_⟩
  refine wpAny_Call_Name_kw (ld_glob I hg hm ?_ hdb)
  refine PySem.W.callWith_KW0 (h₀ := X.base) I.ok.mod.kin F.kp hall (thn (hkw.run pos pins s σ H _ I h) fun ws s2 z => ?_) hpl
  obtain ⟨zs, H2, I2, rz, q2⟩ := z
  refine ⟨I2.kIn, ?_⟩
  rw [hks]
  have kb := B.binds F
  have r2 := kb.rel (vs := []) (us := []) .nil rz
  have hl : (g [] ws).length = ps.length := by rw [← r2.length]; exact G.len _ _ _ _ q2
  refine wpAny_call (codeAny_mono (G.run X.A X.stack s2 H2 ⟨[], ks.zip ws⟩ (g [] ws) (gV [] zs) Q (WE W σ) hr I2.env0 (kb.to s2 [] ws I2.kIn hl) r2 q2) fun r' s' hq => ?_)
  match r', hq with
  | .error e, hq => exact passAt tkW σ pins H2 s2 e s' I2 hq
  | .ok (.ret u), hq => exact I2.after hq
  | .ok .next, hq => exact False.elim hq
  | .ok .brk, hq => exact False.elim hq
  | .ok .cont, hq => exact False.elim hq
theorem isX (K : PySem.W.Frag) {a : Addr} {oe : Obj} {cls : Value} {d : Option Addr} {pn : List (Addr × Obj)} (hz : Zc cls d oe) (hf : ∃ vs, oe.data = .fields vs) (h : X.K = K := by rfl) : CallR (X.suite a ((a, oe) :: pn)) (.builtin "isinstance") (rIsX K a cls d) := h ▸ call_isX hz hf
theorem whatX (K : PySem.W.Frag) {a : Addr} {oe : Obj} {cls : Value} {d : Option Addr} {pn : List (Addr × Obj)} {te : TE} (hz : Zc cls d oe) (hf : ∃ vs, oe.data = .fields vs) (he : PE (X.suite a ((a, oe) :: pn)) e te) (h : X.K = K := by rfl)
    (hb : attributeBase e "what" X.env (eval e X.env) = eval e X.env := by rfl) : PE (X.suite a ((a, oe) :: pn)) (.Attribute e "what" pos) (tWhat K a cls d te) := h ▸ pe_what hz hf he hb
def rReprD (K : PySem.W.Frag) : List V → Hp → VK → Prop := fun xs H Q => ∃ a d, xs = [.ref a] ∧ Dp K H (.ref a) d ∧ d.showable = true ∧ d.hasDict = false ∧ d.depth < 64 ∧ d.shown.length ≤ sizeLine ∧ Q (.str d.shown) H
theorem reprD (K : PySem.W.Frag) (hG : X.A.guards = some []) {j : Nat} (hr : Room j X.A) (h : X.K = K := by rfl) : CallR X (.builtin "repr") (rReprD K) := h ▸ call_reprD hG (by have := hr.un; omega)
end
/-! ### tuples of tuples of ints -/
def rowD (r : List Int) : PyData := .tuple (r.map .int)
def TT (K : PySem.W.Frag) (H : Hp) (a : Addr) (rows : List (List Int)) : Prop := Dp K H (.ref a) (.tuple (rows.map rowD))
theorem dpAll_int {K : PySem.W.Frag} {H : Hp} : ∀ {vs : List V} {ns : List Int}, DpAll K H vs (ns.map PyData.int) → vs = ns.map V.int
  | [], [], _ => rfl
  | [], _ :: _, h => by cases h
  | _ :: _, [], h => by cases h
  | v :: vs, n :: ns, h => by
    cases h with
    | cons a b =>
      cases a
      rw [dpAll_int b]
      rfl
theorem dp_row {K : PySem.W.Frag} {H : Hp} {v : V} {r : List Int} (h : Dp K H v (rowD r)) : ∃ b, v = .ref b ∧ SqT K H b (r.map V.int) := by
  cases h with
  | tup hs ha =>
    cases dpAll_int ha
    exact ⟨_, rfl, hs⟩
theorem row_dp {K : PySem.W.Frag} {H : Hp} {b : Addr} {r : List Int} (h : SqT K H b (r.map V.int)) : Dp K H (.ref b) (rowD r) := dpT h
theorem dpAll_get {K : PySem.W.Frag} {H : Hp} : ∀ {vs : List V} {ds : List PyData}, DpAll K H vs ds → ∀ {i : Nat} {d : PyData}, ds[i]? = some d → ∃ v, vs[i]? = some v ∧ Dp K H v d
  | [], [], _, i, d, h => by simp at h
  | [], _ :: _, h, _, _, _ => by cases h
  | _ :: _, [], h, _, _, _ => by cases h
  | v :: vs, e :: ds, h, i, d, hi => by
    cases h with
    | cons a b =>
      cases i with
      | zero => cases Option.some.inj hi; exact ⟨v, rfl, a⟩
      | succ i => exact dpAll_get b (i := i) hi
theorem dpAll_len {K : PySem.W.Frag} {H : Hp} : ∀ {vs : List V} {ds : List PyData}, DpAll K H vs ds → vs.length = ds.length
  | [], [], _ => rfl
  | [], _ :: _, h => by cases h
  | _ :: _, [], h => by cases h
  | v :: vs, e :: ds, h => by
    cases h with
    | cons a b => rw [List.length_cons, List.length_cons, dpAll_len b]
theorem dpAll_app {K : PySem.W.Frag} {H : Hp} : ∀ {vs ws : List V} {ds es : List PyData}, DpAll K H vs ds → DpAll K H ws es → DpAll K H (vs ++ ws) (ds ++ es)
  | [], _, [], _, _, h => h
  | [], _, _ :: _, _, h, _ => by cases h
  | _ :: _, _, [], _, h, _ => by cases h
  | _ :: vs, _, _ :: ds, _, h, k => by
    cases h with
    | cons a b => exact .cons a (dpAll_app b k)
theorem TT.seq {K : PySem.W.Frag} {H : Hp} {a : Addr} {rows : List (List Int)} (h : TT K H a rows) : ∃ vs, SqT K H a vs ∧ vs.length = rows.length ∧ ∀ (i : Nat) (r : List Int), rows[i]? = some r → ∃ b, vs[i]? = some (.ref b) ∧ SqT K H b (r.map V.int) := by
  cases h with
  | tup hs ha =>
    refine ⟨_, hs, by rw [dpAll_len ha, List.length_map], fun i r hr => ?_⟩
    obtain ⟨v, hv, hd⟩ := dpAll_get ha (i := i) (d := rowD r) (by rw [List.getElem?_map, hr]; rfl)
    obtain ⟨b, rfl, hb⟩ := dp_row hd
    exact ⟨b, hv, hb⟩
theorem TT.same {K : PySem.W.Frag} {H H1 : Hp} {a : Addr} {rows : List (List Int)} (e : Same H H1) (h : TT K H a rows) : TT K H1 a rows := dp_same e _ _ h
end Bw

set_option maxHeartbeats 1000000
namespace Bw
open PySem PySem.Spec PyProof.Rows L2
section
variable {X : Cx}
theorem allL (K : PySem.W.Frag) (hc : X.calm = true) (h : X.K = K := by rfl) : CallR X (.builtin "all") (rAll K) := h ▸ cr_all hc
end
/-! ### a list of what an expression that only reads gives, over any walk; what is new in the heap may stay -/
/-- te gives at σ a value that stands for u, and leaves what stood -/
def Rd (te : TE) (σ : L2.St) (H0 : Hp) (P : V → Hp → Prop) : Prop := ∀ (H : Hp) (Q : VK), Same H0 H → (∀ v H', Same H H' → P v H' → Q v H') → te σ H Q
theorem lc_rd {J : It} {n j : Nat} {G : Hp → Prop} {Y : Nat → Hp → V → Hp → Prop} (u : Nat → V) (w : Walk J n G Y) (hY : ∀ i H x H', Y i H x H' → i < n → H' = H ∧ x = u i) {vs : List Nat} {σ : L2.St} {H1 : Hp} {D : Addr} {te : TE} {Qd : Hp → Prop} (P : Nat → V → Hp → Prop)
    (hD : H1 D = none) (hn : n < 100000) (hw : ∀ x, wipe ((wipe σ vs).set j (some x)) vs = wipe σ vs) (hG : ∀ H', Same H1 H' → G H')
    (hP : ∀ i v H H', Same H H' → P i v H → P i v H')
    (hd : ∀ i : Nat, i < n → Rd te ((wipe σ vs).set j (some (u i))) H1 (P i))
    (fin : ∀ (xs : List V) H', xs.length = n → H' D = some (.lst xs) → Same H1 H' → (∀ i v, xs[i]? = some v → P i v H') → Qd H') (hPm : ∀ i v H (x : List V) y, P i v H → H D = some (.lst x) → P i v (upd H D y)) :
    ∃ W : Nat → Nat → Hp → Prop, (∃ m, W 0 m (upd H1 D (.lst []))) ∧ ∀ i m H, W i m H →
      (J.stop i H ∧ Qd H) ∨ (J.go i H ∧ ∃ Nx : Hp → Prop, (∀ H', Nx H' → ∃ m', m' < m ∧ W (i + 1) m' H') ∧ ∀ x H', J.yld i H x H' → gName j x (wipe σ vs) H' fun σ2 H2 => wipe σ2 vs = wipe σ vs ∧ tYes σ2 H2 fun b H3 =>
        if b = true then te σ2 H3 fun y H4 => ∃ acc, H4 D = some (.lst acc) ∧ acc.length < sizeLine ∧ Nx (upd H4 D (.lst (acc ++ [y]))) else Nx H3) := by
  refine lc_it w (fun i H' => ∃ xs : List V, xs.length = i ∧ H' D = some (.lst xs) ∧ Same H1 H' ∧ ∀ k v, xs[k]? = some v → P k v H') ⟨[], rfl, upd_same, Same.new hD, fun k v e => by simp at e⟩ (fun i H' _ h => hG _ (by obtain ⟨_, _, _, s, _⟩ := h; exact s)) (fun i x H2 H3 hi h y => ?_) (fun H' h => ?_)
  · obtain ⟨xs, h1, h2, h3, h4⟩ := h
    obtain ⟨rfl, rfl⟩ := hY i H2 x H3 y hi
    refine ⟨hw _, ?_⟩
    refine tYes_i ?_
    refine iteT ?_
    refine hd i hi H3 _ h3 fun v H4 s4 p4 => ⟨xs, s4 _ _ h2, smallLt (by omega), xs ++ [v], by rw [List.length_append, h1]; rfl, upd_same, (h3.trans s4).mut hD, fun k v' e => ?_⟩
    rcases Nat.lt_trichotomy k xs.length with hk | hk | hk
    · rw [List.getElem?_append_left hk] at e
      exact hPm _ _ _ _ _ (hP _ _ _ _ s4 (h4 k v' e)) (s4 _ _ h2)
    · subst hk
      rw [List.getElem?_append_right (Nat.le_refl _), Nat.sub_self] at e
      cases Option.some.inj e
      rw [h1]
      exact hPm _ _ _ _ _ p4 (s4 _ _ h2)
    · rw [List.getElem?_eq_none (by rw [List.length_append]; show xs.length + 1 ≤ k; omega)] at e
      cases e
  · obtain ⟨xs, h1, h2, h3, h4⟩ := h
    exact fin xs H' h1 h2 h3 h4
/-! ### tables -/
theorem TT.of {K : PySem.W.Frag} {H : Hp} {a : Addr} {vs : List V} {rows : List (List Int)} (h : SqT K H a vs) (hl : vs.length = rows.length) (hr : ∀ (i : Nat) (v : V) (r : List Int), vs[i]? = some v → rows[i]? = some r → ∃ b, v = .ref b ∧ SqT K H b (r.map V.int)) : TT K H a rows := by
  refine .tup h ?_
  clear h
  induction vs generalizing rows with
  | nil =>
    cases rows with
    | nil => exact .nil
    | cons r rs => cases hl
  | cons v vs ih =>
    cases rows with
    | nil => cases hl
    | cons r rs =>
      obtain ⟨b, rfl, hb⟩ := hr 0 v r rfl rfl
      exact .cons (row_dp hb) (ih (by simpa using hl) fun i v r e1 e2 => hr (i + 1) v r e1 e2)
/-- a table at t, of the class C -/
def TB (K : PySem.W.Frag) (C : Addr) (H : Hp) (t : Addr) (rows : List (List Int)) : Prop := ∃ dx r, H t = some (.ins C dx [("many", .int (rows.length : Nat)), ("beside", .ref r)]) ∧ TT K H r rows
theorem TB.same {K : PySem.W.Frag} {C t : Addr} {H H1 : Hp} {rows : List (List Int)} (e : Same H H1) (h : TB K C H t rows) : TB K C H1 t rows := by
  obtain ⟨dx, r, h1, h2⟩ := h
  exact ⟨dx, r, e _ _ h1, h2.same e⟩
end Bw
namespace Bw
open PySem PySem.Spec PyProof.Rows L2
/-! ### data that may be shown -/
structure Sh (b k : Nat) (d : PyData) : Prop where
  sh : d.showable = true
  nod : d.hasDict = false
  lv : d.leavesShort 64 = true
  dp : d.depth ≤ k
  bk : d.bulk ≤ b
theorem int_shown {n : Int} (h : n.natAbs < 2 ^ 60) : (PyData.shown (.int n)).length ≤ 64 := by
  have e := nat_repr_length_le (n := n.natAbs) (k := 60) (by decide) h
  show (Str.ofString (toString n)).length ≤ 64
  have : (Str.ofString (toString n)).length = (toString n).length := PySem.ofString_length _
  rw [this]
  cases n with
  | ofNat m =>
    have e2 : (Nat.repr m).length ≤ 60 := e
    show (Nat.repr m).length ≤ 64
    omega
  | negSucc m =>
    have e2 : (Nat.repr (m + 1)).length ≤ 60 := e
    show ("-" ++ Nat.repr (m + 1)).length ≤ 64
    rw [String.length_append]
    show 1 + _ ≤ 64
    omega
theorem Sh.int {n : Int} (h : n.natAbs < 2 ^ 60) : Sh 0 0 (.int n) := by
  refine ⟨?_, rfl, ?_, Nat.le_of_eq rfl, Nat.le_of_eq rfl⟩
  · have : n.natAbs.log2 < 1920 := by
      rcases Nat.eq_zero_or_pos n.natAbs with z | z
      · rw [z]; decide
      · have := (Nat.log2_lt (k := 60) (Nat.pos_iff_ne_zero.mp z)).mpr h
        omega
    simp [PyData.showable, this]
  · simp only [PyData.leavesShort, decide_eq_true_eq]
    exact int_shown h
theorem Sh.non : Sh 0 0 .none := ⟨rfl, rfl, rfl, Nat.le_of_eq rfl, Nat.le_of_eq rfl⟩
theorem Sh.bl (b : Bool) : Sh 0 0 (.bool b) := ⟨rfl, rfl, rfl, Nat.le_of_eq rfl, Nat.le_of_eq rfl⟩
theorem Sh.le {b k b' k' : Nat} {d : PyData} (h : Sh b k d) (hb : b ≤ b') (hk : k ≤ k') : Sh b' k' d := ⟨h.sh, h.nod, h.lv, Nat.le_trans h.dp hk, Nat.le_trans h.bk hb⟩
theorem shAll_of {b k : Nat} : ∀ ds : List PyData, (∀ d ∈ ds, Sh b k d) → PyData.showableAll ds = true ∧ PyData.hasDictAll ds = false ∧ PyData.leavesShortAll 64 ds = true ∧ PyData.depthAll ds ≤ k ∧ PyData.bulkAll ds ≤ ds.length * (b + 1)
  | [], _ => ⟨rfl, rfl, rfl, Nat.zero_le _, Nat.zero_le _⟩
  | d :: ds, h => by
    have h1 := h d List.mem_cons_self
    obtain ⟨i1, i2, i3, i4, i5⟩ := shAll_of ds fun x hx => h x (List.mem_cons_of_mem _ hx)
    have g4 := h1.dp
    have g5 := h1.bk
    refine ⟨by rw [PyData.showableAll, h1.sh, i1]; rfl, by rw [PyData.hasDictAll, h1.nod, i2]; rfl, by rw [PyData.leavesShortAll, h1.lv, i3]; rfl, by rw [PyData.depthAll]; omega, ?_⟩
    rw [PyData.bulkAll, List.length_cons, Nat.add_mul, Nat.one_mul]
    omega
theorem Sh.tup {b k m : Nat} {ds : List PyData} (h : ∀ d ∈ ds, Sh b k d) (hm : ds.length ≤ m) : Sh (m * (b + 1)) (k + 1) (.tuple ds) := by
  obtain ⟨i1, i2, i3, i4, i5⟩ := shAll_of ds h
  refine ⟨by rw [PyData.showable]; exact i1, by rw [PyData.hasDict]; exact i2, by rw [PyData.leavesShort]; exact i3, by rw [PyData.depth]; omega, ?_⟩
  rw [PyData.bulk]
  exact Nat.le_trans i5 (Nat.mul_le_mul_right _ hm)
theorem Sh.lst {b k m : Nat} {ds : List PyData} (h : ∀ d ∈ ds, Sh b k d) (hm : ds.length ≤ m) : Sh (m * (b + 1)) (k + 1) (.list ds) := by
  obtain ⟨i1, i2, i3, i4, i5⟩ := shAll_of ds h
  refine ⟨by rw [PyData.showable]; exact i1, by rw [PyData.hasDict]; exact i2, by rw [PyData.leavesShort]; exact i3, by rw [PyData.depth]; omega, ?_⟩
  rw [PyData.bulk]
  exact Nat.le_trans i5 (Nat.mul_le_mul_right _ hm)
theorem Sh.pair {b k : Nat} {x y : PyData} (hx : Sh b k x) (hy : Sh b k y) : Sh (2 * (b + 1)) (k + 1) (.tuple [x, y]) := Sh.tup (fun d hd => by
  rcases List.mem_cons.mp hd with e | e
  · rw [e]; exact hx
  · rw [List.mem_singleton.mp e]; exact hy) (Nat.le_refl _)
theorem Sh.row {r : List Int} {m : Nat} (h : ∀ c ∈ r, c.natAbs < 2 ^ 60) (hm : r.length ≤ m) : Sh m 1 (rowD r) := by
  have := Sh.tup (b := 0) (k := 0) (m := m) (ds := r.map PyData.int) (fun d hd => by
    obtain ⟨c, hc, rfl⟩ := List.mem_map.mp hd
    exact Sh.int (h c hc)) (by rw [List.length_map]; exact hm)
  rw [Nat.zero_add, Nat.mul_one] at this
  exact this
theorem Sh.rows {rows : List (List Int)} {m n : Nat} (h : ∀ r ∈ rows, r.length ≤ m ∧ ∀ c ∈ r, c.natAbs < 2 ^ 60) (hn : rows.length ≤ n) : Sh (n * (m + 1)) 2 (.tuple (rows.map rowD)) :=
  Sh.tup (fun d hd => by
    obtain ⟨r, hr, rfl⟩ := List.mem_map.mp hd
    exact Sh.row (h r hr).2 (h r hr).1) (by rw [List.length_map]; exact hn)
theorem Sh.fits {b k : Nat} {d : PyData} (h : Sh b k d) (hb : b ≤ 200000) : d.shown.length ≤ sizeLine := by
  have e := PyData.shown_le_bulk 64 (by decide) d h.lv
  have := h.bk
  rw [sizeLine_eq]
  omega
theorem Sh.rep {K : PySem.W.Frag} {b k : Nat} {d : PyData} {H : Hp} {a : Addr} {Q : VK} (h : Sh b k d) (hb : b ≤ 200000) (hk : k < 64) (hd : Dp K H (.ref a) d) (q : Q (.str d.shown) H) : rReprD K [.ref a] H Q :=
  ⟨a, d, rfl, hd, h.sh, h.nod, Nat.lt_of_le_of_lt h.dp hk, h.fits hb, q⟩
end Bw

set_option maxHeartbeats 1000000
namespace Bw
open PySem PySem.Spec PyProof.Rows L2
/-! ### comprehensions with two for -/
section
variable {J : It} {n : Nat} {G : Hp → Prop} {Y : Nat → Hp → V → Hp → Prop}
theorem lc2_it (w : Walk J n G Y) {g : TG} {tt : L2.TT} {wi1 : TI} {g1 : TG} {tt1 : L2.TT} {te : TE} {vs vs1 : List Nat} {σ : L2.St} {H1 : Hp} {D : Addr} {Qd : Hp → Prop} (Pv : Nat → Hp → Prop) (h0 : Pv 0 (upd H1 D (.lst []))) (hG : ∀ i H, i ≤ n → Pv i H → G H)
    (hs : ∀ i x H H', i < n → Pv i H → Y i H x H' → g x (wipe σ vs) H' fun σ2 H2 => wipe σ2 vs = wipe σ vs ∧ tt σ2 H2 fun b H3 =>
      if b = true then wi1 σ2 H3 fun J1 H4 => ∃ W1 : Nat → Nat → Hp → Prop, (∃ m, W1 0 m H4) ∧ ∀ j k H, W1 j k H →
        (J1.stop j H ∧ Pv (i + 1) H) ∨ (J1.go j H ∧ ∃ Nx1 : Hp → Prop, (∀ H', Nx1 H' → ∃ k', k' < k ∧ W1 (j + 1) k' H') ∧ ∀ x H', J1.yld j H x H' → g1 x (wipe σ2 vs1) H' fun σ3 H5 => wipe σ3 vs1 = wipe σ2 vs1 ∧ tt1 σ3 H5 fun b H6 =>
          if b = true then te σ3 H6 fun y H7 => ∃ acc, H7 D = some (.lst acc) ∧ acc.length < sizeLine ∧ Nx1 (upd H7 D (.lst (acc ++ [y]))) else Nx1 H6) else Pv (i + 1) H3) (hd : ∀ H, Pv n H → Qd H) :
    ∃ W : Nat → Nat → Hp → Prop, (∃ m, W 0 m (upd H1 D (.lst []))) ∧ ∀ i m H, W i m H →
      (J.stop i H ∧ Qd H) ∨ (J.go i H ∧ ∃ Nx : Hp → Prop, (∀ H', Nx H' → ∃ m', m' < m ∧ W (i + 1) m' H') ∧ ∀ x H', J.yld i H x H' → g x (wipe σ vs) H' fun σ2 H2 => wipe σ2 vs = wipe σ vs ∧ tt σ2 H2 fun b H3 =>
        if b = true then wi1 σ2 H3 fun J1 H4 => ∃ W1 : Nat → Nat → Hp → Prop, (∃ m, W1 0 m H4) ∧ ∀ j k H, W1 j k H →
          (J1.stop j H ∧ Nx H) ∨ (J1.go j H ∧ ∃ Nx1 : Hp → Prop, (∀ H', Nx1 H' → ∃ k', k' < k ∧ W1 (j + 1) k' H') ∧ ∀ x H', J1.yld j H x H' → g1 x (wipe σ2 vs1) H' fun σ3 H5 => wipe σ3 vs1 = wipe σ2 vs1 ∧ tt1 σ3 H5 fun b H6 =>
            if b = true then te σ3 H6 fun y H7 => ∃ acc, H7 D = some (.lst acc) ∧ acc.length < sizeLine ∧ Nx1 (upd H7 D (.lst (acc ++ [y]))) else Nx1 H6) else Nx H3) := by
  refine ⟨fun i m H => m = n - i ∧ i ≤ n ∧ Pv i H, ⟨n, by simp, Nat.zero_le _, h0⟩, ?_⟩
  rintro i m H ⟨rfl, hi, p⟩
  have q := hG i H hi p
  by_cases hlt : i < n
  · exact .inr ⟨w.goes i H hlt q, Pv (i + 1), fun H' p' => ⟨n - (i + 1), by omega, rfl, hlt, p'⟩, fun x H' y => hs i x H H' hlt p (w.yields i H x H' hlt q y)⟩
  · have e : i = n := by omega
    subst e
    exact .inl ⟨w.stops H q, hd H p⟩
/-- the inner for -/
theorem lc2_in (w : Walk J n G Y) {g : TG} {tt : L2.TT} {te : TE} {vs : List Nat} {σ : L2.St} {H1 : Hp} {D : Addr} {Qd : Hp → Prop} (Pv : Nat → Hp → Prop) (h0 : Pv 0 H1) (hG : ∀ i H, i ≤ n → Pv i H → G H)
    (hs : ∀ i x H H', i < n → Pv i H → Y i H x H' → g x (wipe σ vs) H' fun σ2 H2 => wipe σ2 vs = wipe σ vs ∧ tt σ2 H2 fun b H3 =>
      if b = true then te σ2 H3 fun y H4 => ∃ acc, H4 D = some (.lst acc) ∧ acc.length < sizeLine ∧ Pv (i + 1) (upd H4 D (.lst (acc ++ [y]))) else Pv (i + 1) H3) (hd : ∀ H, Pv n H → Qd H) :
    ∃ W : Nat → Nat → Hp → Prop, (∃ m, W 0 m H1) ∧ ∀ i m H, W i m H →
      (J.stop i H ∧ Qd H) ∨ (J.go i H ∧ ∃ Nx : Hp → Prop, (∀ H', Nx H' → ∃ m', m' < m ∧ W (i + 1) m' H') ∧ ∀ x H', J.yld i H x H' → g x (wipe σ vs) H' fun σ2 H2 => wipe σ2 vs = wipe σ vs ∧ tt σ2 H2 fun b H3 =>
        if b = true then te σ2 H3 fun y H4 => ∃ acc, H4 D = some (.lst acc) ∧ acc.length < sizeLine ∧ Nx (upd H4 D (.lst (acc ++ [y]))) else Nx H3) := by
  refine ⟨fun i m H => m = n - i ∧ i ≤ n ∧ Pv i H, ⟨n, by simp, Nat.zero_le _, h0⟩, ?_⟩
  rintro i m H ⟨rfl, hi, p⟩
  have q := hG i H hi p
  by_cases hlt : i < n
  · exact .inr ⟨w.goes i H hlt q, Pv (i + 1), fun H' p' => ⟨n - (i + 1), by omega, rfl, hlt, p'⟩, fun x H' y => hs i x H H' hlt p (w.yields i H x H' hlt q y)⟩
  · have e : i = n := by omega
    subst e
    exact .inl ⟨w.stops H q, hd H p⟩
end
theorem yInt {ns : List Int} : ∀ (i : Nat) (H : Hp) (x : V) (H' : Hp), YAt (ns.map V.int) i H x H' → i < (ns.map V.int).length → H' = H ∧ x = V.int (ns.getD i 0) := by
  rintro i H x H' ⟨h1, h2⟩ hi
  obtain ⟨hi2, rfl⟩ := num_map i ns x h2
  exact ⟨h1, by rw [List.getD_eq_getElem?_getD, List.getElem?_eq_getElem hi2]; rfl⟩
theorem getD_in {ns : List Int} {i : Nat} (h : i < ns.length) : ns.getD i 0 ∈ ns := by
  rw [List.getD_eq_getElem?_getD, List.getElem?_eq_getElem h]
  exact List.getElem_mem h
theorem ints_of {f : Nat → Int} : ∀ {xs : List V} (k : Nat), (∀ (i : Nat) (v : V), xs[i]? = some v → v = .int (f (k + i))) → xs = ((List.range' k xs.length).map f).map V.int
  | [], _, _ => rfl
  | x :: xs, k, h => by
    rw [List.length_cons, List.range'_succ, List.map_cons, List.map_cons, ← ints_of (xs := xs) (k + 1) fun i v e => by rw [show k + 1 + i = k + (i + 1) by omega]; exact h (i + 1) v e, h 0 x rfl]
    rfl
theorem map_getD {α : Type} {ns : List Int} (g : Int → α) : (List.range' 0 ns.length).map (fun i => g (ns.getD i 0)) = ns.map g := by
  refine List.ext_getElem (by simp) fun i h1 h2 => ?_
  simp at h1
  simp [List.getElem_range', h1]
/-- [g(c) for c in the tuple of ints at b] -/
theorem lc_mapI {K : PySem.W.Frag} {b D : Addr} {ns : List Int} {j : Nat} {vs : List Nat} {σ : L2.St} {H1 : Hp} {te : TE} {Qd : Hp → Prop} (g : Int → Int) (hb : SqT K H1 b (ns.map V.int)) (hD : H1 D = none) (hn : ns.length < 100000) (hw : ∀ x, wipe ((wipe σ vs).set j (some x)) vs = wipe σ vs)
    (hd : ∀ c ∈ ns, Rd te ((wipe σ vs).set j (some (.int c))) H1 fun v _ => v = .int (g c)) (fin : ∀ H', H' D = some (.lst ((ns.map g).map V.int)) → Same H1 H' → Qd H') :
    ∃ W : Nat → Nat → Hp → Prop, (∃ m, W 0 m (upd H1 D (.lst []))) ∧ ∀ i m H, W i m H →
      ((Itt K b).stop i H ∧ Qd H) ∨ ((Itt K b).go i H ∧ ∃ Nx : Hp → Prop, (∀ H', Nx H' → ∃ m', m' < m ∧ W (i + 1) m' H') ∧ ∀ x H', (Itt K b).yld i H x H' → gName j x (wipe σ vs) H' fun σ2 H2 => wipe σ2 vs = wipe σ vs ∧ tYes σ2 H2 fun b H3 =>
        if b = true then te σ2 H3 fun y H4 => ∃ acc, H4 D = some (.lst acc) ∧ acc.length < sizeLine ∧ Nx (upd H4 D (.lst (acc ++ [y]))) else Nx H3) := by
  refine lc_rd (fun k => .int (ns.getD k 0)) walk_tup yInt (fun i v _ => v = .int (g (ns.getD i 0))) hD (by rw [List.length_map]; exact hn) hw (fun H' s => s.tup hb) (fun _ _ _ _ _ h => h) (fun i hi => hd _ (getD_in (by rw [List.length_map] at hi; exact hi))) (fun xs H' hl hD' s hv => fin H' ?_ s) (fun _ _ _ _ _ h _ => h)
  rw [hD', ints_of (xs := xs) (f := fun i => g (ns.getD i 0)) 0 fun i v e => by rw [Nat.zero_add]; exact hv i v e, hl, List.length_map, map_getD g]
/-! ### rows of ints in the heap -/
def Rws (K : PySem.W.Frag) (H : Hp) (vs : List V) (rows : List (List Int)) : Prop := DpAll K H vs (rows.map rowD)
section
variable {K : PySem.W.Frag} {H H1 : Hp} {vs : List V} {rows : List (List Int)} {a b : Addr} {r : List Int}
theorem Rws.nil : Rws K H [] [] := DpAll.nil
theorem Rws.snoc (h : Rws K H vs rows) (hb : SqT K H b (r.map V.int)) : Rws K H (vs ++ [.ref b]) (rows ++ [r]) := by
  unfold Rws
  rw [List.map_append]
  exact dpAll_app h (.cons (row_dp hb) .nil)
theorem Rws.same (e : Same H H1) (h : Rws K H vs rows) : Rws K H1 vs rows := dp_sameAll e _ _ h
theorem Rws.len (h : Rws K H vs rows) : vs.length = rows.length := by
  have := dpAll_len h
  rw [List.length_map] at this
  exact this
theorem Rws.upd {D : Addr} {ys : List V} {o : HO} (hD : H D = some (.lst ys)) : ∀ {vs : List V} {rows : List (List Int)}, Rws K H vs rows → Rws K (L2.upd H D o) vs rows
  | [], [], _ => DpAll.nil
  | [], _ :: _, h => by cases h
  | _ :: _, [], h => by cases h
  | v :: vs, r :: rows, h => by
    cases h with
    | cons x y =>
      obtain ⟨b, rfl, hb⟩ := dp_row x
      exact DpAll.cons (row_dp (tup_upd hb hD)) (Rws.upd hD y)
theorem Rws.tt (h : Rws K H vs rows) (ha : SqT K H a vs) : TT K H a rows := .tup ha h
end
end Bw
namespace Bw
open PySem PySem.Spec PyProof.Rows L2
/-- repr of a whole number or of None -/
theorem reprS {X : Cx} : CallR X (.builtin "repr") (fun xs H Q => ∃ v, xs = [v] ∧ ((v = .non ∧ Q (.str "None") H) ∨ ∃ i : Int, v = .int i ∧ i.natAbs.log2 < 1920 ∧ Q (.str (toString i)) H)) := by
  intro pins s σ H xs us Q I r h
  obtain ⟨v, rfl, h⟩ := h
  obtain ⟨u, rfl, ru⟩ := vals1 r
  rcases h with ⟨rfl, q⟩ | ⟨i, rfl, hi, q⟩
  · cases (show u = Value.none from ru)
    exact PySem.P.repr_of_none ⟨.str "None", H, I.tok _, ⟨_, rfl⟩, q⟩
  · obtain ⟨t, rfl⟩ := ru
    exact PySem.P.repr_of_int hi ⟨.str (toString i), H, I.tok _, ⟨_, rfl⟩, q⟩
end Bw

set_option maxHeartbeats 1000000
namespace Bw
open PySem PySem.Spec PyProof.Rows L2
section
variable {X : Cx}
theorem leT (K : PySem.W.Frag) (hu : X.A.units < cLine) (h : X.K = K := by rfl) : OpR X (compareOp .LtE) (rLeT K) := h ▸ op_leT hu
end
end Bw
namespace Bw
open PySem PySem.Spec PyProof.Rows L2
section
variable {K : PySem.W.Frag} {H : Hp} {a q C dx : Addr} {xs : List V} {fs : List (Str × V)} {o : HO}
/-- a tuple is not where an instance stands -/
theorem tup_updI (h : SqT K H a xs) (hq : H q = some (.ins C dx fs)) : SqT K (upd H q o) a xs := by
  rcases h with (h | ⟨f, h⟩) | h
  · exact .inl (.inl (by rw [upd_ne (fun z => by rw [z, hq] at h; cases h)]; exact h))
  · exact .inl (.inr ⟨f, by rw [upd_ne (fun z => by rw [z, hq] at h; cases h)]; exact h⟩)
  · exact .inr h
theorem Rws.updI (hq : H q = some (.ins C dx fs)) : ∀ {vs : List V} {rows : List (List Int)}, Rws K H vs rows → Rws K (L2.upd H q o) vs rows
  | [], [], _ => DpAll.nil
  | [], _ :: _, h => by cases h
  | _ :: _, [], h => by cases h
  | v :: vs, r :: rows, h => by
    cases h with
    | cons x y =>
      obtain ⟨b, rfl, hb⟩ := dp_row x
      exact DpAll.cons (row_dp (tup_updI hb hq)) (Rws.updI hq y)
theorem TT.updI {r : Addr} {rows : List (List Int)} (hq : H q = some (.ins C dx fs)) (h : TT K H r rows) : TT K (L2.upd H q o) r rows := by
  cases h with
  | tup hs ha => exact .tup (tup_updI hs hq) (Rws.updI hq ha)
end
end Bw
namespace Bw
open PySem PySem.Spec PyProof.Rows L2
/-! ### a op1 b op2 c op3 d -/
def tChain3 (r r' r'' : R2) (ta tb tc td : TE) : TE := fun σ H Q => ta σ H fun x H1 => tb σ H1 fun y H2 => r x y H2 fun z H3 => ∃ k, z = .bl k ∧
  (if k = true then tc σ H3 fun w' H4 => r' y w' H4 fun z' H5 => ∃ k', z' = .bl k' ∧ (if k' = true then td σ H5 fun v' H6 => r'' w' v' H6 Q else Q (.bl false) H5) else Q (.bl false) H3)
section
variable {X : Cx} {a b c d : Expr} {ta tb tc td : TE} {pos : Pos}
theorem pe_chain3 {op op' op'' : CmpOp} {r r' r'' : R2} (ho : OpR X (compareOp op) r) (ho' : OpR X (compareOp op') r') (ho'' : OpR X (compareOp op'') r'') (ha : PE X a ta) (hb : PE X b tb) (hc : PE X c tc) (hd : PE X d td)
    (hm : lastMarks [op, op', op''] [b, c, d] = false := by with_unfolding_all rfl) : PE X (.Compare a [op, op', op''] [b, c, d] pos) (tChain3 r r' r'' ta tb tc td) := by
  refine ⟨fun pins s σ H Q I h => ?_⟩
  refine Compare_chain (thn (ha.run pins s σ H _ I h) fun v s1 ⟨x, H1, I1, r1, q1⟩ => chain_link (thn (hb.run pins s1 σ H1 _ I1 q1) fun u s2 ⟨y, H2, I2, r2, q2⟩ =>
    thn (ho pins s2 σ H2 x y v u _ I2 r1 r2 q2) fun e s3 ⟨z, H3, I3, r3, k, ek, q3⟩ => ?_)) hm
  subst ek
  cases r3
  refine wpAny_truthy_bool ?_
  cases k with
  | false => exact ite_ff ⟨.bl false, H3, I3, rfl, q3⟩
  | true =>
    refine ite_tt (chain_link (thn (hc.run pins s3 σ H3 _ I3 q3) fun w' s4 ⟨z', H4, I4, r4, q4⟩ => thn (ho' pins s4 σ H4 y z' u w' _ I4 r2 r4 q4) fun e' s5 ⟨z2, H5, I5, r5, k2, e2, q5⟩ => ?_))
    subst e2
    cases r5
    refine wpAny_truthy_bool ?_
    cases k2 with
    | false => exact ite_ff ⟨.bl false, H5, I5, rfl, q5⟩
    | true => exact ite_tt (chain_last (thn (hd.run pins s5 σ H5 _ I5 q5) fun w2 s6 ⟨z3, H6, I6, r6, q6⟩ => ho'' pins s6 σ H6 z' z3 w' w2 Q I6 r4 r6 q6))
end
end Bw
namespace Bw
open PySem PySem.Spec PyProof.Rows L2
theorem hu1 {k : Nat} {A : Around} (hr : Room k A) : A.units + 1 < cLine := by have := hr.un; omega
theorem hu0 {k : Nat} {A : Around} (hr : Room k A) : A.units < cLine := by have := hr.un; omega
end Bw
namespace Bw
open PySem PySem.Spec PyProof.Rows L2
/-! ### a def with keyword-only parameters, called with them told -/
structure CalW (P : Program) (w : World) (K : PySem.W.Frag) (mg : Str → Option Value) (base : Heap) (CX : CXT) (k : Nat) (x : Str) (ps : List Str) (st : Stmt) (sp : Sp) : Prop where
  ex : ∃ (f : Addr) (fd : FuncData), FnOk P w K mg base CX k f fd ps sp ∧ Fun K x x st f fd ∧ mg x = some (.ref f)
theorem pe_calKw {X : Cx} {CX : CXT} {k : Nat} {x : Str} {ps ks : List Str} {st : Stmt} {sp : Sp} {E : XK} {p pos : Pos} {e : Expr} {es : List Expr} {kws : List Keyword} {t tk : TA} {g : List Value → List Value → List Value} {gV : List V → List V → List V}
    (c : CalW X.prog X.w X.K X.mg X.base CX k x ps st sp) (B : KwB x st ps ks g gV) (hr : Room k X.A) (hx : Passes CX X E) (ha : PA X (e :: es) t) (hkw : PK X kws tk) (hg : Gl X x := by rfl)
    (hall : (backToKw pos (keywordEach kws X.env)).all (·.1.isSome) = true := by rfl) (hks : (backToKw pos (keywordEach kws X.env)).filterMap (·.1) = ks := by rfl)
    (hdb : (x == ("__debug__" : Str)) = false := by decide) (he : starEach (e :: es) X.env = (false, eval e X.env) :: starEach es X.env := by rfl)
    (hpl : ((backTo pos (starEach (e :: es) X.env)).any (·.1) || (backToKw pos (keywordEach kws X.env)).any (·.1.isNone)) = false := by rfl) :
    PE X (.Call (.Name x p) (e :: es) kws pos) (tCallK sp gV E t tk) := by
  obtain ⟨f, fd, G, F, hm⟩ := c.ex
  exact pe_callK G hr hg hm F.kp (B.binds F) hx ha hkw hall hks hdb he hpl
end Bw
namespace Bw
open PySem PySem.Spec PyProof.Rows L2
/-- a comprehension over whole numbers with a test that only reads; h: what each gives -/
theorem lc_fm {J : It} {n j : Nat} {G : Hp → Prop} {Y : Nat → Hp → V → Hp → Prop} (ns : List Int) (w : Walk J n G Y) (hn' : ns.length = n) (hY : ∀ i H x H', Y i H x H' → i < n → H' = H ∧ x = .int (ns.getD i 0)) {vs : List Nat} {σ : L2.St} {H1 : Hp} {D : Addr} {tt : L2.TT} {te : TE} {Qd : Hp → Prop} (f : Int → Bool) (h : Int → V)
    (hD : H1 D = none) (hn : n < 100000) (hw : ∀ x, wipe ((wipe σ vs).set j (some x)) vs = wipe σ vs) (hG : ∀ H', Same H1 H' → G H')
    (ht : ∀ c ∈ ns, ∀ (H : Hp) (Q : Bool → Hp → Prop), Same H1 H → Q (f c) H → tt ((wipe σ vs).set j (some (.int c))) H Q)
    (he : ∀ c ∈ ns, f c = true → ∀ (H : Hp) (Q : VK), Same H1 H → Q (h c) H → te ((wipe σ vs).set j (some (.int c))) H Q)
    (fin : ∀ H', H' D = some (.lst ((ns.filter f).map h)) → Same H1 H' → Qd H') :
    ∃ W : Nat → Nat → Hp → Prop, (∃ m, W 0 m (upd H1 D (.lst []))) ∧ ∀ i m H, W i m H →
      (J.stop i H ∧ Qd H) ∨ (J.go i H ∧ ∃ Nx : Hp → Prop, (∀ H', Nx H' → ∃ m', m' < m ∧ W (i + 1) m' H') ∧ ∀ x H', J.yld i H x H' → gName j x (wipe σ vs) H' fun σ2 H2 => wipe σ2 vs = wipe σ vs ∧ tt σ2 H2 fun b H3 =>
        if b = true then te σ2 H3 fun y H4 => ∃ acc, H4 D = some (.lst acc) ∧ acc.length < sizeLine ∧ Nx (upd H4 D (.lst (acc ++ [y]))) else Nx H3) := by
  refine lc_it w (fun i H' => H' D = some (.lst (((ns.take i).filter f).map h)) ∧ Same H1 H') ⟨upd_same, Same.new hD⟩ (fun i H' _ h => hG _ h.2) (fun i x H2 H3 hi h y => ?_) (fun H' h => fin H' (by have := h.1; rw [← hn', List.take_length] at this; exact this) h.2)
  obtain ⟨h1, h2⟩ := h
  obtain ⟨rfl, rfl⟩ := hY i H2 x H3 y hi
  have hi2 : i < ns.length := by omega
  have hm : ns.getD i 0 ∈ ns := getD_in hi2
  have e : ns.take (i + 1) = ns.take i ++ [ns.getD i 0] := by
    rw [List.take_add_one, List.getD_eq_getElem?_getD, List.getElem?_eq_getElem hi2]
    rfl
  refine ⟨hw _, ?_⟩
  refine ht _ hm H3 _ h2 ?_
  by_cases c : f (ns.getD i 0) = true
  · rw [if_pos c]
    refine he _ hm c H3 _ h2 ⟨_, h1, smallLt ?_, ?_, h2.mut hD⟩
    · rw [List.length_map]
      have := List.length_filter_le f (ns.take i)
      rw [List.length_take] at this
      omega
    · rw [upd_same, e, List.filter_append, List.map_append, List.filter_cons, if_pos c]
      rfl
  · rw [if_neg c]
    refine ⟨?_, h2⟩
    rw [h1, e, List.filter_append, List.filter_cons, if_neg c, List.filter_nil, List.append_nil]
end Bw
namespace Bw
open PySem PySem.Spec PyProof.Rows L2
theorem hu65 {k : Nat} {A : Around} (hr : Room k A) : A.units + 65 < cLine := by have := hr.un; omega
section
variable {X : Cx}
theorem inD (K : PySem.W.Frag) (hu : X.A.units + 65 < cLine) (h : X.K = K := by rfl) : OpR X (compareOp .In) (rInD K) := h ▸ op_inD hu
end
/-- a list of pairs of whole numbers at d -/
def PL (K : PySem.W.Frag) (H : Hp) (d : Addr) (prs : List (Int × Int)) : Prop := Dp K H (.ref d) (.list (prs.map fun e => rowD [e.1, e.2]))
theorem PL.same {K : PySem.W.Frag} {H H1 : Hp} {d : Addr} {prs : List (Int × Int)} (e : Same H H1) (h : PL K H d prs) : PL K H1 d prs := dp_same e _ _ h
theorem any_pair {p s : Int} : ∀ prs : List (Int × Int), ((prs.map fun e => rowD [e.1, e.2]).any fun z => PyData.eqv z (rowD [p, s])) = decide ((p, s) ∈ prs)
  | [] => by simp
  | e :: prs => by
    rw [List.map_cons, List.any_cons, any_pair prs]
    unfold rowD
    rw [PyData.eqv, eqvI, ← Bool.decide_or]
    refine decide_eq_decide.mpr ?_
    obtain ⟨x, y⟩ := e
    rw [List.mem_cons]
    simp only [List.cons.injEq, and_true, Prod.mk.injEq]
    constructor
    · rintro (⟨h1, h2⟩ | h)
      · exact .inl ⟨h1.symm, h2.symm⟩
      · exact .inr h
    · rintro (⟨h1, h2⟩ | h)
      · exact .inl ⟨h1.symm, h2.symm⟩
      · exact .inr h
theorem shRow (r : List Int) : SeqAt.shaped (rowD r) = true := shT r
theorem shPL (prs : List (Int × Int)) : SeqAt.shaped (.list (prs.map fun e => rowD [e.1, e.2])) = true := by
  have h1 : ∀ ps : List (Int × Int), PyData.canLayAll0 (ps.map fun e => rowD [e.1, e.2]) = true ∧ PyData.depthAll (ps.map fun e => rowD [e.1, e.2]) ≤ 1 := fun ps => by
    induction ps with
    | nil => exact ⟨rfl, Nat.zero_le _⟩
    | cons e ps ih =>
      rw [List.map_cons, PyData.canLayAll0, PyData.depthAll]
      refine ⟨by rw [ih.1]; rfl, ?_⟩
      have : (rowD [e.1, e.2]).depth ≤ 1 := by
        unfold rowD
        rw [PyData.depth, dpAll0]
        exact Nat.le_refl _
      have := ih.2
      omega
  unfold SeqAt.shaped
  rw [PyData.canLay0, (h1 prs).1, PyData.depth]
  have := (h1 prs).2
  have e : decide (PyData.depthAll (prs.map fun e => rowD [e.1, e.2]) + 1 ≤ 64) = true := decide_eq_true (by omega)
  first
    | (rw [e]; rfl)
    | simp; omega
end Bw
namespace Bw
open PySem PySem.Spec PyProof.Rows L2
/-- as lc_fm, the test and the element may add objects -/
theorem lc_fs {J : It} {n j : Nat} {G : Hp → Prop} {Y : Nat → Hp → V → Hp → Prop} (ns : List Int) (w : Walk J n G Y) (hn' : ns.length = n) (hY : ∀ i H x H', Y i H x H' → i < n → H' = H ∧ x = .int (ns.getD i 0)) {vs : List Nat} {σ : L2.St} {H1 : Hp} {D : Addr} {tt : L2.TT} {te : TE} {Qd : Hp → Prop} (f : Int → Bool) (h : Int → V)
    (hD : H1 D = none) (hn : n < 100000) (hw : ∀ x, wipe ((wipe σ vs).set j (some x)) vs = wipe σ vs) (hG : ∀ H', Same H1 H' → G H')
    (ht : ∀ c ∈ ns, ∀ (H : Hp) (Q : Bool → Hp → Prop), Same H1 H → (∀ H', Same H H' → Q (f c) H') → tt ((wipe σ vs).set j (some (.int c))) H Q)
    (he : ∀ c ∈ ns, f c = true → ∀ (H : Hp) (Q : VK), Same H1 H → (∀ H', Same H H' → Q (h c) H') → te ((wipe σ vs).set j (some (.int c))) H Q)
    (fin : ∀ H', H' D = some (.lst ((ns.filter f).map h)) → Same H1 H' → Qd H') :
    ∃ W : Nat → Nat → Hp → Prop, (∃ m, W 0 m (upd H1 D (.lst []))) ∧ ∀ i m H, W i m H →
      (J.stop i H ∧ Qd H) ∨ (J.go i H ∧ ∃ Nx : Hp → Prop, (∀ H', Nx H' → ∃ m', m' < m ∧ W (i + 1) m' H') ∧ ∀ x H', J.yld i H x H' → gName j x (wipe σ vs) H' fun σ2 H2 => wipe σ2 vs = wipe σ vs ∧ tt σ2 H2 fun b H3 =>
        if b = true then te σ2 H3 fun y H4 => ∃ acc, H4 D = some (.lst acc) ∧ acc.length < sizeLine ∧ Nx (upd H4 D (.lst (acc ++ [y]))) else Nx H3) := by
  refine lc_it w (fun i H' => H' D = some (.lst (((ns.take i).filter f).map h)) ∧ Same H1 H') ⟨upd_same, Same.new hD⟩ (fun i H' _ h => hG _ h.2) (fun i x H2 H3 hi h y => ?_) (fun H' h => fin H' (by have := h.1; rw [← hn', List.take_length] at this; exact this) h.2)
  obtain ⟨h1, h2⟩ := h
  obtain ⟨rfl, rfl⟩ := hY i H2 x H3 y hi
  have hi2 : i < ns.length := by omega
  have hm : ns.getD i 0 ∈ ns := getD_in hi2
  have e : ns.take (i + 1) = ns.take i ++ [ns.getD i 0] := by
    rw [List.take_add_one, List.getD_eq_getElem?_getD, List.getElem?_eq_getElem hi2]
    rfl
  refine ⟨hw _, ?_⟩
  refine ht _ hm H3 _ h2 fun H4 s4 => ?_
  by_cases c : f (ns.getD i 0) = true
  · rw [if_pos c]
    refine he _ hm c H4 _ (h2.trans s4) fun H5 s5 => ⟨_, s5 _ _ (s4 _ _ h1), smallLt ?_, ?_, ((h2.trans s4).trans s5).mut hD⟩
    · rw [List.length_map]
      have := List.length_filter_le f (ns.take i)
      rw [List.length_take] at this
      omega
    · rw [upd_same, e, List.filter_append, List.map_append, List.filter_cons, if_pos c]
      rfl
  · rw [if_neg c]
    refine ⟨?_, h2.trans s4⟩
    rw [s4 _ _ h1, e, List.filter_append, List.filter_cons, if_neg c, List.filter_nil, List.append_nil]
end Bw

set_option maxHeartbeats 1000000
namespace Bw
open PySem PySem.Spec PyProof.Rows L2
/-! ### x in y, x not in y, y a list or a tuple of data -/
def rInX (K : PySem.W.Frag) : R2 := fun x y H Q => ∃ d ds, Dp K H x d ∧ (Dp K H y (.list ds) ∨ Dp K H y (.tuple ds)) ∧ SeqAt.shaped d = true ∧ SeqAt.shaped (.list ds) = true ∧ Q (.bl (ds.any fun z => PyData.eqv z d)) H
def rNinX (K : PySem.W.Frag) : R2 := fun x y H Q => ∃ d ds, Dp K H x d ∧ (Dp K H y (.list ds) ∨ Dp K H y (.tuple ds)) ∧ SeqAt.shaped d = true ∧ SeqAt.shaped (.list ds) = true ∧ Q (.bl (!ds.any fun z => PyData.eqv z d)) H
section
variable {X : Cx}
theorem shLT {ds : List PyData} (h : SeqAt.shaped (.list ds) = true) : SeqAt.shaped (.tuple ds) = true := by
  unfold SeqAt.shaped at *
  rw [PyData.canLay0, PyData.depth] at *
  exact h
theorem op_inX (hu : X.A.units + 65 < cLine) : OpR X (compareOp .In) (rInX X.K) := by
  intro pins s σ H x y v u Q I rx ry h
  obtain ⟨d, ds, hd, he, sd, se, q⟩ := h
  obtain ⟨as, r1⟩ := Dp.reads I d x v hd rx
  rcases he with he | he
  · obtain ⟨bs, r2⟩ := Dp.reads I (.list ds) y u he ry
    exact SeqAt.in_list_reads r2 r1 (SeqAt.canLay_of_shaped se) (SeqAt.canLay_of_shaped sd) (room_in_shaped sd hu) ⟨.bl _, H, I, rfl, q⟩
  · obtain ⟨bs, r2⟩ := Dp.reads I (.tuple ds) y u he ry
    exact SeqAt.in_tuple_reads r2 r1 (SeqAt.canLay_of_shaped se) (SeqAt.canLay_of_shaped sd) (room_in_shaped sd hu) ⟨.bl _, H, I, rfl, q⟩
theorem op_notInX (hu : X.A.units + 65 < cLine) : OpR X (compareOp .NotIn) (rNinX X.K) := by
  intro pins s σ H x y v u Q I rx ry h
  obtain ⟨d, ds, hd, he, sd, se, q⟩ := h
  obtain ⟨as, r1⟩ := Dp.reads I d x v hd rx
  rcases he with he | he
  · obtain ⟨bs, r2⟩ := Dp.reads I (.list ds) y u he ry
    exact SeqAt.notIn_list_reads r2 r1 (SeqAt.canLay_of_shaped se) (SeqAt.canLay_of_shaped sd) (room_in_shaped sd hu) ⟨.bl _, H, I, rfl, q⟩
  · obtain ⟨bs, r2⟩ := Dp.reads I (.tuple ds) y u he ry
    exact SeqAt.notIn_tuple_reads r2 r1 (SeqAt.canLay_of_shaped se) (SeqAt.canLay_of_shaped sd) (room_in_shaped sd hu) ⟨.bl _, H, I, rfl, q⟩
theorem inX (K : PySem.W.Frag) (hu : X.A.units + 65 < cLine) (h : X.K = K := by rfl) : OpR X (compareOp .In) (rInX K) := h ▸ op_inX hu
theorem ninX (K : PySem.W.Frag) (hu : X.A.units + 65 < cLine) (h : X.K = K := by rfl) : OpR X (compareOp .NotIn) (rNinX K) := h ▸ op_notInX hu
theorem sortPO (K : PySem.W.Frag) (h : X.K = K := by rfl) : CallR X (.builtin "sorted") (rSortedPO K) := h ▸ cr_sortedPO
theorem pg_tupK (K : PySem.W.Frag) {es : List Expr} {k : Nat} {pos : Pos} {t : TGs} {n : Nat} (hc : X.calm = true) (h : PGs X es t)
    (hn : (assignEach es X.env).length = n := by rfl) (hst : (assignEach es X.env).findIdx? (·.1) = none := by rfl) (hK : X.K = K := by rfl) : PG X (.Tuple es k pos) (gTup K n t) := hK ▸ pg_tup hc h hn hst
theorem isIT (K : PySem.W.Frag) (h : X.K = K := by rfl) : CallR X (.builtin "isinstance") (rIsi K) := h ▸ call_isi
end
/-! ### pairs in a list -/
/-- v is a new pair of the two numbers -/
def TP (H : Hp) (v : V) (e : Int × Int) : Prop := ∃ t, v = .ref t ∧ H t = some (.tup [.int e.1, .int e.2])
def TPs (H : Hp) (vs : List V) (prs : List (Int × Int)) : Prop := vs.length = prs.length ∧ ∀ (i : Nat) v e, vs[i]? = some v → prs[i]? = some e → TP H v e
section
variable {K : PySem.W.Frag} {H H1 : Hp} {v : V} {vs ws : List V} {e : Int × Int} {prs qrs : List (Int × Int)} {d p : Addr}
theorem TPs.nil : TPs H [] [] := ⟨rfl, fun i v e h => by simp at h⟩
theorem TPs.keep (k : ∀ (b : Addr) x y, H b = some (.tup [.int x, .int y]) → H1 b = some (.tup [.int x, .int y])) (h : TPs H vs prs) : TPs H1 vs prs := ⟨h.1, fun i v e a b => by
  obtain ⟨t, r, ht⟩ := h.2 i v e a b
  exact ⟨t, r, k _ _ _ ht⟩⟩
theorem TPs.same (s : Same H H1) (h : TPs H vs prs) : TPs H1 vs prs := h.keep fun b x y => s b _
theorem TPs.exb (hp : Src H p) (s : Exb p H H1) (h : TPs H vs prs) : TPs H1 vs prs := h.keep fun b x y hb => s b _ (fun z => by
  obtain ⟨a, c, q, _⟩ := hp
  rw [z, q] at hb
  cases hb) hb
theorem TPs.upd {xs : List V} {o : HO} (hd : H d = some (.lst xs)) (h : TPs H vs prs) : TPs (upd H d o) vs prs := h.keep fun b x y hb => by rw [upd_ne (fun z => by rw [z, hd] at hb; cases hb)]; exact hb
theorem TPs.snoc (h : TPs H vs prs) (hv : TP H v e) : TPs H (vs ++ [v]) (prs ++ [e]) := by
  refine ⟨by rw [List.length_append, List.length_append, h.1]; rfl, fun i w f a b => ?_⟩
  by_cases hi : i < vs.length
  · rw [List.getElem?_append_left hi] at a
    rw [List.getElem?_append_left (by rw [← h.1]; exact hi)] at b
    exact h.2 i w f a b
  · rw [List.getElem?_append_right (by omega)] at a
    rw [List.getElem?_append_right (by rw [← h.1]; omega), ← h.1] at b
    have hi2 := (List.getElem?_eq_some_iff.mp a).1
    have z : i - vs.length = 0 := by
      have : i - vs.length < 1 := hi2
      omega
    rw [z] at a b
    cases Option.some.inj a
    cases Option.some.inj b
    exact hv
theorem TPs.tail {v : V} {e : Int × Int} (h : TPs H (v :: vs) (e :: prs)) : TP H v e ∧ TPs H vs prs :=
  ⟨h.2 0 v e rfl rfl, by simpa using h.1, fun i w f a b => h.2 (i + 1) w f a b⟩
theorem TPs.dp : ∀ {vs : List V} {prs : List (Int × Int)}, TPs H vs prs → DpAll K H vs (prs.map fun e => rowD [e.1, e.2])
  | [], [], _ => .nil
  | [], _ :: _, h => by cases h.1
  | _ :: _, [], h => by cases h.1
  | v :: vs, e :: prs, h => by
    obtain ⟨⟨t, rfl, ht⟩, h2⟩ := h.tail
    exact .cons (row_dp (r := [e.1, e.2]) (.inl (.inl ht))) (TPs.dp h2)
theorem TPs.mem : ∀ {vs : List V} {prs : List (Int × Int)}, TPs H vs prs → ∀ v ∈ vs, ∃ e ∈ prs, TP H v e
  | [], [], _, v, hv => by cases hv
  | [], _ :: _, h, _, _ => by cases h.1
  | _ :: _, [], h, _, _ => by cases h.1
  | v :: vs, e :: prs, h, w, hw => by
    obtain ⟨h1, h2⟩ := h.tail
    rcases List.mem_cons.mp hw with rfl | hw
    · exact ⟨e, List.mem_cons_self, h1⟩
    · obtain ⟨f, hf, h3⟩ := TPs.mem h2 w hw
      exact ⟨f, List.mem_cons_of_mem _ hf, h3⟩
theorem TP.one {e f : Int × Int} (h : TP H v e) (k : TP H v f) : e = f := by
  obtain ⟨t, rfl, h1⟩ := h
  obtain ⟨t', e2, h2⟩ := k
  cases e2
  rw [h1] at h2
  have h3 := HO.tup.inj (Option.some.inj h2)
  have h4 := V.int.inj (List.cons.inj h3).1
  have h5 := V.int.inj (List.cons.inj (List.cons.inj h3).2).1
  exact Prod.ext h4 h5
open Classical in
/-- the pair at v -/
noncomputable def prOf (H : Hp) (v : V) : Int × Int := if h : ∃ e, TP H v e then h.choose else (0, 0)
theorem prOf_eq (h : TP H v e) : prOf H v = e := by
  unfold prOf
  rw [dif_pos ⟨e, h⟩]
  exact TP.one (Exists.choose_spec (⟨e, h⟩ : ∃ e, TP H v e)) h
theorem TPs.map : ∀ {vs : List V} {prs : List (Int × Int)}, TPs H vs prs → prs = vs.map (prOf H)
  | [], [], _ => rfl
  | [], _ :: _, h => by cases h.1
  | _ :: _, [], h => by cases h.1
  | v :: vs, e :: prs, h => by
    obtain ⟨h1, h2⟩ := h.tail
    rw [List.map_cons, prOf_eq h1, ← TPs.map h2]
theorem TPs.of : ∀ {vs : List V}, (∀ v ∈ vs, ∃ e, TP H v e) → TPs H vs (vs.map (prOf H)) := fun {vs} h => ⟨by rw [List.length_map], fun i v e a b => by
  rw [List.getElem?_map, a] at b
  cases Option.some.inj b
  obtain ⟨f, hf⟩ := h v (List.mem_of_getElem? a)
  rw [prOf_eq hf]
  exact hf⟩
/-- before or like, by the first, then by the second -/
def PLe (e f : Int × Int) : Prop := e.1 < f.1 ∨ (e.1 = f.1 ∧ e.2 ≤ f.2)
/-- sorted(a list of new pairs) -/
theorem sort_TPs {Q : VK} (hd : SqL K H d vs) (h : TPs H vs prs) (q : ∀ ys qrs p, H p = none → qrs.Perm prs → qrs.Pairwise PLe → TPs (upd H p (.lst ys)) ys qrs → Q (.ref p) (upd H p (.lst ys))) : rSortedPO K [.ref d] H Q := by
  refine ⟨d, vs, prOf H, rfl, hd, fun x hx => ?_, fun ys p hs hb np => ?_⟩
  · obtain ⟨e, _, t, rfl, ht⟩ := h.mem x hx
    exact ⟨t, rfl, by rw [prOf_eq ⟨t, rfl, ht⟩]; exact ht⟩
  · have hm : ∀ v ∈ ys, ∃ e, TP H v e := fun v hv => by
      obtain ⟨e, _, ht⟩ := h.mem v (hb.perm.mem_iff.mp hv)
      exact ⟨e, ht⟩
    refine q ys (ys.map (prOf H)) p np ?_ ?_ ((TPs.of hm).same (Same.new np))
    · rw [h.map]
      exact hb.perm.map _
    · rw [List.pairwise_map]
      refine List.Pairwise.imp (fun {a b} z => ?_) hs
      have := SrtO.lexB_no.mp z
      unfold PLe
      omega
end
/-! ### a comprehension that reads, any target -/
theorem lc_rdG {J : It} {n : Nat} {G : Hp → Prop} {Y : Nat → Hp → V → Hp → Prop} (w : Walk J n G Y) {g : TG} {vs : List Nat} {σ : L2.St} {H1 : Hp} {D : Addr} {te : TE} {Qd : Hp → Prop} (τ : Nat → L2.St) (P : Nat → V → Hp → Prop)
    (hg : ∀ i x H H' (Qk : L2.St → Hp → Prop), i < n → Same H1 H → Y i H x H' → Same H H' ∧ (Qk (τ i) H' → g x (wipe σ vs) H' Qk))
    (hD : H1 D = none) (hn : n < 100000) (hw : ∀ i, i < n → wipe (τ i) vs = wipe σ vs) (hG : ∀ H', Same H1 H' → G H')
    (hP : ∀ i v H H', Same H H' → P i v H → P i v H')
    (hd : ∀ i : Nat, i < n → Rd te (τ i) H1 (P i))
    (fin : ∀ (xs : List V) H', xs.length = n → H' D = some (.lst xs) → Same H1 H' → (∀ i v, xs[i]? = some v → P i v H') → Qd H') (hPm : ∀ i v H (x : List V) y, P i v H → H D = some (.lst x) → P i v (upd H D y)) :
    ∃ W : Nat → Nat → Hp → Prop, (∃ m, W 0 m (upd H1 D (.lst []))) ∧ ∀ i m H, W i m H →
      (J.stop i H ∧ Qd H) ∨ (J.go i H ∧ ∃ Nx : Hp → Prop, (∀ H', Nx H' → ∃ m', m' < m ∧ W (i + 1) m' H') ∧ ∀ x H', J.yld i H x H' → g x (wipe σ vs) H' fun σ2 H2 => wipe σ2 vs = wipe σ vs ∧ tYes σ2 H2 fun b H3 =>
        if b = true then te σ2 H3 fun y H4 => ∃ acc, H4 D = some (.lst acc) ∧ acc.length < sizeLine ∧ Nx (upd H4 D (.lst (acc ++ [y]))) else Nx H3) := by
  refine lc_it w (fun i H' => ∃ xs : List V, xs.length = i ∧ H' D = some (.lst xs) ∧ Same H1 H' ∧ ∀ k v, xs[k]? = some v → P k v H') ⟨[], rfl, upd_same, Same.new hD, fun k v e => by simp at e⟩ (fun i H' _ h => hG _ (by obtain ⟨_, _, _, s, _⟩ := h; exact s)) (fun i x H2 H3 hi h y => ?_) (fun H' h => ?_)
  · obtain ⟨xs, h1, h2, h3, h4⟩ := h
    obtain ⟨s3, go⟩ := hg i x H2 H3 (fun σ2 H2 => wipe σ2 vs = wipe σ vs ∧ tYes σ2 H2 fun b H3 =>
        if b = true then te σ2 H3 fun y H4 => ∃ acc, H4 D = some (.lst acc) ∧ acc.length < sizeLine ∧ ∃ xs : List V, xs.length = i + 1 ∧ (upd H4 D (.lst (acc ++ [y]))) D = some (.lst xs) ∧ Same H1 (upd H4 D (.lst (acc ++ [y]))) ∧ ∀ k v, xs[k]? = some v → P k v (upd H4 D (.lst (acc ++ [y]))) else ∃ xs : List V, xs.length = i + 1 ∧ H3 D = some (.lst xs) ∧ Same H1 H3 ∧ ∀ k v, xs[k]? = some v → P k v H3) hi h3 y
    refine go ⟨hw i hi, ?_⟩
    refine tYes_i ?_
    refine iteT ?_
    refine hd i hi H3 _ (h3.trans s3) fun v H4 s4 p4 => ⟨xs, s4 _ _ (s3 _ _ h2), smallLt (by omega), xs ++ [v], by rw [List.length_append, h1]; rfl, upd_same, ((h3.trans s3).trans s4).mut hD, fun k v' e => ?_⟩
    rcases Nat.lt_trichotomy k xs.length with hk | hk | hk
    · rw [List.getElem?_append_left hk] at e
      exact hPm _ _ _ _ _ (hP _ _ _ _ (s3.trans s4) (h4 k v' e)) (s4 _ _ (s3 _ _ h2))
    · subst hk
      rw [List.getElem?_append_right (Nat.le_refl _), Nat.sub_self] at e
      cases Option.some.inj e
      rw [h1]
      exact hPm _ _ _ _ _ p4 (s4 _ _ (s3 _ _ h2))
    · rw [List.getElem?_eq_none (by rw [List.length_append]; show xs.length + 1 ≤ k; omega)] at e
      cases e
  · obtain ⟨xs, h1, h2, h3, h4⟩ := h
    exact fin xs H' h1 h2 h3 h4
/-- a list of bools -/
theorem bls_of {f : Nat → Bool} : ∀ {xs : List V} (k : Nat), (∀ (i : Nat) (v : V), xs[i]? = some v → v = .bl (f (k + i))) → xs = ((List.range' k xs.length).map f).map V.bl
  | [], _, _ => rfl
  | x :: xs, k, h => by
    rw [List.length_cons, List.range'_succ, List.map_cons, List.map_cons, ← bls_of (xs := xs) (k + 1) fun i v e => by rw [show k + 1 + i = k + (i + 1) by omega]; exact h (i + 1) v e, h 0 x rfl]
    rfl
theorem all_map_id {f : Nat → Bool} {n : Nat} : ((List.range' 0 n).map f).all id = true ↔ ∀ i, i < n → f i = true := by
  rw [List.all_map, List.all_eq_true]
  constructor
  · intro h i hi
    exact h i (List.mem_range'.mpr ⟨i, hi, by omega⟩)
  · intro h i hi
    obtain ⟨j, hj, rfl⟩ := List.mem_range'.mp hi
    exact h _ (by omega)
theorem notIn_int {K : PySem.W.Frag} {H : Hp} {p : Addr} {c : Int} {ns : List Int} {Q : VK} (h : SqT K H p (ns.map V.int)) (hfl : (ns.map V.int).all flatV = true) (hin : inV (.int c) (ns.map V.int) = decide (c ∈ ns)) (q : Q (.bl (!decide (c ∈ ns))) H) : rIn K true (.int c) (.ref p) H Q :=
  ⟨p, _, rfl, .inr h, rfl, hfl, by rw [hin]; exact q⟩
/-- a list of draws, each made to a number -/
theorem lc_drawI {n j : Nat} {vs : List Nat} {σ : L2.St} {H1 : Hp} {D : Addr} {te : TE} {Qd : Hp → Prop} (p : Addr) (hD : H1 D = none) (s : Src H1 p) (hn : n < 100000) (hw : ∀ x, wipe ((wipe σ vs).set j (some x)) vs = wipe σ vs)
    (hd : ∀ (i : Nat) (H : Hp) (Q : VK), i < n → Src H p → Exb p H1 H → (∀ (r : Int) H', Src H' p → Exb p H H' → Q (.int r) H') → te ((wipe σ vs).set j (some (.int (0 + (i : Int))))) H Q)
    (fin : ∀ (ns : List Int) H', ns.length = n → D ≠ p → H' D = some (.lst (ns.map V.int)) → Src H' p → Exb p H1 H' → Qd H') :
    ∃ W : Nat → Nat → Hp → Prop, (∃ m, W 0 m (upd H1 D (.lst []))) ∧ ∀ i m H, W i m H →
      ((Itr 0 n).stop i H ∧ Qd H) ∨ ((Itr 0 n).go i H ∧ ∃ Nx : Hp → Prop, (∀ H', Nx H' → ∃ m', m' < m ∧ W (i + 1) m' H') ∧ ∀ x H', (Itr 0 n).yld i H x H' → gName j x (wipe σ vs) H' fun σ2 H2 => wipe σ2 vs = wipe σ vs ∧ tYes σ2 H2 fun b H3 =>
        if b = true then te σ2 H3 fun y H4 => ∃ acc, H4 D = some (.lst acc) ∧ acc.length < sizeLine ∧ Nx (upd H4 D (.lst (acc ++ [y]))) else Nx H3) := by
  have nDp := s.ne hD
  refine lc_it walk_range (fun i H' => ∃ ns : List Int, H' D = some (.lst (ns.map V.int)) ∧ ns.length = i ∧ Src H' p ∧ Exb p H1 H') ⟨[], upd_same, rfl, s.put nDp, Exb.new hD⟩ (fun _ _ _ _ => trivial) (fun i x H2 H3 hi h y => ?_) (fun H' h => ?_)
  · obtain ⟨ns, h1, h2, h4, h5⟩ := h
    obtain ⟨rfl, rfl⟩ := y
    refine ⟨hw _, ?_⟩
    refine tYes_i ?_
    refine iteT ?_
    refine hd i H3 _ hi h4 h5 fun r H4 s4 e4 => ⟨_, e4.lst nDp h1, smallLt (by rw [List.length_map]; omega), ns ++ [r], by rw [upd_same, List.map_append]; rfl, by rw [List.length_append, h2]; rfl, s4.put nDp, (h5.trans e4).mut hD⟩
  · obtain ⟨ns, h1, h2, h4, h5⟩ := h
    exact fin ns H' h2 nDp h1 h4 h5
end Bw

set_option maxHeartbeats 1000000
namespace Bw
open PySem PySem.Spec PyProof.Rows L2
/-! ### several except clauses, each with a name -/
def wManyA (K : PySem.W.Frag) (Wout : WX) (D : Ends) : List (Value × Nat × (Addr → Value → Option Addr → TS)) → WX
  | [] => Wout
  | (c, i, ts) :: r => fun cls d σ H => ∃ b, PySem.W.exmOne K cls c = some b ∧
      (b = true → ∀ a, H a = none → ts a cls d { nx := fun σ' H' => D.nx (σ'.set i none) H', rt := D.rt, bk := fun σ' H' => D.bk (σ'.set i none) H', ct := fun σ' H' => D.ct (σ'.set i none) H' } (σ.set i (some (.ref a))) H) ∧
      (b = false → wManyA K Wout D r cls d σ H)
inductive HdsA (X : Cx) : List ExceptHandler → List (Value × Nat × (Addr → Value → Option Addr → TS)) → Prop
  | nil : HdsA X [] []
  | cons {x n : Str} {c : Value} {i : Nat} {ts : Addr → Value → Option Addr → TS} {b₀ : Stmt} {suite : List Stmt} {np pos' : Pos} {hds : List ExceptHandler} {l : List (Value × Nat × (Addr → Value → Option Addr → TS))}
      (hi : X.N[i]? = some n) (hln : X.env.kindOf n = some .local) (hc : Names X x c)
      (hsu : ∀ (a : Addr) (oe : Obj) (cls : Value) (d : Option Addr) (pn : List (Addr × Obj)), Zc cls d oe → (∃ vs, oe.data = .fields vs) → PSs (X.suite a ((a, oe) :: pn)) (b₀ :: suite) (ts a cls d)) (r : HdsA X hds l) :
      HdsA X (.ExceptHandler (some (.Name x np)) (some n) (b₀ :: suite) pos' :: hds) ((c, i, ts) :: l)
section
variable {X : Cx} {body : List Stmt} {h₀ : ExceptHandler} {hds : List ExceptHandler} {l : List (Value × Nat × (Addr → Value → Option Addr → TS))} {pos : Pos} {tb : WX → TS} {Wout : WX}
theorem ps_try_mas (hs : X.stack = X.env :: X.outer) (hf : X.env.frame = some X.env.locals) (hN : X.N.Nodup) (tk : Takes X Wout)
    (hb : ∀ (W : WX) (pn : List (Addr × Obj)) (xe : Value → Shared → Prop), Takes (X.tr pn xe) W → PassesOwn (model X.prog X.w) X.A X.env xe → PSs (X.tr pn xe) body (tb W))
    (hh : HdsA X (h₀ :: hds) l) : PS X (.Try body (h₀ :: hds) [] [] pos) (fun D σ H => tb (wManyA X.K Wout D l) D σ H) := by
  refine ⟨fun pins s σ H D I h => ?_⟩
  have ok := I.ok
  have hfr : X.A.frames = some (X.env :: X.outer) := by rw [ok.frames, hs]
  refine wpAny_Try_except ?_
  refine wpAny_mono ((hb (wManyA X.K Wout D l) (X.pn ++ pins) (fun e s₁ => wpAny (model X.prog X.w) X.A (noteFrame e X.env) (fun _ s₂ => wpAny (model X.prog X.w) X.A (setFlight e none) (fun _ s₃ =>
    wpAny (model X.prog X.w) X.A (handleBy e X.env (h₀ :: hds)) (SP X pins D) X.xe s₃) X.xe s₂) X.xe s₁) (fun u s' xx => ?_) PassesOwn.looking).run [] s σ H D (I.toTry _) h) (fun f s1 hsp => ?_) (fun e s1 he => he)
  · -- the catch
    obtain ⟨a, B, sI, pins', σ', H', cls, d, rfl, J', nb, up, sky, na, os, ag, w⟩ := xx
    have J : Inv X pins σ' H' sI := J'.ofTry ok
    have sky' : Sky B (X.env :: X.outer) a (Zc cls d) X.env.locals s'.heap := by rw [← hs]; exact sky
    show wpAny (model X.prog X.w) X.A (noteFrame (.ref a) X.env) _ _ _
    refine Sky.land Zc.steady hfr hf sky' fun h3 fl3 up3 => ?_
    have J3 : Inv X pins σ' H' { s' with heap := h3 } := J.landed nb fl3.1 (up.trans up3) os ag
    obtain ⟨oe3, vs3, he3, hz3, hd3⟩ := fl3.there
    have notFr : ∀ {h : Heap} {o : Obj} {vs : Array Value}, h.FunFrames B (X.env :: X.outer) → h.get? a = some o → o.data = .fields vs → a ∉ frs (X.env :: X.outer) := fun {h o vs} ff e dd hm => by
      obtain ⟨_, o', e', hnf⟩ := ff.mem hm
      rw [e] at e'; cases e'
      exact hnf _ dd
    have nfr := notFr fl3.2.2.1 he3 hd3
    have nL : a ≠ X.env.locals := fun z => nfr (List.mem_filterMap.mpr ⟨X.env, List.mem_cons_self, by rw [hf, z]⟩)
    have nF : a ∉ X.fs := fun hm => by
      obtain ⟨e, he, q⟩ := List.mem_filterMap.mp hm
      exact nfr (List.mem_filterMap.mpr ⟨e, List.mem_cons_of_mem _ he, q⟩)
    have S3 := J3.suite he3 hd3 na nL nF
    have go : ∀ {hds' : List ExceptHandler} {l' : List (Value × Nat × (Addr → Value → Option Addr → TS))}, HdsA X hds' l' → wManyA X.K Wout D l' cls d σ' H' →
        wpAny (model X.prog X.w) X.A (handleBy (.ref a) X.env hds') (SP X pins D) X.xe { s' with heap := h3 } := by
      intro hds' l' hk
      induction hk with
      | nil =>
        intro w
        refine wpAny_handleBy_nil ?_
        obtain ⟨k1, k2, k3, oe, vs, T, oT, ts', he, hz, hd, h1, hr⟩ := id fl3
        unfold PySem.passOn
        refine wpAny_bind (wpAny_field he hd h1 ?_)
        rw [if_neg (show ¬ ((Value.ref T == Value.none) = true) from by simp)]
        have fin : wpAny (model X.prog X.w) X.A (setFlight (.ref a) X.env.frame) (fun _ s4 => wpAny (model X.prog X.w) X.A (throw (.ref a) : Sem Flow) (SP X pins D) X.xe s4) X.xe { s' with heap := h3 } := by
          rw [hf]
          refine HandSPX.setFlight_upZ fl3 fun h4 hh4 up4 => wpAny_throw (tk _ _ ?_)
          exact ⟨a, B, sI, pins, σ', H', cls, d, rfl, J, nb, (up.trans up3).trans up4, .inr (.inr (by rw [hs]; exact hh4)), na, os, ag, w⟩
        first
          | exact wpAny_bind (wpAny_pure (wpAny_bind fin))
          | exact wpAny_bind fin
      | @cons x n c i ts b₀ suite np pos' hds2 l2 hi hln hc hsu r ih =>
        intro w
        have hloc : Loc X.env.scope n := .inl hln
        obtain ⟨b, hb1, hyes, hno⟩ := w
        refine wpAny_handleBy_cons (codeAny_handlers_test ?_) (by intro q; cases q)
        have LT : PySem.W.Looks (model X.prog X.w) h3 (typeOf (.ref a)) cls := fun A Q E s k q => wpAny_typeOf_ref (k _ _ he3) (by rw [hz3.1]; exact q)
        have LM := PySem.W.exm_one (M := model X.prog X.w) (J3.kIn) LT hb1
        have test : ∀ {Q : Value → Shared → Prop} {E : Value → Shared → Prop}, Q c { s' with heap := h3 } → wpAny (model X.prog X.w) (X.A.mark (some (.ref a))) (eval (.Name x np) X.env) Q E { s' with heap := h3 } := fun {Q E} q => by
          obtain ⟨hg, hdbg, hm | ⟨hm, hv, hnn⟩⟩ := hc
          · exact ld_glob (X := X.suite a ((a, oe3) :: (X.pn ++ pins))) S3 hg hm q hdbg
          · exact ld_blt (X := X.suite a ((a, oe3) :: (X.pn ++ pins))) S3 hg hm hv q hnn hdbg
        refine test (LM.here ?_)
        cases b with
        | true =>
          refine codeAny_handlers_suite_as ?_
          refine HandSPX.lands_againZ fl3 fun h4 fl4 up4 => ?_
          have J4 : Inv X pins σ' H' { s' with heap := h4 } := J.landed nb fl4.1 ((up.trans up3).trans up4) os ag
          obtain ⟨oe4, vs4, he4, hz4, hd4⟩ := fl4.there
          have S4 := J4.suite he4 hd4 na nL nF
          refine store_ok (X := X.suite a ((a, oe4) :: (X.pn ++ pins))) (v := .ref a) S4 hN hi hloc rfl (fun s5 S5 => ?_) (.inr hln)
          refine wpAny_mono ((hsu a oe4 cls d (X.pn ++ pins) hz4 ⟨_, hd4⟩).run [] s5 _ H' _ S5 (hyes rfl a na)) (fun f s6 hsp => ?_) (fun _ _ z => False.elim z)
          have end_ : ∀ {σ6 : L2.St} {H6 : Hp} {Q : Shared → Prop}, Inv (X.suite a ((a, oe4) :: (X.pn ++ pins))) [] σ6 H6 s6 → (∀ s7, Inv X pins (σ6.set i none) H6 s7 → Q s7) →
              wpAny (model X.prog X.w) X.A (do bindName X.env n .none; unbindBehindTheSuite X.env n pos') (fun _ s7 => Q s7) X.xe s6 := fun {σ6 H6 Q} S6 hq => gone_ok (S6.unsuite ok) hN hi hln hq
          cases f with
          | next =>
            obtain ⟨σ6, H6, S6, q6⟩ := hsp
            exact end_ S6 fun s7 J7 => ⟨_, _, J7, q6⟩
          | brk =>
            obtain ⟨σ6, H6, S6, q6⟩ := hsp
            exact end_ S6 fun s7 J7 => ⟨_, _, J7, q6⟩
          | cont =>
            obtain ⟨σ6, H6, S6, q6⟩ := hsp
            exact end_ S6 fun s7 J7 => ⟨_, _, J7, q6⟩
          | ret u =>
            obtain ⟨v6, σ6, H6, S6, r6, q6⟩ := hsp
            exact end_ S6 fun s7 J7 => ⟨_, _, _, J7, r6, q6⟩
        | false =>
          show wpAny _ X.A (handleBy (.ref a) X.env hds2) _ _ _
          exact ih (hno rfl)
    exact go hh w
  · cases f with
    | next =>
      obtain ⟨σ', H', J', q⟩ := hsp
      exact wpAny_execs_nil ⟨σ', H', J'.ofTry ok, q⟩
    | brk =>
      obtain ⟨σ', H', J', q⟩ := hsp
      exact ⟨σ', H', J'.ofTry ok, q⟩
    | cont =>
      obtain ⟨σ', H', J', q⟩ := hsp
      exact ⟨σ', H', J'.ofTry ok, q⟩
    | ret u =>
      obtain ⟨v, σ', H', J', r, q⟩ := hsp
      exact ⟨v, σ', H', J'.ofTry ok, r, q⟩
end
/-! ### xs[i], a list or a tuple -/
section
variable {X : Cx}
def rIxQ (K : PySem.W.Frag) : R2 := fun x y H Q => rIxL K x y H Q ∨ rIxT K x y H Q
theorem ixS (K : PySem.W.Frag) (h : X.K = K := by rfl) : IxR X (rIxQ K) := h ▸ ix_list.or ix_tup
end
/-! ### like data -/
theorem shaped_can {d : PyData} (h : SeqAt.shaped d = true) : d.canLay0 = true := by
  unfold SeqAt.shaped at h
  exact ((Bool.and_eq_true _ _).mp h).1
theorem eqSame {K : PySem.W.Frag} {H : Hp} {x y : V} {d : PyData} {Q : VK} (hs : SeqAt.shaped d = true) (hx : Dp K H x d) (hy : Dp K H y d) (q : Q (.bl true) H) : rEqD K x y H Q :=
  ⟨d, d, hx, hy, hs, hs, by rw [SeqAt.eqv_refl _ (shaped_can hs)]; exact q⟩
theorem neSame {K : PySem.W.Frag} {H : Hp} {x y : V} {d : PyData} {Q : VK} (hs : SeqAt.shaped d = true) (hx : Dp K H x d) (hy : Dp K H y d) (q : Q (.bl false) H) : rNeD K x y H Q :=
  ⟨d, d, hx, hy, hs, hs, by rw [SeqAt.eqv_refl _ (shaped_can hs)]; exact q⟩
/-! ### sorted(a dict whose keys are numbers) -/
section
variable {X : Cx}
def rSortedK : List V → Hp → VK → Prop := fun xs H Q => ∃ (a : Addr) (kvs : List (Key × V)) (ks : List Int), xs = [.ref a] ∧ L2.Rd H a (.dK kvs) ∧ kvs.map (·.1) = ks.map Sum.inl ∧ ks.length < 64 ∧
  ∀ (ys : List Int) (p : Addr), ys.Perm ks → ys.Pairwise (· ≤ ·) → H p = none → Q (.ref p) (upd H p (.lst (ys.map V.int)))
theorem sortK (hc : X.calm = true) : CallR X (.builtin "sorted") rSortedK := call_sortedDI hc
end
section
variable {X : Cx}
theorem repT (K : PySem.W.Frag) (h : X.K = K := by rfl) : OpR X (binaryOp .Mult) (rRepT K) := h ▸ op_repT
end
end Bw

set_option maxHeartbeats 1000000
namespace Bw
open PySem PySem.Spec PyProof.Rows L2
/-! ### for x in xs, a list or a tuple -/
def iSeq (K : PySem.W.Frag) (tl : TE) : TI := fun σ H R => tl σ H fun x H1 => ∃ a, x = .ref a ∧ (((∃ xs, SqL K H1 a xs) ∧ R (Itl K a) H1) ∨ ((∃ xs, SqT K H1 a xs) ∧ R (Itt K a) H1))
section
variable {X : Cx} {tg : Expr}
theorem pi_seq {l : Expr} {tl : TE} (hl : PE X l tl) : PI X tg l (iSeq X.K tl) := by
  refine ⟨fun pins s σ H R I h => ?_⟩
  refine thn (hl.run pins s σ H _ I h) fun v s1 ⟨x, H1, I1, r1, q1⟩ => ?_
  obtain ⟨a, e, q1⟩ := q1
  subst e
  cases r1
  rcases q1 with ⟨⟨xs, hq⟩, q⟩ | ⟨⟨xs, hq⟩, q⟩
  · obtain ⟨its, rv, p, hz⟩ := I1.list hq
    refine wpAny_pyIter_list p.isList ?_
    refine ⟨s1.heap.objs.size, [s1.heap.objs.size], _, _, H1, rfl, I1.kept (t' := s1.toks) fun b o e => Heap.get?_push_of_some _ e, turn_list a _, ⟨_, Heap.get?_push_size _ rfl, rfl, rfl⟩, fun b hb => ?_, q⟩
    have e : b = s1.heap.objs.size := by simpa using hb
    subst e
    exact I1.fpOk (Nat.le_refl _) (I1.hok.fresh (Nat.le_refl _))
  · obtain ⟨its, rv, p, hz⟩ := I1.tuple hq
    refine wpAny_pyIter_tuple (show s1.heap.IsTuple a its.toArray from p) ?_
    refine ⟨s1.heap.objs.size, [s1.heap.objs.size], _, _, H1, rfl, I1.kept (t' := s1.toks) fun b o e => Heap.get?_push_of_some _ e, turn_tuple a _, ⟨_, Heap.get?_push_size _ rfl, rfl, rfl⟩, fun b hb => ?_, q⟩
    have e : b = s1.heap.objs.size := by simpa using hb
    subst e
    exact I1.fpOk (Nat.le_refl _) (I1.hok.fresh (Nat.le_refl _))
theorem piS (K : PySem.W.Frag) {tg l : Expr} {tl : TE} (hl : PE X l tl) (h : X.K = K := by rfl) : PI X tg l (iSeq K tl) := h ▸ pi_seq hl
end
theorem pe_revTK (K : PySem.W.Frag) {X : Cx} {e : Expr} {te : TE} {k : Nat} {p1 p2 p3 pos : Pos} (he : PE X e te) (h : X.K = K := by rfl) : PE X (.Subscript e (.Slice none none (some (.UnaryOp .USub (.Constant (.int 1) k p1) p2)) p3) pos) (tRevT K te) := h ▸ pe_revT he
end Bw

set_option maxHeartbeats 2000000
namespace Bw
open PySem PySem.Spec PyProof.Rows L2
/-! ### math.comb -/
section
variable {X : Cx}
def rComb : List V → Hp → VK → Prop := fun vs H Q => ∃ a b : Int, vs = [.int a, .int b] ∧ 0 ≤ a ∧ 0 ≤ b ∧ a < 2 ^ 64 ∧ b ≤ 9000 ∧ Q (.int (PySem.W.mcComb a b)) H
theorem cr_comb : CallR X (.builtin "math.comb") rComb := by
  intro pins s σ H vs us Q I r h
  obtain ⟨a, b, rfl, h1, h2, h3, h4, q⟩ := h
  obtain ⟨t, u, rfl⟩ := Vals.int2 r
  exact PySem.W.mc_comb h1 h2 h3 (.inl h4) fun _ => ⟨.int _, H, I.tok _, ⟨_, rfl⟩, q⟩
/-- ints -/
def ipIc (c : Int → Int → Prop) (f : Int → Int → Int) : TIp := fun x y H Q => ∃ i j, x = .int i ∧ y = .int j ∧ c i j ∧ Q (.int (f i j)) H
theorem ip_mulW : PIp X .Mult (ipIc CMulW fun i j => i * j) := by
  intro pins s σ H x y v u Q I r1 r2 h
  obtain ⟨i, j, e1, e2, c, q⟩ := h
  subst e1; subst e2
  obtain ⟨t, rfl⟩ := r1
  obtain ⟨t', rfl⟩ := r2
  exact imul_int ⟨.int _, H, I.tok _, ⟨_, rfl⟩, q⟩ c.ok
end
/-! ### zip of three lists -/
def Itz3 (K : PySem.W.Frag) (a b c : Addr) : It :=
  ⟨fun i H => ∃ (xs ys zs : List V) (x y z : V), SqL K H a xs ∧ SqL K H b ys ∧ SqL K H c zs ∧ xs[i]? = some x ∧ ys[i]? = some y ∧ zs[i]? = some z,
    fun i H v H' => ∃ T x y z, v = .ref T ∧ H T = none ∧ H' = upd H T (.tup [x, y, z]) ∧ (∀ xs, SqL K H a xs → xs[i]? = some x) ∧ (∀ ys, SqL K H b ys → ys[i]? = some y) ∧ ∀ zs, SqL K H c zs → zs[i]? = some z,
    fun i H => ∃ xs ys zs : List V, SqL K H a xs ∧ SqL K H b ys ∧ SqL K H c zs ∧ i = xs.length ∧ i = ys.length ∧ i = zs.length⟩
theorem turn_zip3 {P : Program} {w : World} {K : PySem.W.Frag} {elts : List Expr} {kk : Nat} {tpos : Pos} {a b c z TI TO i1 i2 i3 : Addr} (S : ZipSep3 z TI TO i1 i2 i3 [i1, a] [i2, b] [i3, c]) (na : a ≠ i1) (nb : b ≠ i2) (nc : c ≠ i3) :
    Turn P w K (.Tuple elts kk tpos) (Itz3 K a b c) [z, TI, TO, i1, i2, i3] z (fun i h => IsZip h z TI TO .none ∧ IsTupOf3 h TI (.ref i1) (.ref i2) (.ref i3) ∧ (∃ x y u, IsTupOf3 h TO x y u) ∧ h.IsListIter i1 a i ∧ h.IsListIter i2 b i ∧ h.IsListIter i3 c i) where
  mem := by simp
  obj := fun i h st d hd => by
    obtain ⟨hz, hTI, ⟨x, y, u, hTO⟩, ⟨o1, e1, _, d1⟩, ⟨o2, e2, _, d2⟩, ⟨o3, e3, _, d3⟩⟩ := st
    have e' : d = z ∨ d = TI ∨ d = TO ∨ d = i1 ∨ d = i2 ∨ d = i3 := by simpa using hd
    rcases e' with q | q | q | q | q | q
    · rw [q]; exact ⟨_, hz, fun v q => nomatch q⟩
    · rw [q]; exact ⟨_, hTI, fun v q => nomatch q⟩
    · rw [q]; exact ⟨_, hTO, fun v q => nomatch q⟩
    · rw [q]; exact ⟨o1, e1, fun v q => by rw [d1] at q; cases q⟩
    · rw [q]; exact ⟨o2, e2, fun v q => by rw [d2] at q; cases q⟩
    · rw [q]; exact ⟨o3, e3, fun v q => by rw [d3] at q; cases q⟩
  keep := fun i h h' st k => by
    obtain ⟨hz, hTI, ⟨x, y, u, hTO⟩, h1, h2, h3⟩ := st
    exact ⟨k z (by simp) _ hz, k TI (by simp) _ hTI, ⟨x, y, u, k TO (by simp) _ hTO⟩, h1.at fun o q => k i1 (by simp) o q, h2.at fun o q => k i2 (by simp) o q, h3.at fun o q => k i3 (by simp) o q⟩
  item := by
    intro X hP hw hK hc i pins s σ H E I hf st hg
    subst hP hw hK
    obtain ⟨hz, hTI, ⟨x0, y0, u0, hTO⟩, h1, h2, h3⟩ := st
    obtain ⟨xs, ys, zs, x, y, w_, hqx, hqy, hqz, hx, hy, hw_⟩ := hg
    obtain ⟨its, rv, p, _⟩ := I.list hqx
    obtain ⟨its2, rv2, p2, _⟩ := I.list hqy
    obtain ⟨its3, rv3, p3, _⟩ := I.list hqz
    obtain ⟨u, hu, ru⟩ := rv.get hx
    obtain ⟨u2, hu2, ru2⟩ := rv2.get hy
    obtain ⟨u3, hu3, ru3⟩ := rv3.get hw_
    have hzl : z < s.heap.objs.size := Heap.lt_size hz
    have hh : X.A.in1.handled = none := I.ok.hd hc
    have D1 := Draws.list (prog := X.prog) (w := X.w) (A := X.A.in1) hh i1 a na its.toArray
    have D2 := Draws.list (prog := X.prog) (w := X.w) (A := X.A.in1) hh i2 b nb its2.toArray
    have D3 := Draws.list (prog := X.prog) (w := X.w) (A := X.A.in1) hh i3 c nc its3.toArray
    have l1 : i < its.toArray.size := by have := (List.getElem?_eq_some_iff.mp hu).1; simpa using this
    have l2 : i < its2.toArray.size := by have := (List.getElem?_eq_some_iff.mp hu2).1; simpa using this
    have l3 : i < its3.toArray.size := by have := (List.getElem?_eq_some_iff.mp hu3).1; simpa using this
    refine wpAny_pyNext_zipD3_item S D1 D2 D3 hz hTI hTO ⟨h1, p.isList⟩ ⟨h2, p2.isList⟩ ⟨h3, p3.isList⟩ l1 l2 l3 fun x1 x2 x3 h' tk y1 y2 y3 b1 b2 d1 d2 d3 b5 b6 hk => ?_
    have e1 : x1 = u := Option.some.inj (y1.symm.trans (show its.toArray[i]? = some u by simpa using hu))
    have e2 : x2 = u2 := Option.some.inj (y2.symm.trans (show its2.toArray[i]? = some u2 by simpa using hu2))
    have e3 : x3 = u3 := Option.some.inj (y3.symm.trans (show its3.toArray[i]? = some u3 by simpa using hu3))
    subst e1 e2 e3
    refine ⟨_, rfl, wpAny_letOwnedTupleGo_zip (s := { s with heap := h', toks := tk }) b1 fun h'' z'' sb => ?_⟩
    have hT2 : h''.get? s.heap.objs.size = some { cls := .type "tuple", data := .seq #[x1, x2, x3] } := (sb.2 _ (Nat.ne_of_gt hzl)).trans b5
    have new : ObjOk X.prog X.w (upd H s.heap.objs.size (.tup [x, y, w_])) h'' s.heap.objs.size (.tup [x, y, w_]) :=
      ⟨by show 3 ≤ sizeLine; decide, [x1, x2, x3], .cons ru (.cons ru2 (.cons ru3 .nil)), ⟨_, hT2, rfl, _, rfl⟩⟩
    have I1 : Inv X pins σ (upd H s.heap.objs.size (.tup [x, y, w_])) { s with heap := h'', toks := tk } :=
      I.turnedNew (ch := [z, TI, TO, i1, i2, i3]) (fun d o hb q => (sb.2 d (fun q' => hb (by simp [q']))).trans (hk d o (fun q' => hb (by simp [q'])) (fun q' => hb (by simp [q'])) (fun q' => hb (by simp [q'])) (fun q' => hb (by simp [q'])) (fun q' => hb (by simp [q'])) q)) hf (Nat.le_refl _) new
    refine ⟨.ref s.heap.objs.size, _, I1, rfl, ⟨_, x, y, w_, rfl, I.hok.fresh (Nat.le_refl _), rfl, fun l hl => by rw [I.list_inj hl hqx]; exact hx, fun l hl => by rw [I.list_inj hl hqy]; exact hy, fun l hl => by rw [I.list_inj hl hqz]; exact hw_⟩, ⟨z'', ?_, ⟨x1, x2, x3, ?_⟩, ?_, ?_, ?_⟩, fun d hdm => ?_⟩
    · exact (sb.2 _ S.TIz).trans (hk _ _ S.TIz S.TITO S.TIi1 S.TIi2 S.TIi3 hTI)
    · exact (sb.2 _ S.TOz).trans b2
    · exact d1.1.at fun o q => (sb.2 _ S.zi1.symm).trans q
    · exact d2.1.at fun o q => (sb.2 _ S.zi2.symm).trans q
    · exact d3.1.at fun o q => (sb.2 _ S.zi3.symm).trans q
    · have hlt : d < s.heap.objs.size := by
        have e' : d = z ∨ d = TI ∨ d = TO ∨ d = i1 ∨ d = i2 ∨ d = i3 := by simpa using hdm
        rcases e' with q | q | q | q | q | q
        · rw [q]; exact hzl
        · rw [q]; exact Heap.lt_size hTI
        · rw [q]; exact Heap.lt_size hTO
        · rw [q]; obtain ⟨_, e1, _⟩ := h1; exact Heap.lt_size e1
        · rw [q]; obtain ⟨_, e2, _⟩ := h2; exact Heap.lt_size e2
        · rw [q]; obtain ⟨_, e3, _⟩ := h3; exact Heap.lt_size e3
      rw [upd_ne (Nat.ne_of_lt hlt)]
      exact (hf d hdm).1
  done := by
    intro X hP hw hK hc i pins s σ H E I hf st hg
    subst hP hw hK
    obtain ⟨hz, hTI, ⟨x0, y0, u0, hTO⟩, h1, h2, h3⟩ := st
    obtain ⟨xs, ys, zs, hqx, hqy, hqz, n1, n2, n3⟩ := hg
    obtain ⟨its, rv, p, _⟩ := I.list hqx
    obtain ⟨its2, rv2, p2, _⟩ := I.list hqy
    obtain ⟨its3, rv3, p3, _⟩ := I.list hqz
    have l1 := rv.length
    have l2 := rv2.length
    have l3 := rv3.length
    have hh : X.A.in1.handled = none := I.ok.hd hc
    have D1 := Draws.list (prog := X.prog) (w := X.w) (A := X.A.in1) hh i1 a na its.toArray
    have D2 := Draws.list (prog := X.prog) (w := X.w) (A := X.A.in1) hh i2 b nb its2.toArray
    have D3 := Draws.list (prog := X.prog) (w := X.w) (A := X.A.in1) hh i3 c nc its3.toArray
    exact wpAny_pyNext_zipD3_end S D1 D2 D3 hz hTI hTO ⟨h1, p.isList⟩ ⟨h2, p2.isList⟩ ⟨h3, p3.isList⟩ (by rw [List.size_toArray]; omega) (by rw [List.size_toArray]; omega) (by rw [List.size_toArray]; omega) (.inl (by rw [List.size_toArray]; omega)) fun h' tk hk =>
      ⟨rfl, I.turnedL (t' := tk) (ch := [z, TI, TO, i1, i2, i3]) (fun d o hb q => hk d o (fun q' => hb (by simp [q'])) (fun q' => hb (by simp [q'])) (fun q' => hb (by simp [q'])) (fun q' => hb (by simp [q'])) (fun q' => hb (by simp [q'])) q) hf⟩
  self := fun A i s Q E st h => wpAny_pyIter_zip st.1 h
def iZip3 (K : PySem.W.Frag) (ta : TA) : TI := fun σ H R => ta σ H fun vs H1 => ∃ a b c xs ys zs, vs = [.ref a, .ref b, .ref c] ∧ SqL K H1 a xs ∧ SqL K H1 b ys ∧ SqL K H1 c zs ∧ R (Itz3 K a b c) H1
theorem pi_zip3 {X : Cx} {e e2 e3 : Expr} {ta : TA} {p pos tpos : Pos} {elts : List Expr} {kk : Nat} (hg : Gl X "zip") (hm : X.mg "zip" = none) (ha : PA X [e, e2, e3] ta)
    (hs : starEach [e, e2, e3] X.env = (false, eval e X.env) :: starEach [e2, e3] X.env := by rfl) (hpl : (backTo pos (starEach [e2, e3] X.env)).any (·.1) = false := by rfl) :
    PI X (.Tuple elts kk tpos) (.Call (.Name "zip" p) [e, e2, e3] [] pos) (iZip3 X.K ta) := by
  refine ⟨fun pins s σ H R I h => ?_⟩
  refine Call_ (ld_blt I hg hm PyProof.Rows.boot_zip (PyProof.Rows.callWith_type1 (thn (ha.run pos pins s σ H _ I h) fun us s1 ⟨vs, H1, I1, r1, q1⟩ => ?_) hs hpl))
  obtain ⟨a, b, c, xs, ys, zs, ex, hqx, hqy, hqz, q⟩ := q1
  subst ex
  cases r1 with
  | cons r rr =>
    cases rr with
    | cons r' rr =>
      cases rr with
      | cons r'' rr =>
        cases rr
        cases r
        cases r'
        cases r''
        obtain ⟨its, rv, p1, _⟩ := I1.list hqx
        obtain ⟨its2, rv2, p2, _⟩ := I1.list hqy
        obtain ⟨its3, rv3, p3, _⟩ := I1.list hqz
        have la : a < s1.heap.objs.size := p1.lt
        have lb : b < s1.heap.objs.size := p2.lt
        have lc : c < s1.heap.objs.size := p3.lt
        refine zip_begins3 (begins_list a its.toArray) (begins_list b its2.toArray) (begins_list c its3.toArray) p1.isList p2.isList p3.isList fun h' hz hTI hTO h1 h2 h3 hsz hk => wpAny_pyIter_zip hz ?_
        have I2 : Inv X pins σ H1 { s1 with heap := h' } := I1.kept (t' := s1.toks) hk
        have S : ZipSep3 (s1.heap.objs.size + 5) (s1.heap.objs.size + 3) (s1.heap.objs.size + 4) s1.heap.objs.size (s1.heap.objs.size + 1) (s1.heap.objs.size + 2) [s1.heap.objs.size, a] [s1.heap.objs.size + 1, b] [s1.heap.objs.size + 2, c] :=
          zip_sep3 (fun d hd => by rw [List.mem_singleton.mp hd]; exact la) (fun d hd => by rw [List.mem_singleton.mp hd]; exact lb) (fun d hd => by rw [List.mem_singleton.mp hd]; exact lc)
        refine ⟨s1.heap.objs.size + 5, [s1.heap.objs.size + 5, s1.heap.objs.size + 3, s1.heap.objs.size + 4, s1.heap.objs.size, s1.heap.objs.size + 1, s1.heap.objs.size + 2], _, _, H1, rfl, I2,
          turn_zip3 S (Nat.ne_of_lt la) (Nat.ne_of_lt (Nat.lt_succ_of_lt lb)) (Nat.ne_of_lt (Nat.lt_succ_of_lt (Nat.lt_succ_of_lt lc))),
          ⟨hz, hTI, ⟨_, _, _, hTO⟩, ⟨_, h1, rfl, rfl⟩, ⟨_, h2, rfl, rfl⟩, ⟨_, h3, rfl, rfl⟩⟩, fun d hdm => ?_, q⟩
        have hle : s1.heap.objs.size ≤ d := by
          have e' : d = s1.heap.objs.size + 5 ∨ d = s1.heap.objs.size + 3 ∨ d = s1.heap.objs.size + 4 ∨ d = s1.heap.objs.size ∨ d = s1.heap.objs.size + 1 ∨ d = s1.heap.objs.size + 2 := by simpa using hdm
          rcases e' with z | z | z | z | z | z
          · rw [z]; exact Nat.le_add_right _ _
          · rw [z]; exact Nat.le_add_right _ _
          · rw [z]; exact Nat.le_add_right _ _
          · rw [z]; exact Nat.le_refl _
          · rw [z]; exact Nat.le_add_right _ _
          · rw [z]; exact Nat.le_add_right _ _
        exact I1.fpOk hle (I1.hok.fresh hle)
theorem piZip3 (K : PySem.W.Frag) {X : Cx} {e e2 e3 : Expr} {ta : TA} {p pos tpos : Pos} {elts : List Expr} {kk : Nat} (hm : X.mg "zip" = none) (ha : PA X [e, e2, e3] ta) (h : X.K = K := by rfl) (hg : Gl X "zip" := by rfl)
    (hs : starEach [e, e2, e3] X.env = (false, eval e X.env) :: starEach [e2, e3] X.env := by rfl) (hpl : (backTo pos (starEach [e2, e3] X.env)).any (·.1) = false := by rfl) :
    PI X (.Tuple elts kk tpos) (.Call (.Name "zip" p) [e, e2, e3] [] pos) (iZip3 K ta) := h ▸ pi_zip3 hg hm ha hs hpl
theorem walk_zip3 {K : PySem.W.Frag} {a b c : Addr} {xs ys zs : List V} (h1 : xs.length = ys.length) (h2 : xs.length = zs.length) :
    Walk (Itz3 K a b c) xs.length (fun H => SqL K H a xs ∧ SqL K H b ys ∧ SqL K H c zs) (fun i H v H' => ∃ T x y z, v = .ref T ∧ H T = none ∧ H' = upd H T (.tup [x, y, z]) ∧ xs[i]? = some x ∧ ys[i]? = some y ∧ zs[i]? = some z) := by
  refine ⟨fun i _ hi q => ⟨xs, ys, zs, xs[i], ys[i], zs[i], q.1, q.2.1, q.2.2, by simp [hi], by simp, by simp⟩, fun _ q => ⟨xs, ys, zs, q.1, q.2.1, q.2.2, rfl, h1, h2⟩, fun i H v H' _ q y => ?_⟩
  obtain ⟨T, x, y, z, g1, g2, g3, g4, g5, g6⟩ := y
  exact ⟨T, x, y, z, g1, g2, g3, g4 _ q.1, g5 _ q.2.1, g6 _ q.2.2⟩
end Bw

set_option maxHeartbeats 2000000
namespace K
open PySem PySem.Spec PyProof.Rows L2 Bw
open PySem.W (Tup Datum)
/-! ### rows and their rests -/
def Row (ns : List Int) : Prop := 1 ≤ ns.length ∧ ns.length ≤ 200 ∧ ∀ c ∈ ns, 0 ≤ c ∧ c ≤ 7
def stp (l : List Int) (c : Int) : List Int := if l.length > 1 ∧ l[l.length - 2]? = some c then l.dropLast else l ++ [c]
def strk (ns : List Int) : List Int := ns.foldl stp []
/-- the open places -/
def isOpn (ns : List Int) (i : Nat) : Bool := decide (ns[i]? = ns[i + 2]?)
def opn (ns : List Int) : List Int := ((List.range (ns.length - 2)).filter (isOpn ns)).map fun (i : Nat) => 1 + (i : Int)
theorem given_opn (ns : List Int) : Evl.given (ns.length - 2) (isOpn ns) (fun i => V.int (1 + (i : Int))) = (opn ns).map V.int := by
  unfold Evl.given opn
  rw [List.map_map]
  rfl
theorem stp_len (l : List Int) (c : Int) : (stp l c).length ≤ l.length + 1 := by
  unfold stp
  split
  · rw [List.length_dropLast]; omega
  · rw [List.length_append]; exact Nat.le_refl _
theorem foldl_stp_len : ∀ (ns l : List Int), (ns.foldl stp l).length ≤ l.length + ns.length
  | [], l => Nat.le_refl _
  | c :: ns, l => by
    have h := foldl_stp_len ns (stp l c)
    have h2 := stp_len l c
    show (ns.foldl stp (stp l c)).length ≤ l.length + (ns.length + 1)
    omega
theorem strk_len (ns : List Int) : (strk ns).length ≤ ns.length := by
  have h := foldl_stp_len ns []
  simpa [strk] using h

/-! ### striking, in any order -/
theorem stp_pop {m : List Int} {c x : Int} : stp (m ++ [c, x]) c = m ++ [c] := by
  unfold stp
  have h1 : (m ++ [c, x]).length > 1 := by rw [List.length_append]; show 1 < m.length + 2; omega
  have h2 : (m ++ [c, x])[(m ++ [c, x]).length - 2]? = some c := by
    rw [List.length_append, show m.length + [c, x].length - 2 = m.length from Nat.add_sub_cancel .., List.getElem?_append_right (Nat.le_refl _), Nat.sub_self]
    rfl
  rw [if_pos ⟨h1, h2⟩, show m ++ [c, x] = (m ++ [c]) ++ [x] by rw [List.append_assoc]; rfl, List.dropLast_concat]
theorem stp_cases (l : List Int) (c : Int) : (∃ m x, l = m ++ [c, x] ∧ stp l c = m ++ [c]) ∨ (stp l c = l ++ [c] ∧ ∀ m x, l ≠ m ++ [c, x]) := by
  by_cases h : l.length > 1 ∧ l[l.length - 2]? = some c
  · refine .inl ?_
    obtain ⟨h1, h2⟩ := h
    have e0 : l ≠ [] := fun z => by rw [z] at h1; exact absurd h1 (by decide)
    have e1 : l.dropLast ≠ [] := fun z => by
      have := congrArg List.length z
      rw [List.length_dropLast] at this
      simp at this
      omega
    have p1 := List.dropLast_concat_getLast e0
    have p2 := List.dropLast_concat_getLast e1
    have e2 : l.dropLast.getLast e1 = c := by
      have q : l.dropLast.getLast? = some c := by
        rw [List.getLast?_eq_getElem?, List.length_dropLast, List.getElem?_dropLast, if_pos (by omega), show l.length - 1 - 1 = l.length - 2 by omega]
        exact h2
      rw [List.getLast?_eq_getLast e1] at q
      exact Option.some.inj q
    refine ⟨l.dropLast.dropLast, l.getLast e0, ?_, ?_⟩
    · rw [show l.dropLast.dropLast ++ [c, l.getLast e0] = (l.dropLast.dropLast ++ [c]) ++ [l.getLast e0] by rw [List.append_assoc]; rfl, ← e2, p2, p1]
    · unfold stp
      rw [if_pos ⟨h1, h2⟩, ← e2, p2]
  · refine .inr ⟨?_, fun m x e => h ?_⟩
    · unfold stp
      rw [if_neg h]
    · subst e
      refine ⟨by rw [List.length_append]; show 1 < m.length + 2; omega, ?_⟩
      rw [List.length_append, show m.length + [c, x].length - 2 = m.length from Nat.add_sub_cancel .., List.getElem?_append_right (Nat.le_refl _), Nat.sub_self]
      rfl
/-- nothing to strike -/
def Str8 (l : List Int) : Prop := ∀ m t q p, l ≠ m ++ [t, q, t] ++ p
theorem stp_last (l : List Int) (c : Int) : ∃ m, stp l c = m ++ [c] := by
  rcases stp_cases l c with ⟨m, x, _, e⟩ | ⟨e, _⟩
  · exact ⟨m, e⟩
  · exact ⟨l, e⟩
theorem Str8.pre {l m : List Int} (h : Str8 (l ++ m)) : Str8 l := fun a t q p e => h a t q (p ++ m) (by rw [e, List.append_assoc])
theorem stp_str {l : List Int} {c : Int} (h : Str8 l) : Str8 (stp l c) := by
  rcases stp_cases l c with ⟨m, x, e, e2⟩ | ⟨e, hn⟩
  · rw [e2]
    exact Str8.pre (m := [x]) (by rw [List.append_assoc]; exact e ▸ h)
  · rw [e]
    intro m t q p z
    rcases List.eq_nil_or_concat p with rfl | ⟨p', y, rfl⟩
    · rw [List.append_nil, show m ++ [t, q, t] = (m ++ [t, q]) ++ [t] by rw [List.append_assoc]; rfl] at z
      obtain ⟨z1, z2⟩ := List.append_inj' z rfl
      have z3 : c = t := (List.cons.inj z2).1
      exact hn m q (by rw [z1, z3])
    · rw [List.concat_eq_append, ← List.append_assoc] at z
      obtain ⟨z1, _⟩ := List.append_inj' z rfl
      exact h m t q p' z1
theorem foldl_str : ∀ (ns l : List Int), Str8 l → Str8 (ns.foldl stp l)
  | [], _, h => h
  | _ :: ns, _, h => foldl_str ns _ (stp_str h)
theorem str_nil : Str8 [] := fun m t q p e => by
  have := congrArg List.length e
  simp at this
theorem strk_str (ns : List Int) : Str8 (strk ns) := foldl_str ns [] str_nil
/-- a coat and the one before it again: nothing is left of them -/
theorem stp_there_back {m : List Int} {t q : Int} (h : Str8 (m ++ [t])) : stp (stp (m ++ [t]) q) t = m ++ [t] := by
  rcases stp_cases (m ++ [t]) q with ⟨a, x, e, e2⟩ | ⟨e, _⟩
  · rw [show a ++ [q, x] = (a ++ [q]) ++ [x] by rw [List.append_assoc]; rfl] at e
    obtain ⟨e3, e4⟩ := List.append_inj' e rfl
    have e5 : t = x := (List.cons.inj e4).1
    rw [e2]
    rcases stp_cases (a ++ [q]) t with ⟨b, y, f, _⟩ | ⟨f, _⟩
    · refine absurd ?_ (h b t y [])
      rw [e3, f, List.append_nil, List.append_assoc]
      rfl
    · rw [f, ← e3]
  · rw [e, show m ++ [t] ++ [q] = m ++ [t, q] by rw [List.append_assoc]; rfl]
    exact stp_pop
/-- one strike -/
def Red (a b : List Int) : Prop := ∃ m t q p, a = m ++ [t, q, t] ++ p ∧ b = m ++ [t] ++ p
theorem strk_red {a b : List Int} (h : Red a b) : strk a = strk b := by
  obtain ⟨m, t, q, p, rfl, rfl⟩ := h
  unfold strk
  rw [List.foldl_append, List.foldl_append, List.foldl_append, List.foldl_append]
  show List.foldl stp (stp (stp (stp (List.foldl stp [] m) t) q) t) p = List.foldl stp (stp (List.foldl stp [] m) t) p
  have hs : Str8 (stp (List.foldl stp [] m) t) := stp_str (foldl_str m [] str_nil)
  obtain ⟨k, e⟩ := stp_last (List.foldl stp [] m) t
  rw [e] at hs ⊢
  rw [stp_there_back hs]
theorem strk_of_str : ∀ (ns l : List Int), Str8 (l ++ ns) → ns.foldl stp l = l ++ ns
  | [], l, _ => (List.append_nil l).symm
  | c :: ns, l, h => by
    have e : stp l c = l ++ [c] := by
      rcases stp_cases l c with ⟨m, x, f, _⟩ | ⟨f, _⟩
      · refine absurd ?_ (h m c x ns)
        rw [f, List.append_assoc, List.append_assoc]
        rfl
      · exact f
    show ns.foldl stp (stp l c) = l ++ c :: ns
    rw [e, strk_of_str ns (l ++ [c]) (by rw [List.append_assoc]; exact h), List.append_assoc]
    rfl
theorem strk_id {ns : List Int} (h : Str8 ns) : strk ns = ns := strk_of_str ns [] h
theorem red_inv {α : Type} {f : List Int → α} (hf : ∀ a b, Red a b → f a = f b) : ∀ (ns l : List Int), f (l ++ ns) = f (ns.foldl stp l)
  | [], l => by rw [List.append_nil]; rfl
  | c :: ns, l => by
    show f (l ++ c :: ns) = f (ns.foldl stp (stp l c))
    rw [← red_inv hf ns (stp l c)]
    rcases stp_cases l c with ⟨m, x, e, e2⟩ | ⟨e, _⟩
    · rw [e2, e]
      refine hf _ _ ⟨m, c, x, ns, ?_, rfl⟩
      rw [List.append_assoc, List.append_assoc]
      rfl
    · rw [e, List.append_assoc]
      rfl
theorem Red.rev {a b : List Int} (h : Red a b) : Red a.reverse b.reverse := by
  obtain ⟨m, t, q, p, rfl, rfl⟩ := h
  refine ⟨p.reverse, t, q, m.reverse, ?_, ?_⟩
  · simp
  · simp
theorem Str8.rev {l : List Int} (h : Str8 l) : Str8 l.reverse := fun m t q p e => h p.reverse t q m.reverse (by
  have := congrArg List.reverse e
  simpa using this)
theorem strk_rev (ns : List Int) : strk ns.reverse = (strk ns).reverse := by
  have h := red_inv (f := fun l : List Int => strk l.reverse) (fun a b r => strk_red r.rev) ns []
  exact h.trans (strk_id (strk_str ns).rev)
theorem strk_idem (ns : List Int) : strk (strk ns) = strk ns := strk_id (strk_str ns)
theorem strk_mem {c : Int} (ns : List Int) (h : c ∈ strk ns) : c ∈ ns := by
  have key : ∀ (ns l : List Int), (∀ x ∈ ns.foldl stp l, x ∈ l ∨ x ∈ ns) := by
    intro ns
    induction ns with
    | nil => intro l x hx; exact .inl hx
    | cons d ns ih =>
      intro l x hx
      rcases ih (stp l d) x hx with h | h
      · rcases stp_cases l d with ⟨m, y, e, e2⟩ | ⟨e, _⟩
        · rw [e2] at h
          rw [e]
          refine .inl ?_
          rcases List.mem_append.mp h with h | h
          · exact List.mem_append_left _ h
          · exact List.mem_append_right _ (by rw [List.mem_singleton.mp h]; exact List.mem_cons_self)
        · rw [e] at h
          rcases List.mem_append.mp h with h | h
          · exact .inl h
          · exact .inr (by rw [List.mem_singleton.mp h]; exact List.mem_cons_self)
      · exact .inr (List.mem_cons_of_mem _ h)
  rcases key ns [] c h with h | h
  · cases h
  · exact h
theorem strk_pos {ns : List Int} (h : 1 ≤ ns.length) : 1 ≤ (strk ns).length := by
  rcases List.eq_nil_or_concat ns with rfl | ⟨m, c, rfl⟩
  · exact absurd h (by decide)
  · unfold strk
    rw [List.concat_eq_append, List.foldl_append]
    obtain ⟨k, e⟩ := stp_last (List.foldl stp [] m) c
    show 1 ≤ (stp (List.foldl stp [] m) c).length
    rw [e, List.length_append]
    exact Nat.le_add_left _ _
theorem Row.strk {ns : List Int} (h : Row ns) : Row (strk ns) := ⟨strk_pos h.1, Nat.le_trans (strk_len ns) h.2.1, fun c hc => h.2.2 c (strk_mem ns hc)⟩
theorem Row.rev {ns : List Int} (h : Row ns) : Row ns.reverse := ⟨by rw [List.length_reverse]; exact h.1, by rw [List.length_reverse]; exact h.2.1, fun c hc => h.2.2 c (List.mem_reverse.mp hc)⟩
/-- an open place is a place where can be struck -/
theorem opn_red {ns : List Int} {i : Int} (h : i ∈ opn ns) : ∃ k : Nat, i = 1 + (k : Int) ∧ k + 2 < ns.length ∧ Red ns (ns.take (k + 1) ++ ns.drop (k + 3)) := by
  unfold opn at h
  obtain ⟨k, hk, rfl⟩ := List.mem_map.mp h
  obtain ⟨h1, h2⟩ := List.mem_filter.mp hk
  have h3 := List.mem_range.mp h1
  have h4 : ns[k]? = ns[k + 2]? := of_decide_eq_true h2
  have l2 : k + 2 < ns.length := by omega
  refine ⟨k, rfl, l2, ns.take k, ns[k], ns[k + 1], ns.drop (k + 3), ?_, ?_⟩
  · have e : ns[k + 2] = ns[k] := by
      rw [List.getElem?_eq_getElem (by omega), List.getElem?_eq_getElem l2] at h4
      exact (Option.some.inj h4).symm
    have d0 : ns.drop k = ns[k] :: ns.drop (k + 1) := List.drop_eq_getElem_cons (by omega)
    have d1 : ns.drop (k + 1) = ns[k + 1] :: ns.drop (k + 2) := List.drop_eq_getElem_cons (by omega)
    have d2 : ns.drop (k + 2) = ns[k + 2] :: ns.drop (k + 3) := List.drop_eq_getElem_cons l2
    rw [d2, e] at d1
    rw [d1] at d0
    have := List.take_append_drop k ns
    rw [d0] at this
    rw [List.append_assoc]
    exact this.symm
  · rw [List.take_add_one, List.getElem?_eq_getElem (by omega)]
    rfl
theorem opn_str {ns : List Int} (h : opn ns = []) : Str8 ns := fun m t q p e => by
  have h1 : (List.range (ns.length - 2)).filter (isOpn ns) = [] := List.map_eq_nil_iff.mp h
  have h2 := List.filter_eq_nil_iff.mp h1 m.length (List.mem_range.mpr (by
    rw [e, List.length_append, List.length_append]
    show m.length < m.length + 3 + p.length - 2
    omega))
  refine h2 (decide_eq_true ?_)
  have g : ∀ j, j < 3 → ns[m.length + j]? = [t, q, t][j]? := fun j hj => by
    rw [e, List.append_assoc, List.getElem?_append_right (Nat.le_add_right _ _), Nat.add_sub_cancel_left, List.getElem?_append_left hj]
  exact (g 0 (by decide)).trans (g 2 (by decide)).symm
theorem str_opn {ns : List Int} (h : Str8 ns) : opn ns = [] := by
  cases e : opn ns with
  | nil => rfl
  | cons i r =>
    obtain ⟨k, _, _, m, t, q, p, f, _⟩ := opn_red (ns := ns) (i := i) (by rw [e]; exact List.mem_cons_self)
    exact absurd f (h m t q p)
theorem red_len {a b : List Int} (h : Red a b) : b.length + 2 = a.length := by
  obtain ⟨m, t, q, p, rfl, rfl⟩ := h
  simp only [List.length_append, List.length_cons, List.length_nil]
  omega
theorem red_row {a b : List Int} (h : Red a b) (r : Row a) : Row b := by
  have hl := red_len h
  obtain ⟨m, t, q, p, rfl, rfl⟩ := h
  refine ⟨?_, by have := r.2.1; omega, fun c hc => r.2.2 c ?_⟩
  · simp only [List.length_append, List.length_cons, List.length_nil]
    omega
  · simp only [List.mem_append, List.mem_cons, List.not_mem_nil, or_false] at hc ⊢
    rcases hc with (hc | hc) | hc
    · exact .inl (.inl hc)
    · exact .inl (.inr (.inl hc))
    · exact .inr hc

/-! ### rows joined -/
theorem strk_app (a b : List Int) : strk (a ++ b) = strk (strk a ++ b) := by
  unfold strk
  rw [List.foldl_append, List.foldl_append]
  have h : List.foldl stp [] (List.foldl stp [] a) = List.foldl stp [] a := strk_idem a
  rw [h]
theorem strk_mid (a b : List Int) : strk (a ++ b) = strk (a ++ strk b) :=
  red_inv (f := fun l => strk (a ++ l)) (fun x y ⟨m, t, q, p, ex, ey⟩ => strk_red ⟨a ++ m, t, q, p, by rw [ex]; simp, by rw [ey]; simp⟩) b []
theorem head_stp (c : Int) (l : List Int) (d : Int) : (stp (c :: l) d).head? = some c := by
  rcases stp_cases (c :: l) d with ⟨m, x, e, e2⟩ | ⟨e, _⟩
  · rw [e2]
    cases m with
    | nil => exact (congrArg List.head? e).symm
    | cons y m => exact (congrArg List.head? e).symm
  · rw [e]
    rfl
theorem head_foldl : ∀ (ns : List Int) (c : Int) (l : List Int), (ns.foldl stp (c :: l)).head? = some c
  | [], _, _ => rfl
  | d :: ns, c, l => by
    have h := head_stp c l d
    cases e : stp (c :: l) d with
    | nil => rw [e] at h; cases h
    | cons x r =>
      rw [e] at h
      have ex : x = c := Option.some.inj h
      rw [ex] at e
      show (ns.foldl stp (stp (c :: l) d)).head? = some c
      rw [e]
      exact head_foldl ns c r
theorem strk_head : ∀ ns : List Int, (strk ns).head? = ns.head?
  | [] => rfl
  | c :: ns => head_foldl ns c []
theorem strk_last (ns : List Int) : (strk ns).getLast? = ns.getLast? := by
  rcases List.eq_nil_or_concat ns with rfl | ⟨m, c, rfl⟩
  · rfl
  · unfold strk
    rw [List.concat_eq_append, List.foldl_append]
    obtain ⟨k, e⟩ := stp_last (List.foldl stp [] m) c
    show (stp (List.foldl stp [] m) c).getLast? = _
    rw [e, List.getLast?_concat, List.getLast?_concat]
/-- a row's end and the next row's beginning are one stone -/
theorem glue {a b : List Int} {c : Int} (ha : a.getLast? = some c) (hb : b.head? = some c) : a ++ b.tail = a.dropLast ++ b := by
  rcases List.eq_nil_or_concat a with rfl | ⟨m, x, rfl⟩
  · cases ha
  · rw [List.concat_eq_append] at *
    rw [List.getLast?_concat] at ha
    cases Option.some.inj ha
    cases b with
    | nil => cases hb
    | cons y b =>
      cases Option.some.inj hb
      rw [List.dropLast_concat, List.append_assoc]
      rfl
/-- joining a rested row -/
theorem join_rest {a b : List Int} {c : Int} (ha : a.getLast? = some c) (hb : b.head? = some c) : strk (a ++ (strk b).tail) = strk (a ++ b.tail) := by
  rw [glue ha ((strk_head b).trans hb), glue ha hb, ← strk_mid]
theorem there_back : ∀ (a : List Int) (c : Int), a.getLast? = some c → strk (a.reverse ++ a.tail) = [c]
  | [], _, h => nomatch h
  | [x], c, h => by
    cases Option.some.inj h
    rfl
  | x :: y :: a, c, h => by
    rw [List.getLast?_cons_cons] at h
    rw [← there_back (y :: a) c h]
    exact strk_red ⟨a.reverse, y, x, a, by simp, by simp⟩
theorem str_ix {l : List Int} : Str8 l ↔ ∀ i, i + 2 < l.length → l[i]? ≠ l[i + 2]? := by
  constructor
  · intro h i hi e
    have z := str_opn h
    have : (1 + (i : Int)) ∈ opn l := List.mem_map.mpr ⟨i, List.mem_filter.mpr ⟨List.mem_range.mpr (by omega), decide_eq_true e⟩, rfl⟩
    rw [z] at this
    cases this
  · intro h
    refine opn_str ?_
    have z : (List.range (l.length - 2)).filter (isOpn l) = [] := List.filter_eq_nil_iff.mpr fun i hi e => h i (by have := List.mem_range.mp hi; omega) (of_decide_eq_true e)
    unfold opn
    rw [z]
    rfl
theorem str_mid {x y : List Int} {c : Int} (h1 : Str8 (x ++ [c])) (h2 : Str8 (c :: y)) (h3 : ∀ d, x.getLast? = some d → y.head? = some d → False) : Str8 (x ++ c :: y) := by
  rw [str_ix] at *
  intro i hi e
  rw [List.length_append, List.length_cons] at hi
  by_cases c1 : i + 2 ≤ x.length
  · refine h1 i (by rw [List.length_append]; show i + 2 < x.length + 1; omega) ?_
    have g : ∀ j, j ≤ x.length → (x ++ [c])[j]? = (x ++ c :: y)[j]? := fun j hj => by
      by_cases hj2 : j < x.length
      · rw [List.getElem?_append_left hj2, List.getElem?_append_left hj2]
      · rw [List.getElem?_append_right (by omega), List.getElem?_append_right (by omega), show j - x.length = 0 by omega]
        rfl
    rw [g i (by omega), g (i + 2) c1]
    exact e
  · by_cases c2 : x.length ≤ i
    · refine h2 (i - x.length) (by rw [List.length_cons]; omega) ?_
      rw [List.getElem?_append_right c2, List.getElem?_append_right (by omega), show i + 2 - x.length = i - x.length + 2 by omega] at e
      exact e
    · rw [List.getElem?_append_left (by omega), List.getElem?_append_right (by omega), show i + 2 - x.length = 1 by omega] at e
      have e2 : x.getLast? = y.head? := by
        rw [List.getLast?_eq_getElem?, show x.length - 1 = i by omega, e, List.head?_eq_getElem?]
        rfl
      cases f : y.head? with
      | none =>
        rw [List.head?_eq_none_iff] at f
        subst f
        simp at hi
        omega
      | some d => exact h3 d (e2.trans f) f
/-- how long two rows are alike -/
def lcp : List Int → List Int → Nat
  | a :: as, b :: bs => if a = b then lcp as bs + 1 else 0
  | _, _ => 0
theorem lcp_eq {a b : Int} {as bs : List Int} (h : a = b) : lcp (a :: as) (b :: bs) = lcp as bs + 1 := if_pos h
theorem lcp_ne {a b : Int} {as bs : List Int} (h : ¬ a = b) : lcp (a :: as) (b :: bs) = 0 := if_neg h
theorem lcp_comm : ∀ a b : List Int, lcp a b = lcp b a
  | [], [] => rfl
  | [], _ :: _ => rfl
  | _ :: _, [] => rfl
  | a :: as, b :: bs => by
    unfold lcp
    rw [lcp_comm as bs]
    by_cases h : a = b
    · rw [if_pos h, if_pos h.symm]
    · rw [if_neg h, if_neg (fun z => h z.symm)]
theorem lcp_self : ∀ a : List Int, lcp a a = a.length
  | [] => rfl
  | a :: as => by
    unfold lcp
    rw [if_pos rfl, lcp_self as]
    rfl
theorem lcp_nil (a : List Int) : lcp a [] = 0 := by cases a <;> rfl
theorem lcp_one {c : Int} : ∀ {b : List Int}, b.head? = some c → lcp [c] b = 1
  | [], h => nomatch h
  | x :: b, h => by
    cases Option.some.inj h
    unfold lcp
    rw [if_pos rfl]
    show lcp [] b + 1 = 1
    cases b <;> rfl
/-- the gap of two straight rows that begin alike -/
theorem gap_str : ∀ (a b : List Int) (c : Int), Str8 a → Str8 b → a.head? = some c → b.head? = some c → ((strk (a.reverse ++ b.tail)).length : Int) - 1 = a.length + b.length - 2 * lcp a b
  | [], _, _, _, _, h, _ => nomatch h
  | _ :: _, [], _, _, _, _, h => nomatch h
  | x :: a, y :: b, c, ha, hb, h1, h2 => by
    have ex : x = c := Option.some.inj h1
    have ey : y = c := Option.some.inj h2
    rw [ex] at ha h1 ⊢
    rw [ey] at hb h2 ⊢
    clear ex ey
    have ta : Str8 a := fun m t q p e => ha (c :: m) t q p (by rw [e]; rfl)
    have tb : Str8 b := fun m t q p e => hb (c :: m) t q p (by rw [e]; rfl)
    have el : lcp (c :: a) (c :: b) = lcp a b + 1 := by
      show (if c = c then lcp a b + 1 else 0) = _
      rw [if_pos rfl]
    have base : (∀ d, a.head? = some d → b.head? = some d → False) → lcp a b = 0 → ((strk ((c :: a).reverse ++ (c :: b).tail)).length : Int) - 1 = (c :: a).length + (c :: b).length - 2 * lcp (c :: a) (c :: b) := fun hd hl => by
      have hs : Str8 (a.reverse ++ c :: b) := str_mid (by
        have := ha.rev
        rw [List.reverse_cons] at this
        exact this) hb (fun d h3 h4 => hd d (by rw [List.getLast?_reverse] at h3; exact h3) h4)
      rw [List.reverse_cons, List.append_assoc]
      show ((strk (a.reverse ++ c :: b)).length : Int) - 1 = _
      rw [strk_id hs, el, hl, List.length_append, List.length_reverse, List.length_cons, List.length_cons]
      omega
    cases a with
    | nil => exact base (fun d h => nomatch h) (by cases b <;> rfl)
    | cons d a =>
      cases b with
      | nil => exact base (fun d _ h => nomatch h) rfl
      | cons e b =>
        by_cases hde : d = e
        · subst hde
          have ih := gap_str (d :: a) (d :: b) d ta tb rfl rfl
          have r : strk ((c :: d :: a).reverse ++ (c :: d :: b).tail) = strk ((d :: a).reverse ++ (d :: b).tail) := strk_red ⟨a.reverse, d, c, b, by simp, by simp⟩
          rw [r, el, ih, List.length_cons, List.length_cons, List.length_cons (a := c), List.length_cons (a := c), List.length_cons, List.length_cons]
          omega
        · refine base (fun f h3 h4 => hde ?_) ?_
          · exact (Option.some.inj h3).trans (Option.some.inj h4).symm
          · show (if d = e then lcp a b + 1 else 0) = 0
            rw [if_neg hde]
theorem gap_eq {a b : List Int} {c : Int} (ha : a.head? = some c) (hb : b.head? = some c) : ((strk (a.reverse ++ b.tail)).length : Int) - 1 = (strk a).length + (strk b).length - 2 * lcp (strk a) (strk b) := by
  have hl : a.reverse.getLast? = some c := by rw [List.getLast?_reverse]; exact ha
  rw [← join_rest hl hb, strk_app, strk_rev]
  exact gap_str _ _ c (strk_str a) (strk_str b) ((strk_head a).trans ha) ((strk_head b).trans hb)
theorem Row.last {ns : List Int} (h : Row ns) : ∃ c, ns.getLast? = some c ∧ 0 ≤ c ∧ c ≤ 7 := by
  rcases List.eq_nil_or_concat ns with rfl | ⟨m, c, rfl⟩
  · exact absurd h.1 (by decide)
  · rw [List.concat_eq_append] at *
    exact ⟨c, List.getLast?_concat, h.2.2 c (List.mem_append_right _ List.mem_cons_self)⟩
theorem Row.head {ns : List Int} (h : Row ns) : ∃ c, ns.head? = some c ∧ 0 ≤ c ∧ c ≤ 7 := by
  cases ns with
  | nil => exact absurd h.1 (by decide)
  | cons c r => exact ⟨c, rfl, h.2.2 c List.mem_cons_self⟩
theorem Row.join {a b : List Int} (ha : Row a) (hb : Row b) (h : a.length + b.length ≤ 201) : Row (K.strk (a ++ b.tail)) := by
  have hz : b.tail.length = b.length - 1 := List.length_tail ..
  have h1 := hb.1
  have h2 := ha.1
  have h3 := K.strk_len (a ++ b.tail)
  rw [List.length_append] at h3
  refine ⟨K.strk_pos (by rw [List.length_append]; omega), by omega, fun c hc => ?_⟩
  rcases List.mem_append.mp (K.strk_mem _ hc) with h | h
  · exact ha.2.2 c h
  · exact hb.2.2 c (List.mem_of_mem_tail h)
theorem join_head {a b : List Int} {c : Int} (h : a.head? = some c) : (strk (a ++ b.tail)).head? = some c := by
  rw [strk_head]
  cases a with
  | nil => cases h
  | cons x r => exact h
theorem join_last {a b : List Int} {c d : Int} (ha : a.getLast? = some c) (hb : b.head? = some c) (h : b.getLast? = some d) : (strk (a ++ b.tail)).getLast? = some d := by
  rw [strk_last, glue ha hb]
  rcases List.eq_nil_or_concat b with rfl | ⟨m, x, rfl⟩
  · cases h
  · rw [List.concat_eq_append, List.getLast?_concat] at h
    cases Option.some.inj h
    rw [List.concat_eq_append, ← List.append_assoc, List.getLast?_concat]
theorem rests_join {a b : List Int} {c : Int} (ha : a.getLast? = some c) (hb : b.head? = some c) : strk (strk a ++ (strk b).tail) = strk (a ++ b.tail) := by
  rw [← strk_app, join_rest ha hb]
theorem join3l (a b d : List Int) : strk (strk (a ++ b.tail) ++ d.tail) = strk (a ++ b.tail ++ d.tail) := (strk_app _ _).symm
theorem join3r {a b d : List Int} {c e : Int} (ha : a.getLast? = some c) (hb : b.head? = some c) (hb2 : b.getLast? = some e) (hd : d.head? = some e) : strk (a ++ (strk (b ++ d.tail)).tail) = strk (a ++ b.tail ++ d.tail) := by
  have h : (b ++ d.tail).head? = some c := by
    cases b with
    | nil => cases hb
    | cons x r => exact hb
  rw [join_rest ha h]
  cases b with
  | nil => cases hb
  | cons x r => rw [List.append_assoc]; rfl
theorem join_off {a b : List Int} {c d : Int} (ha : a.getLast? = some c) (hb : b.head? = some c) (hh : a.head? = some d) : strk ((strk a).reverse ++ (strk (a ++ b.tail)).tail) = strk b := by
  have hl : (strk a).reverse.getLast? = some d := by rw [List.getLast?_reverse, strk_head, hh]
  have hy : (a ++ b.tail).head? = some d := by
    cases a with
    | nil => cases hh
    | cons x r => exact hh
  rw [join_rest hl hy, ← strk_rev, ← strk_app]
  have e : a.reverse ++ (a ++ b.tail).tail = (a.reverse ++ a.tail) ++ b.tail := by
    cases a with
    | nil => cases hh
    | cons x r => rw [List.append_assoc]; rfl
  rw [e, strk_app, there_back a c ha]
  cases b with
  | nil => cases hb
  | cons x r =>
    cases Option.some.inj hb
    rfl
theorem join_back {a : List Int} {d : Int} (hh : a.head? = some d) : strk (a ++ a.reverse.tail) = a.take 1 := by
  have h := there_back a.reverse d (by rw [List.getLast?_reverse]; exact hh)
  rw [List.reverse_reverse] at h
  rw [h]
  cases a with
  | nil => cases hh
  | cons x r =>
    cases Option.some.inj hh
    rfl
theorem back_join {a : List Int} {c : Int} (ha : a.getLast? = some c) : strk (a.reverse ++ a.tail) = a.drop (a.length - 1) := by
  rw [there_back a c ha]
  rcases List.eq_nil_or_concat a with rfl | ⟨m, x, rfl⟩
  · cases ha
  · rw [List.concat_eq_append] at *
    rw [List.getLast?_concat] at ha
    cases Option.some.inj ha
    rw [List.length_append, show m.length + [c].length - 1 = m.length from rfl, List.drop_left]
theorem gap_self {a : List Int} {c : Int} (h : a.head? = some c) : ((strk (a.reverse ++ a.tail)).length : Int) - 1 = 0 := by
  rw [gap_eq h h, lcp_self]
  omega
theorem gap_comm {a b : List Int} {c : Int} (ha : a.head? = some c) (hb : b.head? = some c) : ((strk (b.reverse ++ a.tail)).length : Int) - 1 = ((strk (a.reverse ++ b.tail)).length : Int) - 1 := by
  rw [gap_eq ha hb, gap_eq hb ha, lcp_comm]
  omega
theorem gap_first {a : List Int} {c : Int} (ha : a.head? = some c) : ((strk ((a.take 1).reverse ++ a.tail)).length : Int) - 1 = (strk a).length - 1 := by
  cases a with
  | nil => cases ha
  | cons x r => rfl

/-! ### tables, plainly -/
def okAt (ns : List Int) (m : Int) (i : Nat) : Prop := ∀ c, ns[i]? = some c → (0 ≤ c ∧ c < m) ∧ ∀ d, 0 < i → ns[i - 1]? = some d → d < c
def rowOf (rows : List (List Int)) (p : Nat) : List Int := rows.getD p []
/-- what made_table asks of rows -/
structure GoodT (rows : List (List Int)) : Prop where
  n1 : 1 ≤ rows.length
  n8 : rows.length ≤ 8
  asc : ∀ row ∈ rows, ∀ i, okAt row (rows.length : Nat) i
  sym : ∀ (p : Nat) (row : List Int), rows[p]? = some row → ∀ s ∈ row, ∃ row', rows[s.toNat]? = some row' ∧ ((p : Nat) : Int) ∈ row'
theorem GoodT.lt {rows : List (List Int)} (g : GoodT rows) {row : List Int} (hr : row ∈ rows) {c : Int} (hc : c ∈ row) : 0 ≤ c ∧ c < (rows.length : Nat) := by
  obtain ⟨i, hi, rfl⟩ := List.getElem_of_mem hc
  exact (g.asc row hr i row[i] (List.getElem?_eq_getElem hi)).1
theorem row_of {rows : List (List Int)} {p : Nat} {row : List Int} (h : rows[p]? = some row) : rowOf rows p = row := by
  unfold rowOf
  rw [List.getD_eq_getElem?_getD, h]
  rfl
theorem inV_int {p : Int} : ∀ {ns : List Int}, p ∈ ns → inV (.int p) (ns.map V.int) = true
  | n :: ns, h => by
    show (eqV (.int n) (.int p) || inV (.int p) (ns.map V.int)) = true
    rcases List.mem_cons.mp h with e | e
    · subst e
      have : eqV (.int p) (.int p) = true := by simp [eqV]
      rw [this]; rfl
    · rw [inV_int e, Bool.or_true]
theorem flat_ints : ∀ ns : List Int, (ns.map V.int).all flatV = true
  | [] => rfl
  | n :: ns => by
    rw [List.map_cons, List.all_cons, flat_ints ns]
    rfl
theorem all_true : ∀ n : Nat, (List.replicate n true).all id = true
  | 0 => rfl
  | n + 1 => by rw [List.replicate_succ, List.all_cons, all_true n]; rfl
theorem all_bl {b : Bool} : ∀ {xs : List V}, (∀ (i : Nat) (v : V), xs[i]? = some v → v = .bl b) → xs = (List.replicate xs.length b).map V.bl
  | [], _ => rfl
  | x :: xs, h => by
    rw [List.length_cons, List.replicate_succ, List.map_cons, ← all_bl (xs := xs) fun i v e => h (i + 1) v e, h 0 x rfl]
theorem asc_get {row : List Int} {m : Int} (h : ∀ i, okAt row m i) : ∀ (i : Nat) (c : Int), row[i]? = some c → (i : Int) ≤ c
  | 0, c, e => (h 0 c e).1.1
  | i + 1, c, e => by
    have hi := (List.getElem?_eq_some_iff.mp e).1
    have h1 := asc_get h i (row[i]'(by omega)) (List.getElem?_eq_getElem (by omega))
    have h2 := (h (i + 1) c e).2 (row[i]'(by omega)) (by omega) (List.getElem?_eq_getElem (by omega))
    omega
theorem asc_len {rows : List (List Int)} (g : GoodT rows) {row : List Int} (hr : row ∈ rows) : row.length ≤ 8 := by
  cases h : row.length with
  | zero => omega
  | succ k =>
    have h1 := asc_get (g.asc row hr) k (row[k]'(by omega)) (List.getElem?_eq_getElem (by omega))
    have h2 := (g.asc row hr k (row[k]'(by omega)) (List.getElem?_eq_getElem (by omega))).1.2
    have := g.n8
    omega
def dblRow (row : List Int) (side : Int) : List Int := row.map fun s => 2 * s + 1 - side
def dbl (rows : List (List Int)) : List (List Int) := rows.flatMap fun row => [dblRow row 0, dblRow row 1]
theorem dbl_len : ∀ rows : List (List Int), (dbl rows).length = 2 * rows.length
  | [] => rfl
  | r :: rows => by
    have := dbl_len rows
    unfold dbl at *
    rw [List.flatMap_cons, List.length_append, this]
    show 2 + _ = 2 * (rows.length + 1)
    omega
theorem dbl_take {rows : List (List Int)} {i : Nat} {row : List Int} (h : rows[i]? = some row) : dbl (rows.take (i + 1)) = dbl (rows.take i) ++ [dblRow row 0] ++ [dblRow row 1] := by
  unfold dbl
  rw [List.take_add_one, h, List.flatMap_append, List.append_assoc]
  rfl
/-! ### even steps -/
/-- two steps from p to q -/
def Two (rows : List (List Int)) (p q : Int) : Prop := ∃ s, s ∈ rowOf rows p.toNat ∧ q ∈ rowOf rows s.toNat
inductive RchI (rows : List (List Int)) (q : Int) : Int → Prop
  | refl : RchI rows q q
  | head {p m : Int} : Two rows p m → RchI rows q m → RchI rows q p
/-- even steps lead from p to q -/
def Rch (rows : List (List Int)) (p q : Int) : Prop := RchI rows q p
theorem Rch.refl {rows : List (List Int)} {p : Int} : Rch rows p p := RchI.refl
theorem Rch.step {rows : List (List Int)} {p m q : Int} (h : Rch rows p m) (t : Two rows m q) : Rch rows p q := by
  unfold Rch at *
  induction h with
  | refl => exact .head t .refl
  | head a _ ih => exact .head a ih
theorem Rch.tr {rows : List (List Int)} {p m q : Int} (h : Rch rows p m) (t : Rch rows m q) : Rch rows p q := by
  unfold Rch at *
  induction h with
  | refl => exact t
  | head a _ ih => exact .head a ih
theorem inV_dec {p : Int} : ∀ {ns : List Int}, inV (.int p) (ns.map V.int) = decide (p ∈ ns)
  | [] => by simp [inV]
  | n :: ns => by
    by_cases h : p ∈ n :: ns
    · rw [inV_int h, decide_eq_true h]
    · rw [decide_eq_false h]
      show (eqV (.int n) (.int p) || inV (.int p) (ns.map V.int)) = false
      rw [inV_dec (ns := ns), decide_eq_false (fun z => h (List.mem_cons_of_mem _ z)), Bool.or_false]
      simp only [eqV]
      have : ¬ n = p := fun z => h (by rw [z]; exact List.mem_cons_self)
      simp [this]
theorem nodup_len : ∀ (n : Nat) (es : List Int), es.Nodup → (∀ e ∈ es, 0 ≤ e ∧ e < (n : Nat)) → es.length ≤ n
  | 0, [], _, _ => Nat.le_refl _
  | 0, e :: es, _, h => by have := h e List.mem_cons_self; omega
  | n + 1, es, hn, h => by
    have h1 := nodup_len n (es.erase (n : Nat)) (hn.erase _) fun e he => by
      have := (hn.mem_erase_iff).mp he
      have := h e this.2
      omega
    by_cases hm : ((n : Nat) : Int) ∈ es
    · rw [List.length_erase_of_mem hm] at h1
      omega
    · rw [List.erase_of_not_mem hm] at h1
      omega
def twos (rows : List (List Int)) (row : List Int) : List Int := row.flatMap fun s => rowOf rows s.toNat
theorem mem_twos {rows : List (List Int)} {p q : Int} : q ∈ twos rows (rowOf rows p.toNat) ↔ Two rows p q := by
  unfold twos Two
  rw [List.mem_flatMap]
theorem twos_take {rows : List (List Int)} {row : List Int} {i : Nat} (h : i < row.length) : twos rows (row.take (i + 1)) = twos rows (row.take i) ++ rowOf rows row[i].toNat := by
  unfold twos
  rw [List.take_add_one, List.getElem?_eq_getElem h, List.flatMap_append]
  simp
theorem two_lt {rows : List (List Int)} (g : GoodT rows) {p q : Int} (h : Two rows p q) : 0 ≤ q ∧ q < (rows.length : Nat) := by
  obtain ⟨s, _, hq⟩ := h
  unfold rowOf at hq
  rw [List.getD_eq_getElem?_getD] at hq
  cases e : rows[s.toNat]? with
  | none => rw [e] at hq; cases hq
  | some row =>
    rw [e] at hq
    exact g.lt (List.mem_of_getElem? e) hq
theorem rch_lt {rows : List (List Int)} (g : GoodT rows) {p q : Int} (hp : 0 ≤ p ∧ p < (rows.length : Nat)) (h : Rch rows p q) : 0 ≤ q ∧ q < (rows.length : Nat) := by
  unfold Rch at h
  induction h with
  | refl => exact hp
  | head a _ ih => exact ih (two_lt g a)
theorem closed_rch {rows : List (List Int)} {p : Int} {es : List Int} (hp : p ∈ es) (hc : ∀ e ∈ es, ∀ q, Two rows e q → q ∈ es) {q : Int} (h : Rch rows p q) : q ∈ es := by
  unfold Rch at h
  induction h with
  | refl => exact hp
  | head a _ ih => exact ih (hc _ hp _ a)
theorem twos_len {rows : List (List Int)} (g : GoodT rows) : ∀ row : List Int, (twos rows row).length ≤ 8 * row.length
  | [] => Nat.le_refl _
  | s :: row => by
    have := twos_len g row
    unfold twos at *
    rw [List.flatMap_cons, List.length_append, List.length_cons]
    have h2 : (rowOf rows s.toNat).length ≤ 8 := by
      unfold rowOf
      rw [List.getD_eq_getElem?_getD]
      cases e : rows[s.toNat]? with
      | none => exact Nat.zero_le _
      | some row => exact asc_len g (List.mem_of_getElem? e)
    omega
theorem snocV {xs : List Int} {c : Int} : (xs ++ [c]).map V.int = xs.map V.int ++ [V.int c] := List.map_append
theorem nodup1 {α : Type} (x : α) : [x].Nodup := by simp
/-- the least coat that even steps lead to -/
def Lst (rows : List (List Int)) (p m : Int) : Prop := Rch rows p m ∧ ∀ q, Rch rows p q → m ≤ q
theorem Lst.one {rows : List (List Int)} {p m m' : Int} (h : Lst rows p m) (h' : Lst rows p m') : m = m' := by
  have := h.2 _ h'.1
  have := h'.2 _ h.1
  omega
theorem lots_one {rows : List (List Int)} {ms ms' : List Int} (hl : ms.length = ms'.length) (h : ∀ (i : Nat) m, ms[i]? = some m → Lst rows (i : Nat) m) (h' : ∀ (i : Nat) m, ms'[i]? = some m → Lst rows (i : Nat) m) : ms = ms' :=
  List.ext_getElem hl fun i h1 h2 => (h i _ (List.getElem?_eq_getElem h1)).one (h' i _ (List.getElem?_eq_getElem h2))
theorem ints_ex {P : Nat → Int → Prop} : ∀ {xs : List V} (k : Nat), (∀ (i : Nat) (v : V), xs[i]? = some v → ∃ m, v = .int m ∧ P (k + i) m) → ∃ ms : List Int, xs = ms.map V.int ∧ ∀ (i : Nat) (m : Int), ms[i]? = some m → P (k + i) m
  | [], _, _ => ⟨[], rfl, fun i m e => by simp at e⟩
  | x :: xs, k, h => by
    obtain ⟨ms, e, hm⟩ := ints_ex (xs := xs) (P := P) (k + 1) fun i v e => by
      rw [show k + 1 + i = k + (i + 1) by omega]
      exact h (i + 1) v e
    obtain ⟨m, rfl, hp⟩ := h 0 x rfl
    refine ⟨m :: ms, by rw [e]; rfl, fun i z hz => ?_⟩
    cases i with
    | zero => cases Option.some.inj hz; exact hp
    | succ i =>
      have := hm i z hz
      rw [show k + 1 + i = k + (i + 1) by omega] at this
      exact this
/-! rounds -/
def RN (rows : List (List Int)) : Nat → Int → Int → Prop
  | 0, p, q => p = q
  | k + 1, p, q => RN rows k p q ∨ ∃ r, Two rows p r ∧ RN rows k r q
theorem RN.up {rows : List (List Int)} {p q : Int} : ∀ k, RN rows 0 p q → RN rows k p q
  | 0, h => h
  | k + 1, h => .inl (RN.up k h)
open Classical in
noncomputable def cnt (rows : List (List Int)) (q : Int) (k n : Nat) : Nat := ((List.range n).filter fun (p : Nat) => decide (RN rows k (p : Int) q)).length
open Classical in
theorem filt_le {n : Nat} {f g : Nat → Bool} (h : ∀ p, p < n → f p = true → g p = true) : ((List.range n).filter f).length ≤ ((List.range n).filter g).length ∧ ((∃ p, p < n ∧ g p = true ∧ f p = false) → ((List.range n).filter f).length + 1 ≤ ((List.range n).filter g).length) := by
  induction n with
  | zero => exact ⟨Nat.le_refl _, fun ⟨p, hp, _⟩ => absurd hp (by omega)⟩
  | succ n ih =>
    obtain ⟨i1, i2⟩ := ih fun p hp => h p (by omega)
    have hn := h n (by omega)
    rw [List.range_succ, List.filter_append, List.filter_append, List.length_append, List.length_append]
    have a1 : ([n].filter f).length = if f n = true then 1 else 0 := by
      rw [List.filter_cons]; split <;> rfl
    have a2 : ([n].filter g).length = if g n = true then 1 else 0 := by
      rw [List.filter_cons]; split <;> rfl
    rw [a1, a2]
    refine ⟨?_, fun ⟨p, hp, h1, h2⟩ => ?_⟩
    · by_cases c : f n = true
      · rw [if_pos c, if_pos (hn c)]; omega
      · rw [if_neg c]; omega
    · by_cases e : p = n
      · subst e
        rw [if_pos h1, h2, if_neg (by decide)]; omega
      · have := i2 ⟨p, by omega, h1, h2⟩
        by_cases c : f n = true
        · rw [if_pos c, if_pos (hn c)]; omega
        · rw [if_neg c]; omega
open Classical in
theorem rn_stable {rows : List (List Int)} (g : GoodT rows) {q : Int} (hq : 0 ≤ q ∧ q < (rows.length : Nat)) : ∀ k, (k + 1 ≤ cnt rows q k rows.length) ∨ ∀ p : Int, 0 ≤ p → p < (rows.length : Nat) → RN rows (k + 1) p q → RN rows k p q
  | 0 => by
    left
    have h := (filt_le (n := rows.length) (f := fun _ => false) (g := fun p => decide (RN rows 0 (p : Int) q)) fun p _ z => by cases z).2 ⟨q.toNat, by omega, decide_eq_true (show ((q.toNat : Nat) : Int) = q by omega), rfl⟩
    unfold cnt
    omega
  | k + 1 => by
    rcases rn_stable g hq k with h | h
    · by_cases c : ∀ p : Int, 0 ≤ p → p < (rows.length : Nat) → RN rows (k + 1) p q → RN rows k p q
      · right
        intro p h0 h1 hr
        rcases hr with hr | ⟨r, ht, hr⟩
        · exact hr
        · have := two_lt g ht
          exact .inr ⟨r, ht, c r this.1 this.2 hr⟩
      · left
        obtain ⟨p, hp⟩ := Classical.not_forall.mp c
        have hp1 : 0 ≤ p := Classical.byContradiction fun z => hp fun z2 => absurd z2 z
        have hp2 : p < (rows.length : Nat) := Classical.byContradiction fun z => hp fun _ z2 => absurd z2 z
        have hp3 : RN rows (k + 1) p q := Classical.byContradiction fun z => hp fun _ _ z2 => absurd z2 z
        have hp4 : ¬ RN rows k p q := fun z => hp fun _ _ _ => z
        have e : ((p.toNat : Nat) : Int) = p := by omega
        have h2 := (filt_le (n := rows.length) (f := fun p => decide (RN rows k (p : Int) q)) (g := fun p => decide (RN rows (k + 1) (p : Int) q)) fun p _ z => decide_eq_true (.inl (of_decide_eq_true z))).2 ⟨p.toNat, by omega, decide_eq_true (by rw [e]; exact hp3), decide_eq_false (by rw [e]; exact hp4)⟩
        unfold cnt at *
        omega
    · right
      intro p h0 h1 hr
      rcases hr with hr | ⟨r, ht, hr⟩
      · exact hr
      · have := two_lt g ht
        exact .inr ⟨r, ht, h r this.1 this.2 hr⟩
theorem rch_rn {rows : List (List Int)} (g : GoodT rows) {p q : Int} (hp : 0 ≤ p ∧ p < (rows.length : Nat)) (h : Rch rows p q) : RN rows rows.length p q := by
  have hq := rch_lt g hp h
  have st : ∀ p : Int, 0 ≤ p → p < (rows.length : Nat) → RN rows (rows.length + 1) p q → RN rows rows.length p q := by
    rcases rn_stable g hq rows.length with h | h
    · have : cnt rows q rows.length rows.length ≤ rows.length := by
        unfold cnt
        refine Nat.le_trans (List.length_filter_le ..) ?_
        rw [List.length_range]
        exact Nat.le_refl _
      omega
    · exact h
  unfold Rch at h
  induction h with
  | refl => exact RN.up _ rfl
  | head a _ ih => exact st _ hp.1 hp.2 (.inr ⟨_, a, ih (two_lt g a)⟩)
/-- what stands behind k rounds, in the next one behind p coats and at p behind R -/
structure Rnd (rows : List (List Int)) (k p : Nat) (R : List Int) (F : List Int) : Prop where
  len : F.length = rows.length
  ins : ∀ (i : Nat) m, F[i]? = some m → Rch rows (i : Nat) m
  dn : ∀ (i : Nat) m, F[i]? = some m → ∀ q, RN rows k (i : Nat) q → m ≤ q
  fst : ∀ (i : Nat), i < p → ∀ m, F[i]? = some m → ∀ q, RN rows (k + 1) (i : Nat) q → m ≤ q
  at_ : ∀ r ∈ R, ∀ m, F[p]? = some m → ∀ q, RN rows k r q → m ≤ q
theorem Rnd.upd {rows : List (List Int)} {k p : Nat} {R F : List Int} {x y r : Int} (h : Rnd rows k p R F) (hx : F[p]? = some x) (hy : F[r.toNat]? = some y) (h0 : 0 ≤ r) (ht : Two rows (p : Nat) r) {z : Int} (hz : (z = x ∨ z = y) ∧ z ≤ x ∧ z ≤ y) : Rnd rows k p (R ++ [r]) (F.set p z) := by
  have hp := (List.getElem?_eq_some_iff.mp hx).1
  have hr : ((r.toNat : Nat) : Int) = r := by omega
  have key : ∀ (i : Nat) m, (F.set p z)[i]? = some m → (i = p ∧ m = z) ∨ (i ≠ p ∧ F[i]? = some m) := fun i m e => by
    by_cases c : i = p
    · subst c
      rw [List.getElem?_set_self hp] at e
      exact .inl ⟨rfl, (Option.some.inj e).symm⟩
    · rw [List.getElem?_set_ne (Ne.symm c)] at e
      exact .inr ⟨c, e⟩
  refine ⟨by rw [List.length_set]; exact h.len, fun i m e => ?_, fun i m e q hq => ?_, fun i hi m e q hq => ?_, fun s hs m e q hq => ?_⟩
  · rcases key i m e with ⟨rfl, rfl⟩ | ⟨_, e⟩
    · rcases hz.1 with rfl | rfl
      · exact h.ins _ _ hx
      · have := h.ins _ _ hy
        rw [hr] at this
        exact RchI.head ht this
    · exact h.ins _ _ e
  · rcases key i m e with ⟨rfl, rfl⟩ | ⟨_, e⟩
    · exact Int.le_trans hz.2.1 (h.dn _ _ hx q hq)
    · exact h.dn _ _ e q hq
  · rcases key i m e with ⟨rfl, rfl⟩ | ⟨_, e⟩
    · exact absurd hi (by omega)
    · exact h.fst i hi _ e q hq
  · rcases key p m e with ⟨_, rfl⟩ | ⟨c, _⟩
    · rcases List.mem_append.mp hs with hs | hs
      · exact Int.le_trans hz.2.1 (h.at_ s hs _ hx q hq)
      · rw [List.mem_singleton.mp hs] at hq
        refine Int.le_trans hz.2.2 (h.dn _ _ hy q ?_)
        rw [hr]
        exact hq
    · exact absurd rfl c
theorem Rnd.nextP {rows : List (List Int)} {k p : Nat} {F : List Int} (h : Rnd rows k p (twos rows (rowOf rows p)) F) : Rnd rows k (p + 1) [] F := by
  refine ⟨h.len, h.ins, h.dn, fun i hi m e q hq => ?_, fun r hr => by cases hr⟩
  by_cases c : i < p
  · exact h.fst i c m e q hq
  · obtain rfl : i = p := by omega
    rcases hq with hq | ⟨r, ht, hq⟩
    · exact h.dn _ _ e q hq
    · refine h.at_ r ?_ m e q hq
      have := mem_twos.mpr ht
      rw [Int.toNat_natCast] at this
      exact this
theorem Rnd.nextK {rows : List (List Int)} {k : Nat} {F : List Int} (h : Rnd rows k rows.length [] F) : Rnd rows (k + 1) 0 [] F :=
  ⟨h.len, h.ins, fun i m e q hq => h.fst i (by have := (List.getElem?_eq_some_iff.mp e).1; have := h.len; omega) m e q hq, fun i hi => absurd hi (by omega), fun r hr => by cases hr⟩
theorem Rnd.fin {rows : List (List Int)} (g : GoodT rows) {F : List Int} (h : Rnd rows rows.length 0 [] F) : ∀ (i : Nat) m, F[i]? = some m → Lst rows (i : Nat) m := fun i m e => by
  have hi := (List.getElem?_eq_some_iff.mp e).1
  have := h.len
  exact ⟨h.ins i m e, fun q hq => h.dn i m e q (rch_rn g (by omega) hq)⟩
theorem Rnd.start {rows : List (List Int)} : Rnd rows 0 0 [] ((List.range rows.length).map Int.ofNat) := by
  have key : ∀ (i : Nat) (m : Int), ((List.range rows.length).map Int.ofNat)[i]? = some m → m = (i : Nat) := fun i m e => by
    rw [List.getElem?_map] at e
    cases c : (List.range rows.length)[i]? with
    | none => rw [c] at e; cases e
    | some x =>
      rw [c] at e
      obtain ⟨hi, hx⟩ := List.getElem?_eq_some_iff.mp c
      rw [List.getElem_range] at hx
      cases Option.some.inj e
      rw [← hx]
      rfl
  refine ⟨by rw [List.length_map, List.length_range], fun i m e => ?_, fun i m e q hq => ?_, fun i hi => absurd hi (by omega), fun r hr => by cases hr⟩
  · rw [key i m e]; exact .refl
  · rw [key i m e]
    have : ((i : Nat) : Int) = q := hq
    omega
/-! ### a drawn table -/
def addL (R : Nat → List Int) (i : Nat) (c : Int) : Nat → List Int := fun k => if k = i then R k ++ [c] else R k
structure Dra (many : Nat) (R : Nat → List Int) (p s : Nat) : Prop where
  nd : ∀ i, (R i).Nodup
  lt : ∀ i, ∀ c ∈ R i, 0 ≤ c ∧ c < (many : Nat)
  sym : ∀ i j : Nat, i < many → j < many → ((j : Nat) : Int) ∈ R i → ((i : Nat) : Int) ∈ R j
  old : ∀ i j : Nat, i ≤ j → ((j : Nat) : Int) ∈ R i → i < p ∨ (i = p ∧ j < s)
theorem Dra.skip {many p s : Nat} {R : Nat → List Int} (h : Dra many R p s) : Dra many R p (s + 1) :=
  ⟨h.nd, h.lt, h.sym, fun i j hij hm => by have := h.old i j hij hm; omega⟩
theorem Dra.next {many p s : Nat} {R : Nat → List Int} (h : Dra many R p s) : Dra many R (p + 1) (p + 1) :=
  ⟨h.nd, h.lt, h.sym, fun i j hij hm => by have := h.old i j hij hm; omega⟩
theorem mem_addL {R : Nat → List Int} {i k : Nat} {c d : Int} : d ∈ addL R i c k ↔ d ∈ R k ∨ (k = i ∧ d = c) := by
  unfold addL
  by_cases h : k = i
  · rw [if_pos h, List.mem_append, List.mem_singleton]
    exact ⟨fun z => z.imp id fun e => ⟨h, e⟩, fun z => z.imp id fun e => e.2⟩
  · rw [if_neg h]
    exact ⟨.inl, fun z => z.elim id fun e => absurd e.1 h⟩
theorem nd_addL {R : Nat → List Int} {i : Nat} {c : Int} (h : ∀ k, (R k).Nodup) (hc : c ∉ R i) : ∀ k, (addL R i c k).Nodup := fun k => by
  unfold addL
  by_cases e : k = i
  · rw [if_pos e]
    refine List.nodup_append.mpr ⟨h k, nodup1 _, fun a ha b hb => ?_⟩
    rw [List.mem_singleton.mp hb]
    intro z
    rw [z, e] at ha
    exact hc ha
  · rw [if_neg e]
    exact h k
theorem Dra.self {many p : Nat} {R : Nat → List Int} (h : Dra many R p p) (hp : p < many) : Dra many (addL R p (p : Nat)) p (p + 1) := by
  refine ⟨nd_addL h.nd fun z => ?_, fun i c hc => ?_, fun i j hi hj hm => ?_, fun i j hij hm => ?_⟩
  · have := h.old p p (Nat.le_refl _) z
    omega
  · rcases mem_addL.mp hc with hc | ⟨_, rfl⟩
    · exact h.lt i c hc
    · omega
  · rcases mem_addL.mp hm with hm | ⟨h1, h2⟩
    · exact mem_addL.mpr (.inl (h.sym i j hi hj hm))
    · have : j = p := by omega
      subst h1
      subst this
      exact mem_addL.mpr (.inr ⟨rfl, rfl⟩)
  · rcases mem_addL.mp hm with hm | ⟨h1, h2⟩
    · have := h.old i j hij hm
      omega
    · omega
theorem Dra.two {many p s : Nat} {R : Nat → List Int} (h : Dra many R p s) (hps : p < s) (hs : s < many) : Dra many (addL (addL R p (s : Nat)) s (p : Nat)) p (s + 1) := by
  have n1 : ((s : Nat) : Int) ∉ R p := fun z => by
    have := h.old p s (Nat.le_of_lt hps) z
    omega
  have n2 : ((p : Nat) : Int) ∉ R s := fun z => n1 (h.sym s p hs (by omega) z)
  refine ⟨nd_addL (nd_addL h.nd n1) fun z => ?_, fun i c hc => ?_, fun i j hi hj hm => ?_, fun i j hij hm => ?_⟩
  · rcases mem_addL.mp z with z | ⟨e, _⟩
    · exact n2 z
    · omega
  · rcases mem_addL.mp hc with hc | ⟨_, rfl⟩
    · rcases mem_addL.mp hc with hc | ⟨_, rfl⟩
      · exact h.lt i c hc
      · omega
    · omega
  · rcases mem_addL.mp hm with hm | ⟨h1, h2⟩
    · rcases mem_addL.mp hm with hm | ⟨h1, h2⟩
      · exact mem_addL.mpr (.inl (mem_addL.mpr (.inl (h.sym i j hi hj hm))))
      · have : j = s := by omega
        subst h1
        subst this
        exact mem_addL.mpr (.inr ⟨rfl, rfl⟩)
    · have : j = p := by omega
      subst h1
      subst this
      exact mem_addL.mpr (.inl (mem_addL.mpr (.inr ⟨rfl, rfl⟩)))
  · rcases mem_addL.mp hm with hm | ⟨h1, h2⟩
    · rcases mem_addL.mp hm with hm | ⟨h1, h2⟩
      · have := h.old i j hij hm
        omega
      · omega
    · omega
theorem asc_ok {row : List Int} {m : Int} (hp : row.Pairwise (· ≤ ·)) (hn : row.Nodup) (hl : ∀ c ∈ row, 0 ≤ c ∧ c < m) : ∀ i, okAt row m i := fun i c hc => by
  obtain ⟨hi, rfl⟩ := List.getElem?_eq_some_iff.mp hc
  refine ⟨hl _ (List.getElem_mem hi), fun d h0 hd => ?_⟩
  obtain ⟨hj, rfl⟩ := List.getElem?_eq_some_iff.mp hd
  have h1 := (List.pairwise_iff_getElem.mp hp) (i - 1) i hj hi (by omega)
  have h2 := (List.pairwise_iff_getElem.mp hn) (i - 1) i hj hi (by omega)
  have : ¬ row[i - 1] = row[i] := h2
  have h3 : row[i - 1] ≤ row[i] := h1
  omega
theorem Dra.good {many p s : Nat} {R : Nat → List Int} (h : Dra many R p s) (h1 : 1 ≤ many) (h8 : many ≤ 8) {rows : List (List Int)} (hl : rows.length = many) (hr : ∀ (i : Nat) row, rows[i]? = some row → row.Perm (R i) ∧ row.Pairwise (· ≤ ·)) : GoodT rows := by
  refine ⟨by omega, by omega, fun row hrow => ?_, fun q row hq s hs => ?_⟩
  · obtain ⟨i, hi, rfl⟩ := List.getElem_of_mem hrow
    obtain ⟨hp, hw⟩ := hr i _ (List.getElem?_eq_getElem hi)
    rw [hl]
    exact asc_ok hw (hp.nodup_iff.mpr (h.nd i)) fun c hc => h.lt i c (hp.mem_iff.mp hc)
  · obtain ⟨hp, _⟩ := hr q row hq
    have hs2 := hp.mem_iff.mp hs
    have hlt := h.lt q s hs2
    have hq2 := (List.getElem?_eq_some_iff.mp hq).1
    have e : ((s.toNat : Nat) : Int) = s := by omega
    rw [← e] at hs2
    have := h.sym q s.toNat (by omega) (by omega) hs2
    have hi : s.toNat < rows.length := by omega
    refine ⟨rows[s.toNat], List.getElem?_eq_getElem hi, ?_⟩
    exact (hr s.toNat _ (List.getElem?_eq_getElem hi)).1.mem_iff.mpr this
structure HB (D : Addr) (bs : List Addr) (R : Nat → List Int) (H : Hp) : Prop where
  d : H D = some (.lst (bs.map V.ref))
  at_ : ∀ (i : Nat) b, bs[i]? = some b → H b = some (.lst ((R i).map V.int))
theorem HB.app {D b : Addr} {bs : List Addr} {R : Nat → List Int} {H : Hp} {i : Nat} {c : Int} (h : HB D bs R H) (nd : bs.Nodup) (nD : D ∉ bs) (hi : bs[i]? = some b) : HB D bs (addL R i c) (upd H b (.lst ((R i).map V.int ++ [V.int c]))) := by
  refine ⟨?_, fun j b' hj => ?_⟩
  · have hm := List.mem_of_getElem? hi
    rw [upd_ne (fun z => nD (by rw [z]; exact hm))]
    exact h.d
  · by_cases e : j = i
    · subst e
      rw [hi] at hj
      cases Option.some.inj hj
      rw [upd_same]
      unfold addL
      rw [if_pos rfl, snocV]
    · have ne : b' ≠ b := fun z => by
        subst z
        obtain ⟨h1, h2⟩ := List.getElem?_eq_some_iff.mp hj
        obtain ⟨h3, h4⟩ := List.getElem?_eq_some_iff.mp hi
        rcases Nat.lt_or_gt_of_ne e with q | q
        · exact (List.pairwise_iff_getElem.mp nd) j i h1 h3 q (h2.trans h4.symm)
        · exact (List.pairwise_iff_getElem.mp nd) i j h3 h1 q (h4.trans h2.symm)
      rw [upd_ne ne]
      unfold addL
      rw [if_neg e]
      exact h.at_ j b' hj
theorem HB.exb {D p : Addr} {bs : List Addr} {R : Nat → List Int} {H H1 : Hp} (h : HB D bs R H) (e : Exb p H H1) (hD : D ≠ p) (hb : ∀ b ∈ bs, b ≠ p) : HB D bs R H1 :=
  ⟨e _ _ hD h.d, fun i b hi => e _ _ (hb b (List.mem_of_getElem? hi)) (h.at_ i b hi)⟩
theorem HB.same {D : Addr} {bs : List Addr} {R : Nat → List Int} {H H1 : Hp} (h : HB D bs R H) (e : Same H H1) : HB D bs R H1 :=
  ⟨e _ _ h.d, fun i b hi => e _ _ (h.at_ i b hi)⟩
def toldD (rows : List (List Int)) : PyData := if 2 * rows.length ≤ 8 then .tuple [.int (2 * (rows.length : Nat)), .tuple ((dbl rows).map rowD)] else .tuple [.str "size", .int (2 * (rows.length : Nat))]
theorem dp2 {K : PySem.W.Frag} {H : Hp} {a : Addr} {u v : V} {d e : PyData} (h : SqT K H a [u, v]) (h1 : Dp K H u d) (h2 : Dp K H v e) : Dp K H (.ref a) (.tuple [d, e]) := .tup h (.cons h1 (.cons h2 .nil))
theorem gN {i : Nat} {v : V} {σ : L2.St} {H : Hp} {k : L2.St → Hp → Prop} (h : k (σ.set i (some v)) H) : gName i v σ H k := h
theorem asgK {te : TE} {i : Nat} {u : TS} {D : Ends} {σ : L2.St} {H : Hp} (A : V → Hp → Prop) (h1 : ∀ R : VK, (∀ v H', A v H' → R v H') → te σ H R) (h2 : ∀ v H', A v H' → u D (σ.set i (some v)) H') : tSeq (tAsg te (gName i)) u D σ H := h1 _ h2
theorem GoodT.abs {rows : List (List Int)} (g : GoodT rows) : ∀ r ∈ rows, r.length ≤ 8 ∧ ∀ c ∈ r, c.natAbs < 2 ^ 60 := fun r hr => ⟨asc_len g hr, fun c hc => by
  have := g.lt hr hc
  have := g.n8
  have e : (2 : Nat) ^ 60 = 1152921504606846976 := by decide
  omega⟩
theorem GoodT.shows {rows : List (List Int)} (g : GoodT rows) : Sh 72 2 (.tuple (rows.map rowD)) := (Sh.rows (m := 8) (n := 8) g.abs g.n8).le (by decide) (by decide)
theorem dbl_abs {rows : List (List Int)} (g : GoodT rows) : ∀ r ∈ dbl rows, r.length ≤ 8 ∧ ∀ c ∈ r, c.natAbs < 2 ^ 60 := fun r hr => by
  unfold dbl at hr
  obtain ⟨row, hrow, hr⟩ := List.mem_flatMap.mp hr
  have key : ∀ side : Int, 0 ≤ side → side ≤ 1 → (dblRow row side).length ≤ 8 ∧ ∀ c ∈ dblRow row side, c.natAbs < 2 ^ 60 := fun side h0 h1 => by
    unfold dblRow
    refine ⟨by rw [List.length_map]; exact asc_len g hrow, fun c hc => ?_⟩
    obtain ⟨d, hd, rfl⟩ := List.mem_map.mp hc
    have := g.lt hrow hd
    have := g.n8
    have e : (2 : Nat) ^ 60 = 1152921504606846976 := by decide
    omega
  rcases List.mem_cons.mp hr with rfl | hr
  · exact key 0 (by decide) (by decide)
  · rw [List.mem_singleton.mp hr]
    exact key 1 (by decide) (by decide)
theorem _root_.Bw.Sh.all {b k : Nat} {d : PyData} (h : Sh b k d) (hb : b ≤ 200000) (hk : k < 64) : d.showable = true ∧ d.hasDict = false ∧ d.depth < 64 ∧ d.shown.length ≤ sizeLine := ⟨h.sh, h.nod, Nat.lt_of_le_of_lt h.dp hk, h.fits hb⟩
theorem told_shows {rows : List (List Int)} (g : GoodT rows) : Sh 200 3 (toldD rows) := by
  have n8 := g.n8
  have e : (2 : Nat) ^ 60 = 1152921504606846976 := by decide
  have hi : Sh 72 2 (.int (2 * (rows.length : Nat))) := (Sh.int (by omega)).le (by decide) (by decide)
  unfold toldD
  by_cases c : 2 * rows.length ≤ 8
  · rw [if_pos c]
    exact (Sh.pair hi ((Sh.rows (m := 8) (n := 8) (dbl_abs g) (by rw [dbl_len]; exact c)).le (by decide) (by decide))).le (by decide) (by decide)
  · rw [if_neg c]
    exact (Sh.pair (b := 72) (k := 2) ⟨by decide, by decide, by decide, by decide, by decide⟩ hi).le (by decide) (by decide)
theorem lots_shows {rows : List (List Int)} (g : GoodT rows) {ms : List Int} (hl : ms.length = rows.length) (h : ∀ (i : Nat) m, ms[i]? = some m → Lst rows (i : Nat) m) : Sh 8 1 (rowD ms) := by
  have n8 := g.n8
  refine Sh.row (fun c hc => ?_) (by omega)
  obtain ⟨i, hi, rfl⟩ := List.getElem_of_mem hc
  have := rch_lt g (p := (i : Nat)) (by omega) (h i _ (List.getElem?_eq_getElem hi)).1
  have e : (2 : Nat) ^ 60 = 1152921504606846976 := by decide
  omega
theorem asc_nd {row : List Int} {m : Int} (h : ∀ i, okAt row m i) : row.Nodup := by
  refine List.pairwise_iff_getElem.mpr fun i j hi hj hij => ?_
  have key : ∀ k, (hk : i + k + 1 < row.length) → row[i] < row[i + k + 1] := fun k => by
    induction k with
    | zero => exact fun hk => (h (i + 1) _ (List.getElem?_eq_getElem hk)).2 _ (by omega) (List.getElem?_eq_getElem hi)
    | succ k ih =>
      intro hk
      have h1 := ih (by omega)
      have h2 := (h (i + (k + 1) + 1) _ (List.getElem?_eq_getElem hk)).2 _ (by omega) (List.getElem?_eq_getElem (by omega))
      have e : row[i + (k + 1) + 1 - 1]'(by omega) = row[i + k + 1]'(by omega) := rfl
      rw [e] at h2
      omega
  have := key (j - i - 1) (by omega)
  have e : row[i + (j - i - 1) + 1]'(by omega) = row[j] := by congr 1; omega
  rw [e] at this
  intro z
  have z2 : row[i] = row[j] := z
  omega

/-! ### even counts -/
def cB (L j : Nat) : Int := PySem.W.mcComb (L : Nat) (j : Nat)
def dB (L : Nat) : Nat → Int
  | 0 => cB L 0
  | j + 1 => cB L (j + 1) - cB L j
def evS (x : Int) (L : Nat) : Nat → Int
  | 0 => 0
  | k + 1 => evS x L k + dB L k * x ^ k
def evI (q m L : Nat) : Int := if L < m ∨ (L - m) % 2 = 1 then 0 else evS ((q : Int) - 1) L ((L - m) / 2 + 1)
def pasAll : Bool := (List.range 41).all fun L => (List.range 22).all fun j => decide (cB (L + 1) (j + 1) = cB L j + cB L (j + 1))
theorem pas_all : pasAll = true := by decide +kernel
theorem pas {L j : Nat} (hL : L ≤ 40) (hj : j ≤ 21) : cB (L + 1) (j + 1) = cB L j + cB L (j + 1) := by
  have h := List.all_eq_true.mp pas_all L (List.mem_range.mpr (by omega))
  exact of_decide_eq_true (List.all_eq_true.mp h j (List.mem_range.mpr (by omega)))
theorem cB0 (L : Nat) : cB L 0 = 1 := PySem.W.mcComb_ends (by omega) (by omega) (.inl rfl)
def midAll : Bool := (List.range 22).all fun k => decide (dB (2 * k + 1) (k + 1) = 0)
theorem mid_all : midAll = true := by decide +kernel
theorem mid {k : Nat} (hk : k ≤ 21) : dB (2 * k + 1) (k + 1) = 0 :=
  of_decide_eq_true (List.all_eq_true.mp mid_all k (List.mem_range.mpr (by omega)))
theorem dB_pas {L j : Nat} (hL : L ≤ 40) (hj : j ≤ 21) : dB (L + 1) (j + 1) = dB L (j + 1) + dB L j := by
  cases j with
  | zero =>
    show cB (L + 1) 1 - cB (L + 1) 0 = cB L 1 - cB L 0 + cB L 0
    have h := pas (L := L) (j := 0) hL (by omega)
    rw [Nat.zero_add] at h
    rw [h, cB0, cB0]
    omega
  | succ j =>
    show cB (L + 1) (j + 2) - cB (L + 1) (j + 1) = cB L (j + 2) - cB L (j + 1) + (cB L (j + 1) - cB L j)
    have h1 := pas (L := L) (j := j + 1) hL (by omega)
    have h2 := pas (L := L) (j := j) hL (by omega)
    have h1 : cB (L + 1) (j + 2) = cB L (j + 1) + cB L (j + 2) := h1
    rw [h1, h2]
    omega
theorem evS_pas (x : Int) {L : Nat} (hL : L ≤ 40) : ∀ k : Nat, k ≤ 22 → evS x (L + 1) (k + 1) = evS x L (k + 1) + x * evS x L k
  | 0, _ => by
    show 0 + cB (L + 1) 0 * x ^ 0 = 0 + cB L 0 * x ^ 0 + x * 0
    rw [cB0, cB0]
    omega
  | k + 1, hk => by
    show evS x (L + 1) (k + 1) + dB (L + 1) (k + 1) * x ^ (k + 1) = evS x L (k + 1) + dB L (k + 1) * x ^ (k + 1) + x * (evS x L k + dB L k * x ^ k)
    rw [evS_pas x hL k (by omega), dB_pas hL (by omega), Int.add_mul, Int.mul_add, Int.pow_succ, Int.mul_comm x (dB L k * x ^ k), Int.mul_assoc (dB L k)]
    omega
theorem evI_zero {q m L : Nat} (h : L < m ∨ (L - m) % 2 = 1) : evI q m L = 0 := if_pos h
theorem evI_at {q m L k : Nat} (h : L = m + 2 * k) : evI q m L = evS ((q : Int) - 1) L (k + 1) := by
  unfold evI
  rw [if_neg (by omega), show (L - m) / 2 = k by omega]
theorem evI_step {q m L : Nat} (hL : L ≤ 40) : evI q (m + 1) (L + 1) = evI q m L + ((q : Int) - 1) * evI q (m + 2) L := by
  by_cases h : L < m ∨ (L - m) % 2 = 1
  · rw [evI_zero h, evI_zero (m := m + 1) (by omega), evI_zero (m := m + 2) (by omega)]
    omega
  · obtain ⟨k, hk⟩ : ∃ k, L = m + 2 * k := ⟨(L - m) / 2, by omega⟩
    rw [evI_at hk, evI_at (m := m + 1) (L := L + 1) (k := k) (by omega), evS_pas _ hL k (by omega)]
    cases k with
    | zero => rw [evI_zero (m := m + 2) (by omega)]; rfl
    | succ k => rw [evI_at (m := m + 2) (L := L) (k := k) (by omega)]
theorem evI_first {q L : Nat} (hL : L ≤ 40) : evI q 0 (L + 1) = (q : Int) * evI q 1 L := by
  by_cases h : (L + 1) % 2 = 1
  · rw [evI_zero (by omega), evI_zero (m := 1) (by omega)]
    omega
  · obtain ⟨k, hk⟩ : ∃ k, L = 1 + 2 * k := ⟨(L - 1) / 2, by omega⟩
    rw [evI_at (m := 0) (L := L + 1) (k := k + 1) (by omega), evI_at hk, evS_pas _ hL (k + 1) (by omega)]
    have e : evS ((q : Int) - 1) L (k + 1 + 1) = evS ((q : Int) - 1) L (k + 1) := by
      show evS ((q : Int) - 1) L (k + 1) + dB L (k + 1) * _ = _
      rw [show L = 2 * k + 1 by omega, mid (by omega)]
      omega
    rw [e, Int.sub_mul]
    omega
theorem evI_00 (q : Nat) : evI q 0 0 = 1 := by
  rw [evI_at (k := 0) (by omega)]
  show 0 + cB 0 0 * _ = _
  rw [cB0, Int.pow_zero]
  omega
theorem evI_bd {q : Nat} (h1 : 1 ≤ q) (h8 : q ≤ 8) : ∀ L : Nat, L ≤ 41 → ∀ m : Nat, 0 ≤ evI q m L ∧ evI q m L ≤ 8 ^ L
  | 0, _, m => by
    cases m with
    | zero => rw [evI_00]; exact ⟨by decide, by decide⟩
    | succ m => rw [evI_zero (by omega)]; exact ⟨by decide, by decide⟩
  | L + 1, hL, m => by
    have hp : (8 : Int) ^ (L + 1) = 8 ^ L * 8 := Int.pow_succ ..
    cases m with
    | zero =>
      have i1 := evI_bd h1 h8 L (by omega) 1
      rw [evI_first (by omega), hp]
      refine ⟨Int.mul_nonneg (by omega) i1.1, ?_⟩
      rw [Int.mul_comm]
      exact Int.mul_le_mul i1.2 (by omega) (by omega) (Int.le_trans i1.1 i1.2)
    | succ m =>
      have i1 := evI_bd h1 h8 L (by omega) m
      have i2 := evI_bd h1 h8 L (by omega) (m + 2)
      rw [evI_step (by omega), hp]
      have j1 : 0 ≤ ((q : Int) - 1) * evI q (m + 2) L := Int.mul_nonneg (by omega) i2.1
      have j2 : ((q : Int) - 1) * evI q (m + 2) L ≤ 7 * 8 ^ L := Int.mul_le_mul (by omega) i2.2 i2.1 (by omega)
      exact ⟨by omega, by omega⟩
theorem evI_abs {q m L : Nat} (h1 : 1 ≤ q) (h8 : q ≤ 8) (hL : L ≤ 41) : (evI q m L).natAbs < 2 ^ 124 := by
  have h := evI_bd h1 h8 L hL m
  have e : (8 : Int) ^ L ≤ 8 ^ 41 := by
    have := Nat.pow_le_pow_right (n := 8) (by decide) hL
    have e2 : ((8 : Nat) : Int) ^ L = ((8 ^ L : Nat) : Int) := by simp
    have e3 : ((8 : Nat) : Int) ^ 41 = ((8 ^ 41 : Nat) : Int) := by simp
    show ((8 : Nat) : Int) ^ L ≤ ((8 : Nat) : Int) ^ 41
    rw [e2, e3]
    exact Int.ofNat_le.mpr this
  have e4 : (8 : Int) ^ 41 < 2 ^ 124 := by decide
  have e5 : (2 : Int) ^ 124 = ((2 ^ 124 : Nat) : Int) := by decide
  omega
theorem evI_small {q m L : Nat} (h1 : 1 ≤ q) (h8 : q ≤ 8) (hL : L ≤ 18) : (evI q m L).natAbs < 2 ^ 60 := by
  have h := evI_bd h1 h8 L (by omega) m
  have e : (8 : Int) ^ L ≤ 8 ^ 18 := by
    have := Nat.pow_le_pow_right (n := 8) (by decide) hL
    have e2 : ((8 : Nat) : Int) ^ L = ((8 ^ L : Nat) : Int) := by simp
    have e3 : ((8 : Nat) : Int) ^ 18 = ((8 ^ 18 : Nat) : Int) := by simp
    show ((8 : Nat) : Int) ^ L ≤ ((8 : Nat) : Int) ^ 18
    rw [e2, e3]
    exact Int.ofNat_le.mpr this
  have e4 : (8 : Int) ^ 18 < 2 ^ 60 := by decide
  have e5 : (2 : Int) ^ 60 = ((2 ^ 60 : Nat) : Int) := by decide
  omega
/-- the powers on the way -/
theorem pw_bd {q k : Nat} (h2 : 2 ≤ q) (h8 : q ≤ 8) (hk : k ≤ 21) : (((q : Int) - 1) ^ k).natAbs < 2 ^ 60 := by
  have e : (q : Int) - 1 = ((q - 1 : Nat) : Int) := by omega
  have e2 : (((q - 1 : Nat) : Int) ^ k).natAbs = (q - 1) ^ k := by
    rw [Int.natAbs_pow]
    rfl
  rw [e, e2]
  have a1 := Nat.pow_le_pow_left (show q - 1 ≤ 7 by omega) k
  have a2 := Nat.pow_le_pow_right (n := 7) (by decide) hk
  have a3 : (7 : Nat) ^ 21 < 2 ^ 60 := by decide
  omega
/-- one row of the law's own table -/
def rowC (q most L : Nat) : List Int := (List.range (most + 1)).map (fun m => evI q m L) ++ [0]
theorem rowC_len {q most L : Nat} : (rowC q most L).length = most + 2 := by
  unfold rowC
  rw [List.length_append, List.length_map, List.length_range]
  rfl
theorem rowC_at {q most L m : Nat} (h : m ≤ most) : (rowC q most L)[m]? = some (evI q m L) := by
  unfold rowC
  rw [List.getElem?_append_left (by rw [List.length_map, List.length_range]; omega), List.getElem?_map, List.getElem?_range (by omega)]
  rfl
theorem rowC_end {q most L : Nat} (h : L ≤ most) : (rowC q most L)[most + 1]? = some (evI q (most + 1) L) := by
  rw [evI_zero (by omega)]
  unfold rowC
  rw [List.getElem?_append_right (by rw [List.length_map, List.length_range]; omega), List.length_map, List.length_range, Nat.sub_self]
  rfl
theorem rowC_0 {q most : Nat} : rowC q most 0 = 1 :: List.replicate (most + 1) 0 := by
  refine List.ext_getElem? fun i => ?_
  by_cases h : i ≤ most
  · rw [rowC_at h]
    cases i with
    | zero => rw [evI_00]; rfl
    | succ i =>
      rw [evI_zero (by omega), List.getElem?_cons_succ, List.getElem?_replicate, if_pos (by omega)]
  · by_cases h2 : i = most + 1
    · subst h2
      rw [rowC_end (by omega), evI_zero (by omega), List.getElem?_cons_succ, List.getElem?_replicate, if_pos (by omega)]
    · rw [List.getElem?_eq_none (by rw [rowC_len]; omega), List.getElem?_eq_none (by rw [List.length_cons, List.length_replicate]; omega)]
/-- what is begun of the next row -/
def rowP (q L k : Nat) : List Int := (List.range k).map fun m => evI q m L
theorem rowP_succ {q L k : Nat} : rowP q L (k + 1) = rowP q L k ++ [evI q k L] := by
  unfold rowP
  rw [List.range_succ, List.map_append]
  rfl
theorem rowP_end {q most L : Nat} : rowP q L (most + 1) ++ [0] = rowC q most L := rfl
/-- the first number out of its range -/
def badE (q m L : Int) : Option Int := if ¬ (2 ≤ q ∧ q ≤ 8) then some q else if ¬ (0 ≤ m ∧ m ≤ 40) then some m else if ¬ (0 ≤ L ∧ L ≤ 40) then some L else none
theorem flat_rep {v : V} : ∀ n : Nat, (List.replicate n [v]).flatten = List.replicate n v
  | 0 => rfl
  | n + 1 => by rw [List.replicate_succ, List.flatten_cons, flat_rep n, List.replicate_succ]; rfl

def top (i : Nat) : Stmt := PySem.Challenge.pw_betweencoats_k46_even_counts_by_their_re.main.body.getD i (.Pass ⟨0, 0, 0, 0⟩)
def meth (i j : Nat) : Stmt := match top i with
  | .ClassDef (body := b) .. => b.getD j (.Pass ⟨0, 0, 0, 0⟩)
  | _ => .Pass ⟨0, 0, 0, 0⟩
/-- the classes' addresses -/
structure CS where
  no : Unit := ()
  Refused : Addr
  BadCount : Addr
/-- what the module's names hold -/
structure Txn (K : PySem.W.Frag) (mg : Str → Option Value) (cs : CS) : Prop where
  n_int : mg "int" = none
  n_isinstance : mg "isinstance" = none
  n_len : mg "len" = none
  n_max : mg "max" = none
  n_range : mg "range" = none
  n_repr : mg "repr" = none
  n_zip : mg "zip" = none
  g_MOST_STEPS : ∃ t, mg "MOST_STEPS" = some (.int 40 t)
  b_comb : mg "comb" = some (.builtin "math.comb")
  gm_Refused : mg "Refused" = some (.ref cs.Refused)
  gm_BadCount : mg "BadCount" = some (.ref cs.BadCount)
  xc_BadCount : XC K cs.BadCount
  ex_BadCount_Refused : PySem.W.exmOne K (.ref cs.BadCount) (.ref cs.Refused) = some true
  ki_BadCount_BadCount : PySem.W.kitOne K (.ref cs.BadCount) (.ref cs.BadCount) = some true
abbrev s_Refused_init : Stmt := meth 2 0
theorem sc_Refused_init : FnScope ["self", "what"] ["self", "what"] (defScope s_Refused_init) := ⟨rfl, rfl, rfl, by decide +kernel, rfl, by decide +kernel, by decide +kernel⟩
abbrev s_check_steps : Stmt := top 6
theorem sc_check_steps : FnScope ["L", "most"] ["L", "most"] (defScope s_check_steps) := ⟨rfl, rfl, rfl, by decide +kernel, rfl, by decide +kernel, by decide +kernel⟩
abbrev s_even_count : Stmt := top 8
theorem sc_even_count : FnScope ["q", "m", "L", "total", "ways", "fewer", "j"] ["q", "m", "L"] (defScope s_even_count) := ⟨rfl, rfl, rfl, by decide +kernel, rfl, by decide +kernel, by decide +kernel⟩
abbrev s__law_pool : Stmt := top 10
theorem sc__law_pool : FnScope ["script", "k", "cell", "big", "mixed"] ["script", "k"] (defScope s__law_pool) := ⟨rfl, rfl, rfl, by decide +kernel, rfl, by decide +kernel, by decide +kernel⟩
abbrev s__law_take : Stmt := top 11
theorem sc__law_take : FnScope ["source", "top", "drawn"] ["source", "top"] (defScope s__law_take) := ⟨rfl, rfl, rfl, by decide +kernel, rfl, by decide +kernel, by decide +kernel⟩
abbrev s__law_one : Stmt := top 12
theorem sc__law_one : FnScope ["source", "things"] ["source", "things"] (defScope s__law_one) := ⟨rfl, rfl, rfl, by decide +kernel, rfl, by decide +kernel, by decide +kernel⟩
abbrev s__law_counts : Stmt := top 13
theorem sc__law_counts : FnScope ["q", "most", "found", "turn", "row", "after", "m"] ["q", "most"] (defScope s__law_counts) := ⟨rfl, rfl, rfl, by decide +kernel, rfl, by decide +kernel, by decide +kernel⟩
abbrev s__law_told : Stmt := top 14
theorem sc__law_told : FnScope ["q", "m", "L", "e"] ["q", "m", "L"] (defScope s__law_told) := ⟨rfl, rfl, rfl, by decide +kernel, rfl, by decide +kernel, by decide +kernel⟩
abbrev s_law : Stmt := top 15
theorem sc_law : FnScope ["script", "source", "q", "most", "counts", "m", "far", "turn", "numbers", "change", "at", "bad", "number", "least", "limit", "L"] ["script"] (defScope s_law) := ⟨rfl, rfl, rfl, by decide +kernel, rfl, by decide +kernel, by decide +kernel⟩
def kb_even_count_m_L_q_g {α : Type} : List α → List α → List α
  | [], [w0, w1, w2] => [w2, w0, w1]
  | _, _ => []
theorem kb_even_count_m_L_q : KwB "even_count" s_even_count ["q", "m", "L"] ["m", "L", "q"] kb_even_count_m_L_q_g kb_even_count_m_L_q_g where
  to := fun _ _ _ _ _ _ us ws h => by
    match us, ws, h with
    | [], [_, _, _], _ => rfl
  rel := fun {vs us zs ws} r s => by
    unfold kb_even_count_m_L_q_g
    cases r with
    | cons _ _ => exact .nil
    | nil =>
      cases s with
      | nil => exact .nil
      | cons s0 s =>
        cases s with
        | nil => exact .nil
        | cons s1 s =>
          cases s with
          | nil => exact .nil
          | cons s2 s =>
            cases s with
            | cons _ _ => exact .nil
            | nil =>
              exact (.cons s2 (.cons s0 (.cons s1 .nil)))
section
variable {P : Program} {w : World} {K : PySem.W.Frag} {mg : Str → Option Value} {base : Heap} {f : Addr} {fd : FuncData} {cs : CS}
def sp_Refused_init (K : PySem.W.Frag) (_ : CS) : Sp := sp_init K
theorem ok_Refused_init (F : Fun K "__init__" "Refused.__init__" s_Refused_init f fd) (T : Txn K mg cs)  : FnOk P w K mg base CX0 1 f fd ["self", "what"] (sp_Refused_init K cs) := by
  refine F.ok sc_Refused_init (fun vs H Q E h => ?_) (fun cdv A outer s H vs Q E hr h => ?_)
  · obtain ⟨a, C, v, rfl, _⟩ := h
    rfl
  obtain ⟨a, C, v, rfl, hc, hn, ha, q⟩ := h
  refine ⟨_, (pss_one (ps_ost (pv 0) (pv 1))), ?_⟩
  exact ⟨v, rfl, .ref a, rfl, a, C, rfl, hc, hn, .inl ⟨ha, fun dx nd ne => q dx nd ne⟩⟩
structure Txt (P : Program) (w : World) (K : PySem.W.Frag) (mg : Str → Option Value) (base : Heap) (cs : CS) : Prop extends Txn K mg cs where
  one : True
  x_BadCount : XM P w K mg base "BadCount" cs.BadCount
def BadX (cs : CS) (q : Int) (H : Hp) (E : XK) : Prop := ∀ d, H d = none → E (.ref cs.BadCount) (some d) (upd H d (.xd [("what", .int q)]))
def sp_check_steps (K : PySem.W.Frag) (cs : CS) : Sp := fun vs H Q E => ∃ L most : Int, vs = [.int L, .int most] ∧ (0 ≤ L → L ≤ most → Q .non H) ∧ (¬ (0 ≤ L ∧ L ≤ most) → BadX cs L H E)
theorem ok_check_steps (F : Fun K "check_steps" "check_steps" s_check_steps f fd) (T : Txt P w K mg base cs)  : FnOk P w K mg base (L2.CX P w) 3 f fd ["L", "most"] (sp_check_steps K cs) := by
  refine F.okX sc_check_steps (fun vs H Q E h => ?_) (fun cdv A outer s H vs Q E hr h => ?_)
  · obtain ⟨L, most, rfl, _⟩ := h
    rfl
  obtain ⟨L, most, rfl, h1, h2⟩ := h
  refine ⟨_, (pss_one (ps_if (pt_not (pt_chain op_le op_le pe_int (pv 0) (pv 1))) (pss_one (ps_raiseW rfl T.x_BadCount (hr.mono (by decide)) (takes_of rfl rfl rfl rfl) (pa_cons (pv 0) pa_nil))) pss_nil)), ?_⟩
  by_cases c1 : 0 ≤ L
  · refine ⟨_, rfl, 0, _, rfl, rfl, _, rfl, itT (decide_eq_true c1) ⟨_, rfl, _, _, rfl, rfl, _, rfl, ?_⟩⟩
    by_cases c2 : L ≤ most
    · rw [decide_eq_true c2]
      exact iteF (h1 c1 c2)
    · rw [decide_eq_false c2]
      refine iteT ?_
      exact ⟨_, rfl, made_what T.xc_BadCount fun d nd => h2 (fun z => c2 z.2) d nd⟩
  · refine ⟨_, rfl, 0, _, rfl, rfl, _, rfl, itF (decide_eq_false c1) ⟨_, rfl, iteT ?_⟩⟩
    exact ⟨_, rfl, made_what T.xc_BadCount fun d nd => h2 (fun z => c1 z.1) d nd⟩
theorem badE_q {q m L : Int} (h : ¬ (2 ≤ q ∧ q ≤ 8)) : badE q m L = some q := if_pos h
theorem badE_m {q m L : Int} (h : 2 ≤ q ∧ q ≤ 8) (h2 : ¬ (0 ≤ m ∧ m ≤ 40)) : badE q m L = some m := by unfold badE; rw [if_neg (fun z => z h), if_pos h2]
theorem badE_L {q m L : Int} (h : 2 ≤ q ∧ q ≤ 8) (h2 : 0 ≤ m ∧ m ≤ 40) (h3 : ¬ (0 ≤ L ∧ L ≤ 40)) : badE q m L = some L := by unfold badE; rw [if_neg (fun z => z h), if_neg (fun z => z h2), if_pos h3]
theorem badE_no {q m L : Int} (h : 2 ≤ q ∧ q ≤ 8) (h2 : 0 ≤ m ∧ m ≤ 40) (h3 : 0 ≤ L ∧ L ≤ 40) : badE q m L = none := by unfold badE; rw [if_neg (fun z => z h), if_neg (fun z => z h2), if_neg (fun z => z h3)]
def fwB (L : Nat) : Nat → Int
  | 0 => 0
  | k + 1 => cB L k
theorem dB_at (L k : Nat) : dB L k = cB L k - fwB L k := by
  cases k with
  | zero => show cB L 0 = cB L 0 - 0; omega
  | succ k => rfl
def sp_even_count (K : PySem.W.Frag) (cs : CS) : Sp := fun vs H Q E => ∃ q m L : Int, vs = [.int q, .int m, .int L] ∧ (∀ qn mn Ln : Nat, q = (qn : Nat) → m = (mn : Nat) → L = (Ln : Nat) → badE q m L = none → Q (.int (evI qn mn Ln)) H) ∧ (∀ x, badE q m L = some x → BadX cs x H E)
theorem ok_even_count (F : Fun K "even_count" "even_count" s_even_count f fd) (T : Txt P w K mg base cs) (c_check_steps : Cal P w K mg base (L2.CX P w) 3 "check_steps" ["L", "most"] s_check_steps (sp_check_steps K cs)) : FnOk P w K mg base (L2.CX P w) 4 f fd ["q", "m", "L"] (sp_even_count K cs) := by
  refine F.okX sc_even_count (fun vs H Q E h => ?_) (fun cdv A outer s H vs Q E hr h => ?_)
  · obtain ⟨q, m, L, rfl, _⟩ := h
    rfl
  obtain ⟨q, m, L, rfl, ho, he⟩ := h
  refine ⟨_, (pss_cons (ps_if (pt_not (pt_chain op_le op_le pe_int (pv 0) pe_int)) (pss_one (ps_raiseW rfl T.x_BadCount (hr.mono (by decide)) (takes_of rfl rfl rfl rfl) (pa_cons (pv 0) pa_nil))) pss_nil)
      (pss_cons (ps_expr (pe_cal c_check_steps (hr.mono (by decide)) (passes_call (E := E) (takes_of rfl rfl rfl rfl) (fun _ _ _ _ h => h)) (pa_cons (pv 1) (pa_cons (pe_gint rfl T.g_MOST_STEPS) pa_nil))))
      (pss_cons (ps_expr (pe_cal c_check_steps (hr.mono (by decide)) (passes_call (E := E) (takes_of rfl rfl rfl rfl) (fun _ _ _ _ h => h)) (pa_cons (pv 2) (pa_cons (pe_gint rfl T.g_MOST_STEPS) pa_nil))))
      (pss_cons (ps_if (PW.pt (pw_or (pt_cmpR op_gt (pv 1) (pv 2) (nomark _)) (pw_or1 (pt_cmpR op_eq (pe_op op_mod (pe_op op_sub (pv 2) (pv 1)) pe_int) pe_int (nomark _))))) (pss_one (ps_ret pe_int)) pss_nil)
      (pss_cons (ps_set (i := 3) sc_even_count.nd rfl (Or.inl rfl) pe_int)
      (pss_cons (ps_set (i := 4) sc_even_count.nd rfl (Or.inl rfl) pe_int)
      (pss_cons (ps_set (i := 5) sc_even_count.nd rfl (Or.inl rfl) pe_int)
      (pss_cons (ps_for (passes_of rfl) rfl (pi_range1 (by rfl) T.n_range (pa_cons (pe_op op_add (pe_op op_fdivW (pe_op op_sub (pv 2) (pv 1)) pe_int) pe_int) pa_nil)) (pg_name (i := 6) sc_even_count.nd rfl (Or.inl rfl)) (pss_cons (ps_aug (i := 3) sc_even_count.nd rfl (Or.inl rfl) (pe_op op_mul (pe_op op_sub (pe_callBfun cr_comb rfl T.b_comb (pa_cons (pv 2) (pa_cons (pv 6) pa_nil))) (pv 5)) (pv 4)) ip_add)
      (pss_cons (ps_set (i := 5) sc_even_count.nd rfl (Or.inl rfl) (pe_callBfun cr_comb rfl T.b_comb (pa_cons (pv 2) (pa_cons (pv 6) pa_nil))))
      (pss_one (ps_aug (i := 4) sc_even_count.nd rfl (Or.inl rfl) (pe_op op_sub (pv 0) pe_int) ip_mulW)))))
      (pss_one (ps_ret (pv 3))))))))))), ?_⟩
  by_cases c1 : 2 ≤ q
  case neg =>
    refine ⟨_, rfl, 2, _, rfl, rfl, _, rfl, itF (decide_eq_false c1) ⟨_, rfl, iteT ?_⟩⟩
    exact ⟨_, rfl, made_what T.xc_BadCount fun d nd => he _ (badE_q fun z => c1 z.1) d nd⟩
  refine ⟨_, rfl, 2, _, rfl, rfl, _, rfl, itT (decide_eq_true c1) ⟨_, 8, rfl, rfl, _, rfl, ?_⟩⟩
  by_cases c2 : q ≤ 8
  case neg =>
    rw [decide_eq_false c2]
    refine iteT ?_
    exact ⟨_, rfl, made_what T.xc_BadCount fun d nd => he _ (badE_q fun z => c2 z.2) d nd⟩
  rw [decide_eq_true c2]
  refine iteF ?_
  refine ⟨_, rfl, m, 40, rfl, fun m1 m2 => ?_, fun c d nd => he _ (badE_m ⟨c1, c2⟩ c) d nd⟩
  refine ⟨_, rfl, L, 40, rfl, fun l1 l2 => ?_, fun c d nd => he _ (badE_L ⟨c1, c2⟩ ⟨m1, m2⟩ c) d nd⟩
  obtain ⟨qn, rfl⟩ : ∃ n : Nat, q = (n : Nat) := ⟨q.toNat, by omega⟩
  obtain ⟨mn, rfl⟩ : ∃ n : Nat, m = (n : Nat) := ⟨m.toNat, by omega⟩
  obtain ⟨Ln, rfl⟩ : ∃ n : Nat, L = (n : Nat) := ⟨L.toNat, by omega⟩
  have q1 := ho qn mn Ln rfl rfl rfl (badE_no ⟨c1, c2⟩ ⟨m1, m2⟩ ⟨l1, l2⟩)
  clear ho he
  by_cases c3 : (mn : Int) > (Ln : Int)
  · rw [evI_zero (.inl (by omega))] at q1
    exact ⟨_, rfl, _, rfl, _, _, rfl, rfl, _, rfl, itT (decide_eq_true c3) q1⟩
  refine ⟨_, rfl, _, rfl, _, _, rfl, rfl, _, rfl, itF (decide_eq_false c3) ?_⟩
  refine ⟨_, rfl, _, rfl, _, _, rfl, rfl, _, 2, rfl, rfl, by show (0 : Int) < 2; decide, rfl, _, rfl, ?_⟩
  by_cases c4 : ((Ln : Int) - mn) % 2 = 1
  · rw [evI_zero (.inr (by omega))] at q1
    exact itT (decide_eq_true (show V.int (((Ln : Int) - mn) % 2) = V.int 1 from congrArg V.int c4)) q1
  refine itF (by simpa using c4) ?_
  obtain ⟨k, hk⟩ : ∃ k, Ln = mn + 2 * k := ⟨(Ln - mn) / 2, by omega⟩
  rw [evI_at hk] at q1
  have hk20 : k ≤ 20 := by omega
  refine ⟨_, rfl, _, rfl, _, _, rfl, rfl, _, 2, rfl, rfl, ⟨by decide, by decide⟩, _, 1, rfl, rfl, _, rfl, by omega, by omega, ?_⟩
  rw [show (((Ln : Int) - mn) / 2 + 1).toNat = k + 1 by omega]
  refine for_range (fun i σ H' => (∃ y, σ = [some (.int (qn : Nat)), some (.int (mn : Nat)), some (.int (Ln : Nat)), some (.int (evS ((qn : Int) - 1) Ln i)), some (.int (((qn : Int) - 1) ^ i)), some (.int (fwB Ln i)), y]) ∧ H' = H) ⟨⟨none, by rw [Int.pow_zero]; rfl⟩, rfl⟩ ?_ ?_
  · rintro i σ H1 hi ⟨⟨y, rfl⟩, rfl⟩
    have hp := pw_bd (q := qn) (k := i) (by omega) (by omega) (by omega)
    have hc : PySem.W.mcComb (Ln : Nat) (0 + (i : Int)) = cB Ln i := by rw [Int.zero_add]; rfl
    have hpi : -(2 ^ 64) < ((qn : Int) - 1) ^ i ∧ ((qn : Int) - 1) ^ i < 2 ^ 64 := by
      have e : (2 : Nat) ^ 60 = 1152921504606846976 := by decide
      constructor <;> omega
    refine ⟨_, rfl, _, rfl, _, rfl, _, _, rfl, by omega, by omega, by omega, by omega, ?_⟩
    refine ⟨_, rfl, _, _, rfl, rfl, _, rfl, _, _, rfl, rfl, .inr hpi, _, _, rfl, rfl, ?_⟩
    refine ⟨_, rfl, _, rfl, _, _, rfl, by omega, by omega, by omega, by omega, ?_⟩
    refine ⟨_, rfl, _, rfl, _, 1, rfl, rfl, _, _, rfl, rfl, wide_mul (a := 60) (b := 60) hp ?_ (by decide) (by decide) (by decide), ?_⟩
    · have e : (2 : Nat) ^ 60 = 1152921504606846976 := by decide
      omega
    rw [hc]
    refine ⟨⟨some (V.int (0 + (i : Int))), ?_⟩, rfl⟩
    rw [Int.pow_succ]
    show _ = [_, _, _, some (V.int (evS ((qn : Int) - 1) Ln i + dB Ln i * ((qn : Int) - 1) ^ i)), _, _, _]
    rw [dB_at]
    rfl
  · rintro σ H1 ⟨⟨y, rfl⟩, rfl⟩
    exact ⟨_, rfl, q1⟩
def sp__law_pool (K : PySem.W.Frag) (cs : CS) : Sp := fun vs H Q E => ∃ (a : Addr) (ns : List Int) (k : Int), vs = [.ref a, .int k] ∧ SqL K H a (ns.map V.int) ∧ 0 ≤ k ∧ k < 1000 ∧ ∀ p H', H p = none → Same H H' → Src H' p → Q (.ref p) H'
theorem ok__law_pool (F : Fun K "_law_pool" "_law_pool" s__law_pool f fd) (T : Txt P w K mg base cs)  : FnOk P w K mg base CX0 1 f fd ["script", "k"] (sp__law_pool K cs) := by
  refine F.ok sc__law_pool (fun vs H Q E h => ?_) (fun cdv A outer s H vs Q E hr h => ?_)
  · obtain ⟨a, ns, k, rfl, _⟩ := h
    rfl
  obtain ⟨a, ns, k, rfl, hS, hk, hk2, q⟩ := h
  obtain ⟨j, rfl⟩ : ∃ j : Nat, k = (j : Int) := ⟨k.toNat, by omega⟩
  have hjj : (0 : Int) ≤ 7919 * (j : Int) * (j : Int) ∧ 7919 * (j : Int) * (j : Int) ≤ 7919000 * 1000 := by
    have h1 : (0 : Int) ≤ 7919 * (j : Int) := by omega
    have h2 : 7919 * (j : Int) ≤ 7919000 := by omega
    exact ⟨Int.mul_nonneg h1 hk, Int.mul_le_mul h2 (by omega) hk (by decide)⟩
  refine ⟨_, (pss_cons (ps_set (i := 2) sc__law_pool.nd rfl (Or.inl rfl) pe_int)
      (pss_cons (ps_if (pt_cmpR op_lt (pv 1) (pe_callB (lenS K) (by rfl) T.n_len PySem.boot_len (pa_cons (pv 0) pa_nil)) (nomark _)) (pss_one (ps_set (i := 2) sc__law_pool.nd rfl (Or.inl rfl) (pe_ix (ixL K) (pv 0) (pv 1) (fun _ _ => rfl)))) (pss_one (ps_if (pt_truth (pv 0) (by intro _; rfl)) (pss_one (ps_set (i := 2) sc__law_pool.nd rfl (Or.inl rfl) (pe_ix (ixL K) (pv 0) pe_int (fun _ _ => rfl)))) pss_nil)))
      (pss_cons (ps_set (i := 3) sc__law_pool.nd rfl (Or.inl rfl) (pe_callB (call_max2 rfl) (by rfl) T.n_max (by decide +kernel) (pa_cons (pe_callTy call_int1 (by rfl) T.n_int (by decide +kernel) (pa_cons (pv 2) pa_nil)) (pa_cons (pe_callTy call_int1 (by rfl) T.n_int (by decide +kernel) (pa_cons (pe_op op_sub (pe_un un_neg pe_int) (pv 2)) pa_nil)) pa_nil))))
      (pss_cons (ps_set (i := 4) sc__law_pool.nd rfl (Or.inl rfl) (pe_op op_mod (pe_callTy call_int1 (by rfl) T.n_int (by decide +kernel) (pa_cons (pe_op op_mul (pe_op op_add (pe_op op_add (pe_op op_add (pe_op op_mod (pe_callTy call_int1 (by rfl) T.n_int (by decide +kernel) (pa_cons (pv 3) pa_nil)) pe_int) (pe_op op_mul (pe_op op_mul pe_int (pv 1)) (pv 1))) (pe_op op_mul pe_int (pv 1))) pe_int) pe_int) pa_nil)) pe_int))
      (pss_one (ps_ret (pe_lst (pa_cons (pe_op op_mul (pv 3) (pe_callTy call_int1 (by rfl) T.n_int (by decide +kernel) (pa_cons (pe_cmpR op_ge (pv 3) (pe_op op_pow pe_int pe_int) (nomark _)) pa_nil))) (pa_cons (pv 4) pa_nil))))))))), ?_⟩
  refine ⟨.int j, rfl, .ref a, rfl, a, _, rfl, .inl hS, j, _, rfl, rfl, _, rfl, ite2
    (fun c => ⟨.ref a, rfl, .int j, rfl, a, _, j, .int (ns.getD j 0), rfl, rfl, hS, atI_nat ?_, ?_⟩)
    (fun c => ⟨.ref a, rfl, _, .inl ⟨_, hS, rfl⟩, ite2 (fun c2 => ⟨.ref a, rfl, a, _, 0, .int (ns.getD 0 0), rfl, rfl, hS, atN (j := 0) ?_ rfl, ?_⟩) (fun c2 => ?_)⟩)⟩
  · have h1 : j < ns.length := by
      have z := of_decide_eq_true c
      rw [List.length_map] at z
      omega
    rw [List.getElem?_map, List.getD_eq_getElem?_getD, List.getElem?_eq_getElem h1]
    rfl
  rotate_left
  · cases ns with
    | nil => cases c2
    | cons n ns => rfl
  all_goals
    refine ⟨_, rfl, .inl ⟨_, rfl, 1, rfl, _, rfl, _, _, rfl, rfl, .inl ⟨_, rfl, _, _, rfl, ?_⟩⟩⟩
    refine ⟨_, rfl, .inl ⟨_, rfl, _, 2147483629, rfl, rfl, by show (0 : Int) < 2147483629; decide, _, rfl, _, _, rfl, rfl, .inl ⟨by omega, by omega⟩, _, rfl, _, _, rfl, rfl, .inl ⟨by omega, by omega⟩, _, _, rfl, rfl, _, rfl, _, _, rfl, rfl, .inl ⟨by omega, by omega⟩, _, _, rfl, rfl, _, _, rfl, rfl, _, _, rfl, rfl, .inl ?_, .inl ⟨_, rfl, _, 2147483647, rfl, rfl, by show (0 : Int) < 2147483647; decide, ?_⟩⟩⟩
    · exact mixB hjj hk hk2
    · refine ⟨_, rfl, _, rfl, _, _, rfl, rfl, ⟨by decide, by decide, by decide⟩, _, _, rfl, rfl, .inr ⟨_, rfl, _, _, rfl, rfl, .inr (b01 _), _, rfl, by show 2 ≤ sizeLine; decide, fun p np => ?_⟩⟩
      refine q p _ np (Same.new np) ⟨_, _, upd_same, ?_, Int.emod_nonneg _ (by decide), Int.emod_lt_of_pos _ (by decide)⟩
      refine Int.mul_nonneg ?_ ?_
      · split <;> omega
      · exact b0 _
def sp__law_take (K : PySem.W.Frag) (cs : CS) : Sp := fun vs H Q E => ∃ (p : Addr) (t : Int), vs = [.ref p, .int t] ∧ Src H p ∧ 0 < t ∧ t < 2000000000 ∧ ∀ r H', 0 ≤ r → r < t → Src H' p → Exb p H H' → Q (.int r) H'
theorem ok__law_take (F : Fun K "_law_take" "_law_take" s__law_take f fd) (T : Txt P w K mg base cs)  : FnOk P w K mg base CX0 1 f fd ["source", "top"] (sp__law_take K cs) := by
  refine F.ok sc__law_take (fun vs H Q E h => ?_) (fun cdv A outer s H vs Q E hr h => ?_)
  · obtain ⟨p, t, rfl, _⟩ := h
    rfl
  obtain ⟨p, t, rfl, ⟨a, b, hp, ha, hb, hb2⟩, ht, ht2, q⟩ := h
  refine ⟨_, (pss_cons (ps_if (pt_cmpR op_gt (pe_ix (ixL K) (pv 0) pe_int (fun _ _ => rfl)) pe_int (nomark _)) (pss_cons (ps_set (i := 2) sc__law_take.nd rfl (Or.inl rfl) (pe_op op_mod (pe_callTy call_int1 (by rfl) T.n_int (by decide +kernel) (pa_cons (pe_ix (ixL K) (pv 0) pe_int (fun _ _ => rfl)) pa_nil)) (pv 1)))
      (pss_cons (ps_asg (pe_op op_fdivW (pe_ix (ixL K) (pv 0) pe_int (fun _ _ => rfl)) (pv 1)) (pg_sub (pv 0) pe_int set_list))
      (pss_one (ps_ret (pv 2))))) pss_nil)
      (pss_cons (ps_asg (pe_op op_mod (pe_callTy call_int1 (by rfl) T.n_int (by decide +kernel) (pa_cons (pe_op op_add (pe_op op_mul (pe_ix (ixL K) (pv 0) pe_int (fun _ _ => rfl)) pe_int) pe_int) pa_nil)) pe_int) (pg_sub (pv 0) pe_int set_list))
      (pss_one (ps_ret (pe_op op_mod (pe_callTy call_int1 (by rfl) T.n_int (by decide +kernel) (pa_cons (pe_op op_fdivW (pe_op op_mod (pe_callTy call_int1 (by rfl) T.n_int (by decide +kernel) (pa_cons (pe_op op_mul (pe_ix (ixL K) (pv 0) pe_int (fun _ _ => rfl)) (pe_ix (ixL K) (pv 0) pe_int (fun _ _ => rfl))) pa_nil)) pe_int) pe_int) pa_nil)) (pv 1)))))), ?_⟩
  -- source[0] > 0
  refine ⟨.ref p, rfl, p, _, 0, .int a, rfl, rfl, SqL.of hp, atI0, a, 0, rfl, rfl, _, rfl, ite2 (fun c => ?_) (fun c => ?_)⟩
  · -- drawn = int(source[0]) % top; source[0] = source[0] // top; return drawn
    refine ⟨.ref p, rfl, p, _, 0, .int a, rfl, rfl, SqL.of hp, atI0, .inl ⟨a, rfl, .int t, rfl, a, t, rfl, rfl, ht, ?_⟩⟩
    refine ⟨.ref p, rfl, p, _, 0, .int a, rfl, rfl, SqL.of hp, atI0, .int t, rfl, a, t, rfl, rfl, wide_div (b := 64) ht (by omega) (by decide) (by decide), ?_⟩
    refine ⟨.ref p, rfl, p, _, 0, 0, rfl, rfl, hp, rfl, ?_⟩
    refine ⟨.int (a % t), rfl, ?_⟩
    exact q _ _ (Int.emod_nonneg _ (by omega)) (Int.emod_lt_of_pos _ ht) ⟨a / t, b, upd_same, Int.ediv_nonneg ha (by omega), hb, hb2⟩ Exb.at
  · refine ⟨.ref p, rfl, p, _, 1, .int b, rfl, rfl, SqL.of hp, atI1, b, 39373, rfl, rfl, .inl ⟨by omega, by omega⟩, _, 7, rfl, rfl, .inl ⟨_, rfl, _, 2147483647, rfl, rfl, by show (0 : Int) < 2147483647; decide, ?_⟩⟩
    refine ⟨.ref p, rfl, p, _, 1, 1, rfl, rfl, hp, rfl, ?_⟩
    have h1 : (0 : Int) ≤ (b * 39373 + 7) % 2147483647 := Int.emod_nonneg _ (by decide)
    have h2 : (b * 39373 + 7) % 2147483647 < 2147483647 := Int.emod_lt_of_pos _ (by decide)
    have hp2 : (upd H p (.lst [.int a, .int ((b * 39373 + 7) % 2147483647)])) p = some (.lst [.int a, .int ((b * 39373 + 7) % 2147483647)]) := upd_same
    refine ⟨.ref p, rfl, p, [.int a, .int ((b * 39373 + 7) % 2147483647)], 1, _, rfl, rfl, SqL.of hp2, atI1, .ref p, rfl, p, [.int a, .int ((b * 39373 + 7) % 2147483647)], 1, _, rfl, rfl, SqL.of hp2, atI1, _, _, rfl, rfl, .inl ⟨by omega, by omega⟩, ?_⟩
    refine .inl ⟨_, rfl, _, 2147483629, rfl, rfl, by show (0 : Int) < 2147483629; decide, _, 32, rfl, rfl, ⟨by decide, by decide⟩, .inl ⟨_, rfl, .int t, rfl, _, t, rfl, rfl, ht, ?_⟩⟩
    exact q _ _ (Int.emod_nonneg _ (by omega)) (Int.emod_lt_of_pos _ ht) ⟨a, _, hp2, ha, h1, h2⟩ Exb.at
def sp__law_one (K : PySem.W.Frag) (cs : CS) : Sp := fun vs H Q E => ∃ (p a : Addr) (xs : List V), vs = [.ref p, .ref a] ∧ Src H p ∧ H a = some (.lst xs) ∧ a ≠ p ∧ 0 < xs.length ∧ xs.length < 1000000 ∧ ∀ v H', v ∈ xs → Src H' p → Exb p H H' → Q v H'
theorem ok__law_one (F : Fun K "_law_one" "_law_one" s__law_one f fd) (T : Txt P w K mg base cs) (c__law_take : Cal P w K mg base CX0 1 "_law_take" ["source", "top"] s__law_take (sp__law_take K cs)) : FnOk P w K mg base CX0 2 f fd ["source", "things"] (sp__law_one K cs) := by
  refine F.ok sc__law_one (fun vs H Q E h => ?_) (fun cdv A outer s H vs Q E hr h => ?_)
  · obtain ⟨p, a, xs, rfl, _⟩ := h
    rfl
  obtain ⟨p, a, xs, rfl, hs, ha, hne, h0, h1, q⟩ := h
  refine ⟨_, (pss_one (ps_ret (pe_ix (ixL K) (pv 1) (pe_cal c__law_take (hr.mono (by decide)) pass0 (pa_cons (pv 0) (pa_cons (pe_callB (lenS K) (by rfl) T.n_len PySem.boot_len (pa_cons (pv 1) pa_nil)) pa_nil))) (fun _ _ => rfl)))), ?_⟩
  refine ⟨.ref a, rfl, .ref p, rfl, .ref a, rfl, a, xs, rfl, .inl (SqL.of ha), p, xs.length, rfl, hs, by omega, by omega, fun r H' r0 r1 s' e => ?_⟩
  obtain ⟨j, rfl⟩ : ∃ j : Nat, r = (j : Int) := ⟨r.toNat, by omega⟩
  have hj : j < xs.length := by omega
  refine ⟨a, xs, j, xs[j], rfl, rfl, SqL.of (e.lst hne ha), atI_nat (List.getElem?_eq_getElem hj), ?_⟩
  exact q _ _ (List.getElem_mem hj) s' e
def LLC (H : Hp) (l : Addr) (q most n : Nat) : Prop := ∃ bs : List Addr, H l = some (.lst (bs.map V.ref)) ∧ bs.length = n ∧ ∀ (i : Nat) b, bs[i]? = some b → H b = some (.lst ((rowC q most i).map V.int))
theorem LLC.same {H H1 : Hp} {l : Addr} {q most n : Nat} (e : Same H H1) (h : LLC H l q most n) : LLC H1 l q most n := by
  obtain ⟨bs, h1, h2, h3⟩ := h
  exact ⟨bs, e _ _ h1, h2, fun i b hb => e _ _ (h3 i b hb)⟩
theorem LLC.exb {H H1 : Hp} {p l : Addr} {q most n : Nat} (hp : Src H p) (e : Exb p H H1) (h : LLC H l q most n) (hm : 9 ≤ most + 8) : LLC H1 l q most n := by
  obtain ⟨bs, h1, h2, h3⟩ := h
  obtain ⟨x, y, hx, _⟩ := hp
  refine ⟨bs, e _ _ (fun z => ?_) h1, h2, fun i b hb => e _ _ (fun z => ?_) (h3 i b hb)⟩
  · rw [z, hx] at h1
    have h1 := (HO.lst.inj (Option.some.inj h1))
    cases bs with
    | nil => cases h1
    | cons b bs => cases (List.cons.inj h1).1
  · have := h3 i b hb
    rw [z, hx] at this
    have := congrArg List.length (HO.lst.inj (Option.some.inj this))
    rw [List.length_map, rowC_len] at this
    have t2 : (2 : Nat) = most + 2 := this
    omega
def sp__law_counts (K : PySem.W.Frag) (cs : CS) : Sp := fun vs H Q E => ∃ q most : Nat, vs = [.int (q : Nat), .int (most : Nat)] ∧ 2 ≤ q ∧ q ≤ 8 ∧ 1 ≤ most ∧ most ≤ 41 ∧ ∀ l H', Same H H' → LLC H' l q most (most + 1) → Q (.ref l) H'
theorem ok__law_counts (F : Fun K "_law_counts" "_law_counts" s__law_counts f fd) (T : Txt P w K mg base cs)  : FnOk P w K mg base CX0 1 f fd ["q", "most"] (sp__law_counts K cs) := by
  refine F.ok sc__law_counts (fun vs H Q E h => ?_) (fun cdv A outer s H vs Q E hr h => ?_)
  · obtain ⟨q, most, rfl, _⟩ := h
    rfl
  obtain ⟨q, most, rfl, q2, q8, m1, m41, qq⟩ := h
  refine ⟨_, (pss_cons (ps_set (i := 2) sc__law_counts.nd rfl (Or.inl rfl) (pe_lst (pa_cons (pe_op op_cat (pe_lst (pa_cons pe_int pa_nil)) (pe_op op_rep (pe_lst (pa_cons pe_int pa_nil)) (pe_op op_add (pv 1) pe_int))) pa_nil)))
      (pss_cons (ps_for PassesOwn.never rfl (pi_range1 (by rfl) T.n_range (pa_cons (pv 1) pa_nil)) (pg_name (i := 3) sc__law_counts.nd rfl (Or.inl rfl)) (pss_cons (ps_set (i := 4) sc__law_counts.nd rfl (Or.inl rfl) (pe_ix (ixL K) (pv 2) (pe_un un_neg pe_int) (fun _ _ => rfl)))
      (pss_cons (ps_set (i := 5) sc__law_counts.nd rfl (Or.inl rfl) (pe_lst (pa_cons (pe_op op_mul (pv 0) (pe_ix (ixL K) (pv 4) pe_int (fun _ _ => rfl))) pa_nil)))
      (pss_cons (ps_for PassesOwn.never rfl (pi_range2 (by rfl) T.n_range (pa_cons pe_int (pa_cons (pe_op op_add (pv 1) pe_int) pa_nil))) (pg_name (i := 6) sc__law_counts.nd rfl (Or.inl rfl)) (pss_one (ps_expr (pe_bm PySem.F.plainAttrs_list PySem.F.slot_list_append PySem.F.type_list_append mt_append (pv 5) (pa_cons (pe_op op_add (pe_ix (ixL K) (pv 4) (pe_op op_sub (pv 6) pe_int) (fun _ _ => rfl)) (pe_op op_mul (pe_op op_sub (pv 0) pe_int) (pe_ix (ixL K) (pv 4) (pe_op op_add (pv 6) pe_int) (fun _ _ => rfl)))) pa_nil)))))
      (pss_one (ps_expr (pe_bm PySem.F.plainAttrs_list PySem.F.slot_list_append PySem.F.type_list_append mt_append (pv 2) (pa_cons (pe_op op_cat (pv 5) (pe_lst (pa_cons pe_int pa_nil))) pa_nil))))))))
      (pss_one (ps_ret (pv 2))))), ?_⟩
  refine ⟨by show 1 ≤ sizeLine; decide, fun a na => ⟨by show 1 ≤ sizeLine; decide, fun b nb => ?_⟩⟩
  refine ⟨_, rfl, _, 1, rfl, rfl, b, _, [.int 0], rfl, rfl, upd_same, by omega, by omega, small (by show 1 * _ ≤ _; omega), fun c nc => ?_⟩
  have ka := Same.new (o := .lst [.int 1]) na
  have kb := Same.new (o := .lst [.int 0]) nb
  have kc := Same.new (o := .lst (List.replicate ((most : Int) + 1).toNat [V.int 0]).flatten) nc
  have hrep : (List.replicate ((most : Int) + 1).toNat [V.int 0]).flatten = (List.replicate (most + 1) (0 : Int)).map V.int := by
    rw [flat_rep, List.map_replicate, show ((most : Int) + 1).toNat = most + 1 by omega]
  refine ⟨a, c, _, _, rfl, rfl, (kb.trans kc) _ _ upd_same, upd_same, small (by rw [hrep, List.length_map, List.length_replicate]; show 1 + _ ≤ _; omega), fun d nd => ?_⟩
  refine ⟨by show 1 ≤ sizeLine; decide, fun l nl => ?_⟩
  have kd := Same.new (o := .lst ([.int 1] ++ (List.replicate ((most : Int) + 1).toNat [V.int 0]).flatten)) nd
  have kl := Same.new (o := .lst [.ref d]) nl
  have k0 := (((ka.trans kb).trans kc).trans kd).trans kl
  have hd : _ = some (HO.lst ((rowC q most 0).map V.int)) := (kl d _ upd_same).trans (by rw [rowC_0, hrep]; rfl)
  have hl0 : H l = none := ((((ka.trans kb).trans kc).trans kd)).free nl
  refine ⟨_, rfl, _, rfl, by omega, by omega, ?_⟩
  rw [Int.toNat_natCast]
  refine for_range (fun t σ H' => (∃ y3 y4 y5 y6, σ = [some (.int (q : Nat)), some (.int (most : Nat)), some (.ref l), y3, y4, y5, y6]) ∧ Same H H' ∧ LLC H' l q most (t + 1)) ⟨⟨_, _, _, _, rfl⟩, k0, [d], upd_same, rfl, fun i b hb => ?_⟩ ?_ ?_
  · cases i with
    | zero => cases Option.some.inj hb; exact hd
    | succ i => cases hb
  · rintro t σ H1 ht ⟨⟨y3, y4, y5, y6, rfl⟩, sm, bs, hl, hbl, hbs⟩
    have hneL : ∀ i b, bs[i]? = some b → b ≠ l := fun i b hb z => by
      have h1 := hbs i b hb
      rw [z, hl] at h1
      have h1 := HO.lst.inj (Option.some.inj h1)
      cases bs with
      | nil => cases hb
      | cons c cs =>
        unfold rowC at h1
        rw [List.range_succ_eq_map] at h1
        cases (List.cons.inj h1).1
    have hbt : bs[t]? = some bs[t] := List.getElem?_eq_getElem (by omega)
    have hrow := hbs t _ hbt
    have hnl := hneL t _ hbt
    generalize bs[t] = b at *
    have gb : (bs.map V.ref)[t]? = some (.ref b) := by rw [List.getElem?_map, hbt]; rfl
    have rowAt : ∀ i, i ≤ most + 1 → ((rowC q most t).map V.int)[i]? = some (.int (evI q i t)) := fun i hi => by
      rw [List.getElem?_map]
      by_cases c : i ≤ most
      · rw [rowC_at c]; rfl
      · rw [show i = most + 1 by omega, rowC_end (by omega)]; rfl
    refine ⟨.ref l, rfl, 1, rfl, l, _, _, .ref b, rfl, rfl, SqL.of hl, atNeg gb (by rw [List.length_map]; omega), ?_⟩
    refine ⟨_, rfl, .ref b, rfl, b, _, _, _, rfl, rfl, SqL.of hrow, atN (rowAt 1 (by omega)) rfl, _, _, rfl, rfl, .inl ⟨by omega, by omega⟩, by show 1 ≤ sizeLine; decide, fun f_ nf => ?_⟩
    have kf := Same.new (o := .lst [.int ((q : Int) * evI q 1 t)]) nf
    have hf0 : (upd H1 f_ (.lst [.int ((q : Int) * evI q 1 t)])) f_ = some (.lst ((rowP q (t + 1) 1).map V.int)) := by
      rw [upd_same, ← evI_first (by omega)]
      rfl
    refine ⟨_, rfl, _, 1, rfl, rfl, 1, _, rfl, ⟨by omega, by omega, by omega, by omega⟩, ?_⟩
    rw [show ((most : Int) + 1 - 1).toNat = most by omega]
    refine for_range (fun k σ H' => (∃ y6, σ = [some (.int (q : Nat)), some (.int (most : Nat)), some (.ref l), some (.int (0 + (t : Int))), some (.ref b), some (.ref f_), y6]) ∧ Same H1 H' ∧ H' f_ = some (.lst ((rowP q (t + 1) (k + 1)).map V.int))) ⟨⟨_, rfl⟩, kf, hf0⟩ ?_ ?_
    · rintro k σ H2 hk ⟨⟨y6, rfl⟩, s2, hf⟩
      have hrow2 := s2 _ _ hrow
      have g1 := rowAt k (by omega)
      have g2 := rowAt (k + 2) (by omega)
      refine ⟨.ref f_, rfl, .inl ⟨rfl, _, SqL.of hf⟩, .ref b, rfl, _, rfl, _, 1, rfl, rfl, b, _, _, _, rfl, rfl, SqL.of hrow2, atN g1 (by omega), ?_⟩
      refine ⟨_, rfl, _, 1, rfl, rfl, .ref b, rfl, _, rfl, _, 1, rfl, rfl, b, _, _, _, rfl, rfl, SqL.of hrow2, atN g2 (by omega), _, _, rfl, rfl, .inl ⟨by omega, by omega⟩, _, _, rfl, rfl, ?_⟩
      refine ⟨f_, _, _, rfl, rfl, hf, smallLt (by unfold rowP; rw [List.length_map, List.length_map, List.length_range]; omega), ?_⟩
      refine ⟨⟨_, rfl⟩, s2.mut nf, ?_⟩
      rw [upd_same, rowP_succ (k := k + 1), List.map_append, evI_step (L := t) (by omega)]
      rfl
    · rintro σ H2 ⟨⟨y6, rfl⟩, s2, hf⟩
      have hl2 := s2 _ _ hl
      refine ⟨.ref l, rfl, .inl ⟨rfl, _, SqL.of hl2⟩, .ref f_, rfl, by show 1 ≤ sizeLine; decide, fun z nz => ?_⟩
      have kz := Same.new (o := .lst [.int 0]) nz
      have hlen : ((rowP q (t + 1) (most + 1)).map V.int).length = most + 1 := by unfold rowP; rw [List.length_map, List.length_map, List.length_range]
      refine ⟨f_, z, _, _, rfl, rfl, kz _ _ hf, upd_same, small (by rw [hlen]; show _ + 1 ≤ _; omega), fun r nr => ?_⟩
      have kr := Same.new (o := .lst ((rowP q (t + 1) (most + 1)).map V.int ++ [.int 0])) nr
      have s4 := (s2.trans kz).trans kr
      refine ⟨l, _, _, rfl, rfl, s4 _ _ hl, smallLt (by rw [List.length_map]; omega), ?_⟩
      have hr2 : (upd (upd H2 z (.lst [.int 0])) r (.lst ((rowP q (t + 1) (most + 1)).map V.int ++ [.int 0]))) r = some (.lst ((rowC q most (t + 1)).map V.int)) := by
        rw [upd_same, ← rowP_end, List.map_append]
        rfl
      have hrl : r ≠ l := fun zz => by rw [← zz, (s2.trans kz).free nr] at hl; cases hl
      refine ⟨⟨_, _, _, _, rfl⟩, (sm.trans s4).mut hl0, bs ++ [r], by rw [upd_same, List.map_append]; rfl, by rw [List.length_append, hbl]; rfl, fun i c hc => ?_⟩
      by_cases ci : i < bs.length
      · rw [List.getElem?_append_left ci] at hc
        rw [upd_ne (hneL i c hc)]
        exact s4 _ _ (hbs i c hc)
      · rw [List.getElem?_append_right (by omega)] at hc
        have hi : i = t + 1 := by
          by_cases w : i - bs.length = 0
          · omega
          · rw [List.getElem?_eq_none (by show 1 ≤ _; omega)] at hc
            cases hc
        rw [hi, hbl, Nat.sub_self] at hc
        cases Option.some.inj hc
        rw [upd_ne hrl, hi]
        exact hr2
  · rintro σ H1 ⟨⟨y3, y4, y5, y6, rfl⟩, sm, h⟩
    exact ⟨_, rfl, qq l H1 sm h⟩
def sp__law_told (K : PySem.W.Frag) (cs : CS) : Sp := fun vs H Q E => ∃ (q m L x : Int), vs = [.int q, .int m, .int L] ∧ badE q m L = some x ∧ ∀ y H', Same H H' → SqT K H' y [.str "count", .int x] → Q (.ref y) H'
theorem ok__law_told (F : Fun K "_law_told" "_law_told" s__law_told f fd) (T : Txt P w K mg base cs) (c_even_count : Cal P w K mg base (L2.CX P w) 4 "even_count" ["q", "m", "L"] s_even_count (sp_even_count K cs)) : FnOk P w K mg base CX0 5 f fd ["q", "m", "L"] (sp__law_told K cs) := by
  refine F.ok sc__law_told (fun vs H Q E h => ?_) (fun cdv A outer s H vs Q E hr h => ?_)
  · obtain ⟨q, m, L, x, rfl, _⟩ := h
    rfl
  obtain ⟨q, m, L, x, rfl, hx, ho⟩ := h
  refine ⟨_, (pss_one (ps_try_as (i := 3) (tb := fun W => (tRet (tCallKS (sp_even_count K cs) kb_even_count_m_L_q_g (WE W) (tCons (tVar 1) (tCons (tVar 2) (tCons (tVar 0) tNil)))))) (ts := fun a cls d => (tRet (tTup (tCons (tIf (tB (tCB (rIsX K a cls d) (tCons (tVar 3) (tCons (tC (V.ref cs.BadCount)) tNil)))) (tC (V.str "count")) (tC (V.str "other"))) (tCons (tWhat K a cls d (tVar 3)) tNil))))) (Wout := fun _ _ _ _ => False) rfl rfl sc__law_told.nd rfl rfl ⟨rfl, by decide, Or.inl T.gm_Refused⟩ takes0 (fun W pn xe tk _ => (pss_one (ps_ret (pe_calKS0 c_even_count kb_even_count_m_L_q (hr.mono (by decide)) tk (pk_cons (pv 1) (pk_cons (pv 2) (pk_cons (pv 0) pk_nil))))))) (fun a oe cls d pn hz hf => (pss_one (ps_ret (pe_tup (pa_cons (pe_ifExp (pt_val (pe_callB (isX K hz hf) (by rfl) T.n_isinstance (by decide +kernel) (pa_cons (pv 3) (pa_cons (pe_glob rfl T.gm_BadCount rfl) pa_nil)))) pe_str pe_str) (pa_cons (whatX K hz hf (pv 3)) pa_nil)))))))), ?_⟩
  refine ⟨_, rfl, _, rfl, _, rfl, q, m, L, rfl, fun _ _ _ _ _ _ z => absurd (hx.symm.trans z) (fun w => by cases w), fun x2 hx2 d nd => ?_⟩
  cases Option.some.inj (hx.symm.trans hx2)
  refine ⟨true, T.ex_BadCount_Refused, fun _ a na => ?_, fun z => Bool.noConfusion z⟩
  refine ⟨_, rfl, cs.BadCount, .ref cs.BadCount, .ref cs.BadCount, true, d, _, rfl, rfl, T.xc_BadCount, fun u h => h, T.ki_BadCount_BadCount, rfl, upd_same, _, rfl, iteT ?_⟩
  refine ⟨_, rfl, rfl, cs.BadCount, d, _, rfl, T.xc_BadCount, rfl, upd_same, by show 2 ≤ sizeLine; decide, fun y ny => ?_⟩
  exact ho y _ ((Same.new nd).trans (Same.new ny)) (SqT.of upd_same)
theorem LLC.get {H : Hp} {l : Addr} {q most n : Nat} (h : LLC H l q most n) : ∃ us : List V, H l = some (.lst us) ∧ us.length = n ∧ ∀ i, i < n → ∃ b, us[i]? = some (.ref b) ∧ H b = some (.lst ((rowC q most i).map V.int)) := by
  obtain ⟨bs, h1, h2, h3⟩ := h
  refine ⟨_, h1, by rw [List.length_map, h2], fun i hi => ⟨bs[i]'(by omega), ?_, h3 i _ (List.getElem?_eq_getElem (by omega))⟩⟩
  rw [List.getElem?_map, List.getElem?_eq_getElem (by omega)]
  rfl
def evRow (q m n : Nat) : List Int := (List.range' 0 n).map fun L => evI q m L
theorem evRow_sh {q m n : Nat} (h1 : 1 ≤ q) (h8 : q ≤ 8) (hn : n ≤ 13) : Sh 13 1 (.list ((evRow q m n).map PyData.int)) := by
  have := Sh.lst (b := 0) (k := 0) (m := 13) (ds := (evRow q m n).map PyData.int) (fun d hd => by
    obtain ⟨c, hc, rfl⟩ := List.mem_map.mp hd
    obtain ⟨L, hL, rfl⟩ := List.mem_map.mp hc
    have := List.mem_range'_1.mp hL
    exact Sh.int (evI_small h1 h8 (by omega))) (by unfold evRow; rw [List.length_map, List.length_map, List.length_range']; exact hn)
  exact this
theorem told_sh {x : Int} (h : x.natAbs < 2 ^ 60) : Sh 300 3 (.tuple [.str "count", .int x]) :=
  (Sh.pair (b := 72) (k := 2) ⟨by decide, by decide, by decide, by decide, by decide⟩ ((Sh.int h).le (by decide) (by decide))).le (by decide) (by decide)
theorem ev_log {q m L : Nat} (h1 : 1 ≤ q) (h8 : q ≤ 8) (hL : L ≤ 41) : (evI q m L).natAbs.log2 < 1920 := by
  have h := evI_abs (m := m) h1 h8 hL
  rcases Nat.eq_zero_or_pos (evI q m L).natAbs with z | z
  · rw [z]; decide
  · have := (Nat.log2_lt (k := 124) (Nat.pos_iff_ne_zero.mp z)).mpr h
    omega
def badP (x y z : Int) : List (Int × Int × Int) := [(x, 2, 8), (y, 0, 40), (z, 0, 40)]
def badF (e : Int × Int × Int) : Bool := !(decide (e.2.1 ≤ e.1) && decide (e.1 ≤ e.2.2))
def badLs (l : List (Int × Int × Int)) : List Int := (l.filter badF).map (·.1)
theorem badLs_head {x y z : Int} : (badLs (badP x y z)).head? = badE x y z := by
  unfold badLs badP badE
  have b : ∀ e : Int × Int × Int, badF e = decide ¬ (e.2.1 ≤ e.1 ∧ e.1 ≤ e.2.2) := fun e => by
    unfold badF
    rw [decide_not, Bool.decide_and]
  simp only [List.filter_cons, b, List.filter_nil, decide_eq_true_eq]
  split
  · simp
  · split
    · simp
    · split
      · simp
      · simp
theorem badLs_len (x y z : Int) (i : Nat) : (badLs ((badP x y z).take i)).length ≤ 3 := by
  unfold badLs
  rw [List.length_map]
  refine Nat.le_trans (List.length_filter_le _ _) ?_
  rw [List.length_take]
  exact Nat.min_le_right _ _
theorem badLs_mem {x y z c : Int} (h : c ∈ badLs (badP x y z)) : c = x ∨ c = y ∨ c = z := by
  obtain ⟨e, he, rfl⟩ := List.mem_map.mp h
  have := (List.mem_filter.mp he).1
  simp only [badP, List.mem_cons, List.not_mem_nil, or_false] at this
  rcases this with rfl | rfl | rfl <;> simp
theorem wipe1 {σ : L2.St} {j : Nat} {x : Option V} : wipe ((wipe σ [j]).set j x) [j] = wipe σ [j] := by
  show ((σ.set j none).set j x).set j none = σ.set j none
  rw [List.set_set, List.set_set]
def sp_law (K : PySem.W.Frag) (cs : CS) : Sp := fun vs H Q E => ∃ (a : Addr) (ns : List Int), vs = [.ref a] ∧ SqL K H a (ns.map V.int) ∧ ns.length ≤ 63 ∧ ∀ H', Q (.bl true) H'
theorem ok_law (F : Fun K "law" "law" s_law f fd) (T : Txt P w K mg base cs) (c_even_count : Cal P w K mg base (L2.CX P w) 4 "even_count" ["q", "m", "L"] s_even_count (sp_even_count K cs)) (c__law_pool : Cal P w K mg base CX0 1 "_law_pool" ["script", "k"] s__law_pool (sp__law_pool K cs)) (c__law_take : Cal P w K mg base CX0 1 "_law_take" ["source", "top"] s__law_take (sp__law_take K cs)) (c__law_one : Cal P w K mg base CX0 2 "_law_one" ["source", "things"] s__law_one (sp__law_one K cs)) (c__law_counts : Cal P w K mg base CX0 1 "_law_counts" ["q", "most"] s__law_counts (sp__law_counts K cs)) (c__law_told : Cal P w K mg base CX0 5 "_law_told" ["q", "m", "L"] s__law_told (sp__law_told K cs)) : FnG P w K mg base CX0 6 f fd ["script"] (sp_law K cs) := by
  refine fnG_of F sc_law (fun vs H Q E h => ?_) (fun cdv A outer s H vs Q E hg hr h => ?_)
  · obtain ⟨a, ns, rfl, _⟩ := h
    rfl
  obtain ⟨a, ns, rfl, hS, hz, q⟩ := h
  refine ⟨_, (PSs.nox (pss_cons (ps_set (i := 1) sc_law.nd rfl (Or.inl rfl) (pe_cal c__law_pool (hr.mono (by decide)) pass0 (pa_cons (pv 0) (pa_cons pe_int pa_nil))))
      (Evl.pss_cut (ps_asg (pe_tup (pa_cons (pe_op op_add pe_int (pe_cal c__law_take (hr.mono (by decide)) pass0 (pa_cons (pv 1) (pa_cons pe_int pa_nil)))) (pa_cons (pe_op op_add pe_int (pe_cal c__law_take (hr.mono (by decide)) pass0 (pa_cons (pv 1) (pa_cons pe_int pa_nil)))) pa_nil))) (pg_tup rfl (pgs_cons (pg_name (i := 2) sc_law.nd rfl (Or.inr rfl)) (pgs_cons (pg_name (i := 3) sc_law.nd rfl (Or.inl rfl)) pgs_nil))))
      (pss_cons (ps_set (i := 4) sc_law.nd rfl (Or.inr rfl) (pe_cal c__law_counts (hr.mono (by decide)) pass0 (pa_cons (pv 2) (pa_cons (pe_op op_add (pv 3) pe_int) pa_nil))))
      (pss_cons (ps_for PassesOwn.never rfl (pi_range1 (by rfl) T.n_range (pa_cons (pe_op op_add (pv 3) pe_int) pa_nil)) (pg_name (i := 5) sc_law.nd rfl (Or.inr rfl)) (pss_one (ps_if (pt_cmpR op_ne (pe_callB (reprD K hg hr) (by rfl) T.n_repr (by decide +kernel) (pa_cons (pe_lc (own := [("L", 15)]) rfl sc_law.nd (pi_range1 (by rfl) T.n_range (pa_cons (pe_op op_add (pv 3) pe_int) pa_nil)) (blkOk_by (own := [("L", 15)]) (N := ["script", "source", "q", "most", "counts", "m", "far", "turn", "numbers", "change", "at", "bad", "number", "least", "limit", "L"]) (sc := defScope s_law) (by decide +kernel)) (fun _ _ _ _ _ => (pg_name (i := 15) sc_law.nd rfl (Or.inl rfl))) (fun _ _ _ _ _ => pts_nil) (fun _ _ _ _ _ => (pe_cal c_even_count (hr.mono (by decide)) (passes_call (E := fun _ _ _ => False) takes0 (fun _ _ _ _ h => h)) (pa_cons (pv 2) (pa_cons (pv 5) (pa_cons (pv 15) pa_nil)))))) pa_nil)) (pe_callB (reprD K hg hr) (by rfl) T.n_repr (by decide +kernel) (pa_cons (pe_lc (own := [("L", 15)]) rfl sc_law.nd (pi_range1 (by rfl) T.n_range (pa_cons (pe_op op_add (pv 3) pe_int) pa_nil)) (blkOk_by (own := [("L", 15)]) (N := ["script", "source", "q", "most", "counts", "m", "far", "turn", "numbers", "change", "at", "bad", "number", "least", "limit", "L"]) (sc := defScope s_law) (by decide +kernel)) (fun _ _ _ _ _ => (pg_name (i := 15) sc_law.nd rfl (Or.inl rfl))) (fun _ _ _ _ _ => pts_nil) (fun _ _ _ _ _ => (pe_ix (ixL K) (pe_ix (ixL K) (pv 4) (pv 15) (fun _ _ => rfl)) (pv 5) (fun _ _ => rfl)))) pa_nil)) (nomark _)) (pss_one (ps_ret pe_bl)) pss_nil)))
      (Evl.pss_cut (ps_asg (pe_tup (pa_cons (pe_cal c__law_counts (hr.mono (by decide)) pass0 (pa_cons (pv 2) (pa_cons pe_int pa_nil))) (pa_cons (pe_op op_add pe_int (pe_cal c__law_take (hr.mono (by decide)) pass0 (pa_cons (pv 1) (pa_cons pe_int pa_nil)))) pa_nil))) (pg_tup rfl (pgs_cons (pg_name (i := 4) sc_law.nd rfl (Or.inr rfl)) (pgs_cons (pg_name (i := 6) sc_law.nd rfl (Or.inl rfl)) pgs_nil))))
      (pss_cons (ps_for PassesOwn.never rfl (pi_range1 (by rfl) T.n_range (pa_cons pe_int pa_nil)) (pg_name (i := 7) sc_law.nd rfl (Or.inl rfl)) (pss_cons (ps_set (i := 5) sc_law.nd rfl (Or.inr rfl) (pe_cal c__law_take (hr.mono (by decide)) pass0 (pa_cons (pv 1) (pa_cons pe_int pa_nil))))
      (pss_one (ps_if (pt_cmpR op_ne (pe_callB reprS (by rfl) T.n_repr (by decide +kernel) (pa_cons (pe_cal c_even_count (hr.mono (by decide)) (passes_call (E := fun _ _ _ => False) takes0 (fun _ _ _ _ h => h)) (pa_cons (pv 2) (pa_cons (pv 5) (pa_cons (pv 6) pa_nil)))) pa_nil)) (pe_callB reprS (by rfl) T.n_repr (by decide +kernel) (pa_cons (pe_ix (ixL K) (pe_ix (ixL K) (pv 4) (pv 6) (fun _ _ => rfl)) (pv 5) (fun _ _ => rfl)) pa_nil)) (nomark _)) (pss_one (ps_ret pe_bl)) pss_nil))))
      (pss_cons (ps_for PassesOwn.never rfl (pi_range1 (by rfl) T.n_range (pa_cons pe_int pa_nil)) (pg_name (i := 7) sc_law.nd rfl (Or.inl rfl)) (pss_cons (ps_set (i := 8) sc_law.nd rfl (Or.inl rfl) (pe_lst (pa_cons (pv 2) (pa_cons (pe_cal c__law_take (hr.mono (by decide)) pass0 (pa_cons (pv 1) (pa_cons pe_int pa_nil))) (pa_cons (pv 6) pa_nil)))))
      (pss_cons (ps_for PassesOwn.never rfl (pi_range1 (by rfl) T.n_range (pa_cons (pe_op op_add pe_int (pe_cal c__law_take (hr.mono (by decide)) pass0 (pa_cons (pv 1) (pa_cons pe_int pa_nil)))) pa_nil)) (pg_name (i := 9) sc_law.nd rfl (Or.inl rfl)) (pss_cons (ps_set (i := 10) sc_law.nd rfl (Or.inl rfl) (pe_cal c__law_take (hr.mono (by decide)) pass0 (pa_cons (pv 1) (pa_cons pe_int pa_nil))))
      (pss_one (ps_asg (pe_ifExp (pt_cmpR op_eq (pv 10) pe_int (nomark _)) (pe_cal c__law_one (hr.mono (by decide)) pass0 (pa_cons (pv 1) (pa_cons (pe_lst (pa_cons (pe_un un_neg pe_int) (pa_cons pe_int (pa_cons pe_int (pa_cons pe_int (pa_cons (pe_op op_pow pe_int pe_int) pa_nil)))))) pa_nil))) (pe_cal c__law_one (hr.mono (by decide)) pass0 (pa_cons (pv 1) (pa_cons (pe_lst (pa_cons (pe_un un_neg pe_int) (pa_cons pe_int (pa_cons (pe_op op_pow pe_int pe_int) pa_nil)))) pa_nil)))) (pg_sub (pv 8) (pv 10) set_list)))))
      (pss_cons (ps_setLc (i := 11) (own := [("number", 12), ("least", 13), ("limit", 14)]) rfl sc_law.nd rfl rfl (sw_true rfl rfl rfl (by decide +kernel)) (piZip3 K T.n_zip (pa_cons (pv 8) (pa_cons (pe_lst (pa_cons pe_int (pa_cons pe_int (pa_cons pe_int pa_nil)))) (pa_cons (pe_lst (pa_cons pe_int (pa_cons pe_int (pa_cons pe_int pa_nil)))) pa_nil)))) (blkOk_by (own := [("number", 12), ("least", 13), ("limit", 14)]) (N := ["script", "source", "q", "most", "counts", "m", "far", "turn", "numbers", "change", "at", "bad", "number", "least", "limit", "L"]) (sc := defScope s_law) (by decide +kernel)) (fun _ _ _ _ _ => (pg_tupK (n := 3) K rfl (pgs_cons (pg_name (i := 12) sc_law.nd rfl (Or.inl rfl)) (pgs_cons (pg_name (i := 13) sc_law.nd rfl (Or.inl rfl)) (pgs_cons (pg_name (i := 14) sc_law.nd rfl (Or.inl rfl)) pgs_nil))))) (fun _ _ _ _ _ => (pts_one (pt_not (pt_chain op_le op_le (pv 13) (pv 12) (pv 14))))) (fun _ _ _ _ _ => (pv 12)))
      (pss_one (ps_if (PW.pt (pw_and (pt_cmpR (neD K hr.units) (pv 11) (pe_lst pa_nil) (nomark _)) (pw_and1 (pt_cmpR op_ne (pe_callB (reprD K hg hr) (by rfl) T.n_repr (by decide +kernel) (pa_cons (pe_cal c__law_told (hr.mono (by decide)) pass0 (pa_cons (pe_ix (ixL K) (pv 8) pe_int (fun _ _ => rfl)) (pa_cons (pe_ix (ixL K) (pv 8) pe_int (fun _ _ => rfl)) (pa_cons (pe_ix (ixL K) (pv 8) pe_int (fun _ _ => rfl)) pa_nil)))) pa_nil)) (pe_callB (reprD K hg hr) (by rfl) T.n_repr (by decide +kernel) (pa_cons (pe_tup (pa_cons pe_str (pa_cons (pe_ix (ixL K) (pv 11) pe_int (fun _ _ => rfl)) pa_nil))) pa_nil)) (nomark _))))) (pss_one (ps_ret pe_bl)) pss_nil))))))
      (pss_one (ps_ret pe_bl)))))))))), ?_⟩
  have e60 : (2 : Nat) ^ 60 = 1152921504606846976 := by decide
  refine ⟨.ref a, rfl, a, ns, 0, rfl, hS, by decide, by decide, fun p H1 np s1 hs1 => ?_⟩
  refine ⟨fun σ' H' => ∃ qn mn : Nat, σ' = [some (.ref a), some (.ref p), some (.int (qn : Nat)), some (.int (mn : Nat)), none, none, none, none, none, none, none, none, none, none, none, none] ∧ 2 ≤ qn ∧ qn ≤ 8 ∧ 4 ≤ mn ∧ mn ≤ 12 ∧ Src H' p, ?_, ?_⟩
  · refine ⟨.ref p, rfl, p, 7, rfl, hs1, by decide, by decide, fun r H2 r0 r1 hs2 e2 => ⟨2, r, rfl, rfl, .ref p, rfl, p, 9, rfl, hs2, by decide, by decide, fun u H3 u0 u1 hs3 e3 => ⟨4, u, rfl, rfl, by show 2 ≤ sizeLine; decide, fun t nt => ?_⟩⟩⟩
    refine ⟨t, _, rfl, SqT.of upd_same, rfl, _, _, rfl, _, _, rfl, rfl, ?_⟩
    refine ⟨(2 + r).toNat, (4 + u).toNat, ?_, by omega, by omega, by omega, by omega, (Same.new nt).src hs3⟩
    rw [show (((2 + r).toNat : Nat) : Int) = 2 + r by omega, show (((4 + u).toNat : Nat) : Int) = 4 + u by omega]
    rfl
  rintro σ' H2 ⟨qn, mn, rfl, q2, q8, m4, m12, hs2⟩
  refine ⟨_, rfl, _, rfl, _, 1, rfl, rfl, qn, mn + 1, rfl, q2, q8, by omega, by omega, fun l H3 s3 hC => ?_⟩
  have hs3 := s3.src hs2
  dsimp only
  refine ⟨_, rfl, _, 1, rfl, rfl, _, rfl, by omega, by omega, ?_⟩
  rw [show ((mn : Int) + 1).toNat = mn + 1 by omega]
  refine for_range (fun m σ H' => (∃ y5, σ = [some (.ref a), some (.ref p), some (.int (qn : Nat)), some (.int (mn : Nat)), some (.ref l), y5, none, none, none, none, none, none, none, none, none, none]) ∧ Src H' p ∧ LLC H' l qn (mn + 1) (mn + 2)) ⟨⟨_, rfl⟩, hs3, hC⟩ ?_ ?_
  · rintro m σ H4 hm ⟨⟨y5, rfl⟩, hs4, hC4⟩
    refine ⟨_, rfl, _, 1, rfl, rfl, _, rfl, by omega, by omega, fun D nD => ?_⟩
    rw [show ((mn : Int) + 1).toNat = mn + 1 by omega]
    refine lc_rd (fun k => .int (0 + (k : Int))) walk_range (fun _ _ _ _ y _ => y) (fun i v _ => v = .int (evI qn m i)) nD (by omega) (fun _ => wipe1) (fun _ _ => trivial) (fun _ _ _ _ _ h => h) (fun k hk H' Q' s h => ?_) (fun xs H5 hx hD s5 hv => ?_) (fun _ _ _ _ _ h _ => h)
    · refine ⟨_, rfl, _, rfl, _, rfl, _, _, _, rfl, fun a1 a2 a3 e1 e2 e3 _ => h _ _ (Same.refl _) ?_, fun x hx => ?_⟩
      · rw [show a1 = qn by omega, show a2 = m by omega, show a3 = k by omega]
      · rw [badE_no ⟨by omega, by omega⟩ ⟨by omega, by omega⟩ ⟨by omega, by omega⟩] at hx
        cases hx
    have hxs := ints_of (f := fun i => evI qn m i) (xs := xs) 0 fun i v e => by rw [Nat.zero_add]; exact hv i v e
    rw [hx] at hxs
    rw [hxs] at hD
    have sh := evRow_sh (q := qn) (m := m) (n := mn + 1) (by omega) q8 (by omega)
    refine ⟨D, .list ((evRow qn m (mn + 1)).map PyData.int), rfl, dpL (SqL.of hD), sh.sh, sh.nod, Nat.lt_of_le_of_lt sh.dp (by decide), sh.fits (by decide), ?_⟩
    refine ⟨_, rfl, _, 1, rfl, rfl, _, rfl, by omega, by omega, fun D2 nD2 => ?_⟩
    rw [show ((mn : Int) + 1).toNat = mn + 1 by omega]
    have hC5 := hC4.same s5
    obtain ⟨us, hl5, hul5, hat5⟩ := hC5.get
    refine lc_rd (fun k => .int (0 + (k : Int))) walk_range (fun _ _ _ _ y _ => y) (fun i v _ => v = .int (evI qn m i)) nD2 (by omega) (fun _ => wipe1) (fun _ _ => trivial) (fun _ _ _ _ _ h => h) (fun k hk H' Q' s h => ?_) (fun xs2 H6 hx2 hD2 s6 hv2 => ?_) (fun _ _ _ _ _ h _ => h)
    · obtain ⟨b, hb1, hb2⟩ := hat5 k (by omega)
      have hg : ((rowC qn (mn + 1) k).map V.int)[m]? = some (.int (evI qn m k)) := by rw [List.getElem?_map, rowC_at (by omega)]; rfl
      exact ⟨.ref l, rfl, _, rfl, l, _, _, .ref b, rfl, rfl, SqL.of (s _ _ hl5), atN hb1 (by omega), _, rfl, b, _, _, _, rfl, rfl, SqL.of (s _ _ hb2), atN hg (by omega), h _ _ (Same.refl _) rfl⟩
    have hxs2 := ints_of (f := fun i => evI qn m i) (xs := xs2) 0 fun i v e => by rw [Nat.zero_add]; exact hv2 i v e
    rw [hx2] at hxs2
    rw [hxs2] at hD2
    refine ⟨D2, .list ((evRow qn m (mn + 1)).map PyData.int), rfl, dpL (SqL.of hD2), sh.sh, sh.nod, Nat.lt_of_le_of_lt sh.dp (by decide), sh.fits (by decide), ?_⟩
    exact ⟨rfl, _, rfl, itF (by simp) ⟨⟨_, rfl⟩, (s5.trans s6).src hs4, hC5.same s6⟩⟩
  rintro σ H4 ⟨⟨y5, rfl⟩, hs4, hC4⟩
  dsimp only
  refine ⟨fun σ' H' => ∃ (l : Addr) (fn : Nat) (y5 : Option V), σ' = [some (.ref a), some (.ref p), some (.int (qn : Nat)), some (.int (mn : Nat)), some (.ref l), y5, some (.int (fn : Nat)), none, none, none, none, none, none, none, none, none] ∧ 39 ≤ fn ∧ fn ≤ 40 ∧ Src H' p ∧ LLC H' l qn 41 42, ?_, ?_⟩
  · refine ⟨_, rfl, qn, 41, rfl, q2, q8, by decide, by decide, fun l H5 s5 hC5 => ?_⟩
    refine ⟨.ref p, rfl, p, 2, rfl, s5.src hs4, by decide, by decide, fun u H6 u0 u1 hs6 e6 => ⟨39, u, rfl, rfl, by show 2 ≤ sizeLine; decide, fun t nt => ?_⟩⟩
    refine ⟨t, _, rfl, SqT.of upd_same, rfl, _, _, rfl, _, _, rfl, rfl, ?_⟩
    refine ⟨l, (39 + u).toNat, y5, ?_, by omega, by omega, (Same.new nt).src hs6, (hC5.exb (s5.src hs4) e6 (by decide)).same (Same.new nt)⟩
    rw [show (((39 + u).toNat : Nat) : Int) = 39 + u by omega]
    rfl
  clear hC4 hC s3 hs3 hs4
  rintro σ' H3 ⟨l, fn, y5, rfl, f39, f40, hs3, hC3⟩
  refine ⟨_, rfl, by decide, by decide, ?_⟩
  refine for_range (fun k σ H' => (∃ y5 y7, σ = [some (.ref a), some (.ref p), some (.int (qn : Nat)), some (.int (mn : Nat)), some (.ref l), y5, some (.int (fn : Nat)), y7, none, none, none, none, none, none, none, none]) ∧ Src H' p ∧ LLC H' l qn 41 42) ⟨⟨_, _, rfl⟩, hs3, hC3⟩ ?_ ?_
  · rintro k σ H4 hk ⟨⟨y5, y7, rfl⟩, hs4, hC4⟩
    refine ⟨.ref p, rfl, p, 41, rfl, hs4, by decide, by decide, fun m H5 m0 m1 hs5 e5 => ?_⟩
    obtain ⟨m, rfl⟩ : ∃ n : Nat, m = (n : Nat) := ⟨m.toNat, by omega⟩
    have hC5 := hC4.exb hs4 e5 (by decide)
    obtain ⟨us, hl5, hul5, hat5⟩ := hC5.get
    obtain ⟨b, hb1, hb2⟩ := hat5 fn (by omega)
    have hg : ((rowC qn 41 fn).map V.int)[m]? = some (.int (evI qn m fn)) := by rw [List.getElem?_map, rowC_at (by omega)]; rfl
    have hlog := ev_log (q := qn) (m := m) (L := fn) (by omega) q8 (by omega)
    refine ⟨_, rfl, _, rfl, _, rfl, _, _, _, rfl, fun a1 a2 a3 e1 e2 e3 _ => ?_, fun x hx => ?_⟩
    · rw [show a1 = qn by omega, show a2 = m by omega, show a3 = fn by omega]
      refine ⟨_, rfl, .inr ⟨_, rfl, hlog, ?_⟩⟩
      refine ⟨.ref l, rfl, _, rfl, l, _, _, .ref b, rfl, rfl, SqL.of hl5, atN hb1 rfl, _, rfl, b, _, _, _, rfl, rfl, SqL.of hb2, atN hg rfl, _, rfl, .inr ⟨_, rfl, hlog, ?_⟩⟩
      refine ⟨by simp [scal], ?_⟩
      exact ⟨_, rfl, itF (by simp) ⟨⟨_, _, rfl⟩, hs5, hC5⟩⟩
    · rw [badE_no ⟨by omega, by omega⟩ ⟨by omega, by omega⟩ ⟨by omega, by omega⟩] at hx
      cases hx
  rintro σ H4 ⟨⟨y5, y7, rfl⟩, hs4, hC4⟩
  clear hC4 hC3 hs3
  refine ⟨_, rfl, by decide, by decide, ?_⟩
  refine for_range (fun k σ H' => (∃ y5 y7 y8 y9 y10 y11, σ = [some (.ref a), some (.ref p), some (.int (qn : Nat)), some (.int (mn : Nat)), some (.ref l), y5, some (.int (fn : Nat)), y7, y8, y9, y10, y11, none, none, none, none]) ∧ Src H' p) ⟨⟨_, _, _, _, _, _, rfl⟩, hs4⟩ ?_ ?_
  · rintro k σ H5 hk ⟨⟨y5, y7, y8, y9, y10, y11, rfl⟩, hs5⟩
    refine ⟨_, rfl, .ref p, rfl, p, 41, rfl, hs5, by decide, by decide, fun m H6 m0 m1 hs6 e6 => ⟨_, rfl, by show 3 ≤ sizeLine; decide, fun nl nnl => ?_⟩⟩
    have hn0 : (upd H6 nl (.lst [.int (qn : Nat), .int m, .int (fn : Nat)])) nl = some (.lst [.int (qn : Nat), .int m, .int (fn : Nat)]) := upd_same
    have nlp := hs6.ne nnl
    have hs7 := hs6.put (o := .lst [.int (qn : Nat), .int m, .int (fn : Nat)]) nlp
    generalize upd H6 nl (.lst [.int (qn : Nat), .int m, .int (fn : Nat)]) = H7 at *
    dsimp only
    refine ⟨.ref p, rfl, p, 3, rfl, hs7, by decide, by decide, fun c H8 c0 c1 hs8 e8 => ⟨1, c, rfl, rfl, _, rfl, by omega, by omega, ?_⟩⟩
    refine for_range (fun _ σ H' => (∃ y9 y10, σ = [some (.ref a), some (.ref p), some (.int (qn : Nat)), some (.int (mn : Nat)), some (.ref l), y5, some (.int (fn : Nat)), some (.int (0 + (k : Int))), some (.ref nl), y9, y10, y11, none, none, none, none]) ∧ Src H' p ∧ ∃ x y z : Int, H' nl = some (.lst [.int x, .int y, .int z]) ∧ x.natAbs < 2 ^ 60 ∧ y.natAbs < 2 ^ 60 ∧ z.natAbs < 2 ^ 60) ⟨⟨_, _, rfl⟩, hs8, _, _, _, e8 _ _ nlp hn0, by omega, by omega, by omega⟩ ?_ ?_
    · rintro i σ H9 hi ⟨⟨y9, y10, rfl⟩, hs9, x, y, z, hn, hx, hy, hz2⟩
      refine ⟨.ref p, rfl, p, 3, rfl, hs9, by decide, by decide, fun at_ H10 a0 a1 hs10 e10 => ?_⟩
      have hn10 := e10 _ _ nlp hn
      obtain ⟨ai, rfl⟩ : ∃ n : Nat, at_ = (n : Nat) := ⟨at_.toNat, by omega⟩
      have a3 : ai < 3 := by omega
      have fin : ∀ (w : Int) (H' : Hp), w.natAbs < 2 ^ 60 → Src H' p → Src (upd H' nl (.lst (([x, y, z].map V.int).set ai (.int w)))) p ∧ ∃ x' y' z' : Int, (upd H' nl (.lst (([x, y, z].map V.int).set ai (.int w)))) nl = some (.lst [.int x', .int y', .int z']) ∧ x'.natAbs < 2 ^ 60 ∧ y'.natAbs < 2 ^ 60 ∧ z'.natAbs < 2 ^ 60 := fun w H' hw hs' => by
        refine ⟨hs'.put nlp, ?_⟩
        rw [upd_same]
        match ai, a3 with
        | 0, _ => exact ⟨w, y, z, rfl, hw, hy, hz2⟩
        | 1, _ => exact ⟨x, w, z, rfl, hx, hw, hz2⟩
        | 2, _ => exact ⟨x, y, w, rfl, hx, hy, hw⟩
      have e9 : (10 : Int) ^ (9 : Int).toNat = 1000000000 := by decide
      refine ⟨_, rfl, rfl, _, rfl, ite2 (fun cz => ?_) (fun cz => ?_)⟩
      · refine ⟨.ref p, rfl, 1, rfl, _, _, rfl, rfl, ⟨by decide, by decide, by decide⟩, by show 5 ≤ sizeLine; decide, fun l2 nl2 => ?_⟩
        have nlp2 := hs10.ne nl2
        refine ⟨p, l2, _, rfl, hs10.put nlp2, upd_same, nlp2, by show 0 < 5; decide, by show 5 < 1000000; decide, fun v H11 hv s11 e11 => ?_⟩
        obtain ⟨w, hw, rfl⟩ := List.mem_map.mp (show v ∈ [-1, 41, 9, 1, 10 ^ (9 : Int).toNat].map V.int from hv)
        have hw : w.natAbs < 2 ^ 60 := by
          rw [e9] at hw
          simp only [List.mem_cons, List.not_mem_nil, or_false] at hw
          omega
        have hn11 := e11 _ _ nlp ((Same.new (o := .lst [V.int (-1), .int 41, .int 9, .int 1, .int (10 ^ (9 : Int).toNat)]) nl2) _ _ hn10)
        refine ⟨.ref nl, rfl, _, rfl, nl, _, _, ai, rfl, rfl, hn11, ixN_nat rfl a3, ?_⟩
        exact ⟨⟨_, _, rfl⟩, fin w H11 hw s11⟩
      · refine ⟨.ref p, rfl, 1, rfl, _, _, rfl, rfl, ⟨by decide, by decide, by decide⟩, by show 3 ≤ sizeLine; decide, fun l2 nl2 => ?_⟩
        have nlp2 := hs10.ne nl2
        refine ⟨p, l2, _, rfl, hs10.put nlp2, upd_same, nlp2, by show 0 < 3; decide, by show 3 < 1000000; decide, fun v H11 hv s11 e11 => ?_⟩
        obtain ⟨w, hw, rfl⟩ := List.mem_map.mp (show v ∈ [-1, 41, 10 ^ (9 : Int).toNat].map V.int from hv)
        have hw : w.natAbs < 2 ^ 60 := by
          rw [e9] at hw
          simp only [List.mem_cons, List.not_mem_nil, or_false] at hw
          omega
        have hn11 := e11 _ _ nlp ((Same.new (o := .lst [V.int (-1), .int 41, .int (10 ^ (9 : Int).toNat)]) nl2) _ _ hn10)
        refine ⟨.ref nl, rfl, _, rfl, nl, _, _, ai, rfl, rfl, hn11, ixN_nat rfl a3, ?_⟩
        exact ⟨⟨_, _, rfl⟩, fin w H11 hw s11⟩
    · rintro σ H9 ⟨⟨y9, y10, rfl⟩, hs9, x, y, z, hn, hx, hy, hz2⟩
      dsimp only
      refine ⟨.ref nl, rfl, by show 3 ≤ sizeLine; decide, fun l2 n2 => ⟨by show 3 ≤ sizeLine; decide, fun l3 n3 => ?_⟩⟩
      have k2 := Same.new (o := .lst [V.int 2, .int 0, .int 0]) n2
      have k3 := Same.new (o := .lst [V.int 8, .int 40, .int 40]) n3
      have g1 := (k2.trans k3) _ _ hn
      have g2 := k3 l2 _ upd_same
      have g3 : (upd (upd H9 l2 (.lst [V.int 2, .int 0, .int 0])) l3 (.lst [V.int 8, .int 40, .int 40])) l3 = some (.lst [V.int 8, .int 40, .int 40]) := upd_same
      have hs10 := (k2.trans k3).src hs9
      generalize upd (upd H9 l2 (.lst [V.int 2, .int 0, .int 0])) l3 (.lst [V.int 8, .int 40, .int 40]) = H10 at *
      refine ⟨nl, l2, l3, _, _, _, rfl, SqL.of g1, SqL.of g2, SqL.of g3, fun D nD => ?_⟩
      refine lc_it (walk_zip3 (xs := [.int x, .int y, .int z]) (ys := [V.int 2, .int 0, .int 0]) (zs := [V.int 8, .int 40, .int 40]) rfl rfl) (fun i H' => H' D = some (.lst ((badLs ((badP x y z).take i)).map V.int)) ∧ Same H10 H') ⟨upd_same, Same.new nD⟩ (fun i H' _ h => ⟨SqL.of (h.2 _ _ g1), SqL.of (h.2 _ _ g2), SqL.of (h.2 _ _ g3)⟩) ?_ ?_
      · rintro i v H11 H12 hi ⟨hD, sm⟩ ⟨T_, x', y', z', rfl, nT, rfl, hx', hy', hz'⟩
        have hi3 : i < 3 := hi
        obtain ⟨e, he, rfl, rfl, rfl⟩ : ∃ e : Int × Int × Int, (badP x y z)[i]? = some e ∧ x' = .int e.1 ∧ y' = .int e.2.1 ∧ z' = .int e.2.2 := by
          match i, hi3, hx', hy', hz' with
          | 0, _, hx', hy', hz' => exact ⟨_, rfl, (Option.some.inj hx').symm, (Option.some.inj hy').symm, (Option.some.inj hz').symm⟩
          | 1, _, hx', hy', hz' => exact ⟨_, rfl, (Option.some.inj hx').symm, (Option.some.inj hy').symm, (Option.some.inj hz').symm⟩
          | 2, _, hx', hy', hz' => exact ⟨_, rfl, (Option.some.inj hx').symm, (Option.some.inj hy').symm, (Option.some.inj hz').symm⟩
        have kT := Same.new (o := .tup [V.int e.1, .int e.2.1, .int e.2.2]) nT
        have hD' := kT _ _ hD
        have smT := sm.trans kT
        have hlen := badLs_len x y z i
        have htk : badLs ((badP x y z).take (i + 1)) = badLs ((badP x y z).take i) ++ (if badF e = true then [e.1] else []) := by
          unfold badLs
          rw [List.take_add_one, he, List.filter_append, List.map_append]
          congr 1
          show (List.filter badF [e]).map (·.1) = _
          rw [List.filter_cons]
          split <;> rfl
        rw [htk]
        refine ⟨T_, _, rfl, SqT.of upd_same, rfl, _, _, rfl, _, _, rfl, _, _, rfl, rfl, rfl, ?_⟩
        by_cases c1 : e.2.1 ≤ e.1
        · refine ⟨_, rfl, _, rfl, _, _, rfl, rfl, _, rfl, itT (decide_eq_true c1) ⟨_, rfl, _, _, rfl, rfl, _, rfl, ?_⟩⟩
          by_cases c2 : e.1 ≤ e.2.2
          · rw [decide_eq_true c2]
            refine iteF ⟨?_, smT⟩
            rw [if_neg (by unfold badF; rw [decide_eq_true c1, decide_eq_true c2]; decide), List.append_nil]
            exact hD'
          · rw [decide_eq_false c2]
            refine iteT ⟨_, rfl, _, hD', smallLt (by rw [List.length_map]; omega), ?_, smT.mut nD⟩
            rw [upd_same, if_pos (by unfold badF; rw [decide_eq_false c2, Bool.and_false]; rfl), List.map_append]
            rfl
        · refine ⟨_, rfl, _, rfl, _, _, rfl, rfl, _, rfl, itF (decide_eq_false c1) ⟨_, rfl, iteT ?_⟩⟩
          refine ⟨_, rfl, _, hD', smallLt (by rw [List.length_map]; omega), ?_, smT.mut nD⟩
          rw [upd_same, if_pos (by unfold badF; rw [decide_eq_false c1, Bool.false_and]; rfl), List.map_append]
          rfl
      · rintro H11 ⟨hD, sm⟩
        have hD : H11 D = some (.lst ((badLs (badP x y z)).map V.int)) := hD
        have hn11 := sm _ _ g1
        have hs11 := sm.src hs10
        refine ⟨.ref D, rfl, Nat.zero_le _, fun ee ne => ?_⟩
        have ke := Same.new (o := .lst []) ne
        refine neL (ns := badLs (badP x y z)) (ms := []) (SqL.of (ke _ _ hD)) (SqL.of upd_same) ⟨_, rfl, ?_⟩
        have hhd := badLs_head (x := x) (y := y) (z := z)
        by_cases hb : badLs (badP x y z) = []
        · rw [decide_eq_true hb]
          exact iteF (iteF ⟨⟨_, _, _, _, _, _, rfl⟩, ke.src hs11⟩)
        · rw [decide_eq_false hb]
          refine iteT ?_
          obtain ⟨xb, hxb⟩ : ∃ xb, (badLs (badP x y z)).head? = some xb := by
            cases hc : badLs (badP x y z) with
            | nil => exact absurd hc hb
            | cons c r => exact ⟨c, rfl⟩
          have hxb2 := hhd.symm.trans hxb
          have hxm : xb.natAbs < 2 ^ 60 := by
            rcases badLs_mem (List.mem_of_mem_head? (by rw [hxb]; rfl)) with rfl | rfl | rfl
            · exact hx
            · exact hy
            · exact hz2
          have hn12 := ke _ _ hn11
          have hs12 := ke.src hs11
          have hD12 := ke _ _ hD
          have sh := told_sh hxm
          refine ⟨.ref nl, rfl, nl, _, _, _, rfl, rfl, SqL.of hn12, atI0, .ref nl, rfl, nl, _, _, _, rfl, rfl, SqL.of hn12, atI1, .ref nl, rfl, nl, _, _, _, rfl, rfl, SqL.of hn12, atN (j := 2) rfl rfl, x, y, z, xb, rfl, hxb2, fun y_ H13 s13 hy_ => ?_⟩
          refine ⟨y_, .tuple [.str "count", .int xb], rfl, .tup hy_ (.cons (.str _) (.cons (.int _) .nil)), sh.sh, sh.nod, Nat.lt_of_le_of_lt sh.dp (by decide), sh.fits (by decide), ?_⟩
          refine ⟨.ref D, rfl, D, _, _, _, rfl, rfl, SqL.of (s13 _ _ hD12), atHeadI hxb, by show 2 ≤ sizeLine; decide, fun y2 ny2 => ?_⟩
          refine ⟨y2, .tuple [.str "count", .int xb], rfl, .tup (SqT.of upd_same) (.cons (.str _) (.cons (.int _) .nil)), sh.sh, sh.nod, Nat.lt_of_le_of_lt sh.dp (by decide), sh.fits (by decide), ?_⟩
          exact ⟨rfl, _, rfl, itF (by simp) ⟨⟨_, _, _, _, _, _, rfl⟩, (s13.trans (Same.new ny2)).src hs12⟩⟩
  rintro σ H5 ⟨_, hs5⟩
  exact q _
end
theorem law_start {K : PySem.W.Frag} {cs : CS} {H : Hp} (a : Addr) (ns : List Int) (hl : ns.length ≤ 63) (hS : SqL K H a (ns.map V.int)) : sp_law K cs [.ref a] H (fun v _ => v = .bl true) fun _ _ _ => False := ⟨a, ns, rfl, hS, hl, fun _ => rfl⟩
/-! ### what the top has written -/
theorem all_mk {l : PySem.W.OpenLaw} {w : World} {K : PySem.W.Frag} {h : Heap} {mg : Str → Option Value} {fa : Addr} (X : K.In h) (G : h.Ns mainGlobals mg) (hfa : mg "law" = some (.ref fa))
    {od0 an0 : Option Addr} {sl0 : Array (Option Value)} {oc0 kV0 dc0 pm0 cd0 ct0 : Value} {f0 : Addr}
    {od1 an1 : Option Addr} {sl1 : Array (Option Value)} {oc1 kV1 dc1 pm1 cd1 ct1 : Value} {f1 : Addr}
    {od2 an2 : Option Addr} {sl2 : Array (Option Value)} {oc2 kV2 dc2 pm2 cd2 ct2 : Value} {f2 : Addr}
    {od3 an3 : Option Addr} {sl3 : Array (Option Value)} {oc3 kV3 dc3 pm3 cd3 ct3 : Value} {f3 : Addr}
    {od4 an4 : Option Addr} {sl4 : Array (Option Value)} {oc4 kV4 dc4 pm4 cd4 ct4 : Value} {f4 : Addr}
    {od5 an5 : Option Addr} {sl5 : Array (Option Value)} {oc5 kV5 dc5 pm5 cd5 ct5 : Value} {f5 : Addr}
    {od6 an6 : Option Addr} {sl6 : Array (Option Value)} {oc6 kV6 dc6 pm6 cd6 ct6 : Value} {f6 : Addr}
    {od7 an7 : Option Addr} {sl7 : Array (Option Value)} {oc7 kV7 dc7 pm7 cd7 ct7 : Value} {f7 : Addr}
    {od8 an8 : Option Addr} {sl8 : Array (Option Value)} {oc8 kV8 dc8 pm8 cd8 ct8 : Value} {f8 : Addr}
    {C_Refused C_BadCount : Addr}
    {nm_Refused q_Refused : Str} {N_Refused : Addr} {bs_Refused bm_Refused : List Value} {sn_Refused : List Str} {su_Refused : List Value} {ab_Refused : Bool} {co_Refused : Option Bool} {dd_Refused : Option Addr} {m0_Refused m1_Refused m2_Refused m3_Refused m5_Refused : Option Value}
    {nm_BadCount q_BadCount : Str} {N_BadCount : Addr} {bs_BadCount bm_BadCount : List Value} {sn_BadCount : List Str} {su_BadCount : List Value} {ab_BadCount : Bool} {co_BadCount : Option Bool} {dd_BadCount : Option Addr} {m0_BadCount m1_BadCount m2_BadCount m3_BadCount m5_BadCount : Option Value}
    
    (A_Refused : PySem.W.nsIn K mainGlobals "Refused" = some (some (.ref C_Refused)))
    (A_BadCount : PySem.W.nsIn K mainGlobals "BadCount" = some (some (.ref C_BadCount)))
    (a0 : PySem.W.findIn K (.ref C_Refused) "__init__" = some (some (.ref f0)))
    (t0 : PySem.W.typeIn K (.ref f0) = some (.type "function"))
    (l0 : K.lookup f0 = some ⟨oc0, od0, .func (PySem.W.fnOf "__init__" "Refused.__init__" (defArgs s_Refused_init) (defBody s_Refused_init) (defScope s_Refused_init) .none kV0 dc0 pm0 an0 cd0 ct0), sl0⟩)
    (c0 : PySem.W.codeIn K cd0 "Refused.__init__" = true)
    (k0 : PySem.W.keepIn K (.ref f0) = true)
    (a1 : PySem.W.nsIn K mainGlobals "check_steps" = some (some (.ref f1)))
    (l1 : K.lookup f1 = some ⟨oc1, od1, .func (PySem.W.fnOf "check_steps" "check_steps" (defArgs s_check_steps) (defBody s_check_steps) (defScope s_check_steps) .none kV1 dc1 pm1 an1 cd1 ct1), sl1⟩)
    (c1 : PySem.W.codeIn K cd1 "check_steps" = true)
    (k1 : PySem.W.keepIn K (.ref f1) = true)
    (a2 : PySem.W.nsIn K mainGlobals "even_count" = some (some (.ref f2)))
    (l2 : K.lookup f2 = some ⟨oc2, od2, .func (PySem.W.fnOf "even_count" "even_count" (defArgs s_even_count) (defBody s_even_count) (defScope s_even_count) .none kV2 dc2 pm2 an2 cd2 ct2), sl2⟩)
    (c2 : PySem.W.codeIn K cd2 "even_count" = true)
    (k2 : PySem.W.keepIn K (.ref f2) = true)
    (a3 : PySem.W.nsIn K mainGlobals "_law_pool" = some (some (.ref f3)))
    (l3 : K.lookup f3 = some ⟨oc3, od3, .func (PySem.W.fnOf "_law_pool" "_law_pool" (defArgs s__law_pool) (defBody s__law_pool) (defScope s__law_pool) .none kV3 dc3 pm3 an3 cd3 ct3), sl3⟩)
    (c3 : PySem.W.codeIn K cd3 "_law_pool" = true)
    (k3 : PySem.W.keepIn K (.ref f3) = true)
    (a4 : PySem.W.nsIn K mainGlobals "_law_take" = some (some (.ref f4)))
    (l4 : K.lookup f4 = some ⟨oc4, od4, .func (PySem.W.fnOf "_law_take" "_law_take" (defArgs s__law_take) (defBody s__law_take) (defScope s__law_take) .none kV4 dc4 pm4 an4 cd4 ct4), sl4⟩)
    (c4 : PySem.W.codeIn K cd4 "_law_take" = true)
    (k4 : PySem.W.keepIn K (.ref f4) = true)
    (a5 : PySem.W.nsIn K mainGlobals "_law_one" = some (some (.ref f5)))
    (l5 : K.lookup f5 = some ⟨oc5, od5, .func (PySem.W.fnOf "_law_one" "_law_one" (defArgs s__law_one) (defBody s__law_one) (defScope s__law_one) .none kV5 dc5 pm5 an5 cd5 ct5), sl5⟩)
    (c5 : PySem.W.codeIn K cd5 "_law_one" = true)
    (k5 : PySem.W.keepIn K (.ref f5) = true)
    (a6 : PySem.W.nsIn K mainGlobals "_law_counts" = some (some (.ref f6)))
    (l6 : K.lookup f6 = some ⟨oc6, od6, .func (PySem.W.fnOf "_law_counts" "_law_counts" (defArgs s__law_counts) (defBody s__law_counts) (defScope s__law_counts) .none kV6 dc6 pm6 an6 cd6 ct6), sl6⟩)
    (c6 : PySem.W.codeIn K cd6 "_law_counts" = true)
    (k6 : PySem.W.keepIn K (.ref f6) = true)
    (a7 : PySem.W.nsIn K mainGlobals "_law_told" = some (some (.ref f7)))
    (l7 : K.lookup f7 = some ⟨oc7, od7, .func (PySem.W.fnOf "_law_told" "_law_told" (defArgs s__law_told) (defBody s__law_told) (defScope s__law_told) .none kV7 dc7 pm7 an7 cd7 ct7), sl7⟩)
    (c7 : PySem.W.codeIn K cd7 "_law_told" = true)
    (k7 : PySem.W.keepIn K (.ref f7) = true)
    (a8 : PySem.W.nsIn K mainGlobals "law" = some (some (.ref f8)))
    (l8 : K.lookup f8 = some ⟨oc8, od8, .func (PySem.W.fnOf "law" "law" (defArgs s_law) (defBody s_law) (defScope s_law) .none kV8 dc8 pm8 an8 cd8 ct8), sl8⟩)
    (c8 : PySem.W.codeIn K cd8 "law" = true)
    (k8 : PySem.W.keepIn K (.ref f8) = true)
    (E1_Refused : K.lookup C_Refused = some (excClassObj nm_Refused q_Refused C_Refused N_Refused bs_Refused bm_Refused true sn_Refused su_Refused ab_Refused co_Refused dd_Refused m0_Refused m1_Refused m2_Refused m3_Refused m5_Refused "ValueError.__new__"))
    (E4_Refused : PySem.W.subIn K (.ref C_Refused) (.type "BaseException") = some true)
    (E5_Refused : PySem.W.typeIn K (.ref C_Refused) = some (.type "type"))
    (E9_Refused : PySem.W.hasDictIn K C_Refused = true)
    (E1_BadCount : K.lookup C_BadCount = some (excClassObj nm_BadCount q_BadCount C_BadCount N_BadCount bs_BadCount bm_BadCount true sn_BadCount su_BadCount ab_BadCount co_BadCount dd_BadCount m0_BadCount m1_BadCount m2_BadCount m3_BadCount m5_BadCount "ValueError.__new__"))
    (E4_BadCount : PySem.W.subIn K (.ref C_BadCount) (.type "BaseException") = some true)
    (E5_BadCount : PySem.W.typeIn K (.ref C_BadCount) = some (.type "type"))
    (E9_BadCount : PySem.W.hasDictIn K C_BadCount = true)
    (E2_BadCount : HandSPX.refsVE bm_BadCount = true)
    (E3_BadCount : PySem.W.findIn K (.ref C_BadCount) "__setattr__" = some (some (.builtin "object.__setattr__")))
    (E6_BadCount : PySem.W.keepIn K (.ref C_BadCount) = true)
    (E7_BadCount : PySem.W.findIn K (.ref C_BadCount) "__getattribute__" = some (some (.builtin "BaseException.__getattribute__")))
    (E8_BadCount : PySem.W.findIn K (.ref C_BadCount) "__getattr__" = some none)
    (EA_BadCount : (PySem.W.clsIn K C_BadCount).isSome = true)
    (EB_BadCount : PySem.W.findIn K (.ref C_BadCount) "__class__" = some (some (.builtin "object.__class__")))
    (EC_BadCount : PySem.W.mroIn K C_BadCount (.type "object") = some true)
    (ED_BadCount : PySem.W.findIn K (.ref C_BadCount) "what" = some none)
    (EI_BadCount : PySem.W.findIn K (.ref C_BadCount) "__init__" = some (some (.ref f0)))
    (EG : PySem.W.specialIn K (.builtin "object.__class__") "__get__" = some (some (.builtin "getset_descriptor.__get__")))
    (ET : PySem.W.takesIn K (.builtin "object.__class__") = some true)
    (X_BadCount_Refused : PySem.W.exmOne K (.ref C_BadCount) (.ref C_Refused) = some true)
    (I_BadCount_BadCount : PySem.W.kitOne K (.ref C_BadCount) (.ref C_BadCount) = some true)
    (z_int : PySem.W.nsIn K mainGlobals "int" = some none)
    (z_isinstance : PySem.W.nsIn K mainGlobals "isinstance" = some none)
    (z_len : PySem.W.nsIn K mainGlobals "len" = some none)
    (z_max : PySem.W.nsIn K mainGlobals "max" = some none)
    (z_range : PySem.W.nsIn K mainGlobals "range" = some none)
    (z_repr : PySem.W.nsIn K mainGlobals "repr" = some none)
    (z_zip : PySem.W.nsIn K mainGlobals "zip" = some none)
    (y_MOST_STEPS : ∃ t, PySem.W.nsIn K mainGlobals "MOST_STEPS" = some (some (.int 40 t)))
    (w_comb : PySem.W.nsIn K mainGlobals "comb" = some (some (.builtin "math.comb"))) :
    ∃ fd : FuncData, (∀ (s : Shared) (v : Value), BindsTo s fd ⟨[v], []⟩ [("script", v)]) ∧ ∀ base : Heap, K.In base → base.Ns mainGlobals mg → FnG l.prog w K mg base CX0 6 fa fd ["script"] (sp_law K ⟨(), 0, 0⟩) := by
  have e := hfa.symm.trans (PySem.W.mg_of X G a8)
  cases e
  have T0 : Txn K mg (⟨(), C_Refused, C_BadCount⟩ : CS) := ⟨PySem.W.mg_none_of X G z_int, PySem.W.mg_none_of X G z_isinstance, PySem.W.mg_none_of X G z_len, PySem.W.mg_none_of X G z_max, PySem.W.mg_none_of X G z_range, PySem.W.mg_none_of X G z_repr, PySem.W.mg_none_of X G z_zip, (let ⟨t, y⟩ := y_MOST_STEPS; ⟨t, PySem.W.mg_of X G y⟩), PySem.W.mg_of X G w_comb, PySem.W.mg_of X G A_Refused, PySem.W.mg_of X G A_BadCount, ⟨⟨⟨_, _, _, _, _, _, _, _, _, _, _, _, _, _, _, E1_BadCount, E2_BadCount⟩, E3_BadCount, E4_BadCount, E5_BadCount, E6_BadCount⟩, ED_BadCount, ⟨E7_BadCount, E8_BadCount, E4_BadCount, E9_BadCount⟩, EA_BadCount, EB_BadCount, EG, ET, EC_BadCount⟩, X_BadCount_Refused, I_BadCount_BadCount⟩
  have F0 := fun_mk (x := "__init__") (qual := "Refused.__init__") (st := s_Refused_init) l0 c0 k0
  have b0 := F0.binds (ps := ["self", "what"]) fun _ _ _ _ _ _ us hl => match us, hl with | [_, _], _ => rfl
  have F1 := fun_mk (x := "check_steps") (qual := "check_steps") (st := s_check_steps) l1 c1 k1
  have b1 := F1.binds (ps := ["L", "most"]) fun _ _ _ _ _ _ us hl => match us, hl with | [_, _], _ => rfl
  have F2 := fun_mk (x := "even_count") (qual := "even_count") (st := s_even_count) l2 c2 k2
  have b2 := F2.binds (ps := ["q", "m", "L"]) fun _ _ _ _ _ _ us hl => match us, hl with | [_, _, _], _ => rfl
  have F3 := fun_mk (x := "_law_pool") (qual := "_law_pool") (st := s__law_pool) l3 c3 k3
  have b3 := F3.binds (ps := ["script", "k"]) fun _ _ _ _ _ _ us hl => match us, hl with | [_, _], _ => rfl
  have F4 := fun_mk (x := "_law_take") (qual := "_law_take") (st := s__law_take) l4 c4 k4
  have b4 := F4.binds (ps := ["source", "top"]) fun _ _ _ _ _ _ us hl => match us, hl with | [_, _], _ => rfl
  have F5 := fun_mk (x := "_law_one") (qual := "_law_one") (st := s__law_one) l5 c5 k5
  have b5 := F5.binds (ps := ["source", "things"]) fun _ _ _ _ _ _ us hl => match us, hl with | [_, _], _ => rfl
  have F6 := fun_mk (x := "_law_counts") (qual := "_law_counts") (st := s__law_counts) l6 c6 k6
  have b6 := F6.binds (ps := ["q", "most"]) fun _ _ _ _ _ _ us hl => match us, hl with | [_, _], _ => rfl
  have F7 := fun_mk (x := "_law_told") (qual := "_law_told") (st := s__law_told) l7 c7 k7
  have b7 := F7.binds (ps := ["q", "m", "L"]) fun _ _ _ _ _ _ us hl => match us, hl with | [_, _, _], _ => rfl
  have F8 := fun_mk (x := "law") (qual := "law") (st := s_law) l8 c8 k8
  refine ⟨PySem.W.fnOf "law" "law" (defArgs s_law) (defBody s_law) (defScope s_law) .none kV8 dc8 pm8 an8 cd8 ct8, fun s v => .of_eq rfl, fun base _ _ => ?_⟩
  have T : Txt l.prog w K mg base (⟨(), C_Refused, C_BadCount⟩ : CS) := ⟨T0, trivial, ⟨T0.gm_BadCount, T0.xc_BadCount, _, _, EI_BadCount, t0, ok_Refused_init F0 T0, b0⟩⟩
  have c_check_steps : Cal l.prog w K mg base (L2.CX l.prog w) 3 "check_steps" ["L", "most"] s_check_steps (sp_check_steps K (⟨(), C_Refused, C_BadCount⟩ : CS)) := ⟨_, _, ok_check_steps F1 T , F1, PySem.W.mg_of X G a1, b1⟩
  have c_even_count : Cal l.prog w K mg base (L2.CX l.prog w) 4 "even_count" ["q", "m", "L"] s_even_count (sp_even_count K (⟨(), C_Refused, C_BadCount⟩ : CS)) := ⟨_, _, ok_even_count F2 T c_check_steps, F2, PySem.W.mg_of X G a2, b2⟩
  have c__law_pool : Cal l.prog w K mg base CX0 1 "_law_pool" ["script", "k"] s__law_pool (sp__law_pool K (⟨(), C_Refused, C_BadCount⟩ : CS)) := ⟨_, _, ok__law_pool F3 T , F3, PySem.W.mg_of X G a3, b3⟩
  have c__law_take : Cal l.prog w K mg base CX0 1 "_law_take" ["source", "top"] s__law_take (sp__law_take K (⟨(), C_Refused, C_BadCount⟩ : CS)) := ⟨_, _, ok__law_take F4 T , F4, PySem.W.mg_of X G a4, b4⟩
  have c__law_one : Cal l.prog w K mg base CX0 2 "_law_one" ["source", "things"] s__law_one (sp__law_one K (⟨(), C_Refused, C_BadCount⟩ : CS)) := ⟨_, _, ok__law_one F5 T c__law_take, F5, PySem.W.mg_of X G a5, b5⟩
  have c__law_counts : Cal l.prog w K mg base CX0 1 "_law_counts" ["q", "most"] s__law_counts (sp__law_counts K (⟨(), C_Refused, C_BadCount⟩ : CS)) := ⟨_, _, ok__law_counts F6 T , F6, PySem.W.mg_of X G a6, b6⟩
  have c__law_told : Cal l.prog w K mg base CX0 5 "_law_told" ["q", "m", "L"] s__law_told (sp__law_told K (⟨(), C_Refused, C_BadCount⟩ : CS)) := ⟨_, _, ok__law_told F7 T c_even_count, F7, PySem.W.mg_of X G a7, b7⟩
  have zz := ok_law F8 T c_even_count c__law_pool c__law_take c__law_one c__law_counts c__law_told
  exact zz
end K
open PySem PySem.W PyProof.Rows
set_option maxHeartbeats 0 in
theorem PySem.Challenge.cw_betweencoats_k46_even_counts_by_their_re_holds : PySem.Challenge.rw_betweencoats_k46_even_counts_by_their_re.Holds := by
  w_on; o_law; k_head; (case hw => w_witness2)
  k_fill
  refine Bw.walk_ofG (l := PySem.Challenge.rw_betweencoats_k46_even_counts_by_their_re) (n := 63) (k := 6) (x := "script") (CX := fun _ => L2.CX0) (sp := fun w => K.sp_law _ ⟨(), 0, 0⟩) rfl (by decide) rfl ⟨rfl, by decide, by decide⟩ (fun w h Y => PySem.W.kIn_of Y) ?F (fun _ _ a ns hl hS => K.law_start a ns hl hS) (fun _ _ _ _ _ h => h)
  case F =>
    intro w mg fa h KX G hmg
    refine' K.all_mk KX G hmg ?A_Refused ?A_BadCount ?a0 ?t0 ?l0 ?c0 ?k0 ?a1 ?l1 ?c1 ?k1 ?a2 ?l2 ?c2 ?k2 ?a3 ?l3 ?c3 ?k3 ?a4 ?l4 ?c4 ?k4 ?a5 ?l5 ?c5 ?k5 ?a6 ?l6 ?c6 ?k6 ?a7 ?l7 ?c7 ?k7 ?a8 ?l8 ?c8 ?k8 ?E1_Refused ?E4_Refused ?E5_Refused ?E9_Refused ?E1_BadCount ?E4_BadCount ?E5_BadCount ?E9_BadCount ?E2_BadCount ?E3_BadCount ?E6_BadCount ?E7_BadCount ?E8_BadCount ?EA_BadCount ?EB_BadCount ?EC_BadCount ?ED_BadCount ?EI_BadCount ?EG ?ET ?X_BadCount_Refused ?I_BadCount_BadCount ?z_int ?z_isinstance ?z_len ?z_max ?z_range ?z_repr ?z_zip ?y_MOST_STEPS ?w_comb
    (case A_Refused => first | k_is | rfl)
    (case A_BadCount => first | k_is | rfl)
    (case a0 => first | k_is | rfl)
    (case t0 => first | k_is | rfl)
    (case l0 => first | k_is | rfl)
    (case c0 => first | k_is | rfl)
    (case k0 => first | k_is | rfl)
    (case a1 => first | k_is | rfl)
    (case l1 => first | k_is | rfl)
    (case c1 => first | k_is | rfl)
    (case k1 => first | k_is | rfl)
    (case a2 => first | k_is | rfl)
    (case l2 => first | k_is | rfl)
    (case c2 => first | k_is | rfl)
    (case k2 => first | k_is | rfl)
    (case a3 => first | k_is | rfl)
    (case l3 => first | k_is | rfl)
    (case c3 => first | k_is | rfl)
    (case k3 => first | k_is | rfl)
    (case a4 => first | k_is | rfl)
    (case l4 => first | k_is | rfl)
    (case c4 => first | k_is | rfl)
    (case k4 => first | k_is | rfl)
    (case a5 => first | k_is | rfl)
    (case l5 => first | k_is | rfl)
    (case c5 => first | k_is | rfl)
    (case k5 => first | k_is | rfl)
    (case a6 => first | k_is | rfl)
    (case l6 => first | k_is | rfl)
    (case c6 => first | k_is | rfl)
    (case k6 => first | k_is | rfl)
    (case a7 => first | k_is | rfl)
    (case l7 => first | k_is | rfl)
    (case c7 => first | k_is | rfl)
    (case k7 => first | k_is | rfl)
    (case a8 => first | k_is | rfl)
    (case l8 => first | k_is | rfl)
    (case c8 => first | k_is | rfl)
    (case k8 => first | k_is | rfl)
    (case E1_Refused => first | k_is | rfl)
    (case E4_Refused => first | k_is | rfl)
    (case E5_Refused => first | k_is | rfl)
    (case E9_Refused => first | k_is | rfl)
    (case E1_BadCount => first | k_is | rfl)
    (case E4_BadCount => first | k_is | rfl)
    (case E5_BadCount => first | k_is | rfl)
    (case E9_BadCount => first | k_is | rfl)
    (case E2_BadCount => first | rfl | decide +kernel | k_is)
    (case E3_BadCount => first | k_is | rfl)
    (case E6_BadCount => first | k_is | rfl)
    (case E7_BadCount => first | k_is | rfl)
    (case E8_BadCount => first | k_is | rfl)
    (case EA_BadCount => first | k_is | rfl)
    (case EB_BadCount => first | k_is | rfl)
    (case EC_BadCount => first | k_is | rfl)
    (case ED_BadCount => first | k_is | rfl)
    (case EI_BadCount => first | k_is | rfl)
    (case EG => first | k_is | rfl)
    (case ET => first | k_is | rfl)
    (case X_BadCount_Refused => first | k_is | rfl)
    (case I_BadCount_BadCount => first | k_is | rfl)
    (case z_int => first | k_is | rfl)
    (case z_isinstance => first | k_is | rfl)
    (case z_len => first | k_is | rfl)
    (case z_max => first | k_is | rfl)
    (case z_range => first | k_is | rfl)
    (case z_repr => first | k_is | rfl)
    (case z_zip => first | k_is | rfl)
    (case y_MOST_STEPS => exact ⟨_, by k_is⟩)
    (case w_comb => first | k_is | rfl)
