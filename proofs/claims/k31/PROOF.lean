import PyProof.Rows.All
import Wide.All
import OpenK.AllK
import Wide.FinOn
import HandS.TupLen
import HandS.ForMost
import HandS.IsInst
import HandS.TupAny
import HandS.Style
import HandS.Wide
import HandS.Walk
import HandS.WordsExc
import KE.GoesEnum
import PyProof.ReprRoads
import HandS.Evl
import KE.Datum
import HandS.ForExc
import HandS.ExcInit
import HandS.ExcField
import KE.KExcIs
import HandS.Conv
import HandS.TupLe
import HandS.Deep
import HandS.SortRule
import HandS.Flow
import HandS.More
import HandS.SetFor
import HandS.TupMul
import HandS.Gcd
import KE.KMathGC
import HandS.Lambda
import HandS.EndTab
import KE.KNestM
import HandS.DictComp
import HandS.DictTup
import HandS.HotCalls
import HandS.SortInts
import HandS.TupSets
import PyProof.Rows.TupDisplay
import HandS.Zip
import KE.KTupSum
import PySem.Challenge.RW_betweencoats_k31_forks_by_own_links
set_option Elab.async false
set_option linter.all false
set_option maxRecDepth 100000
namespace Bw
open PySem PySem.Spec PyProof.Rows L2

/-! ### a def that is called by its name -/
structure Cal (P : Program) (w : World) (K : PySem.W.Frag) (mg : Str → Option Value) (base : Heap) (CX : CXT) (k : Nat) (x : Str) (ps : List Str) (st : Stmt) (sp : Sp) : Prop where
  ex : ∃ (f : Addr) (fd : FuncData), FnOk P w K mg base CX k f fd ps sp ∧ Fun K x x st f fd ∧ mg x = some (.ref f) ∧ Binds K fd ps []
section
variable {X : Cx} {CX : CXT} {k : Nat} {x : Str} {ps ks : List Str} {st : Stmt} {sp : Sp} {E : XK} {p pos : Pos} {e : Expr} {es : List Expr} {kws : List Keyword} {t tk : TA}
theorem pe_cal (c : Cal X.prog X.w X.K X.mg X.base CX k x ps st sp) (hr : Room k X.A) (hx : Passes CX X E) (ha : PA X (e :: es) t) (hg : Gl X x := by rfl) (hdb : (x == ("__debug__" : Str)) = false := by decide)
    (he : starEach (e :: es) X.env = (false, eval e X.env) :: starEach es X.env := by rfl) (hpl : (backTo pos (starEach es X.env)).any (·.1) = false := by rfl) : PE X (.Call (.Name x p) (e :: es) [] pos) (tCall sp [] E t) := by
  obtain ⟨f, fd, G, F, hm, hb⟩ := c.ex
  exact pe_call G hr hg hm F.kp hb .nil hx ha hdb he hpl
theorem pe_cal0 (c : Cal X.prog X.w X.K X.mg X.base CX k x ps st sp) (hr : Room k X.A) (hx : Passes CX X E) (hg : Gl X x := by rfl) (hdb : (x == ("__debug__" : Str)) = false := by decide) : PE X (.Call (.Name x p) [] [] pos) (tCall sp [] E tNil) := by
  obtain ⟨f, fd, G, F, hm, hb⟩ := c.ex
  exact pe_call0 G hr hg hm F.kp hb .nil hx hdb
/-- how a call with keywords binds, whatever the function object -/
structure KwB (x : Str) (st : Stmt) (ps ks : List Str) (g : List Value → List Value → List Value) (gV : List V → List V → List V) : Prop where
  to : ∀ (kV doc pm : Value) (an : Option Addr) (cdv ct : Value) (us ws : List Value), (g us ws).length = ps.length →
    bindArgs (PySem.W.fnOf x x (defArgs st) (defBody st) (defScope st) .none kV doc pm an cdv ct) ⟨us, ks.zip ws⟩ = pure (ps.zip (g us ws))
  rel : ∀ {vs : List V} {us : List Value} {zs : List V} {ws : List Value}, Vals vs us → Vals zs ws → Vals (gV vs zs) (g us ws)
variable {g : List Value → List Value → List Value} {gV : List V → List V → List V}
theorem KwB.binds {K : PySem.W.Frag} {f : Addr} {fd : FuncData} (B : KwB x st ps ks g gV) (F : Fun K x x st f fd) : KBinds K fd ps ks g gV := by
  obtain ⟨oc, od, kV, doc, pm, an, cdv, ct, osl, rfl, lk, hcd⟩ := F.ex
  exact ⟨fun s us ws _ hl => .of_eq (B.to kV doc pm an cdv ct us ws hl), fun r rz => B.rel r rz⟩
theorem pe_calK (c : Cal X.prog X.w X.K X.mg X.base CX k x ps st sp) (B : KwB x st ps ks g gV) (hr : Room k X.A) (hx : Passes CX X E) (ha : PA X (e :: es) t) (hkw : PK X kws tk) (hg : Gl X x := by rfl)
    (hall : (backToKw pos (keywordEach kws X.env)).all (·.1.isSome) = true := by rfl) (hks : (backToKw pos (keywordEach kws X.env)).filterMap (·.1) = ks := by rfl)
    (hdb : (x == ("__debug__" : Str)) = false := by decide) (he : starEach (e :: es) X.env = (false, eval e X.env) :: starEach es X.env := by rfl)
    (hpl : ((backTo pos (starEach (e :: es) X.env)).any (·.1) || (backToKw pos (keywordEach kws X.env)).any (·.1.isNone)) = false := by rfl) :
    PE X (.Call (.Name x p) (e :: es) kws pos) (tCallK sp gV E t tk) := by
  obtain ⟨f, fd, G, F, hm, hb⟩ := c.ex
  exact pe_callK G hr hg hm F.kp (B.binds F) hx ha hkw hall hks hdb he hpl
/-- keywords alone -/
theorem pe_calK0 (c : Cal X.prog X.w X.K X.mg X.base CX k x ps st sp) (B : KwB x st ps ks g gV) (hr : Room k X.A) (hx : Passes CX X E) (hkw : PK X kws tk) (hg : Gl X x := by rfl)
    (hall : (backToKw pos (keywordEach kws X.env)).all (·.1.isSome) = true := by rfl) (hks : (backToKw pos (keywordEach kws X.env)).filterMap (·.1) = ks := by rfl)
    (hdb : (x == ("__debug__" : Str)) = false := by decide)
    (hpl : ((backTo pos (starEach [] X.env)).any (·.1) || (backToKw pos (keywordEach kws X.env)).any (·.1.isNone)) = false := by rfl) :
    PE X (.Call (.Name x p) [] kws pos) (tCallK sp gV E tNil tk) := by
  obtain ⟨f, fd, G, F, hm, hb⟩ := c.ex
  refine ⟨fun pins s σ H Q I h => ?_⟩
  refine wpAny_Call_Name_kw (ld_glob I hg hm ?_ hdb)
  refine PySem.W.callWith_KW0 (h₀ := X.base) I.ok.mod.kin F.kp hall (thn (hkw.run pos pins s σ H _ I h) fun ws s2 ⟨zs, H2, I2, rz, q2⟩ => ⟨I2.kIn, ?_⟩) hpl
  rw [hks]
  exact run_fnk (us := []) (vs := []) G hr (B.binds F) hx I2 .nil rz q2
end

/-! ### enumerate of a tuple -/
def IteT (K : PySem.W.Frag) (a : Addr) : It :=
  ⟨fun i H => ∃ (xs : List V) (x : V), SqT K H a xs ∧ xs[i]? = some x, fun i H v H' => ∃ T x, v = .ref T ∧ H T = none ∧ H' = upd H T (.tup [.int (i : Nat), x]) ∧ ∀ xs, SqT K H a xs → xs[i]? = some x, fun i H => ∃ xs : List V, SqT K H a xs ∧ i = xs.length⟩
set_option maxHeartbeats 1000000 in
theorem meets_enum_tup {v : Value} {o : Obj} {H : Heap → Prop} (B : Begins v o H) :
    Meets (Builtin.«enumerate.__new__» ⟨[.type "enumerate", v], []⟩) (fun _ R s => H s.heap ∧
      R (.ok (.ret (.ref (s.heap.push o).objs.size))) { s with heap := (s.heap.push o).push { cls := .type "enumerate", data := .fields #[.none, .bool false, .ref s.heap.objs.size, rawInt 0, .none, .none] } }) :=
  .of_wp fun prog w A R s h => by
    obtain ⟨hp, g, d, tk, os⟩ := s; obtain ⟨h1, h⟩ := h
    have hsub := sub_enumerate
    have q1 : ∀ {A' : Around} {E : Value → Shared → Prop} {Q : Value → Shared → Prop}, Q (.ref hp.objs.size) ⟨hp.push o, g, d, tk, os⟩ → wpAny (model prog w) A' (pyIter v) Q E ⟨hp, g, d, tk, os⟩ :=
      fun q => B.iter prog w _ _ ⟨hp, g, d, tk, os⟩ _ h1 q
    wp_walk using q1
    refine wpAny_stack_any fun st => wpAny_pure ?_
    split
    · rename_i c _ _ _ _ _
      cases (c == Value.type "enumerate")
      · wp_walk using q1
        exact ⟨_, rfl, h⟩
      · wp_walk using q1
        exact ⟨_, rfl, h⟩
    · wp_walk using q1
      exact ⟨_, rfl, h⟩
end Bw

namespace HT
open PySem PySem.Spec PyProof.Rows
section
variable {prog : Program} {w : World} {A : Around} {E : Value → Shared → Prop} {s : Shared}
theorem sliceApplied_rev {sl : Addr} {vk : Value} {n : Nat} {Q : Int × Int × Nat → Shared → Prop} (hs : s.heap.IsSliceOf sl .none .none vk) (pk : IsPart vk (some (-1)))
    (h : Q ((n : Int) - 1, -1, n) s) : wpAny (model prog w) A (Builtin.Slice.sliceApplied (.ref sl) (pure (n : Int))) Q E s := by
  obtain ⟨os, hos, hcs, hds⟩ := id hs
  unfold Builtin.Slice.sliceApplied Builtin.Slice.sliceFields
  refine wpAny_bind (wpAny_bind (wpAny_field hos hds (x := .none) rfl (wpAny_bind (wpAny_field hos hds (x := .none) rfl (wpAny_bind (wpAny_field hos hds (x := vk) rfl (wpAny_pure ?_)))))))
  refine wpAny_bind (slicePart_ pk ?_)
  show wpAny _ _ (if ((-1 : Int) == 0) = true then _ else _) _ _ s
  rw [if_neg (by decide)]
  refine wpAny_bind (slicePart_ .none (wpAny_bind (slicePart_ .none (wpAny_bind (wpAny_pure ?_)))))
  show wpAny _ _ (pure ((n : Int) - 1, (-1 : Int), Builtin.Slice.slicePlaces ((n : Int) - 1) (-1) (-1))) _ _ s
  have e : Builtin.Slice.slicePlaces ((n : Int) - 1) (-1) (-1) = n := by
    unfold Builtin.Slice.slicePlaces
    rw [if_neg (by decide)]
    by_cases h0 : n = 0
    · subst h0; decide
    · rw [if_pos (show (n : Int) - 1 > -1 by omega), show (- -1 : Int) = 1 by decide, Int.ediv_one]
      omega
  rw [e]
  exact wpAny_pure h
theorem pick_rev (xs : Array Value) : ((List.range xs.size).filterMap fun (m : Nat) => xs[(((xs.size : Int) - 1) + (m : Int) * (-1)).toNat]?).toArray = xs.toList.reverse.toArray := by
  have e : (List.range xs.size).filterMap (fun (m : Nat) => xs[(((xs.size : Int) - 1) + (m : Int) * (-1)).toNat]?) = xs.toList.reverse := by
    apply List.ext_getElem?
    intro i
    have gen : ∀ l : List Nat, (∀ m ∈ l, m < xs.size) → l.filterMap (fun (m : Nat) => xs[(((xs.size : Int) - 1) + (m : Int) * (-1)).toNat]?) = l.map (fun m => xs[xs.size - 1 - m]?.getD .none) := by
      intro l
      induction l with
      | nil => intro _; rfl
      | cons m l ih =>
        intro hl
        have hm := hl m List.mem_cons_self
        have e2 : (((xs.size : Int) - 1) + (m : Int) * (-1)).toNat = xs.size - 1 - m := by omega
        have e3 : xs[xs.size - 1 - m]? = some (xs[xs.size - 1 - m]'(by omega)) := Array.getElem?_eq_getElem (by omega)
        rw [List.map_cons, ← ih fun k hk => hl k (List.mem_cons_of_mem _ hk)]
        simp only [List.filterMap_cons, e2, e3, Option.getD_some]
    have e1 := gen (List.range xs.size) fun m hm => List.mem_range.mp hm
    rw [e1]
    by_cases hi : i < xs.size
    · rw [List.getElem?_map, List.getElem?_range hi, List.getElem?_reverse (by simpa using hi)]
      simp only [Option.map_some, Array.length_toList, Array.getElem?_toList]
      rw [Array.getElem?_eq_getElem (by omega)]
      rfl
    · rw [List.getElem?_eq_none (by simpa using hi), List.getElem?_eq_none (by simpa using hi)]
  rw [e]
theorem getItem_tuple_rev {t sl : Addr} {items : Array Value} {vk : Value} {Q : Value → Shared → Prop} (ht : IsTup s.heap t items) (hs : s.heap.IsSliceOf sl .none .none vk) (pk : IsPart vk (some (-1)))
    (h : Q (.ref s.heap.objs.size) { s with heap := s.heap.push { cls := .type "tuple", data := .seq items.toList.reverse.toArray } })
    (hsz : items.size ≤ sizeLine) : wpAny (model prog w) A (getItem (.ref t) (.ref sl)) Q E s := by
  have htake : sizeOk (.seq items.toList.reverse.toArray) := by
    show items.toList.reverse.toArray.size ≤ sizeLine
    rw [List.size_toArray, List.length_reverse, Array.length_toList]
    exact hsz
  obtain ⟨os, hos, hcs, hds⟩ := id hs
  have hTs : s.TypeIs (.ref sl) "slice" := ⟨os, hos, hcs⟩
  unfold getItem
  try with_reducible refine wpAny_holding ?_
  first | refine wpAny_bind (wpAny_pure ?_) | skip
  refine wpAny_bind (wpAny_sequenceKey ht.typeIs (by decide) ?_)
  refine wpAny_bind (wpAny_callSpecial?_slot (name := Str.ofString "__getitem__") ht.typeIs PyProof.Rows.slot_tuple_getitem
    (wpAny_call_entry PyProof.Rows.slot_tuple_getitem ht.typeIs entry_tuple_getitem ?_ (args_tuple_getitem _ _)))
  show wpAny _ _ (Builtin.Tuple.tupleItemsOf (.ref t) >>= _) _ _ s
  refine wpAny_bind (tupleItemsOf_ ht ?_)
  refine wpAny_bind (wpAny_typeOf hTs ?_)
  rw [if_pos (by decide)]
  refine wpAny_bind (sliceApplied_rev hs pk ?_)
  have hno : ¬ (((((items.size : Int) - 1)) == 0 && (-1 : Int) == 1 && items.size == items.size) = true) := by
    intro q
    rw [Bool.and_eq_true, Bool.and_eq_true] at q
    exact absurd q.1.2 (by decide)
  show wpAny _ _ (if (((items.size : Int) - 1) == 0 && (-1 : Int) == 1 && items.size == items.size) = true then _ else _) _ _ s
  rw [if_neg hno, pick_rev]
  first
    | exact wpAny_bind (m := Builtin.Tuple.tupleExact _) (wpAny_newObj_type (wpAny_pure ⟨_, rfl, wpAny_pure h⟩) htake)
    | exact wpAny_bind (m := Builtin.Tuple.tupleExact _) (wpAny_newObj_type (wpAny_bind (wpAny_pure (wpAny_pure ⟨_, rfl, wpAny_pure h⟩))) htake)
    | exact wpAny_bind (wpAny_bind (m := Builtin.Tuple.tupleExact _) (wpAny_newObj_type (wpAny_pure (wpAny_pure ⟨_, rfl, wpAny_pure h⟩)) htake))
    | exact wpAny_bind (wpAny_bind (m := Builtin.Tuple.tupleExact _) (wpAny_newObj_type (wpAny_pure ⟨_, rfl, wpAny_pure h⟩) htake))
end
end HT
namespace Bw
open PySem PySem.Spec PyProof.Rows L2
/-! ### t[::-1] -/
def tRevT (K : PySem.W.Frag) (te : TE) : TE := fun σ H Q => te σ H fun x H1 => ∃ a xs, x = .ref a ∧ SqT K H1 a xs ∧ ∀ p, H1 p = none → Q (.ref p) (upd H1 p (.tup xs.reverse))
theorem pe_revT {X : Cx} {e : Expr} {te : TE} {k : Nat} {p1 p2 p3 pos : Pos} (he : PE X e te) : PE X (.Subscript e (.Slice none none (some (.UnaryOp .USub (.Constant (.int 1) k p1) p2)) p3) pos) (tRevT X.K te) := by
  refine ⟨fun pins s σ H Q I h => ?_⟩
  refine Subscript_ (thn (he.run pins s σ H _ I h) fun v s1 ⟨x, H1, I1, r1, q1⟩ => ?_)
  obtain ⟨a, xs, ex, hx, q⟩ := q1
  subst ex
  cases r1
  have hst : PO X (some (.UnaryOp .USub (.Constant (.int 1) k p1) p2)) (tPart (tUn (rU fun i => .int (-i)) (tC (.int 1)))) := po_some (pe_un un_neg pe_int)
  refine wpAny_Slice (thn (po_none.run pins s1 σ H1 (fun o H2 => o = none ∧ H2 = H1) I1 ⟨rfl, rfl⟩) fun vl s2 ⟨l, H2, I2, pl, el, e2⟩ => ?_)
  subst el e2
  refine thn (po_none.run pins s2 σ H2 (fun o H3 => o = none ∧ H3 = H2) I2 ⟨rfl, rfl⟩) fun vu s3 ⟨u, H3, I3, pu, eu, e3⟩ => ?_
  subst eu e3
  refine thn (hst.run pins s3 σ H3 (fun o H4 => o = some (-1) ∧ H4 = H3) I3 ⟨1, rfl, -1, rfl, rfl, rfl⟩) fun vs s4 ⟨o, H4, I4, ps, eo, e4⟩ => ?_
  subst eo e4
  cases pl
  cases pu
  have I5 : Inv X pins σ H4 { s4 with heap := s4.heap.push { cls := .type "slice", data := .fields #[.none, .none, vs] } } := I4.kept (t' := s4.toks) fun b ob q => Heap.get?_push_of_some _ q
  obtain ⟨its, r, ht, hz⟩ := I5.tuple hx
  have hlen := r.length
  show wpAny (model X.prog X.w) X.A (subscriptTail e (.Slice none none (some (.UnaryOp .USub (.Constant (.int 1) k p1) p2)) p3) (.ref a) (.ref s4.heap.objs.size)) (EP X pins σ Q) X.xe { s4 with heap := s4.heap.push { cls := .type "slice", data := .fields #[.none, .none, vs] } }
  refine tail_any (ops := [.ref a, .ref s4.heap.objs.size]) ht.typeIs (PyProof.Rows.slot_tuple_getitem.lookup) ?_ (by with_unfolding_all rfl)
  refine HT.getItem_tuple_rev ht (Heap.IsSliceOf.new _ .none .none vs) ps ?_ (by rw [List.size_toArray]; omega)
  refine ⟨.ref _, _, I5.laid (t' := s4.toks) (o := .tup xs.reverse) (fun b ob q => Heap.get?_push_of_some _ q) (Nat.le_refl _) ?_, rfl, q _ (I5.hok.fresh (Nat.le_refl _))⟩
  exact ⟨by rw [List.length_reverse]; exact hz, _, r.reverse, IsTup.new _ _⟩
/-! ### enumerate of a tuple -/
theorem turn_enumT {P : Program} {w : World} {K : PySem.W.Frag} {elts : List Expr} {kk : Nat} {tpos : Pos} (a e it : Addr) (hai : a ≠ it) (hea : e ≠ a) :
    Turn P w K (.Tuple elts kk tpos) (IteT K a) [e, it] e (fun i h => (∃ old, IsEnum h e it ((i : Nat) : Int) old) ∧ h.IsTupleIter it a i ∧ e ≠ it) where
  mem := by simp
  obj := fun i h st b hb => by
    obtain ⟨⟨old, he⟩, ⟨o, ho, hc, hd⟩, _⟩ := st
    have e' : b = e ∨ b = it := by simpa using hb
    rcases e' with z | z
    · rw [z]; exact ⟨_, he, fun v q => nomatch q⟩
    · rw [z]; exact ⟨o, ho, fun v q => by rw [hd] at q; cases q⟩
  keep := fun i h h' st k => let ⟨⟨old, he⟩, hi, hne⟩ := st; ⟨⟨old, k e (by simp) _ he⟩, hi.at fun o q => k it (by simp) o q, hne⟩
  item := by
    intro X hP hw hK hc i pins s σ H E I hf st hg
    subst hP hw hK
    obtain ⟨⟨old, he⟩, hit, hne⟩ := st
    obtain ⟨xs, x, hq, hx⟩ := hg
    obtain ⟨its, rv, p, hz⟩ := I.tuple hq
    obtain ⟨u, hu, ru⟩ := rv.get hx
    have hel : e < s.heap.objs.size := Heap.lt_size he
    have hil : it < s.heap.objs.size := by obtain ⟨_, q, _⟩ := hit; exact Heap.lt_size q
    have hD := Draws.tuple (prog := X.prog) (w := X.w) (A := X.A.in1) (show X.A.in1.handled = none from I.ok.hd hc) it a hai its.toArray
    have hlt : i < its.toArray.size := by
      have := (List.getElem?_eq_some_iff.mp hu).1
      simpa using this
    refine wpAny_pyNext_enum_itemD hD he ⟨hit, p⟩ hlt hne (by simp [hne, hea]) fun x' h' tk hx' ho hst' hT hsz hk => ?_
    have ex' : x' = u := by
      have := hx'.symm.trans (show its.toArray[i]? = some u by simpa using hu)
      exact Option.some.inj this
    subst ex'
    refine ⟨_, rfl, wpAny_letOwnedTupleGo_enum (s := { s with heap := h', toks := tk + 1 }) ho fun h'' he' sb => ?_⟩
    have hT2 : h''.get? s.heap.objs.size = some { cls := .type "tuple", data := .seq #[.int i tk, x'] } := (sb.2 _ (Nat.ne_of_gt hel)).trans hT
    have new : ObjOk X.prog X.w (upd H s.heap.objs.size (.tup [.int (i : Nat), x])) h'' s.heap.objs.size (.tup [.int (i : Nat), x]) :=
      ⟨by show 2 ≤ sizeLine; decide, [.int i tk, x'], .cons ⟨_, rfl⟩ (.cons ru .nil), ⟨_, hT2, rfl, _, rfl⟩⟩
    have I1 : Inv X pins σ (upd H s.heap.objs.size (.tup [.int (i : Nat), x])) { s with heap := h'', toks := tk + 1 } :=
      I.turnedNew (ch := [e, it]) (fun b ob hb q => (sb.2 b (fun z => hb (by simp [z]))).trans (hk b ob (fun z => hb (by simp [z])) (fun z => hb (by simp [z])) q)) hf (Nat.le_refl _) new
    refine ⟨.ref s.heap.objs.size, _, I1, rfl, ⟨_, x, rfl, I.hok.fresh (Nat.le_refl _), rfl, fun ys hy => by rw [I.tuple_inj hy hq]; exact hx⟩, ⟨⟨x', ?_⟩, hst'.1.at fun o q => (sb.2 it (Ne.symm hne)).trans q, hne⟩, fun b hb => ?_⟩
    · have e1 : ((i + 1 : Nat) : Int) = (i : Int) + 1 := by omega
      rw [e1]; exact he'
    · have hb' : b < s.heap.objs.size := by
        have e' : b = e ∨ b = it := by simpa using hb
        rcases e' with z | z
        · rw [z]; exact hel
        · rw [z]; exact hil
      rw [upd_ne (Nat.ne_of_lt hb')]
      exact (hf b hb).1
  done := by
    intro X hP hw hK hc i pins s σ H E I hf st hg
    subst hP hw hK
    obtain ⟨⟨old, he⟩, hit, hne⟩ := st
    obtain ⟨xs, hq, hx⟩ := hg
    obtain ⟨its, rv, p, hz⟩ := I.tuple hq
    obtain ⟨f0, f1, f2, f3, f4, f5⟩ := hf it (by simp)
    have hl := rv.length
    have hD := Draws.tuple (prog := X.prog) (w := X.w) (A := X.A.in1) (show X.A.in1.handled = none from I.ok.hd hc) it a hai its.toArray
    have hi : i = its.toArray.size := by rw [List.size_toArray]; omega
    subst hi
    exact wpAny_pyNext_enum_endD hD he ⟨hit, p⟩ fun h' eb => ⟨rfl, I.turned (t' := s.toks) (fun b o hb q => eb b o hb q) f0 f1 f3 f4 f5⟩
  self := fun A i s Q E st h => let ⟨⟨_, he⟩, _⟩ := st; wpAny_pyIter_enum he h
def iEnumT (K : PySem.W.Frag) (ta : TA) : TI := fun σ H R => ta σ H fun vs H1 => ∃ a xs, vs = [.ref a] ∧ SqT K H1 a xs ∧ R (IteT K a) H1
theorem pi_enumT {X : Cx} {e : Expr} {ta : TA} {p pos tpos : Pos} {elts : List Expr} {kk : Nat} (hg : Gl X "enumerate") (hm : X.mg "enumerate" = none) (ha : PA X [e] ta) (hs : starEach [e] X.env = [(false, eval e X.env)] := by rfl) :
    PI X (.Tuple elts kk tpos) (.Call (.Name "enumerate" p) [e] [] pos) (iEnumT X.K ta) := by
  refine ⟨fun pins s σ H R I h => ?_⟩
  refine Call_ (ld_blt I hg hm boot_enumerate (PyProof.Rows.callWith_type1 (thn (ha.run pos pins s σ H _ I h) fun us s1 ⟨vs, H1, I1, r1, q1⟩ => ?_) hs rfl))
  obtain ⟨a, xs, ex, hq, q⟩ := q1
  subst ex
  cases r1 with
  | cons r rr =>
    cases rr
    cases r
    obtain ⟨its, rv, p', hz⟩ := I1.tuple hq
    have hla : a < s1.heap.objs.size := by obtain ⟨o, ho, _⟩ := p'; exact Heap.lt_size ho
    refine callType_new F.called_enumerate (by decide) (F.typeCall_enumerate_1 _) (F.newCall_enumerate_1 _) (fun obj => F.args_object_init_2 obj _) F.entry_enumerate_new
      (meets_enum_tup (begins_tuple a its.toArray)) ⟨p', ?_⟩
    have hz1 : (s1.heap.push { cls := .type "tuple_iterator", data := .fields #[.ref a, .int 0 0] }).objs.size = s1.heap.objs.size + 1 := Heap.size_push ..
    have he : IsEnum ((s1.heap.push { cls := .type "tuple_iterator", data := .fields #[.ref a, .int 0 0] }).push
        { cls := .type "enumerate", data := .fields #[.none, .bool false, .ref s1.heap.objs.size, rawInt 0, .none, .none] }) (s1.heap.objs.size + 1) s1.heap.objs.size 0 .none := by
      have := Heap.get?_push_size (s1.heap.push { cls := .type "tuple_iterator", data := .fields #[.ref a, .int 0 0] })
        (o := { cls := .type "enumerate", data := .fields #[.none, .bool false, .ref s1.heap.objs.size, rawInt 0, .none, .none] }) rfl
      rw [hz1] at this; exact this
    have hit : ((s1.heap.push { cls := .type "tuple_iterator", data := .fields #[.ref a, .int 0 0] }).push
        { cls := .type "enumerate", data := .fields #[.none, .bool false, .ref s1.heap.objs.size, rawInt 0, .none, .none] }).IsTupleIter s1.heap.objs.size a 0 := ⟨_, Heap.get?_push_of_some _ (Heap.get?_push_size _ rfl), rfl, rfl⟩
    show _ ∧ _
    rw [hz1]
    refine ⟨⟨_, he, rfl⟩, wpAny_pyIter_enum he ?_⟩
    have I2 : Inv X pins σ H1 { s1 with heap := (s1.heap.push { cls := .type "tuple_iterator", data := .fields #[.ref a, .int 0 0] }).push { cls := .type "enumerate", data := .fields #[.none, .bool false, .ref s1.heap.objs.size, rawInt 0, .none, .none] } } :=
      I1.kept (t' := s1.toks) fun b o x => Heap.get?_push_of_some _ (Heap.get?_push_of_some _ x)
    refine ⟨s1.heap.objs.size + 1, [s1.heap.objs.size + 1, s1.heap.objs.size], _, _, H1, rfl, I2, turn_enumT a (s1.heap.objs.size + 1) s1.heap.objs.size (Nat.ne_of_lt hla) (Nat.ne_of_gt (Nat.lt_succ_of_lt hla)), ⟨⟨.none, he⟩, hit, Nat.succ_ne_self _⟩, fun b hb => ?_, q⟩
    have e' : b = s1.heap.objs.size + 1 ∨ b = s1.heap.objs.size := by simpa using hb
    have hle : s1.heap.objs.size ≤ b := by
      rcases e' with z | z
      · rw [z]; exact Nat.le_add_right _ _
      · rw [z]; exact Nat.le_refl _
    exact I1.fpOk hle (I1.hok.fresh hle)
theorem walk_enumT {K : PySem.W.Frag} {a : Addr} {xs : List V} : Walk (IteT K a) xs.length (fun H => SqT K H a xs) (YPair (fun i => some (.int (i : Nat))) (fun i => xs[i]?)) := by
  refine ⟨fun i _ hi q => ⟨xs, xs[i], q, by simp [hi]⟩, fun _ q => ⟨xs, q, rfl⟩, fun i H v H' _ q y => ?_⟩
  obtain ⟨T, x, h1, h2, h3, h4⟩ := y
  exact ⟨T, .int (i : Nat), x, h1, h2, h3, rfl, h4 xs q⟩
/-! ### repr of data -/
theorem call_reprD {X : Cx} (hg : X.A.guards = some []) (hu : X.A.units + 80 < cLine) : CallR X (.builtin "repr") (fun xs H Q => ∃ a d, xs = [.ref a] ∧ Dp X.K H (.ref a) d ∧ d.showable = true ∧ d.hasDict = false ∧ d.depth < 64 ∧ d.shown.length ≤ sizeLine ∧ Q (.str d.shown) H) := by
  intro pins s σ H xs us Q I r h
  obtain ⟨a, d, rfl, hd, hs, hn, hp, hz, q⟩ := h
  obtain ⟨u, rfl, ru⟩ := vals1 r
  obtain ⟨as, hr⟩ := Dp.reads I d _ _ hd ru
  cases ru
  exact repr_of_reads' hr hs (PyData.noDict_hsm hn) hg (by omega) (fun _ _ e => e) (fun h' u tk hk => ⟨.str _, H, I.kept (t' := tk) hk, ⟨_, rfl⟩, q⟩) hz
end Bw

namespace Bw
open PySem PySem.Spec PyProof.Rows L2
/-! ### the drawn source and what a def leaves -/
def Src (H : Hp) (p : Addr) : Prop := ∃ a b : Int, H p = some (.lst [.int a, .int b]) ∧ 0 ≤ a ∧ 0 ≤ b ∧ b < 2147483647
/-- all that was tracked but at p is as it was -/
def Exb (p : Addr) (H H' : Hp) : Prop := ∀ b o, b ≠ p → H b = some o → H' b = some o
section
variable {p q a : Addr} {H H1 H2 : Hp} {K : PySem.W.Frag} {xs : List V} {o : HO}
theorem Exb.refl : Exb p H H := fun _ _ _ h => h
theorem Exb.trans (e : Exb p H H1) (f : Exb p H1 H2) : Exb p H H2 := fun b o n h => f b o n (e b o n h)
theorem Exb.of (e : Same H H1) : Exb p H H1 := fun b o _ h => e b o h
theorem Exb.new (h : H q = none) : Exb p H (upd H q o) := fun b u _ e => by
  rw [upd_ne (ne_of_none e h)]
  exact e
theorem _root_.L2.Same.new (h : H q = none) : Same H (upd H q o) := fun b u e => by
  rw [upd_ne (ne_of_none e h)]
  exact e
theorem Exb.at : Exb p H (upd H p o) := fun b u n e => by
  rw [upd_ne n]
  exact e
theorem Exb.put (e : Exb p H H1) : Exb p H (upd H1 p o) := fun b u n h => by
  rw [upd_ne n]
  exact e b u n h
/-- an object that H did not know may change -/
theorem _root_.L2.Same.mut (e : Same H H1) (h : H q = none) : Same H (upd H1 q o) := fun b u hb => by
  rw [upd_ne (ne_of_none hb h)]
  exact e b u hb
theorem Exb.mut (e : Exb p H H1) (h : H q = none) : Exb p H (upd H1 q o) := fun b u n hb => by
  rw [upd_ne (ne_of_none hb h)]
  exact e b u n hb
theorem _root_.L2.Same.tup (e : Same H H1) (h : SqT K H a xs) : SqT K H1 a xs := by
  rcases h with (h | ⟨o, h⟩) | h
  · exact .inl (.inl (e _ _ h))
  · exact .inl (.inr ⟨o, e _ _ h⟩)
  · exact .inr h
theorem Exb.tup (e : Exb p H H1) (s : Src H p) (h : SqT K H a xs) : SqT K H1 a xs := by
  obtain ⟨x, y, hp, _⟩ := s
  rcases h with (h | ⟨o, h⟩) | h
  · exact .inl (.inl (e _ _ (fun z => by rw [z, hp] at h; cases h) h))
  · exact .inl (.inr ⟨o, e _ _ (fun z => by rw [z, hp] at h; cases h) h⟩)
  · exact .inr h
theorem Exb.lst (e : Exb p H H1) (n : q ≠ p) (h : H q = some (.lst xs)) : H1 q = some (.lst xs) := e _ _ n h
theorem _root_.L2.Same.src (e : Same H H1) (s : Src H p) : Src H1 p := by
  obtain ⟨x, y, hp, h⟩ := s
  exact ⟨x, y, e _ _ hp, h⟩
theorem Src.ne (s : Src H p) (h : H q = none) : q ≠ p := fun z => by
  obtain ⟨x, y, hp, _⟩ := s
  rw [z, hp] at h
  cases h
theorem Src.put (s : Src H p) (n : q ≠ p) : Src (upd H q o) p := by
  obtain ⟨x, y, hp, h⟩ := s
  exact ⟨x, y, by rw [upd_ne n.symm]; exact hp, h⟩
theorem Exb.fresh (e : Exb p H H1) (n : q ≠ p) (h : H1 q = none) : H q = none := by
  cases z : H q with
  | none => rfl
  | some o => rw [e q o n z] at h; cases h
end
theorem atI0 {x : V} {r : List V} : atI (x :: r) 0 = some x := atI_nat (j := 0) rfl
theorem atI1 {x y : V} {r : List V} : atI (x :: y :: r) 1 = some y := atI_nat (j := 1) rfl
theorem ixN_nat {n : Nat} {i : Int} {j : Nat} (e : i = (j : Int)) (h : j < n) : ixN n i = some j := by
  subst e
  unfold ixN
  rw [if_pos (by omega), if_pos (by omega)]; simp
theorem ixN_neg {n : Nat} {i : Int} {j : Nat} (e : i = (j : Int) - (n : Int)) (h : j < n) : ixN n i = some j := by
  subst e
  unfold ixN
  rw [if_neg (by omega), if_pos (by omega)]
  congr 1
  omega
theorem atN {α : Type} {xs : List α} {i : Int} {j : Nat} {v : α} (h : xs[j]? = some v) (e : i = (j : Int)) : atI xs i = some v := by
  subst e
  exact atI_nat h
theorem atNeg {α : Type} {xs : List α} {i : Int} {j : Nat} {v : α} (h : xs[j]? = some v) (e : i = (j : Int) - (xs.length : Int)) : atI xs i = some v := by
  unfold atI
  rw [ixN_neg e (List.getElem?_eq_some_iff.mp h).1]
  exact h
theorem num_map (i : Nat) (ns : List Int) (x : V) (h : (ns.map V.int)[i]? = some x) : ∃ (hi : i < ns.length), x = .int ns[i] := by
  rw [List.getElem?_map] at h
  cases e : ns[i]? with
  | none => rw [e] at h; cases h
  | some z =>
    obtain ⟨h1, h2⟩ := List.getElem?_eq_some_iff.mp e
    rw [e] at h
    exact ⟨h1, by rw [h2]; exact (Option.some.inj h).symm⟩
theorem itT {c : Bool} {A B : Prop} (hc : c = true) (h : A) : if c = true then A else B := by
  rw [if_pos hc]
  exact h
theorem itF {c : Bool} {A B : Prop} (hc : c = false) (h : B) : if c = true then A else B := by
  rw [hc, if_neg Bool.false_ne_true]
  exact h
theorem pe_gint {X : Cx} {x : Str} {pos : Pos} {i : Int} (hg : Gl X x) (h : ∃ t, X.mg x = some (.int i t)) (hd : (x == ("__debug__" : Str)) = false := by decide) : PE X (.Name x pos) (tC (.int i)) := by
  obtain ⟨t, y⟩ := h
  exact pe_glob hg y ⟨t, rfl⟩ hd
theorem pe_ty {X : Cx} {x : Str} {pos : Pos} {T : String} (hg : Gl X x) (hm : X.mg x = none) (hv : bootBuiltins x = some (.type T)) (hn : x ≠ "__name__" := by decide) (hd : (x == ("__debug__" : Str)) = false := by decide) : PE X (.Name x pos) (tC (.ty T)) :=
  pe_bltn hg hm hv rfl hn hd
theorem small {n : Nat} (h : n ≤ 1000000) : n ≤ sizeLine := Nat.le_trans h (by decide)
theorem smallLt {n : Nat} (h : n < 1000000) : n < sizeLine := Nat.lt_of_lt_of_le h (by decide)

/-! ### the layer's rules with the written part told -/
section
variable {X : Cx}
abbrev tNoP : TO := fun _ H Q => Q none H
theorem poN : PO X none tNoP := po_none
theorem ixL (K : PySem.W.Frag) (h : X.K = K := by rfl) : IxR X (rIxL K) := h ▸ ix_list
theorem ixT (K : PySem.W.Frag) (h : X.K = K := by rfl) : IxR X (rIxT K) := h ▸ ix_tup
theorem slT (K : PySem.W.Frag) (h : X.K = K := by rfl) : SlR X (rSlA K) := h ▸ sl_tupA
theorem slL (K : PySem.W.Frag) (h : X.K = K := by rfl) : SlR X (rSlL K) := h ▸ sl_list
theorem lenS (K : PySem.W.Frag) (h : X.K = K := by rfl) : CallR X (.builtin "len") (Evl.rLenS K) := by subst h; exact call_len_seq
def rTupOf (K : PySem.W.Frag) : List V → Hp → VK → Prop := fun xs H Q => ∃ p ys, xs = [.ref p] ∧ ((SqL K H p ys ∧ ∀ l, H l = none → Q (.ref l) (upd H l (.tup ys))) ∨ (SqT K H p ys ∧ Q (.ref p) H))
theorem tupOf (K : PySem.W.Frag) (h : X.K = K := by rfl) : CallR X (.type "tuple") (rTupOf K) := by subst h; exact call_tuple_of
def rListOf (K : PySem.W.Frag) : List V → Hp → VK → Prop := fun xs H Q => ∃ p ys, xs = [.ref p] ∧ (SqL K H p ys ∨ SqT K H p ys) ∧ ∀ l, H l = none → Q (.ref l) (upd H l (.lst ys))
theorem listOf (K : PySem.W.Frag) (h : X.K = K := by rfl) : CallR X (.type "list") (rListOf K) := by subst h; exact call_list_of
theorem catA (K : PySem.W.Frag) (h : X.K = K := by rfl) : OpR X (binaryOp .Add) (rCatA K) := h ▸ op_catA
theorem eqD (K : PySem.W.Frag) (hu : X.A.units + 64 < cLine) (h : X.K = K := by rfl) : OpR X (compareOp .Eq) (rEqD K) := h ▸ op_eqD hu
theorem neD (K : PySem.W.Frag) (hu : X.A.units + 64 < cLine) (h : X.K = K := by rfl) : OpR X (compareOp .NotEq) (rNeD K) := h ▸ op_neD hu
theorem inS (K : PySem.W.Frag) (h : X.K = K := by rfl) : OpR X (compareOp .In) (rIn K false) := h ▸ op_in_seq
theorem ninS (K : PySem.W.Frag) (h : X.K = K := by rfl) : OpR X (compareOp .NotIn) (rIn K true) := h ▸ op_notIn_seq
theorem isI (K : PySem.W.Frag) (h : X.K = K := by rfl) : CallR X (.builtin "isinstance") (rIsi K) := h ▸ call_isi
theorem maxL (K : PySem.W.Frag) (hc : X.calm = true) (h : X.K = K := by rfl) : CallR X (.builtin "max") (rMax K) := h ▸ cr_max hc
theorem minL (K : PySem.W.Frag) (hc : X.calm = true) (h : X.K = K := by rfl) : CallR X (.builtin "min") (rMin K) := h ▸ cr_min hc
theorem sortL (K : PySem.W.Frag) (h : X.K = K := by rfl) : CallR X (.builtin "sorted") (rSorted K) := h ▸ cr_sorted
theorem piL (K : PySem.W.Frag) {tg l : Expr} {tl : TE} (hl : PE X l tl) (h : X.K = K := by rfl) : PI X tg l (iList K tl) := h ▸ pi_list hl
theorem piT (K : PySem.W.Frag) {tg l : Expr} {tl : TE} (hl : PE X l tl) (h : X.K = K := by rfl) : PI X tg l (iTup K tl) := h ▸ pi_tup hl
end
/-! ### data in the heap -/
theorem dpAllI {K : PySem.W.Frag} {H : Hp} : ∀ ns : List Int, DpAll K H (ns.map V.int) (ns.map PyData.int)
  | [] => .nil
  | n :: ns => .cons (.int n) (dpAllI ns)
theorem dpT {K : PySem.W.Frag} {H : Hp} {a : Addr} {ns : List Int} (h : SqT K H a (ns.map V.int)) : Dp K H (.ref a) (.tuple (ns.map PyData.int)) := .tup h (dpAllI ns)
theorem dpL {K : PySem.W.Frag} {H : Hp} {a : Addr} {ns : List Int} (h : SqL K H a (ns.map V.int)) : Dp K H (.ref a) (.list (ns.map PyData.int)) := .lst h (dpAllI ns)

theorem shAll : ∀ ns : List Int, PyData.canLayAll0 (ns.map PyData.int) = true
  | [] => rfl
  | n :: ns => by rw [List.map_cons, PyData.canLayAll0, shAll ns]; rfl
theorem dpAll0 : ∀ ns : List Int, PyData.depthAll (ns.map PyData.int) = 0
  | [] => rfl
  | n :: ns => by rw [List.map_cons, PyData.depthAll, dpAll0 ns]; rfl
theorem shT (ns : List Int) : SeqAt.shaped (.tuple (ns.map PyData.int)) = true := by
  unfold SeqAt.shaped
  rw [PyData.canLay0, shAll, PyData.depth, dpAll0]
  rfl
theorem shL (ns : List Int) : SeqAt.shaped (.list (ns.map PyData.int)) = true := by
  unfold SeqAt.shaped
  rw [PyData.canLay0, shAll, PyData.depth, dpAll0]
  rfl
theorem eqvI : ∀ ns ms : List Int, PyData.eqvAll (ns.map PyData.int) (ms.map PyData.int) = decide (ns = ms)
  | [], [] => by simp only [List.map_nil, PyData.eqvAll, decide_true]
  | [], _ :: _ => by simp [PyData.eqvAll]
  | _ :: _, [] => by simp [PyData.eqvAll]
  | x :: xs, y :: ys => by
    rw [List.map_cons, List.map_cons, PyData.eqvAll, eqvI xs ys, PyData.eqv]
    have e : (x == y) = decide (x = y) := by rw [Bool.eq_iff_iff, beq_iff_eq, decide_eq_true_eq]
    rw [e, ← Bool.decide_and]
    exact decide_eq_decide.mpr (by rw [List.cons.injEq])
section
variable {K : PySem.W.Frag} {H : Hp} {a b : Addr} {ns ms : List Int} {Q : VK}
theorem eqT (ha : SqT K H a (ns.map V.int)) (hb : SqT K H b (ms.map V.int)) (q : Q (.bl (decide (ns = ms))) H) : rEqD K (.ref a) (.ref b) H Q :=
  ⟨_, _, dpT ha, dpT hb, shT _, shT _, by rw [PyData.eqv, eqvI]; exact q⟩
theorem neT (ha : SqT K H a (ns.map V.int)) (hb : SqT K H b (ms.map V.int)) (q : Q (.bl (!decide (ns = ms))) H) : rNeD K (.ref a) (.ref b) H Q :=
  ⟨_, _, dpT ha, dpT hb, shT _, shT _, by rw [PyData.eqv, eqvI]; exact q⟩
theorem eqL (ha : SqL K H a (ns.map V.int)) (hb : SqL K H b (ms.map V.int)) (q : Q (.bl (decide (ns = ms))) H) : rEqD K (.ref a) (.ref b) H Q :=
  ⟨_, _, dpL ha, dpL hb, shL _, shL _, by rw [PyData.eqv, eqvI]; exact q⟩
theorem neL (ha : SqL K H a (ns.map V.int)) (hb : SqL K H b (ms.map V.int)) (q : Q (.bl (!decide (ns = ms))) H) : rNeD K (.ref a) (.ref b) H Q :=
  ⟨_, _, dpL ha, dpL hb, shL _, shL _, by rw [PyData.eqv, eqvI]; exact q⟩
theorem tyT {xs : List V} (h : SqT K H a xs) : TyX K H (.ref a) (.type "tuple") := by
  rcases h with (h | ⟨o, h⟩) | ⟨o, its, n, h, c, _⟩
  · exact .base (.tup h)
  · exact .fTuple h
  · exact .kTuple h c
/-- isinstance(t, tuple) of a tuple -/
theorem isTup {xs : List V} (h : SqT K H a xs) (q : Q (.bl true) H) : rIsi K [.ref a, .ty "tuple"] H Q := ⟨.ref a, .ty "tuple", .type "tuple", .type "tuple", true, rfl, .ty _, tyT h, kit_ty (by decide +kernel), q⟩
end
theorem call_reprB {X : Cx} : CallR X (.builtin "repr") (fun xs H Q => ∃ b : Bool, xs = [.bl b] ∧ Q (.str (if b then "True" else "False")) H) := by
  intro pins s σ H xs us Q I r h
  obtain ⟨b, rfl, q⟩ := h
  obtain ⟨u, rfl, ru⟩ := vals1 r
  cases (show u = Value.bool b from ru)
  exact PySem.P.repr_of_bool ⟨.str _, H, I.tok _, ⟨_, rfl⟩, q⟩

/-! ### a comprehension whose test and element only read -/
open Evl in
theorem lc_pure {J : It} {n : Nat} {G : Hp → Prop} {Y : Nat → Hp → V → Hp → Prop} (u : Nat → V) (w : Walk J n G Y) (hY : ∀ i H x H', Y i H x H' → i < n → H' = H ∧ x = u i) {j : Nat} {vs : List Nat} {σ : L2.St} {H1 : Hp} {D : Addr} {tt : TT} {te : TE} {Qd : Hp → Prop} (f : Nat → Bool) (v : Nat → V)
    (hD : H1 D = none) (hn : n < 50000) (hG : ∀ H', Same H1 H' → G H') (hw : ∀ x, wipe ((wipe σ vs).set j (some x)) vs = wipe σ vs)
    (ht : ∀ i, i < n → EvT tt ((wipe σ vs).set j (some (u i))) H1 (f i)) (he : ∀ i, i < n → f i = true → Ev te ((wipe σ vs).set j (some (u i))) H1 (v i)) (hd : ∀ H', Same H1 H' → H' D = some (.lst (given n f v)) → Qd H') :
    ∃ W : Nat → Nat → Hp → Prop, (∃ m, W 0 m (upd H1 D (.lst []))) ∧ ∀ i m H, W i m H →
      (J.stop i H ∧ Qd H) ∨ (J.go i H ∧ ∃ Nx : Hp → Prop, (∀ H', Nx H' → ∃ m', m' < m ∧ W (i + 1) m' H') ∧ ∀ x H', J.yld i H x H' → gName j x (wipe σ vs) H' fun σ2 H2 => wipe σ2 vs = wipe σ vs ∧ tt σ2 H2 fun b H3 =>
        if b = true then te σ2 H3 fun y H4 => ∃ acc, H4 D = some (.lst acc) ∧ acc.length < sizeLine ∧ Nx (upd H4 D (.lst (acc ++ [y]))) else Nx H3) := by
  refine lc_it w (fun i H' => Cw H1 f v D i H') ⟨hD, Ex.new hD, upd_same⟩ (fun i H' _ p => hG H' p.2.1) (fun i x H H' hi p y => ?_) (fun H' p => hd H' p.2.1 p.2.2)
  obtain ⟨rfl, rfl⟩ := hY i H x H' y hi
  exact ⟨hw _, cw_turn p (by omega) (ht i hi) (he i hi)⟩
theorem b01 (c : Prop) [Decidable c] : (-(2 ^ 64) : Int) < (if c then 1 else 0) ∧ (if c then (1 : Int) else 0) < 2 ^ 64 := by
  split <;> decide
theorem b0 (c : Prop) [Decidable c] : (0 : Int) ≤ (if c then 1 else 0) := by
  split <;> decide
theorem mixB {x y j : Int} (h : 0 ≤ y ∧ y ≤ 7919000 * 1000) (h0 : 0 ≤ j) (h1 : j < 1000) : -(2 ^ 64) < x % 2147483629 + y + 31 * j + 17 ∧ x % 2147483629 + y + 31 * j + 17 < 2 ^ 64 := by
  omega
/-! ### slices and sums of tuples, whichever object they are -/
section
variable {K : PySem.W.Frag} {H : Hp} {a b : Addr} {xs ys : List V} {lo hi : Option Int} {Q : VK}
theorem cutV_whole (h : HT.sIx xs.length 0 lo = 0 ∧ HT.sIx xs.length xs.length hi = xs.length) : cutV xs lo hi = xs := by
  unfold cutV
  rw [h.1, h.2]
  exact List.take_length
theorem slA (h : SqT K H a xs) (q : ∀ p H', Same H H' → SqT K H' p (cutV xs lo hi) → Q (.ref p) H') : rSlA K (.ref a) lo hi H Q :=
  ⟨a, xs, rfl, h, fun hw => q a H (Same.refl H) (by rw [cutV_whole hw]; exact h), fun _ p np => q p _ (Same.new np) (SqT.of upd_same)⟩
theorem ctA (ha : SqT K H a xs) (hb : SqT K H b ys) (hz : xs.length + ys.length ≤ 1000000) (q : ∀ p H', Same H H' → SqT K H' p (xs ++ ys) → Q (.ref p) H') : rCatA K (.ref a) (.ref b) H Q := by
  refine ⟨a, b, xs, ys, rfl, rfl, ha, hb, small hz, fun e => ?_, fun _ e => ?_, fun _ _ p np => q p _ (Same.new np) (SqT.of upd_same)⟩
  · subst e
    exact q b H (Same.refl H) hb
  · subst e
    exact q a H (Same.refl H) (by rw [List.append_nil]; exact ha)
theorem cutV_from (i : Nat) : cutV xs (some (i : Int)) none = xs.drop i := by
  unfold cutV
  rw [HT.sIx_nat, HT.sIx_none]
  by_cases h : i ≤ xs.length
  · rw [Nat.min_eq_left h]
    exact List.take_of_length_le (by rw [List.length_drop]; omega)
  · rw [Nat.min_eq_right (by omega), List.drop_eq_nil_of_le (by omega), List.drop_eq_nil_of_le (by omega)]
    exact List.take_nil
theorem cutV_to (i : Nat) : cutV xs none (some (i : Int)) = xs.take i := by
  unfold cutV
  rw [HT.sIx_nat, HT.sIx_none, List.drop_zero, Nat.sub_zero]
  by_cases h : i ≤ xs.length
  · rw [Nat.min_eq_left h]
  · rw [Nat.min_eq_right (by omega), List.take_length, List.take_of_length_le (by omega)]
end
theorem maxB (x : Int) (h : 0 ≤ x) : 1 ≤ (if (if 3 < x then 3 else x) > 1 then (if 3 < x then 3 else x) else 1) ∧ (if (if 3 < x then 3 else x) > 1 then (if 3 < x then 3 else x) else 1) ≤ 3 := by
  split <;> split <;> omega
/-- a new source is used and left behind -/
theorem Same.used {p : Addr} {H H1 H2 H3 : Hp} (a : Same H H1) (np : H1 p = none) (b : Same H1 H2) (c : Exb p H2 H3) : Same H H3 := fun x o h =>
  c x o (fun z => by rw [z, a.free np] at h; cases h) (b x o (a x o h))
theorem atLastI {ns : List Int} {c : Int} (h : ns.getLast? = some c) : atI (ns.map V.int) (-1) = some (.int c) := by
  rcases List.eq_nil_or_concat ns with rfl | ⟨m, x, rfl⟩
  · cases h
  · rw [List.concat_eq_append] at *
    rw [List.getLast?_concat] at h
    cases Option.some.inj h
    rw [List.map_append]
    exact atI_last _ _
theorem atHeadI {ns : List Int} {c : Int} (h : ns.head? = some c) : atI (ns.map V.int) 0 = some (.int c) := by
  cases ns with
  | nil => cases h
  | cons x r =>
    cases Option.some.inj h
    exact atI0
theorem cutV_last {xs : List V} (h : 0 < xs.length) : cutV xs (some (-1)) none = xs.drop (xs.length - 1) := by
  unfold cutV
  rw [HT.sIx_none]
  have e : HT.sIx xs.length 0 (some (-1)) = xs.length - 1 := by
    show (if (-1 : Int) < 0 then (-1 + (xs.length : Int)).toNat else min (-1 : Int).toNat xs.length) = xs.length - 1
    rw [if_pos (by decide)]
    omega
  rw [e]
  exact List.take_of_length_le (by rw [List.length_drop]; omega)
theorem cutV_inn {xs : List V} (h : 2 ≤ xs.length) : cutV xs (some 1) (some (-1)) = xs.tail.dropLast := by
  unfold cutV
  have e1 : HT.sIx xs.length 0 (some 1) = 1 := by
    rw [show (1 : Int) = ((1 : Nat) : Int) from rfl, HT.sIx_nat]
    omega
  have e2 : HT.sIx xs.length xs.length (some (-1)) = xs.length - 1 := by
    show (if (-1 : Int) < 0 then (-1 + (xs.length : Int)).toNat else min (-1 : Int).toNat xs.length) = xs.length - 1
    rw [if_pos (by decide)]
    omega
  rw [e1, e2, List.drop_one, List.dropLast_eq_take, List.length_tail]
/-- a tuple is not where a list stands -/
theorem tup_upd {K : PySem.W.Frag} {H : Hp} {a q : Addr} {xs ys : List V} {o : HO} (h : SqT K H a xs) (hq : H q = some (.lst ys)) : SqT K (upd H q o) a xs := by
  rcases h with (h | ⟨f, h⟩) | h
  · exact .inl (.inl (by rw [upd_ne (fun z => by rw [z, hq] at h; cases h)]; exact h))
  · exact .inl (.inr ⟨f, by rw [upd_ne (fun z => by rw [z, hq] at h; cases h)]; exact h⟩)
  · exact .inr h
end Bw

namespace Bw
open PySem PySem.Spec PyProof.Rows L2
open PySem.W (Datum Tup)
/-! ### data by its Lean type -/
class Lay (α : Type) [DecidableEq α] [Datum α] : Prop where
  lay : ∀ a : α, (Datum.toD a).canLay0 = true
theorem layAll {α : Type} [DecidableEq α] [Datum α] [Lay α] : ∀ xs : List α, PyData.canLayAll0 (xs.map Datum.toD) = true
  | [] => rfl
  | x :: xs => by rw [List.map_cons, PyData.canLayAll0, Lay.lay x, layAll xs]; rfl
instance : Lay Int := ⟨fun _ => rfl⟩
instance : Lay Bool := ⟨fun _ => rfl⟩
instance {α : Type} [DecidableEq α] [Datum α] [Lay α] : Lay (Tup α) := ⟨fun t => by
  show PyData.canLay0 (.tuple (t.items.map Datum.toD)) = true
  rw [PyData.canLay0]
  exact layAll t.items⟩
instance {α : Type} [DecidableEq α] [Datum α] [Lay α] : Lay (List α) := ⟨fun t => by
  show PyData.canLay0 (.list (t.map Datum.toD)) = true
  rw [PyData.canLay0]
  exact layAll t⟩
instance {α β : Type} [DecidableEq α] [Datum α] [Lay α] [DecidableEq β] [Datum β] [Lay β] : Lay (α × β) := ⟨fun p => by
  show PyData.canLay0 (.tuple [Datum.toD p.1, Datum.toD p.2]) = true
  rw [PyData.canLay0, PyData.canLayAll0, PyData.canLayAll0, PyData.canLayAll0, Lay.lay, Lay.lay]
  rfl⟩
/-- v holds the datum a -/
def Hd {α : Type} [DecidableEq α] [Datum α] (K : PySem.W.Frag) (H : Hp) (v : V) (a : α) : Prop := Dp K H v (Datum.toD a)
section
variable {α β : Type} [DecidableEq α] [Datum α] [Lay α] [DecidableEq β] [Datum β] [Lay β] {K : PySem.W.Frag} {H : Hp} {x y : V} {a b : α} {Q : VK}
theorem shaped_of (a : α) (h : Datum.depth α ≤ 64) : SeqAt.shaped (Datum.toD a) = true := by
  unfold SeqAt.shaped
  rw [Lay.lay a, decide_eq_true (Nat.le_trans (Datum.depth_le a) h)]
  rfl
theorem eqH (ha : Hd K H x a) (hb : Hd K H y b) (q : Q (.bl (decide (a = b))) H) (hd : Datum.depth α ≤ 64 := by decide) : rEqD K x y H Q :=
  ⟨_, _, ha, hb, shaped_of a hd, shaped_of b hd, by rw [Datum.eqv]; exact q⟩
theorem neH (ha : Hd K H x a) (hb : Hd K H y b) (q : Q (.bl (!decide (a = b))) H) (hd : Datum.depth α ≤ 64 := by decide) : rNeD K x y H Q :=
  ⟨_, _, ha, hb, shaped_of a hd, shaped_of b hd, by rw [Datum.eqv]; exact q⟩
theorem hdI (i : Int) : Hd K H (.int i) i := .int i
theorem hdB (i : Bool) : Hd K H (.bl i) i := .bl i
theorem hdT {p : Addr} {ns : List Int} (h : SqT K H p (ns.map V.int)) : Hd K H (.ref p) (Tup.mk ns) := dpT h
theorem hdL {p : Addr} {ns : List Int} (h : SqL K H p (ns.map V.int)) : Hd K H (.ref p) ns := dpL h
theorem hdP {p : Addr} {c : β} (h : SqT K H p [x, y]) (ha : Hd K H x a) (hb : Hd K H y c) : Hd K H (.ref p) (a, c) := .tup h (.cons ha (.cons hb .nil))
end
/-! ### what stays under a change elsewhere -/
mutual
theorem dp_same {K : PySem.W.Frag} {H H1 : Hp} (e : Same H H1) : ∀ (d : PyData) (v : V), Dp K H v d → Dp K H1 v d
  | .none, _, h => by cases h; exact .non
  | .bool _, _, h => by cases h; exact .bl _
  | .int _, _, h => by cases h; exact .int _
  | .str _, _, h => by cases h; exact .str _
  | .list ds, _, h => by
    cases h with
    | lst hs ha => exact .lst (e.seq hs) (dp_sameAll e ds _ ha)
  | .tuple ds, _, h => by
    cases h with
    | tup hs ha => exact .tup (e.tup hs) (dp_sameAll e ds _ ha)
  | .dict _, _, h => by cases h
theorem dp_sameAll {K : PySem.W.Frag} {H H1 : Hp} (e : Same H H1) : ∀ (ds : List PyData) (vs : List V), DpAll K H vs ds → DpAll K H1 vs ds
  | [], _, h => by cases h; exact .nil
  | d :: ds, _, h => by
    cases h with
    | cons a b => exact .cons (dp_same e d _ a) (dp_sameAll e ds _ b)
end
theorem Hd.same {α : Type} [DecidableEq α] [Datum α] {K : PySem.W.Frag} {H H1 : Hp} {v : V} {a : α} (e : Same H H1) (h : Hd K H v a) : Hd K H1 v a := dp_same e _ _ h
/-! ### a list of draws -/
/-- what an expression that draws below t from the source at p gives -/
def Dr (te : TE) (σ : L2.St) (p : Addr) (t : Int) : Prop := ∀ (H : Hp) (Q : VK), Src H p → (∀ r H', 0 ≤ r → r < t → Src H' p → Exb p H H' → Q (.int r) H') → te σ H Q
theorem tYes_i {σ : L2.St} {H : Hp} {Q : Bool → Hp → Prop} (h : Q true H) : tYes σ H Q := h
theorem lc_draw {n j : Nat} {vs : List Nat} {σ : L2.St} {H1 : Hp} {D : Addr} {te : TE} {Qd : Hp → Prop} (t : Int) (p : Addr) (hD : H1 D = none) (s : Src H1 p) (hn : n < 100000) (hw : ∀ x, wipe ((wipe σ vs).set j (some x)) vs = wipe σ vs)
    (hd : ∀ i : Nat, i < n → Dr te ((wipe σ vs).set j (some (.int (0 + (i : Int))))) p t)
    (fin : ∀ (ns : List Int) H', ns.length = n → (∀ c ∈ ns, 0 ≤ c ∧ c < t) → D ≠ p → H' D = some (.lst (ns.map V.int)) → Src H' p → Exb p H1 H' → Qd H') :
    ∃ W : Nat → Nat → Hp → Prop, (∃ m, W 0 m (upd H1 D (.lst []))) ∧ ∀ i m H, W i m H →
      ((Itr 0 n).stop i H ∧ Qd H) ∨ ((Itr 0 n).go i H ∧ ∃ Nx : Hp → Prop, (∀ H', Nx H' → ∃ m', m' < m ∧ W (i + 1) m' H') ∧ ∀ x H', (Itr 0 n).yld i H x H' → gName j x (wipe σ vs) H' fun σ2 H2 => wipe σ2 vs = wipe σ vs ∧ tYes σ2 H2 fun b H3 =>
        if b = true then te σ2 H3 fun y H4 => ∃ acc, H4 D = some (.lst acc) ∧ acc.length < sizeLine ∧ Nx (upd H4 D (.lst (acc ++ [y]))) else Nx H3) := by
  have nDp := s.ne hD
  refine lc_it walk_range (fun i H' => ∃ ns : List Int, H' D = some (.lst (ns.map V.int)) ∧ ns.length = i ∧ (∀ c ∈ ns, 0 ≤ c ∧ c < t) ∧ Src H' p ∧ Exb p H1 H') ⟨[], upd_same, rfl, (fun c hc => by cases hc), s.put nDp, Exb.new hD⟩ (fun _ _ _ _ => trivial) (fun i x H2 H3 hi h y => ?_) (fun H' h => ?_)
  · obtain ⟨ns, h1, h2, h3, h4, h5⟩ := h
    obtain ⟨rfl, rfl⟩ := y
    refine ⟨hw _, ?_⟩
    refine tYes_i ?_
    refine iteT ?_
    refine hd i hi H3 _ h4 fun r H4 r0 r1 s4 e4 => ⟨_, e4.lst nDp h1, smallLt (by rw [List.length_map]; omega), ns ++ [r], by rw [upd_same, List.map_append]; rfl, by rw [List.length_append, h2]; rfl, fun c hc => ?_, s4.put nDp, (h5.trans e4).mut hD⟩
    rcases List.mem_append.mp hc with h | h
    · exact h3 c h
    · rw [List.mem_singleton.mp h]; exact ⟨r0, r1⟩
  · obtain ⟨ns, h1, h2, h3, h4, h5⟩ := h
    exact fin ns H' h2 h3 nDp h1 h4 h5
end Bw

set_option maxHeartbeats 1000000
namespace Bw
open PySem PySem.Spec PyProof.Rows L2
/-! ### defs that are run where no repr is under way -/
structure FnG (P : Program) (w : World) (K : PySem.W.Frag) (mg : Str → Option Value) (base : Heap) (CX : CXT) (k : Nat) (f : Addr) (fd : FuncData) (ps : List Str) (sp : Sp) : Prop where
  len : ∀ vs H Q E, sp vs H Q E → vs.length = ps.length
  go : ∀ (A : Around) (outer : List Env) (s : Shared) (H : Hp) (args : Args) (us : List Value) (vs : List V) (Q : VK) (E : XK), A.guards = some [] → Room k A → Env0 P w K mg base A outer s H → BindsTo s fd args (ps.zip us) → Vals vs us → sp vs H Q E →
    codeAny (model P w) A (.call (.ref f) args) (CR CX outer P w H s Q E) s
theorem FnG.of {P : Program} {w : World} {K : PySem.W.Frag} {mg : Str → Option Value} {base : Heap} {CX : CXT} {k : Nat} {f : Addr} {fd : FuncData} {ps : List Str} {sp : Sp} (F : FnOk P w K mg base CX k f fd ps sp) : FnG P w K mg base CX k f fd ps sp :=
  ⟨F.len, fun A outer s H args us vs Q E _ hr => F.run A outer s H args us vs Q E hr⟩
/-- a def by its body, as Fun.ok and Fun.okX, where no repr is under way -/
theorem fnG_of {CX : CXT} {P : Program} {w : World} {K : PySem.W.Frag} {mg : Str → Option Value} {base : Heap} {k : Nat} {x qual : Str} {st : Stmt} {f : Addr} {fd : FuncData} {N ps : List Str} {sp : Sp} (F : Fun K x qual st f fd) (S : FnScope N ps (defScope st))
    (len : ∀ vs H Q E, sp vs H Q E → vs.length = ps.length)
    (hbody : ∀ (cdv : Value) (A : Around) (outer : List Env) (s : Shared) (H : Hp) (vs : List V) (Q : VK) (E : XK), (A.deeper (envOfC qual (defScope st) s.heap.objs.size f cdv)).guards = some [] → Room k (A.deeper (envOfC qual (defScope st) s.heap.objs.size f cdv)) → sp vs H Q E →
      ∃ t, PSs (cxOf CX P w K mg base N qual (defScope st) f cdv A outer s H E) (defBody st) t ∧ t { nx := fun _ H' => Q .non H', rt := Q } (start N vs) H) : FnG P w K mg base CX (k + 1) f fd ps sp := by
  obtain ⟨oc, od, kV, doc, pm, an, cdv, ct, osl, rfl, lk, hcd⟩ := F.ex
  refine ⟨len, fun A outer s H args us vs Q E hg hr e0 hb r hsp => ?_⟩
  have stays : ∀ (b : Addr) (o : Obj), base.get? b = some o → s.heap.get? b = some o := fun b o z => (e0.bs b o z).1
  have inK : K.In s.heap := e0.mod.kin.keeps stays
  have pars : ∀ y ∈ ps.zip us, (defScope st).names.lookup y.1 = some .local ∨ ((defScope st).names.lookup y.1 = some .cell ∧ ((cellsFrom (s.heap.objs.size + 1) (defScope st).names []).lookup y.1).isSome = true) := by
    intro y hy
    rcases S.par y.1 (List.of_mem_zip (a := y.1) (b := y.2) hy).1 with z | z
    · exact .inl z
    · exact .inr ⟨z, PySem.W.cellsFrom_some _ _ _ (.inl z)⟩
  refine codeAny_call_function hr.depth (inK _ _ lk) rfl S.co S.gen rfl (PySem.W.codeRec_of inK hcd) (hb _ _ _ _ ?_)
  refine wpAny_newFunctionEnv_cells S.kind pars fun env he s1 x => ?_
  subst he
  refine ⟨(e0.mod.nolimit.keeps stays).keeps x.toInCall.keep, codeAny_func ?_⟩
  obtain ⟨t, ht, hq⟩ := hbody cdv A outer s H vs Q E hg (hr.deeper _) hsp
  have I := inv_start (CX := CX) (E := E) S hr.hd e0 (len _ _ _ _ hsp) r x
  refine wpAny_mono (ht.run [] s1 (start N vs) H _ I hq) ?_ (fun _ _ z => z)
  intro fl s' hs
  cases fl with
  | next =>
    obtain ⟨σ', H', J, z⟩ := hs
    exact ⟨.non, H', J.os, J.bare, J.base, J.hok, rfl, z⟩
  | ret u =>
    obtain ⟨v, σ', H', J, rv, z⟩ := hs
    exact ⟨v, H', J.os, J.bare, J.base, J.hok, rv, z⟩
  | brk => exact hs.elim fun _ h => h.elim fun _ h => h.2.elim
  | cont => exact hs.elim fun _ h => h.elim fun _ h => h.2.elim
/-- such a def, called by its name -/
structure CalG (P : Program) (w : World) (K : PySem.W.Frag) (mg : Str → Option Value) (base : Heap) (CX : CXT) (k : Nat) (x : Str) (ps : List Str) (st : Stmt) (sp : Sp) : Prop where
  ex : ∃ (f : Addr) (fd : FuncData), FnG P w K mg base CX k f fd ps sp ∧ Fun K x x st f fd ∧ mg x = some (.ref f) ∧ Binds K fd ps []
section
variable {X : Cx} {CX : CXT} {k : Nat} {x : Str} {ps : List Str} {st : Stmt} {sp : Sp} {E : XK} {p pos : Pos} {e : Expr} {es : List Expr} {t : TA}
theorem pe_calG (c : CalG X.prog X.w X.K X.mg X.base CX k x ps st sp) (hG : X.A.guards = some []) (hr : Room k X.A) (hx : Passes CX X E) (ha : PA X (e :: es) t) (hg : Gl X x := by rfl) (hdb : (x == ("__debug__" : Str)) = false := by decide)
    (he : starEach (e :: es) X.env = (false, eval e X.env) :: starEach es X.env := by rfl) (hpl : (backTo pos (starEach es X.env)).any (·.1) = false := by rfl) : PE X (.Call (.Name x p) (e :: es) [] pos) (tCall sp [] E t) := by
  obtain ⟨f, fd, G, F, hm, hb⟩ := c.ex
  refine ⟨fun pins s σ H Q I h => ?_⟩
  refine wpAny_Call_Name_kw (ld_glob I hg hm ?_ hdb)
  refine PySem.W.callWith_K (h₀ := X.base) I.ok.mod.kin F.kp (thn (ha.run pos pins s σ H _ I h) fun us s1 z => ?_) he hpl
  obtain ⟨vs, H1, I1, r, q⟩ := z
  refine ⟨I1.kIn, ?_⟩
  have r2 : Vals (vs ++ []) us := by rw [List.append_nil]; exact r
  have hl : us.length = ps.length := by rw [← r2.length]; exact G.len _ _ _ _ q
  have hb2 := hb s1 us I1.kIn (by rw [List.append_nil]; exact hl)
  rw [List.append_nil] at hb2
  refine wpAny_call (codeAny_mono (G.go X.A X.stack s1 H1 ⟨us, []⟩ us (vs ++ []) Q E hG hr I1.env0 hb2 r2 q) fun r' s' hq => ?_)
  match r', hq with
  | .error e, hq => exact hx pins σ H1 s1 e s' I1 hq
  | .ok (.ret u), hq => exact I1.after hq
  | .ok .next, hq => exact False.elim hq
  | .ok .brk, hq => exact False.elim hq
  | .ok .cont, hq => exact False.elim hq
end
end Bw

set_option maxHeartbeats 1000000
namespace Bw
open PySem PySem.Spec PyProof.Rows L2
/-- the heap that a law meets: nothing is tracked but the script -/
theorem first_heap {P : Program} {w : World} {K : PySem.W.Frag} {h : Heap} {a : Addr} {vs : List Value} {ns : List Int} (KX : K.In h) (ha : h.get? a = some { cls := .type "list", data := .seq vs.toArray }) (hi : IntsAre vs ns) (hl : ns.length ≤ sizeLine) :
    ∃ H : Hp, Only H ∧ SqL K H a (ns.map V.int) ∧ HOk P w H h ∧ (∀ b u, H b = some u → b = a ∧ K.lookup b = none) := by
  have rv := vals_ints hi
  by_cases hk : K.lookup a = none
  · let u : HO := .frz { cls := .type "list", data := .seq vs.toArray } (.lst (ns.map V.int))
    have ev : ∀ b z, (if b = a then some u else none) = some z → b = a ∧ z = u := fun b z e => by
      by_cases hb : b = a
      · rw [if_pos hb] at e
        exact ⟨hb, (Option.some.inj e).symm⟩
      · rw [if_neg hb] at e
        cases e
    refine ⟨fun b => if b = a then some u else none, fun b => ?_, .inl (.inr ⟨_, if_pos rfl⟩), fun b z e => ?_, fun b z e => ?_⟩
    · by_cases hb : b = a
      · exact .inr ⟨_, _, if_pos hb⟩
      · exact .inl (if_neg hb)
    · obtain ⟨rfl, rfl⟩ := ev b z e
      exact ⟨ha, by rw [List.length_map]; exact hl, vs, _, rv, ha⟩
    · obtain ⟨rfl, rfl⟩ := ev b z e
      exact ⟨rfl, hk⟩
  · obtain ⟨o, ho⟩ := Option.ne_none_iff_exists'.mp hk
    have e := KX a o ho
    rw [ha] at e
    cases e
    exact ⟨fun _ => none, fun _ => .inl rfl, .inr ⟨_, vs.toArray, _, ho, rfl, rfl, rfl, by rw [List.size_toArray, hi.length]; exact hl, by simpa using rv⟩, fun _ _ z => (by cases z), fun _ _ z => (by cases z)⟩
theorem law_callG {P : Program} {w : World} {K : PySem.W.Frag} {mg mb : Str → Option Value} {CX : CXT} {k : Nat} {fa a : Addr} {fd : FuncData} {x : Str} {sp : Sp} {s₁ : Shared} {vs : List Value} {ns : List Int}
    (KX : K.In s₁.heap) (hns : s₁.heap.Ns mainGlobals mg) (hb : s₁.heap.Ns builtinsNs mb) (hbb : ∀ x : Str, x ≠ "__name__" → mb x = bootBuiltins x) (hlim : s₁.heap.NoLimit) (hg : s₁.gens = #[])
    (ha : s₁.heap.get? a = some { cls := .type "list", data := .seq vs.toArray }) (hi : IntsAre vs ns) (hl : ns.length ≤ sizeLine) (hr : Room k callerA)
    (F : ∀ base : Heap, K.In base → base.Ns mainGlobals mg → FnG P w K mg base CX k fa fd [x] sp) (hbind : ∀ (s : Shared) (u : Value), BindsTo s fd ⟨[u], []⟩ [(x, u)])
    (hsp : ∀ H : Hp, SqL K H a (ns.map V.int) → sp [.ref a] H (fun v _ => v = .bl true) fun _ _ _ => False)
    (hCX : ∀ H e s', CX [] H s₁ (fun _ _ _ => False) e s' → False) :
    codeAny (model P w) callerA (.call (.ref fa) ⟨[.ref a], []⟩) (fun r s' => r = .ok (.ret (.bool true)) ∧ OldK s₁.heap s'.heap ∧ s'.os = s₁.os ∧ AllBare s'.gens) s₁ := by
  obtain ⟨H, hO, hS, hok, hA⟩ := first_heap (P := P) (w := w) KX ha hi hl
  let B := hidT s₁.heap H
  have inB : ∀ {b : Addr} {o : Obj}, s₁.heap.get? b = some o → (∀ u, H b ≠ some u) → B.get? b = some o := fun {b o} e n => hidT_get e (by
    cases q : H b with
    | none => rfl
    | some u => exact absurd q (n u))
  have nsB : ∀ {b : Addr} {m : Str → Option Value}, s₁.heap.Ns b m → B.Ns b m := fun {b m} hm => by
    obtain ⟨o, es, ep, e, dt, r⟩ := hm
    refine ⟨o, es, ep, inB e fun u q => ?_, dt, r⟩
    obtain ⟨rfl, _⟩ := hA b u q
    rw [ha] at e
    cases e
    cases dt
  have kB : K.In B := fun b o e => inB (KX b o e) fun u q => by
    rw [(hA b u q).2] at e
    cases e
  have limB : B.NoLimit := by
    obtain ⟨mc, h1, h2⟩ := hlim
    exact ⟨mc, nsB h1, h2⟩
  have e0 : Env0 P w K mg B callerA [] s₁ H := ⟨rfl, ⟨kB, nsB hns, ⟨mb, nsB hb, hbb⟩, limB⟩, fun b o e => of_hidT e, Nat.le_of_eq (hidT_size _ _), trivial, fun b hb => absurd (show b ∈ ([] : List Addr) from hb) (by simp), hok, .of_eq hg⟩
  have run := (F B kB (nsB hns)).go callerA [] s₁ H ⟨[.ref a], []⟩ [.ref a] [.ref a] _ _ rfl hr e0 (hbind s₁ (.ref a)) (.cons rfl .nil) (hsp H hS)
  refine codeAny_mono run fun r s' h => ?_
  match r, h with
  | .error e, h => exact (hCX H e s' h).elim
  | .ok .next, h => exact False.elim h
  | .ok .brk, h => exact False.elim h
  | .ok .cont, h => exact False.elim h
  | .ok (.ret u), h =>
    obtain ⟨v, H', os, bare, un, hok', r', q⟩ := h
    have q' : v = .bl true := q
    subst q'
    obtain rfl : u = Value.bool true := r'
    refine ⟨rfl, OldK.of_keep fun b o e => ?_, os, bare⟩
    rcases hO b with z | ⟨ob, xs, z⟩
    · exact un.keep b o e z (fun w => absurd (show b ∈ ([] : List Addr) from w) (by simp)) (by simp)
    · have z1 := (hok b _ z).1
      have z2 := (hok' b _ (un.frzs b ob _ z)).1
      rw [e] at z1
      cases z1
      exact z2
theorem walk_ofG {l : PySem.W.OpenLaw} {n k : Nat} {q : Program} {loose : List Str} {XP : (Str → Option Value) → Heap → Prop} {YP : World → Heap → Prop} {d : DefRec} {K : Params → PySem.W.Frag} {CX : World → CXT} {sp : World → Sp} {x : Str}
    (hn : l.most = some n) (hn2 : n ≤ sizeLine) (hdf : d.params.defaults = []) (hr : Room k callerA) (hY : ∀ (w : World) (h : Heap), YP w h → (K w.params).In h)
    (F : ∀ (w : World) (mg : Str → Option Value) (fa : Addr) (h : Heap), (K w.params).In h → h.Ns mainGlobals mg → mg d.name = some (.ref fa) →
      ∃ fd : FuncData, (∀ (s : Shared) (u : Value), BindsTo s fd ⟨[u], []⟩ [(x, u)]) ∧ ∀ base : Heap, (K w.params).In base → base.Ns mainGlobals mg → FnG l.prog w (K w.params) mg base (CX w) k fa fd [x] (sp w))
    (hsp : ∀ (w : World) (H : Hp) (a : Addr) (ns : List Int), ns.length ≤ n → SqL (K w.params) H a (ns.map V.int) → sp w [.ref a] H (fun v _ => v = .bl true) fun _ _ _ => False)
    (hCX : ∀ (w : World) (H : Hp) (s : Shared) (e : Value) (s' : Shared), CX w [] H s (fun _ _ _ => False) e s' → False) :
    PySem.W.WalkO q loose XP YP l.row.toRowW d [] (fun f vs => PySem.call f vs) := by
  refine Att.attach_call hn hdf fun w s₀ s₁ mg mb fa o pm cd doc a vs ns G Y ho hd hcd hmg hobj hints hlen hg => ?_
  obtain ⟨fd, hb, hF⟩ := F w mg fa _ (hY w _ Y) G.T.g hmg
  exact law_callG (hY w _ Y) G.T.g G.T.b G.T.builtins G.T.nolimit hg hobj hints (Nat.le_trans hlen hn2) hr hF hb (fun H hS => hsp w H a ns hlen hS) fun H e s' => hCX w H s₁ e s'
end Bw

set_option maxHeartbeats 1000000
namespace Bw
open PySem PySem.Spec PyProof.Rows L2
/-! ### the errors of the program: classes under Refused, which keep one thing in what -/
structure XC (K : PySem.W.Frag) (C : Addr) : Prop where
  oex : OexC K C
  noW : PySem.W.findIn K (.ref C) "what" = some none
  xf : XfC K C
  hcl : (PySem.W.clsIn K C).isSome = true
  ha : PySem.W.findIn K (.ref C) "__class__" = some (some (.builtin "object.__class__"))
  hn : PySem.W.specialIn K (.builtin "object.__class__") "__get__" = some (some (.builtin "getset_descriptor.__get__"))
  ht : PySem.W.takesIn K (.builtin "object.__class__") = some true
  hm : PySem.W.mroIn K C (.type "object") = some true
/-- the promise of their __init__ -/
def sp_init (K : PySem.W.Frag) : Sp := fun vs H Q _ => ∃ (a C : Addr) (v : V), vs = [.ref a, v] ∧ OexC K C ∧ PySem.W.findIn K (.ref C) "what" = some none ∧ H a = some (exo a C none) ∧
  ∀ d, H d = none → d ≠ a → Q .non (upd (upd H d (exd d [("what", v)])) a (exo a C (some d)))
/-- an error's class and its __init__ -/
structure XM (P : Program) (w : World) (K : PySem.W.Frag) (mg : Str → Option Value) (base : Heap) (x : Str) (C : Addr) : Prop where
  gm : mg x = some (.ref C)
  c : XC K C
  init : ∃ (f : Addr) (fd : FuncData), PySem.W.findIn K (.ref C) "__init__" = some (some (.ref f)) ∧ PySem.W.typeIn K (.ref f) = some (.type "function") ∧ FnOk P w K mg base CX0 1 f fd ["self", "what"] (sp_init K) ∧ Binds K fd ["self", "what"] []
/-- what making such an error wants behind its argument -/
theorem made_what {K : PySem.W.Frag} {C : Addr} {v : V} {H : Hp} {Q : XK} (T : XC K C) (q : ∀ d, H d = none → Q (.ref C) (some d) (upd H d (.xd [("what", v)]))) :
    [v].length ≤ 1000 ∧ ∀ a, H a = none → sp_init K (.ref a :: ([v] ++ [])) (upd H a (exo a C none))
      (fun u H2 => u = .non ∧ ∃ (d : Addr) (fs : List (Str × V)), H2 a = some (exo a C (some d)) ∧ H2 d = some (exd d fs) ∧ H d = none ∧ Q (.ref C) (some d) (upd (del H2 a) d (.xd fs))) (fun _ _ _ => False) := by
  refine ⟨by show 1 ≤ 1000; decide, fun a na => ⟨a, C, v, rfl, T.oex, T.noW, upd_same, fun d nd nda => ⟨rfl, d, [("what", v)], upd_same, by rw [upd_ne nda, upd_same], by rw [upd_ne nda] at nd; exact nd, ?_⟩⟩⟩
  rw [upd_ne nda] at nd
  have e : upd (del (upd (upd (upd H a (exo a C none)) d (exd d [("what", v)])) a (exo a C (some d))) a) d (.xd [("what", v)]) = upd H d (.xd [("what", v)]) := by
    funext b
    by_cases hd : b = d
    · rw [hd, upd_same, upd_same]
    · rw [upd_ne hd, upd_ne hd]
      by_cases ha : b = a
      · rw [ha, del_same, na]
      · rw [del_ne ha, upd_ne ha, upd_ne hd, upd_ne ha]
  rw [e]
  exact q d nd
section
variable {X : Cx} {x : Str} {C : Addr} {e : Expr} {ta : TA} {p pos pos2 : Pos} {E : XK} {W : WX}
/-- raise X(e) -/
theorem ps_raiseW (hc : X.calm = true) (T : XM X.prog X.w X.K X.mg X.base x C) (hr : Room 2 X.A) (tk : Takes X W) (ha : PA X [e] ta) (hg : Gl X x := by rfl) (hdb : (x == ("__debug__" : Str)) = false := by decide)
    (he : starEach [e] X.env = (false, eval e X.env) :: starEach [] X.env := by rfl) (hpl : (backTo pos (starEach [] X.env)).any (·.1) = false := by rfl) :
    PS X (.Raise (some (.Call (.Name x p) [e] [] pos)) none pos2) (fun _ σ H => tMkO C (sp_init X.K) [] ta σ H fun cls d H' => W cls d σ H') := by
  obtain ⟨f, fd, hi, ht, F, b⟩ := T.init
  exact ps_raise hc tk (pmk_oex T.c.oex hi ht F hr b .nil pass0 hg T.gm ha hdb he hpl)
/-- isinstance(e, c), e the error that the suite holds -/
def rIsX (K : PySem.W.Frag) (a : Addr) (cls : Value) (d : Option Addr) : List V → Hp → VK → Prop := fun xs H Q => ∃ (D : Addr) (c : V) (cv : Value) (b : Bool) (dd : Addr) (fs : List (Str × V)),
  xs = [.ref a, c] ∧ cls = .ref D ∧ XC K D ∧ (∀ u, RelV c u → u = cv) ∧ PySem.W.kitOne K (.ref D) cv = some b ∧ d = some dd ∧ H dd = some (.xd fs) ∧ Q (.bl b) H
theorem call_isX {a : Addr} {oe : Obj} {cls : Value} {d : Option Addr} {pn : List (Addr × Obj)} (hz : Zc cls d oe) (hf : ∃ vs, oe.data = .fields vs) : CallR (X.suite a ((a, oe) :: pn)) (.builtin "isinstance") (rIsX X.K a cls d) := by
  intro pins s σ H xs us Q I r h
  obtain ⟨D, c, cv, b, dd, fs, rfl, rfl, T, hcv, hk, rfl, hx, q⟩ := h
  obtain ⟨u1, u2, rfl, r1, r2⟩ := vals2 r
  cases (show u1 = Value.ref a from r1)
  cases hcv _ r2
  obtain ⟨vs, hv⟩ := hf
  obtain ⟨ha, _⟩ := I.pin (a, oe) (List.mem_append_left _ List.mem_cons_self)
  have hxo : ObjOk X.prog X.w H s.heap dd (.xd fs) := I.hok dd _ hx
  obtain ⟨mA, hns, _⟩ := hxo
  obtain ⟨od, ho, _⟩ := lookIn_ns hns
  have J : PySem.W.InstAt s.heap a oe D (some od) := ⟨ha, hz.1, by unfold PySem.W.notCls; rw [hv] <;> rfl, by rw [hz.2]; exact ho⟩
  exact PySem.W.kia_one (PySem.W.kitx_exc T.hcl T.xf.ga T.xf.gg T.xf.exC T.ha T.hn T.ht T.hm) I.kIn J hk (fun z => nomatch z) fun tk => ⟨.bl b, H, I.kept (t' := tk) fun _ _ z => z, rfl, q⟩
/-- e.what, e the error that the suite holds -/
def tWhat (K : PySem.W.Frag) (a : Addr) (cls : Value) (d : Option Addr) (te : TE) : TE := fun σ H Q => te σ H fun x H1 => x = .ref a ∧ ∃ (D dd : Addr) (v : V), cls = .ref D ∧ XC K D ∧ d = some dd ∧ H1 dd = some (.xd [("what", v)]) ∧ Q v H1
theorem pe_what {a : Addr} {oe : Obj} {cls : Value} {d : Option Addr} {pn : List (Addr × Obj)} {te : TE} (hz : Zc cls d oe) (hf : ∃ vs, oe.data = .fields vs) (he : PE (X.suite a ((a, oe) :: pn)) e te)
    (hb : attributeBase e "what" X.env (eval e X.env) = eval e X.env := by rfl) : PE (X.suite a ((a, oe) :: pn)) (.Attribute e "what" pos) (tWhat X.K a cls d te) := by
  refine ⟨fun pins s σ H Q I h => ?_⟩
  refine attr_of hb (thn (he.run pins s σ H _ I h) fun u s1 z => ?_)
  obtain ⟨x, H1, I1, rx, rfl, D, dd, v, rfl, T, rfl, ea, q⟩ := z
  cases (show u = Value.ref a from rx)
  obtain ⟨ha, _⟩ := I1.pin (a, oe) (List.mem_append_left _ List.mem_cons_self)
  obtain ⟨vs, hd⟩ := hf
  have hx : ObjOk X.prog X.w H1 s1.heap dd (.xd [("what", v)]) := I1.hok dd _ ea
  obtain ⟨mA, hns, hr⟩ := hx
  obtain ⟨od, ho, hl⟩ := lookIn_ns hns
  obtain ⟨u, hu, ru⟩ := RelO.some_of (v := v) (o := mA "what") (by
    have := hr "what"
    simpa [List.lookup] using this)
  have J : PySem.W.InstAt s1.heap a oe D (some od) := ⟨ha, hz.1, by unfold PySem.W.notCls; rw [hd] <;> rfl, by rw [hz.2]; exact ho⟩
  exact HandSPX.exc_get I1.kIn J T.xf.ga T.xf.gg T.xf.exC (PySem.W.findObj_own T.xf.hdC T.noW rfl (by rw [hl, hu])) (handed_of ru) ⟨v, H1, I1.tok _, ru, q⟩
end
end Bw

set_option maxHeartbeats 1000000
namespace Bw
open PySem PySem.Spec PyProof.Rows L2
/-! ### a class of the program, made by its __init__ -/
structure CalC (P : Program) (w : World) (K : PySem.W.Frag) (mg : Str → Option Value) (base : Heap) (k : Nat) (x : Str) (C : Addr) (ps : List Str) (sp : Sp) : Prop where
  ex : ∃ (f : Addr) (fd : FuncData), Mk K C f ∧ FnOk P w K mg base CX0 k f fd ps sp ∧ mg x = some (.ref C) ∧ Binds K fd ps []
section
variable {X : Cx} {CX : CXT} {k : Nat} {x f : Str} {C : Addr} {ps ks : List Str} {st : Stmt} {sp : Sp} {E : XK} {p pos : Pos} {e : Expr} {es : List Expr} {kws : List Keyword} {t tk : TA} {ta : TE} {W : WX}
theorem pe_mk (c : CalC X.prog X.w X.K X.mg X.base k x C ps sp) (hr : Room (k + 1) X.A) (ha : PA X (e :: es) t) (hg : Gl X x := by rfl) (hdb : (x == ("__debug__" : Str)) = false := by decide)
    (he : starEach (e :: es) X.env = (false, eval e X.env) :: starEach es X.env := by rfl) (hpl : (backTo pos (starEach es X.env)).any (·.1) = false := by rfl) : PE X (.Call (.Name x p) (e :: es) [] pos) (tMake C sp [] E0 t) := by
  obtain ⟨f, fd, M, F, hm, hb⟩ := c.ex
  exact pe_make M F hr hg hm hb .nil pass0 ha hdb he hpl
/-- o.f, the written part told -/
theorem peF (K : PySem.W.Frag) (he : PE X e ta) (h : X.K = K := by rfl) (hb : attributeBase e f X.env (eval e X.env) = eval e X.env := by rfl) : PE X (.Attribute e f pos) (tFld K ta f) := h ▸ pe_fld he hb
/-- in a try's body: a call that may raise -/
theorem pe_calS (c : Cal X.prog X.w X.K X.mg X.base (L2.CX X.prog X.w) k x ps st sp) (hr : Room k X.A) (tk : Takes X W) (ha : PA X (e :: es) t) (hg : Gl X x := by rfl) (hdb : (x == ("__debug__" : Str)) = false := by decide)
    (he : starEach (e :: es) X.env = (false, eval e X.env) :: starEach es X.env := by rfl) (hpl : (backTo pos (starEach es X.env)).any (·.1) = false := by rfl) : PE X (.Call (.Name x p) (e :: es) [] pos) (tCallS sp (WE W) t) := by
  obtain ⟨f, fd, G, F, hm, hb⟩ := c.ex
  exact pe_callS G hr hg hm F.kp hb (fun σ => passAt tk σ) ha hdb he hpl
def tCallKS (sp : Sp) (gV : List V → List V → List V) (E : L2.St → XK) (tk : TA) : TE := fun σ H Q => tk σ H fun zs H2 => sp (gV [] zs) H2 Q (E σ)
theorem pe_calKS0 {g : List Value → List Value → List Value} {gV : List V → List V → List V} (c : Cal X.prog X.w X.K X.mg X.base (L2.CX X.prog X.w) k x ps st sp) (B : KwB x st ps ks g gV) (hr : Room k X.A) (tkW : Takes X W) (hkw : PK X kws tk) (hg : Gl X x := by rfl)
    (hall : (backToKw pos (keywordEach kws X.env)).all (·.1.isSome) = true := by rfl) (hks : (backToKw pos (keywordEach kws X.env)).filterMap (·.1) = ks := by rfl)
    (hdb : (x == ("__debug__" : Str)) = false := by decide)
    (hpl : ((backTo pos (starEach [] X.env)).any (·.1) || (backToKw pos (keywordEach kws X.env)).any (·.1.isNone)) = false := by rfl) :
    PE X (.Call (.Name x p) [] kws pos) (tCallKS sp gV (WE W) tk) := by
  obtain ⟨f, fd, G, F, hm, hb⟩ := c.ex
  refine ⟨fun pins s σ H Q I h => ?_⟩
  refine wpAny_Call_Name_kw (ld_glob I hg hm ?_ hdb)
  refine PySem.W.callWith_KW0 (h₀ := X.base) I.ok.mod.kin F.kp hall (thn (hkw.run pos pins s σ H _ I h) fun ws s2 z => ?_) hpl
  obtain ⟨zs, H2, I2, rz, q2⟩ := z
  refine ⟨I2.kIn, ?_⟩
  rw [hks]
  have kb := B.binds F
  have r2 := kb.rel (vs := []) (us := []) .nil rz
  have hl : (g [] ws).length = ps.length := by rw [← r2.length]; exact G.len _ _ _ _ q2
  refine wpAny_call (codeAny_mono (G.run X.A X.stack s2 H2 ⟨[], ks.zip ws⟩ (g [] ws) (gV [] zs) Q (WE W σ) hr I2.env0 (kb.to s2 [] ws I2.kIn hl) r2 q2) fun r' s' hq => ?_)
  match r', hq with
  | .error e, hq => exact passAt tkW σ pins H2 s2 e s' I2 hq
  | .ok (.ret u), hq => exact I2.after hq
  | .ok .next, hq => exact False.elim hq
  | .ok .brk, hq => exact False.elim hq
  | .ok .cont, hq => exact False.elim hq
theorem isX (K : PySem.W.Frag) {a : Addr} {oe : Obj} {cls : Value} {d : Option Addr} {pn : List (Addr × Obj)} (hz : Zc cls d oe) (hf : ∃ vs, oe.data = .fields vs) (h : X.K = K := by rfl) : CallR (X.suite a ((a, oe) :: pn)) (.builtin "isinstance") (rIsX K a cls d) := h ▸ call_isX hz hf
theorem whatX (K : PySem.W.Frag) {a : Addr} {oe : Obj} {cls : Value} {d : Option Addr} {pn : List (Addr × Obj)} {te : TE} (hz : Zc cls d oe) (hf : ∃ vs, oe.data = .fields vs) (he : PE (X.suite a ((a, oe) :: pn)) e te) (h : X.K = K := by rfl)
    (hb : attributeBase e "what" X.env (eval e X.env) = eval e X.env := by rfl) : PE (X.suite a ((a, oe) :: pn)) (.Attribute e "what" pos) (tWhat K a cls d te) := h ▸ pe_what hz hf he hb
def rReprD (K : PySem.W.Frag) : List V → Hp → VK → Prop := fun xs H Q => ∃ a d, xs = [.ref a] ∧ Dp K H (.ref a) d ∧ d.showable = true ∧ d.hasDict = false ∧ d.depth < 64 ∧ d.shown.length ≤ sizeLine ∧ Q (.str d.shown) H
theorem reprD (K : PySem.W.Frag) (hG : X.A.guards = some []) {j : Nat} (hr : Room j X.A) (h : X.K = K := by rfl) : CallR X (.builtin "repr") (rReprD K) := h ▸ call_reprD hG (by have := hr.un; omega)
end
/-! ### tuples of tuples of ints -/
def rowD (r : List Int) : PyData := .tuple (r.map .int)
def TT (K : PySem.W.Frag) (H : Hp) (a : Addr) (rows : List (List Int)) : Prop := Dp K H (.ref a) (.tuple (rows.map rowD))
theorem dpAll_int {K : PySem.W.Frag} {H : Hp} : ∀ {vs : List V} {ns : List Int}, DpAll K H vs (ns.map PyData.int) → vs = ns.map V.int
  | [], [], _ => rfl
  | [], _ :: _, h => by cases h
  | _ :: _, [], h => by cases h
  | v :: vs, n :: ns, h => by
    cases h with
    | cons a b =>
      cases a
      rw [dpAll_int b]
      rfl
theorem dp_row {K : PySem.W.Frag} {H : Hp} {v : V} {r : List Int} (h : Dp K H v (rowD r)) : ∃ b, v = .ref b ∧ SqT K H b (r.map V.int) := by
  cases h with
  | tup hs ha =>
    cases dpAll_int ha
    exact ⟨_, rfl, hs⟩
theorem row_dp {K : PySem.W.Frag} {H : Hp} {b : Addr} {r : List Int} (h : SqT K H b (r.map V.int)) : Dp K H (.ref b) (rowD r) := dpT h
theorem dpAll_get {K : PySem.W.Frag} {H : Hp} : ∀ {vs : List V} {ds : List PyData}, DpAll K H vs ds → ∀ {i : Nat} {d : PyData}, ds[i]? = some d → ∃ v, vs[i]? = some v ∧ Dp K H v d
  | [], [], _, i, d, h => by simp at h
  | [], _ :: _, h, _, _, _ => by cases h
  | _ :: _, [], h, _, _, _ => by cases h
  | v :: vs, e :: ds, h, i, d, hi => by
    cases h with
    | cons a b =>
      cases i with
      | zero => cases Option.some.inj hi; exact ⟨v, rfl, a⟩
      | succ i => exact dpAll_get b (i := i) hi
theorem dpAll_len {K : PySem.W.Frag} {H : Hp} : ∀ {vs : List V} {ds : List PyData}, DpAll K H vs ds → vs.length = ds.length
  | [], [], _ => rfl
  | [], _ :: _, h => by cases h
  | _ :: _, [], h => by cases h
  | v :: vs, e :: ds, h => by
    cases h with
    | cons a b => rw [List.length_cons, List.length_cons, dpAll_len b]
theorem dpAll_app {K : PySem.W.Frag} {H : Hp} : ∀ {vs ws : List V} {ds es : List PyData}, DpAll K H vs ds → DpAll K H ws es → DpAll K H (vs ++ ws) (ds ++ es)
  | [], _, [], _, _, h => h
  | [], _, _ :: _, _, h, _ => by cases h
  | _ :: _, _, [], _, h, _ => by cases h
  | _ :: vs, _, _ :: ds, _, h, k => by
    cases h with
    | cons a b => exact .cons a (dpAll_app b k)
theorem TT.seq {K : PySem.W.Frag} {H : Hp} {a : Addr} {rows : List (List Int)} (h : TT K H a rows) : ∃ vs, SqT K H a vs ∧ vs.length = rows.length ∧ ∀ (i : Nat) (r : List Int), rows[i]? = some r → ∃ b, vs[i]? = some (.ref b) ∧ SqT K H b (r.map V.int) := by
  cases h with
  | tup hs ha =>
    refine ⟨_, hs, by rw [dpAll_len ha, List.length_map], fun i r hr => ?_⟩
    obtain ⟨v, hv, hd⟩ := dpAll_get ha (i := i) (d := rowD r) (by rw [List.getElem?_map, hr]; rfl)
    obtain ⟨b, rfl, hb⟩ := dp_row hd
    exact ⟨b, hv, hb⟩
theorem TT.same {K : PySem.W.Frag} {H H1 : Hp} {a : Addr} {rows : List (List Int)} (e : Same H H1) (h : TT K H a rows) : TT K H1 a rows := dp_same e _ _ h
end Bw

set_option maxHeartbeats 1000000
namespace Bw
open PySem PySem.Spec PyProof.Rows L2
section
variable {X : Cx}
theorem allL (K : PySem.W.Frag) (hc : X.calm = true) (h : X.K = K := by rfl) : CallR X (.builtin "all") (rAll K) := h ▸ cr_all hc
end
/-! ### a list of what an expression that only reads gives, over any walk; what is new in the heap may stay -/
/-- te gives at σ a value that stands for u, and leaves what stood -/
def Rd (te : TE) (σ : L2.St) (H0 : Hp) (P : V → Hp → Prop) : Prop := ∀ (H : Hp) (Q : VK), Same H0 H → (∀ v H', Same H H' → P v H' → Q v H') → te σ H Q
theorem lc_rd {J : It} {n j : Nat} {G : Hp → Prop} {Y : Nat → Hp → V → Hp → Prop} (u : Nat → V) (w : Walk J n G Y) (hY : ∀ i H x H', Y i H x H' → i < n → H' = H ∧ x = u i) {vs : List Nat} {σ : L2.St} {H1 : Hp} {D : Addr} {te : TE} {Qd : Hp → Prop} (P : Nat → V → Hp → Prop)
    (hD : H1 D = none) (hn : n < 100000) (hw : ∀ x, wipe ((wipe σ vs).set j (some x)) vs = wipe σ vs) (hG : ∀ H', Same H1 H' → G H')
    (hP : ∀ i v H H', Same H H' → P i v H → P i v H')
    (hd : ∀ i : Nat, i < n → Rd te ((wipe σ vs).set j (some (u i))) H1 (P i))
    (fin : ∀ (xs : List V) H', xs.length = n → H' D = some (.lst xs) → Same H1 H' → (∀ i v, xs[i]? = some v → P i v H') → Qd H') (hPm : ∀ i v H (x : List V) y, P i v H → H D = some (.lst x) → P i v (upd H D y)) :
    ∃ W : Nat → Nat → Hp → Prop, (∃ m, W 0 m (upd H1 D (.lst []))) ∧ ∀ i m H, W i m H →
      (J.stop i H ∧ Qd H) ∨ (J.go i H ∧ ∃ Nx : Hp → Prop, (∀ H', Nx H' → ∃ m', m' < m ∧ W (i + 1) m' H') ∧ ∀ x H', J.yld i H x H' → gName j x (wipe σ vs) H' fun σ2 H2 => wipe σ2 vs = wipe σ vs ∧ tYes σ2 H2 fun b H3 =>
        if b = true then te σ2 H3 fun y H4 => ∃ acc, H4 D = some (.lst acc) ∧ acc.length < sizeLine ∧ Nx (upd H4 D (.lst (acc ++ [y]))) else Nx H3) := by
  refine lc_it w (fun i H' => ∃ xs : List V, xs.length = i ∧ H' D = some (.lst xs) ∧ Same H1 H' ∧ ∀ k v, xs[k]? = some v → P k v H') ⟨[], rfl, upd_same, Same.new hD, fun k v e => by simp at e⟩ (fun i H' _ h => hG _ (by obtain ⟨_, _, _, s, _⟩ := h; exact s)) (fun i x H2 H3 hi h y => ?_) (fun H' h => ?_)
  · obtain ⟨xs, h1, h2, h3, h4⟩ := h
    obtain ⟨rfl, rfl⟩ := hY i H2 x H3 y hi
    refine ⟨hw _, ?_⟩
    refine tYes_i ?_
    refine iteT ?_
    refine hd i hi H3 _ h3 fun v H4 s4 p4 => ⟨xs, s4 _ _ h2, smallLt (by omega), xs ++ [v], by rw [List.length_append, h1]; rfl, upd_same, (h3.trans s4).mut hD, fun k v' e => ?_⟩
    rcases Nat.lt_trichotomy k xs.length with hk | hk | hk
    · rw [List.getElem?_append_left hk] at e
      exact hPm _ _ _ _ _ (hP _ _ _ _ s4 (h4 k v' e)) (s4 _ _ h2)
    · subst hk
      rw [List.getElem?_append_right (Nat.le_refl _), Nat.sub_self] at e
      cases Option.some.inj e
      rw [h1]
      exact hPm _ _ _ _ _ p4 (s4 _ _ h2)
    · rw [List.getElem?_eq_none (by rw [List.length_append]; show xs.length + 1 ≤ k; omega)] at e
      cases e
  · obtain ⟨xs, h1, h2, h3, h4⟩ := h
    exact fin xs H' h1 h2 h3 h4
/-! ### tables -/
theorem TT.of {K : PySem.W.Frag} {H : Hp} {a : Addr} {vs : List V} {rows : List (List Int)} (h : SqT K H a vs) (hl : vs.length = rows.length) (hr : ∀ (i : Nat) (v : V) (r : List Int), vs[i]? = some v → rows[i]? = some r → ∃ b, v = .ref b ∧ SqT K H b (r.map V.int)) : TT K H a rows := by
  refine .tup h ?_
  clear h
  induction vs generalizing rows with
  | nil =>
    cases rows with
    | nil => exact .nil
    | cons r rs => cases hl
  | cons v vs ih =>
    cases rows with
    | nil => cases hl
    | cons r rs =>
      obtain ⟨b, rfl, hb⟩ := hr 0 v r rfl rfl
      exact .cons (row_dp hb) (ih (by simpa using hl) fun i v r e1 e2 => hr (i + 1) v r e1 e2)
/-- a table at t, of the class C -/
def TB (K : PySem.W.Frag) (C : Addr) (H : Hp) (t : Addr) (rows : List (List Int)) : Prop := ∃ dx r, H t = some (.ins C dx [("many", .int (rows.length : Nat)), ("beside", .ref r)]) ∧ TT K H r rows
theorem TB.same {K : PySem.W.Frag} {C t : Addr} {H H1 : Hp} {rows : List (List Int)} (e : Same H H1) (h : TB K C H t rows) : TB K C H1 t rows := by
  obtain ⟨dx, r, h1, h2⟩ := h
  exact ⟨dx, r, e _ _ h1, h2.same e⟩
end Bw
namespace Bw
open PySem PySem.Spec PyProof.Rows L2
/-! ### data that may be shown -/
structure Sh (b k : Nat) (d : PyData) : Prop where
  sh : d.showable = true
  nod : d.hasDict = false
  lv : d.leavesShort 64 = true
  dp : d.depth ≤ k
  bk : d.bulk ≤ b
theorem int_shown {n : Int} (h : n.natAbs < 2 ^ 60) : (PyData.shown (.int n)).length ≤ 64 := by
  have e := nat_repr_length_le (n := n.natAbs) (k := 60) (by decide) h
  show (Str.ofString (toString n)).length ≤ 64
  have : (Str.ofString (toString n)).length = (toString n).length := PySem.ofString_length _
  rw [this]
  cases n with
  | ofNat m =>
    have e2 : (Nat.repr m).length ≤ 60 := e
    show (Nat.repr m).length ≤ 64
    omega
  | negSucc m =>
    have e2 : (Nat.repr (m + 1)).length ≤ 60 := e
    show ("-" ++ Nat.repr (m + 1)).length ≤ 64
    rw [String.length_append]
    show 1 + _ ≤ 64
    omega
theorem Sh.int {n : Int} (h : n.natAbs < 2 ^ 60) : Sh 0 0 (.int n) := by
  refine ⟨?_, rfl, ?_, Nat.le_of_eq rfl, Nat.le_of_eq rfl⟩
  · have : n.natAbs.log2 < 1920 := by
      rcases Nat.eq_zero_or_pos n.natAbs with z | z
      · rw [z]; decide
      · have := (Nat.log2_lt (k := 60) (Nat.pos_iff_ne_zero.mp z)).mpr h
        omega
    simp [PyData.showable, this]
  · simp only [PyData.leavesShort, decide_eq_true_eq]
    exact int_shown h
theorem Sh.non : Sh 0 0 .none := ⟨rfl, rfl, rfl, Nat.le_of_eq rfl, Nat.le_of_eq rfl⟩
theorem Sh.bl (b : Bool) : Sh 0 0 (.bool b) := ⟨rfl, rfl, rfl, Nat.le_of_eq rfl, Nat.le_of_eq rfl⟩
theorem Sh.le {b k b' k' : Nat} {d : PyData} (h : Sh b k d) (hb : b ≤ b') (hk : k ≤ k') : Sh b' k' d := ⟨h.sh, h.nod, h.lv, Nat.le_trans h.dp hk, Nat.le_trans h.bk hb⟩
theorem shAll_of {b k : Nat} : ∀ ds : List PyData, (∀ d ∈ ds, Sh b k d) → PyData.showableAll ds = true ∧ PyData.hasDictAll ds = false ∧ PyData.leavesShortAll 64 ds = true ∧ PyData.depthAll ds ≤ k ∧ PyData.bulkAll ds ≤ ds.length * (b + 1)
  | [], _ => ⟨rfl, rfl, rfl, Nat.zero_le _, Nat.zero_le _⟩
  | d :: ds, h => by
    have h1 := h d List.mem_cons_self
    obtain ⟨i1, i2, i3, i4, i5⟩ := shAll_of ds fun x hx => h x (List.mem_cons_of_mem _ hx)
    have g4 := h1.dp
    have g5 := h1.bk
    refine ⟨by rw [PyData.showableAll, h1.sh, i1]; rfl, by rw [PyData.hasDictAll, h1.nod, i2]; rfl, by rw [PyData.leavesShortAll, h1.lv, i3]; rfl, by rw [PyData.depthAll]; omega, ?_⟩
    rw [PyData.bulkAll, List.length_cons, Nat.add_mul, Nat.one_mul]
    omega
theorem Sh.tup {b k m : Nat} {ds : List PyData} (h : ∀ d ∈ ds, Sh b k d) (hm : ds.length ≤ m) : Sh (m * (b + 1)) (k + 1) (.tuple ds) := by
  obtain ⟨i1, i2, i3, i4, i5⟩ := shAll_of ds h
  refine ⟨by rw [PyData.showable]; exact i1, by rw [PyData.hasDict]; exact i2, by rw [PyData.leavesShort]; exact i3, by rw [PyData.depth]; omega, ?_⟩
  rw [PyData.bulk]
  exact Nat.le_trans i5 (Nat.mul_le_mul_right _ hm)
theorem Sh.lst {b k m : Nat} {ds : List PyData} (h : ∀ d ∈ ds, Sh b k d) (hm : ds.length ≤ m) : Sh (m * (b + 1)) (k + 1) (.list ds) := by
  obtain ⟨i1, i2, i3, i4, i5⟩ := shAll_of ds h
  refine ⟨by rw [PyData.showable]; exact i1, by rw [PyData.hasDict]; exact i2, by rw [PyData.leavesShort]; exact i3, by rw [PyData.depth]; omega, ?_⟩
  rw [PyData.bulk]
  exact Nat.le_trans i5 (Nat.mul_le_mul_right _ hm)
theorem Sh.pair {b k : Nat} {x y : PyData} (hx : Sh b k x) (hy : Sh b k y) : Sh (2 * (b + 1)) (k + 1) (.tuple [x, y]) := Sh.tup (fun d hd => by
  rcases List.mem_cons.mp hd with e | e
  · rw [e]; exact hx
  · rw [List.mem_singleton.mp e]; exact hy) (Nat.le_refl _)
theorem Sh.row {r : List Int} {m : Nat} (h : ∀ c ∈ r, c.natAbs < 2 ^ 60) (hm : r.length ≤ m) : Sh m 1 (rowD r) := by
  have := Sh.tup (b := 0) (k := 0) (m := m) (ds := r.map PyData.int) (fun d hd => by
    obtain ⟨c, hc, rfl⟩ := List.mem_map.mp hd
    exact Sh.int (h c hc)) (by rw [List.length_map]; exact hm)
  rw [Nat.zero_add, Nat.mul_one] at this
  exact this
theorem Sh.rows {rows : List (List Int)} {m n : Nat} (h : ∀ r ∈ rows, r.length ≤ m ∧ ∀ c ∈ r, c.natAbs < 2 ^ 60) (hn : rows.length ≤ n) : Sh (n * (m + 1)) 2 (.tuple (rows.map rowD)) :=
  Sh.tup (fun d hd => by
    obtain ⟨r, hr, rfl⟩ := List.mem_map.mp hd
    exact Sh.row (h r hr).2 (h r hr).1) (by rw [List.length_map]; exact hn)
theorem Sh.fits {b k : Nat} {d : PyData} (h : Sh b k d) (hb : b ≤ 200000) : d.shown.length ≤ sizeLine := by
  have e := PyData.shown_le_bulk 64 (by decide) d h.lv
  have := h.bk
  rw [sizeLine_eq]
  omega
theorem Sh.rep {K : PySem.W.Frag} {b k : Nat} {d : PyData} {H : Hp} {a : Addr} {Q : VK} (h : Sh b k d) (hb : b ≤ 200000) (hk : k < 64) (hd : Dp K H (.ref a) d) (q : Q (.str d.shown) H) : rReprD K [.ref a] H Q :=
  ⟨a, d, rfl, hd, h.sh, h.nod, Nat.lt_of_le_of_lt h.dp hk, h.fits hb, q⟩
end Bw

set_option maxHeartbeats 1000000
namespace Bw
open PySem PySem.Spec PyProof.Rows L2
/-! ### comprehensions with two for -/
section
variable {J : It} {n : Nat} {G : Hp → Prop} {Y : Nat → Hp → V → Hp → Prop}
theorem lc2_it (w : Walk J n G Y) {g : TG} {tt : L2.TT} {wi1 : TI} {g1 : TG} {tt1 : L2.TT} {te : TE} {vs vs1 : List Nat} {σ : L2.St} {H1 : Hp} {D : Addr} {Qd : Hp → Prop} (Pv : Nat → Hp → Prop) (h0 : Pv 0 (upd H1 D (.lst []))) (hG : ∀ i H, i ≤ n → Pv i H → G H)
    (hs : ∀ i x H H', i < n → Pv i H → Y i H x H' → g x (wipe σ vs) H' fun σ2 H2 => wipe σ2 vs = wipe σ vs ∧ tt σ2 H2 fun b H3 =>
      if b = true then wi1 σ2 H3 fun J1 H4 => ∃ W1 : Nat → Nat → Hp → Prop, (∃ m, W1 0 m H4) ∧ ∀ j k H, W1 j k H →
        (J1.stop j H ∧ Pv (i + 1) H) ∨ (J1.go j H ∧ ∃ Nx1 : Hp → Prop, (∀ H', Nx1 H' → ∃ k', k' < k ∧ W1 (j + 1) k' H') ∧ ∀ x H', J1.yld j H x H' → g1 x (wipe σ2 vs1) H' fun σ3 H5 => wipe σ3 vs1 = wipe σ2 vs1 ∧ tt1 σ3 H5 fun b H6 =>
          if b = true then te σ3 H6 fun y H7 => ∃ acc, H7 D = some (.lst acc) ∧ acc.length < sizeLine ∧ Nx1 (upd H7 D (.lst (acc ++ [y]))) else Nx1 H6) else Pv (i + 1) H3) (hd : ∀ H, Pv n H → Qd H) :
    ∃ W : Nat → Nat → Hp → Prop, (∃ m, W 0 m (upd H1 D (.lst []))) ∧ ∀ i m H, W i m H →
      (J.stop i H ∧ Qd H) ∨ (J.go i H ∧ ∃ Nx : Hp → Prop, (∀ H', Nx H' → ∃ m', m' < m ∧ W (i + 1) m' H') ∧ ∀ x H', J.yld i H x H' → g x (wipe σ vs) H' fun σ2 H2 => wipe σ2 vs = wipe σ vs ∧ tt σ2 H2 fun b H3 =>
        if b = true then wi1 σ2 H3 fun J1 H4 => ∃ W1 : Nat → Nat → Hp → Prop, (∃ m, W1 0 m H4) ∧ ∀ j k H, W1 j k H →
          (J1.stop j H ∧ Nx H) ∨ (J1.go j H ∧ ∃ Nx1 : Hp → Prop, (∀ H', Nx1 H' → ∃ k', k' < k ∧ W1 (j + 1) k' H') ∧ ∀ x H', J1.yld j H x H' → g1 x (wipe σ2 vs1) H' fun σ3 H5 => wipe σ3 vs1 = wipe σ2 vs1 ∧ tt1 σ3 H5 fun b H6 =>
            if b = true then te σ3 H6 fun y H7 => ∃ acc, H7 D = some (.lst acc) ∧ acc.length < sizeLine ∧ Nx1 (upd H7 D (.lst (acc ++ [y]))) else Nx1 H6) else Nx H3) := by
  refine ⟨fun i m H => m = n - i ∧ i ≤ n ∧ Pv i H, ⟨n, by simp, Nat.zero_le _, h0⟩, ?_⟩
  rintro i m H ⟨rfl, hi, p⟩
  have q := hG i H hi p
  by_cases hlt : i < n
  · exact .inr ⟨w.goes i H hlt q, Pv (i + 1), fun H' p' => ⟨n - (i + 1), by omega, rfl, hlt, p'⟩, fun x H' y => hs i x H H' hlt p (w.yields i H x H' hlt q y)⟩
  · have e : i = n := by omega
    subst e
    exact .inl ⟨w.stops H q, hd H p⟩
/-- the inner for -/
theorem lc2_in (w : Walk J n G Y) {g : TG} {tt : L2.TT} {te : TE} {vs : List Nat} {σ : L2.St} {H1 : Hp} {D : Addr} {Qd : Hp → Prop} (Pv : Nat → Hp → Prop) (h0 : Pv 0 H1) (hG : ∀ i H, i ≤ n → Pv i H → G H)
    (hs : ∀ i x H H', i < n → Pv i H → Y i H x H' → g x (wipe σ vs) H' fun σ2 H2 => wipe σ2 vs = wipe σ vs ∧ tt σ2 H2 fun b H3 =>
      if b = true then te σ2 H3 fun y H4 => ∃ acc, H4 D = some (.lst acc) ∧ acc.length < sizeLine ∧ Pv (i + 1) (upd H4 D (.lst (acc ++ [y]))) else Pv (i + 1) H3) (hd : ∀ H, Pv n H → Qd H) :
    ∃ W : Nat → Nat → Hp → Prop, (∃ m, W 0 m H1) ∧ ∀ i m H, W i m H →
      (J.stop i H ∧ Qd H) ∨ (J.go i H ∧ ∃ Nx : Hp → Prop, (∀ H', Nx H' → ∃ m', m' < m ∧ W (i + 1) m' H') ∧ ∀ x H', J.yld i H x H' → g x (wipe σ vs) H' fun σ2 H2 => wipe σ2 vs = wipe σ vs ∧ tt σ2 H2 fun b H3 =>
        if b = true then te σ2 H3 fun y H4 => ∃ acc, H4 D = some (.lst acc) ∧ acc.length < sizeLine ∧ Nx (upd H4 D (.lst (acc ++ [y]))) else Nx H3) := by
  refine ⟨fun i m H => m = n - i ∧ i ≤ n ∧ Pv i H, ⟨n, by simp, Nat.zero_le _, h0⟩, ?_⟩
  rintro i m H ⟨rfl, hi, p⟩
  have q := hG i H hi p
  by_cases hlt : i < n
  · exact .inr ⟨w.goes i H hlt q, Pv (i + 1), fun H' p' => ⟨n - (i + 1), by omega, rfl, hlt, p'⟩, fun x H' y => hs i x H H' hlt p (w.yields i H x H' hlt q y)⟩
  · have e : i = n := by omega
    subst e
    exact .inl ⟨w.stops H q, hd H p⟩
end
theorem yInt {ns : List Int} : ∀ (i : Nat) (H : Hp) (x : V) (H' : Hp), YAt (ns.map V.int) i H x H' → i < (ns.map V.int).length → H' = H ∧ x = V.int (ns.getD i 0) := by
  rintro i H x H' ⟨h1, h2⟩ hi
  obtain ⟨hi2, rfl⟩ := num_map i ns x h2
  exact ⟨h1, by rw [List.getD_eq_getElem?_getD, List.getElem?_eq_getElem hi2]; rfl⟩
theorem getD_in {ns : List Int} {i : Nat} (h : i < ns.length) : ns.getD i 0 ∈ ns := by
  rw [List.getD_eq_getElem?_getD, List.getElem?_eq_getElem h]
  exact List.getElem_mem h
theorem ints_of {f : Nat → Int} : ∀ {xs : List V} (k : Nat), (∀ (i : Nat) (v : V), xs[i]? = some v → v = .int (f (k + i))) → xs = ((List.range' k xs.length).map f).map V.int
  | [], _, _ => rfl
  | x :: xs, k, h => by
    rw [List.length_cons, List.range'_succ, List.map_cons, List.map_cons, ← ints_of (xs := xs) (k + 1) fun i v e => by rw [show k + 1 + i = k + (i + 1) by omega]; exact h (i + 1) v e, h 0 x rfl]
    rfl
theorem map_getD {α : Type} {ns : List Int} (g : Int → α) : (List.range' 0 ns.length).map (fun i => g (ns.getD i 0)) = ns.map g := by
  refine List.ext_getElem (by simp) fun i h1 h2 => ?_
  simp at h1
  simp [List.getElem_range', h1]
/-- [g(c) for c in the tuple of ints at b] -/
theorem lc_mapI {K : PySem.W.Frag} {b D : Addr} {ns : List Int} {j : Nat} {vs : List Nat} {σ : L2.St} {H1 : Hp} {te : TE} {Qd : Hp → Prop} (g : Int → Int) (hb : SqT K H1 b (ns.map V.int)) (hD : H1 D = none) (hn : ns.length < 100000) (hw : ∀ x, wipe ((wipe σ vs).set j (some x)) vs = wipe σ vs)
    (hd : ∀ c ∈ ns, Rd te ((wipe σ vs).set j (some (.int c))) H1 fun v _ => v = .int (g c)) (fin : ∀ H', H' D = some (.lst ((ns.map g).map V.int)) → Same H1 H' → Qd H') :
    ∃ W : Nat → Nat → Hp → Prop, (∃ m, W 0 m (upd H1 D (.lst []))) ∧ ∀ i m H, W i m H →
      ((Itt K b).stop i H ∧ Qd H) ∨ ((Itt K b).go i H ∧ ∃ Nx : Hp → Prop, (∀ H', Nx H' → ∃ m', m' < m ∧ W (i + 1) m' H') ∧ ∀ x H', (Itt K b).yld i H x H' → gName j x (wipe σ vs) H' fun σ2 H2 => wipe σ2 vs = wipe σ vs ∧ tYes σ2 H2 fun b H3 =>
        if b = true then te σ2 H3 fun y H4 => ∃ acc, H4 D = some (.lst acc) ∧ acc.length < sizeLine ∧ Nx (upd H4 D (.lst (acc ++ [y]))) else Nx H3) := by
  refine lc_rd (fun k => .int (ns.getD k 0)) walk_tup yInt (fun i v _ => v = .int (g (ns.getD i 0))) hD (by rw [List.length_map]; exact hn) hw (fun H' s => s.tup hb) (fun _ _ _ _ _ h => h) (fun i hi => hd _ (getD_in (by rw [List.length_map] at hi; exact hi))) (fun xs H' hl hD' s hv => fin H' ?_ s) (fun _ _ _ _ _ h _ => h)
  rw [hD', ints_of (xs := xs) (f := fun i => g (ns.getD i 0)) 0 fun i v e => by rw [Nat.zero_add]; exact hv i v e, hl, List.length_map, map_getD g]
/-! ### rows of ints in the heap -/
def Rws (K : PySem.W.Frag) (H : Hp) (vs : List V) (rows : List (List Int)) : Prop := DpAll K H vs (rows.map rowD)
section
variable {K : PySem.W.Frag} {H H1 : Hp} {vs : List V} {rows : List (List Int)} {a b : Addr} {r : List Int}
theorem Rws.nil : Rws K H [] [] := DpAll.nil
theorem Rws.snoc (h : Rws K H vs rows) (hb : SqT K H b (r.map V.int)) : Rws K H (vs ++ [.ref b]) (rows ++ [r]) := by
  unfold Rws
  rw [List.map_append]
  exact dpAll_app h (.cons (row_dp hb) .nil)
theorem Rws.same (e : Same H H1) (h : Rws K H vs rows) : Rws K H1 vs rows := dp_sameAll e _ _ h
theorem Rws.len (h : Rws K H vs rows) : vs.length = rows.length := by
  have := dpAll_len h
  rw [List.length_map] at this
  exact this
theorem Rws.upd {D : Addr} {ys : List V} {o : HO} (hD : H D = some (.lst ys)) : ∀ {vs : List V} {rows : List (List Int)}, Rws K H vs rows → Rws K (L2.upd H D o) vs rows
  | [], [], _ => DpAll.nil
  | [], _ :: _, h => by cases h
  | _ :: _, [], h => by cases h
  | v :: vs, r :: rows, h => by
    cases h with
    | cons x y =>
      obtain ⟨b, rfl, hb⟩ := dp_row x
      exact DpAll.cons (row_dp (tup_upd hb hD)) (Rws.upd hD y)
theorem Rws.tt (h : Rws K H vs rows) (ha : SqT K H a vs) : TT K H a rows := .tup ha h
end
end Bw
namespace Bw
open PySem PySem.Spec PyProof.Rows L2
/-- repr of a whole number or of None -/
theorem reprS {X : Cx} : CallR X (.builtin "repr") (fun xs H Q => ∃ v, xs = [v] ∧ ((v = .non ∧ Q (.str "None") H) ∨ ∃ i : Int, v = .int i ∧ i.natAbs.log2 < 1920 ∧ Q (.str (toString i)) H)) := by
  intro pins s σ H xs us Q I r h
  obtain ⟨v, rfl, h⟩ := h
  obtain ⟨u, rfl, ru⟩ := vals1 r
  rcases h with ⟨rfl, q⟩ | ⟨i, rfl, hi, q⟩
  · cases (show u = Value.none from ru)
    exact PySem.P.repr_of_none ⟨.str "None", H, I.tok _, ⟨_, rfl⟩, q⟩
  · obtain ⟨t, rfl⟩ := ru
    exact PySem.P.repr_of_int hi ⟨.str (toString i), H, I.tok _, ⟨_, rfl⟩, q⟩
end Bw

set_option maxHeartbeats 1000000
namespace Bw
open PySem PySem.Spec PyProof.Rows L2
section
variable {X : Cx}
theorem leT (K : PySem.W.Frag) (hu : X.A.units < cLine) (h : X.K = K := by rfl) : OpR X (compareOp .LtE) (rLeT K) := h ▸ op_leT hu
end
end Bw
namespace Bw
open PySem PySem.Spec PyProof.Rows L2
section
variable {K : PySem.W.Frag} {H : Hp} {a q C dx : Addr} {xs : List V} {fs : List (Str × V)} {o : HO}
/-- a tuple is not where an instance stands -/
theorem tup_updI (h : SqT K H a xs) (hq : H q = some (.ins C dx fs)) : SqT K (upd H q o) a xs := by
  rcases h with (h | ⟨f, h⟩) | h
  · exact .inl (.inl (by rw [upd_ne (fun z => by rw [z, hq] at h; cases h)]; exact h))
  · exact .inl (.inr ⟨f, by rw [upd_ne (fun z => by rw [z, hq] at h; cases h)]; exact h⟩)
  · exact .inr h
theorem Rws.updI (hq : H q = some (.ins C dx fs)) : ∀ {vs : List V} {rows : List (List Int)}, Rws K H vs rows → Rws K (L2.upd H q o) vs rows
  | [], [], _ => DpAll.nil
  | [], _ :: _, h => by cases h
  | _ :: _, [], h => by cases h
  | v :: vs, r :: rows, h => by
    cases h with
    | cons x y =>
      obtain ⟨b, rfl, hb⟩ := dp_row x
      exact DpAll.cons (row_dp (tup_updI hb hq)) (Rws.updI hq y)
theorem TT.updI {r : Addr} {rows : List (List Int)} (hq : H q = some (.ins C dx fs)) (h : TT K H r rows) : TT K (L2.upd H q o) r rows := by
  cases h with
  | tup hs ha => exact .tup (tup_updI hs hq) (Rws.updI hq ha)
end
end Bw
namespace Bw
open PySem PySem.Spec PyProof.Rows L2
/-! ### a op1 b op2 c op3 d -/
def tChain3 (r r' r'' : R2) (ta tb tc td : TE) : TE := fun σ H Q => ta σ H fun x H1 => tb σ H1 fun y H2 => r x y H2 fun z H3 => ∃ k, z = .bl k ∧
  (if k = true then tc σ H3 fun w' H4 => r' y w' H4 fun z' H5 => ∃ k', z' = .bl k' ∧ (if k' = true then td σ H5 fun v' H6 => r'' w' v' H6 Q else Q (.bl false) H5) else Q (.bl false) H3)
section
variable {X : Cx} {a b c d : Expr} {ta tb tc td : TE} {pos : Pos}
theorem pe_chain3 {op op' op'' : CmpOp} {r r' r'' : R2} (ho : OpR X (compareOp op) r) (ho' : OpR X (compareOp op') r') (ho'' : OpR X (compareOp op'') r'') (ha : PE X a ta) (hb : PE X b tb) (hc : PE X c tc) (hd : PE X d td)
    (hm : lastMarks [op, op', op''] [b, c, d] = false := by with_unfolding_all rfl) : PE X (.Compare a [op, op', op''] [b, c, d] pos) (tChain3 r r' r'' ta tb tc td) := by
  refine ⟨fun pins s σ H Q I h => ?_⟩
  refine Compare_chain (thn (ha.run pins s σ H _ I h) fun v s1 ⟨x, H1, I1, r1, q1⟩ => chain_link (thn (hb.run pins s1 σ H1 _ I1 q1) fun u s2 ⟨y, H2, I2, r2, q2⟩ =>
    thn (ho pins s2 σ H2 x y v u _ I2 r1 r2 q2) fun e s3 ⟨z, H3, I3, r3, k, ek, q3⟩ => ?_)) hm
  subst ek
  cases r3
  refine wpAny_truthy_bool ?_
  cases k with
  | false => exact ite_ff ⟨.bl false, H3, I3, rfl, q3⟩
  | true =>
    refine ite_tt (chain_link (thn (hc.run pins s3 σ H3 _ I3 q3) fun w' s4 ⟨z', H4, I4, r4, q4⟩ => thn (ho' pins s4 σ H4 y z' u w' _ I4 r2 r4 q4) fun e' s5 ⟨z2, H5, I5, r5, k2, e2, q5⟩ => ?_))
    subst e2
    cases r5
    refine wpAny_truthy_bool ?_
    cases k2 with
    | false => exact ite_ff ⟨.bl false, H5, I5, rfl, q5⟩
    | true => exact ite_tt (chain_last (thn (hd.run pins s5 σ H5 _ I5 q5) fun w2 s6 ⟨z3, H6, I6, r6, q6⟩ => ho'' pins s6 σ H6 z' z3 w' w2 Q I6 r4 r6 q6))
end
end Bw
namespace Bw
open PySem PySem.Spec PyProof.Rows L2
theorem hu1 {k : Nat} {A : Around} (hr : Room k A) : A.units + 1 < cLine := by have := hr.un; omega
theorem hu0 {k : Nat} {A : Around} (hr : Room k A) : A.units < cLine := by have := hr.un; omega
end Bw
namespace Bw
open PySem PySem.Spec PyProof.Rows L2
/-! ### a def with keyword-only parameters, called with them told -/
structure CalW (P : Program) (w : World) (K : PySem.W.Frag) (mg : Str → Option Value) (base : Heap) (CX : CXT) (k : Nat) (x : Str) (ps : List Str) (st : Stmt) (sp : Sp) : Prop where
  ex : ∃ (f : Addr) (fd : FuncData), FnOk P w K mg base CX k f fd ps sp ∧ Fun K x x st f fd ∧ mg x = some (.ref f)
theorem pe_calKw {X : Cx} {CX : CXT} {k : Nat} {x : Str} {ps ks : List Str} {st : Stmt} {sp : Sp} {E : XK} {p pos : Pos} {e : Expr} {es : List Expr} {kws : List Keyword} {t tk : TA} {g : List Value → List Value → List Value} {gV : List V → List V → List V}
    (c : CalW X.prog X.w X.K X.mg X.base CX k x ps st sp) (B : KwB x st ps ks g gV) (hr : Room k X.A) (hx : Passes CX X E) (ha : PA X (e :: es) t) (hkw : PK X kws tk) (hg : Gl X x := by rfl)
    (hall : (backToKw pos (keywordEach kws X.env)).all (·.1.isSome) = true := by rfl) (hks : (backToKw pos (keywordEach kws X.env)).filterMap (·.1) = ks := by rfl)
    (hdb : (x == ("__debug__" : Str)) = false := by decide) (he : starEach (e :: es) X.env = (false, eval e X.env) :: starEach es X.env := by rfl)
    (hpl : ((backTo pos (starEach (e :: es) X.env)).any (·.1) || (backToKw pos (keywordEach kws X.env)).any (·.1.isNone)) = false := by rfl) :
    PE X (.Call (.Name x p) (e :: es) kws pos) (tCallK sp gV E t tk) := by
  obtain ⟨f, fd, G, F, hm⟩ := c.ex
  exact pe_callK G hr hg hm F.kp (B.binds F) hx ha hkw hall hks hdb he hpl
end Bw
namespace Bw
open PySem PySem.Spec PyProof.Rows L2
/-- a comprehension over whole numbers with a test that only reads; h: what each gives -/
theorem lc_fm {J : It} {n j : Nat} {G : Hp → Prop} {Y : Nat → Hp → V → Hp → Prop} (ns : List Int) (w : Walk J n G Y) (hn' : ns.length = n) (hY : ∀ i H x H', Y i H x H' → i < n → H' = H ∧ x = .int (ns.getD i 0)) {vs : List Nat} {σ : L2.St} {H1 : Hp} {D : Addr} {tt : L2.TT} {te : TE} {Qd : Hp → Prop} (f : Int → Bool) (h : Int → V)
    (hD : H1 D = none) (hn : n < 100000) (hw : ∀ x, wipe ((wipe σ vs).set j (some x)) vs = wipe σ vs) (hG : ∀ H', Same H1 H' → G H')
    (ht : ∀ c ∈ ns, ∀ (H : Hp) (Q : Bool → Hp → Prop), Same H1 H → Q (f c) H → tt ((wipe σ vs).set j (some (.int c))) H Q)
    (he : ∀ c ∈ ns, f c = true → ∀ (H : Hp) (Q : VK), Same H1 H → Q (h c) H → te ((wipe σ vs).set j (some (.int c))) H Q)
    (fin : ∀ H', H' D = some (.lst ((ns.filter f).map h)) → Same H1 H' → Qd H') :
    ∃ W : Nat → Nat → Hp → Prop, (∃ m, W 0 m (upd H1 D (.lst []))) ∧ ∀ i m H, W i m H →
      (J.stop i H ∧ Qd H) ∨ (J.go i H ∧ ∃ Nx : Hp → Prop, (∀ H', Nx H' → ∃ m', m' < m ∧ W (i + 1) m' H') ∧ ∀ x H', J.yld i H x H' → gName j x (wipe σ vs) H' fun σ2 H2 => wipe σ2 vs = wipe σ vs ∧ tt σ2 H2 fun b H3 =>
        if b = true then te σ2 H3 fun y H4 => ∃ acc, H4 D = some (.lst acc) ∧ acc.length < sizeLine ∧ Nx (upd H4 D (.lst (acc ++ [y]))) else Nx H3) := by
  refine lc_it w (fun i H' => H' D = some (.lst (((ns.take i).filter f).map h)) ∧ Same H1 H') ⟨upd_same, Same.new hD⟩ (fun i H' _ h => hG _ h.2) (fun i x H2 H3 hi h y => ?_) (fun H' h => fin H' (by have := h.1; rw [← hn', List.take_length] at this; exact this) h.2)
  obtain ⟨h1, h2⟩ := h
  obtain ⟨rfl, rfl⟩ := hY i H2 x H3 y hi
  have hi2 : i < ns.length := by omega
  have hm : ns.getD i 0 ∈ ns := getD_in hi2
  have e : ns.take (i + 1) = ns.take i ++ [ns.getD i 0] := by
    rw [List.take_add_one, List.getD_eq_getElem?_getD, List.getElem?_eq_getElem hi2]
    rfl
  refine ⟨hw _, ?_⟩
  refine ht _ hm H3 _ h2 ?_
  by_cases c : f (ns.getD i 0) = true
  · rw [if_pos c]
    refine he _ hm c H3 _ h2 ⟨_, h1, smallLt ?_, ?_, h2.mut hD⟩
    · rw [List.length_map]
      have := List.length_filter_le f (ns.take i)
      rw [List.length_take] at this
      omega
    · rw [upd_same, e, List.filter_append, List.map_append, List.filter_cons, if_pos c]
      rfl
  · rw [if_neg c]
    refine ⟨?_, h2⟩
    rw [h1, e, List.filter_append, List.filter_cons, if_neg c, List.filter_nil, List.append_nil]
end Bw
namespace Bw
open PySem PySem.Spec PyProof.Rows L2
theorem hu65 {k : Nat} {A : Around} (hr : Room k A) : A.units + 65 < cLine := by have := hr.un; omega
section
variable {X : Cx}
theorem inD (K : PySem.W.Frag) (hu : X.A.units + 65 < cLine) (h : X.K = K := by rfl) : OpR X (compareOp .In) (rInD K) := h ▸ op_inD hu
end
/-- a list of pairs of whole numbers at d -/
def PL (K : PySem.W.Frag) (H : Hp) (d : Addr) (prs : List (Int × Int)) : Prop := Dp K H (.ref d) (.list (prs.map fun e => rowD [e.1, e.2]))
theorem PL.same {K : PySem.W.Frag} {H H1 : Hp} {d : Addr} {prs : List (Int × Int)} (e : Same H H1) (h : PL K H d prs) : PL K H1 d prs := dp_same e _ _ h
theorem any_pair {p s : Int} : ∀ prs : List (Int × Int), ((prs.map fun e => rowD [e.1, e.2]).any fun z => PyData.eqv z (rowD [p, s])) = decide ((p, s) ∈ prs)
  | [] => by simp
  | e :: prs => by
    rw [List.map_cons, List.any_cons, any_pair prs]
    unfold rowD
    rw [PyData.eqv, eqvI, ← Bool.decide_or]
    refine decide_eq_decide.mpr ?_
    obtain ⟨x, y⟩ := e
    rw [List.mem_cons]
    simp only [List.cons.injEq, and_true, Prod.mk.injEq]
    constructor
    · rintro (⟨h1, h2⟩ | h)
      · exact .inl ⟨h1.symm, h2.symm⟩
      · exact .inr h
    · rintro (⟨h1, h2⟩ | h)
      · exact .inl ⟨h1.symm, h2.symm⟩
      · exact .inr h
theorem shRow (r : List Int) : SeqAt.shaped (rowD r) = true := shT r
theorem shPL (prs : List (Int × Int)) : SeqAt.shaped (.list (prs.map fun e => rowD [e.1, e.2])) = true := by
  have h1 : ∀ ps : List (Int × Int), PyData.canLayAll0 (ps.map fun e => rowD [e.1, e.2]) = true ∧ PyData.depthAll (ps.map fun e => rowD [e.1, e.2]) ≤ 1 := fun ps => by
    induction ps with
    | nil => exact ⟨rfl, Nat.zero_le _⟩
    | cons e ps ih =>
      rw [List.map_cons, PyData.canLayAll0, PyData.depthAll]
      refine ⟨by rw [ih.1]; rfl, ?_⟩
      have : (rowD [e.1, e.2]).depth ≤ 1 := by
        unfold rowD
        rw [PyData.depth, dpAll0]
        exact Nat.le_refl _
      have := ih.2
      omega
  unfold SeqAt.shaped
  rw [PyData.canLay0, (h1 prs).1, PyData.depth]
  have := (h1 prs).2
  have e : decide (PyData.depthAll (prs.map fun e => rowD [e.1, e.2]) + 1 ≤ 64) = true := decide_eq_true (by omega)
  first
    | (rw [e]; rfl)
    | simp; omega
end Bw
namespace Bw
open PySem PySem.Spec PyProof.Rows L2
/-- as lc_fm, the test and the element may add objects -/
theorem lc_fs {J : It} {n j : Nat} {G : Hp → Prop} {Y : Nat → Hp → V → Hp → Prop} (ns : List Int) (w : Walk J n G Y) (hn' : ns.length = n) (hY : ∀ i H x H', Y i H x H' → i < n → H' = H ∧ x = .int (ns.getD i 0)) {vs : List Nat} {σ : L2.St} {H1 : Hp} {D : Addr} {tt : L2.TT} {te : TE} {Qd : Hp → Prop} (f : Int → Bool) (h : Int → V)
    (hD : H1 D = none) (hn : n < 100000) (hw : ∀ x, wipe ((wipe σ vs).set j (some x)) vs = wipe σ vs) (hG : ∀ H', Same H1 H' → G H')
    (ht : ∀ c ∈ ns, ∀ (H : Hp) (Q : Bool → Hp → Prop), Same H1 H → (∀ H', Same H H' → Q (f c) H') → tt ((wipe σ vs).set j (some (.int c))) H Q)
    (he : ∀ c ∈ ns, f c = true → ∀ (H : Hp) (Q : VK), Same H1 H → (∀ H', Same H H' → Q (h c) H') → te ((wipe σ vs).set j (some (.int c))) H Q)
    (fin : ∀ H', H' D = some (.lst ((ns.filter f).map h)) → Same H1 H' → Qd H') :
    ∃ W : Nat → Nat → Hp → Prop, (∃ m, W 0 m (upd H1 D (.lst []))) ∧ ∀ i m H, W i m H →
      (J.stop i H ∧ Qd H) ∨ (J.go i H ∧ ∃ Nx : Hp → Prop, (∀ H', Nx H' → ∃ m', m' < m ∧ W (i + 1) m' H') ∧ ∀ x H', J.yld i H x H' → gName j x (wipe σ vs) H' fun σ2 H2 => wipe σ2 vs = wipe σ vs ∧ tt σ2 H2 fun b H3 =>
        if b = true then te σ2 H3 fun y H4 => ∃ acc, H4 D = some (.lst acc) ∧ acc.length < sizeLine ∧ Nx (upd H4 D (.lst (acc ++ [y]))) else Nx H3) := by
  refine lc_it w (fun i H' => H' D = some (.lst (((ns.take i).filter f).map h)) ∧ Same H1 H') ⟨upd_same, Same.new hD⟩ (fun i H' _ h => hG _ h.2) (fun i x H2 H3 hi h y => ?_) (fun H' h => fin H' (by have := h.1; rw [← hn', List.take_length] at this; exact this) h.2)
  obtain ⟨h1, h2⟩ := h
  obtain ⟨rfl, rfl⟩ := hY i H2 x H3 y hi
  have hi2 : i < ns.length := by omega
  have hm : ns.getD i 0 ∈ ns := getD_in hi2
  have e : ns.take (i + 1) = ns.take i ++ [ns.getD i 0] := by
    rw [List.take_add_one, List.getD_eq_getElem?_getD, List.getElem?_eq_getElem hi2]
    rfl
  refine ⟨hw _, ?_⟩
  refine ht _ hm H3 _ h2 fun H4 s4 => ?_
  by_cases c : f (ns.getD i 0) = true
  · rw [if_pos c]
    refine he _ hm c H4 _ (h2.trans s4) fun H5 s5 => ⟨_, s5 _ _ (s4 _ _ h1), smallLt ?_, ?_, ((h2.trans s4).trans s5).mut hD⟩
    · rw [List.length_map]
      have := List.length_filter_le f (ns.take i)
      rw [List.length_take] at this
      omega
    · rw [upd_same, e, List.filter_append, List.map_append, List.filter_cons, if_pos c]
      rfl
  · rw [if_neg c]
    refine ⟨?_, h2.trans s4⟩
    rw [s4 _ _ h1, e, List.filter_append, List.filter_cons, if_neg c, List.filter_nil, List.append_nil]
end Bw

set_option maxHeartbeats 1000000
namespace Bw
open PySem PySem.Spec PyProof.Rows L2
/-! ### x in y, x not in y, y a list or a tuple of data -/
def rInX (K : PySem.W.Frag) : R2 := fun x y H Q => ∃ d ds, Dp K H x d ∧ (Dp K H y (.list ds) ∨ Dp K H y (.tuple ds)) ∧ SeqAt.shaped d = true ∧ SeqAt.shaped (.list ds) = true ∧ Q (.bl (ds.any fun z => PyData.eqv z d)) H
def rNinX (K : PySem.W.Frag) : R2 := fun x y H Q => ∃ d ds, Dp K H x d ∧ (Dp K H y (.list ds) ∨ Dp K H y (.tuple ds)) ∧ SeqAt.shaped d = true ∧ SeqAt.shaped (.list ds) = true ∧ Q (.bl (!ds.any fun z => PyData.eqv z d)) H
section
variable {X : Cx}
theorem shLT {ds : List PyData} (h : SeqAt.shaped (.list ds) = true) : SeqAt.shaped (.tuple ds) = true := by
  unfold SeqAt.shaped at *
  rw [PyData.canLay0, PyData.depth] at *
  exact h
theorem op_inX (hu : X.A.units + 65 < cLine) : OpR X (compareOp .In) (rInX X.K) := by
  intro pins s σ H x y v u Q I rx ry h
  obtain ⟨d, ds, hd, he, sd, se, q⟩ := h
  obtain ⟨as, r1⟩ := Dp.reads I d x v hd rx
  rcases he with he | he
  · obtain ⟨bs, r2⟩ := Dp.reads I (.list ds) y u he ry
    exact SeqAt.in_list_reads r2 r1 (SeqAt.canLay_of_shaped se) (SeqAt.canLay_of_shaped sd) (room_in_shaped sd hu) ⟨.bl _, H, I, rfl, q⟩
  · obtain ⟨bs, r2⟩ := Dp.reads I (.tuple ds) y u he ry
    exact SeqAt.in_tuple_reads r2 r1 (SeqAt.canLay_of_shaped se) (SeqAt.canLay_of_shaped sd) (room_in_shaped sd hu) ⟨.bl _, H, I, rfl, q⟩
theorem op_notInX (hu : X.A.units + 65 < cLine) : OpR X (compareOp .NotIn) (rNinX X.K) := by
  intro pins s σ H x y v u Q I rx ry h
  obtain ⟨d, ds, hd, he, sd, se, q⟩ := h
  obtain ⟨as, r1⟩ := Dp.reads I d x v hd rx
  rcases he with he | he
  · obtain ⟨bs, r2⟩ := Dp.reads I (.list ds) y u he ry
    exact SeqAt.notIn_list_reads r2 r1 (SeqAt.canLay_of_shaped se) (SeqAt.canLay_of_shaped sd) (room_in_shaped sd hu) ⟨.bl _, H, I, rfl, q⟩
  · obtain ⟨bs, r2⟩ := Dp.reads I (.tuple ds) y u he ry
    exact SeqAt.notIn_tuple_reads r2 r1 (SeqAt.canLay_of_shaped se) (SeqAt.canLay_of_shaped sd) (room_in_shaped sd hu) ⟨.bl _, H, I, rfl, q⟩
theorem inX (K : PySem.W.Frag) (hu : X.A.units + 65 < cLine) (h : X.K = K := by rfl) : OpR X (compareOp .In) (rInX K) := h ▸ op_inX hu
theorem ninX (K : PySem.W.Frag) (hu : X.A.units + 65 < cLine) (h : X.K = K := by rfl) : OpR X (compareOp .NotIn) (rNinX K) := h ▸ op_notInX hu
theorem sortPO (K : PySem.W.Frag) (h : X.K = K := by rfl) : CallR X (.builtin "sorted") (rSortedPO K) := h ▸ cr_sortedPO
theorem pg_tupK (K : PySem.W.Frag) {es : List Expr} {k : Nat} {pos : Pos} {t : TGs} {n : Nat} (hc : X.calm = true) (h : PGs X es t)
    (hn : (assignEach es X.env).length = n := by rfl) (hst : (assignEach es X.env).findIdx? (·.1) = none := by rfl) (hK : X.K = K := by rfl) : PG X (.Tuple es k pos) (gTup K n t) := hK ▸ pg_tup hc h hn hst
theorem isIT (K : PySem.W.Frag) (h : X.K = K := by rfl) : CallR X (.builtin "isinstance") (rIsi K) := h ▸ call_isi
end
/-! ### pairs in a list -/
/-- v is a new pair of the two numbers -/
def TP (H : Hp) (v : V) (e : Int × Int) : Prop := ∃ t, v = .ref t ∧ H t = some (.tup [.int e.1, .int e.2])
def TPs (H : Hp) (vs : List V) (prs : List (Int × Int)) : Prop := vs.length = prs.length ∧ ∀ (i : Nat) v e, vs[i]? = some v → prs[i]? = some e → TP H v e
section
variable {K : PySem.W.Frag} {H H1 : Hp} {v : V} {vs ws : List V} {e : Int × Int} {prs qrs : List (Int × Int)} {d p : Addr}
theorem TPs.nil : TPs H [] [] := ⟨rfl, fun i v e h => by simp at h⟩
theorem TPs.keep (k : ∀ (b : Addr) x y, H b = some (.tup [.int x, .int y]) → H1 b = some (.tup [.int x, .int y])) (h : TPs H vs prs) : TPs H1 vs prs := ⟨h.1, fun i v e a b => by
  obtain ⟨t, r, ht⟩ := h.2 i v e a b
  exact ⟨t, r, k _ _ _ ht⟩⟩
theorem TPs.same (s : Same H H1) (h : TPs H vs prs) : TPs H1 vs prs := h.keep fun b x y => s b _
theorem TPs.exb (hp : Src H p) (s : Exb p H H1) (h : TPs H vs prs) : TPs H1 vs prs := h.keep fun b x y hb => s b _ (fun z => by
  obtain ⟨a, c, q, _⟩ := hp
  rw [z, q] at hb
  cases hb) hb
theorem TPs.upd {xs : List V} {o : HO} (hd : H d = some (.lst xs)) (h : TPs H vs prs) : TPs (upd H d o) vs prs := h.keep fun b x y hb => by rw [upd_ne (fun z => by rw [z, hd] at hb; cases hb)]; exact hb
theorem TPs.snoc (h : TPs H vs prs) (hv : TP H v e) : TPs H (vs ++ [v]) (prs ++ [e]) := by
  refine ⟨by rw [List.length_append, List.length_append, h.1]; rfl, fun i w f a b => ?_⟩
  by_cases hi : i < vs.length
  · rw [List.getElem?_append_left hi] at a
    rw [List.getElem?_append_left (by rw [← h.1]; exact hi)] at b
    exact h.2 i w f a b
  · rw [List.getElem?_append_right (by omega)] at a
    rw [List.getElem?_append_right (by rw [← h.1]; omega), ← h.1] at b
    have hi2 := (List.getElem?_eq_some_iff.mp a).1
    have z : i - vs.length = 0 := by
      have : i - vs.length < 1 := hi2
      omega
    rw [z] at a b
    cases Option.some.inj a
    cases Option.some.inj b
    exact hv
theorem TPs.tail {v : V} {e : Int × Int} (h : TPs H (v :: vs) (e :: prs)) : TP H v e ∧ TPs H vs prs :=
  ⟨h.2 0 v e rfl rfl, by simpa using h.1, fun i w f a b => h.2 (i + 1) w f a b⟩
theorem TPs.dp : ∀ {vs : List V} {prs : List (Int × Int)}, TPs H vs prs → DpAll K H vs (prs.map fun e => rowD [e.1, e.2])
  | [], [], _ => .nil
  | [], _ :: _, h => by cases h.1
  | _ :: _, [], h => by cases h.1
  | v :: vs, e :: prs, h => by
    obtain ⟨⟨t, rfl, ht⟩, h2⟩ := h.tail
    exact .cons (row_dp (r := [e.1, e.2]) (.inl (.inl ht))) (TPs.dp h2)
theorem TPs.mem : ∀ {vs : List V} {prs : List (Int × Int)}, TPs H vs prs → ∀ v ∈ vs, ∃ e ∈ prs, TP H v e
  | [], [], _, v, hv => by cases hv
  | [], _ :: _, h, _, _ => by cases h.1
  | _ :: _, [], h, _, _ => by cases h.1
  | v :: vs, e :: prs, h, w, hw => by
    obtain ⟨h1, h2⟩ := h.tail
    rcases List.mem_cons.mp hw with rfl | hw
    · exact ⟨e, List.mem_cons_self, h1⟩
    · obtain ⟨f, hf, h3⟩ := TPs.mem h2 w hw
      exact ⟨f, List.mem_cons_of_mem _ hf, h3⟩
theorem TP.one {e f : Int × Int} (h : TP H v e) (k : TP H v f) : e = f := by
  obtain ⟨t, rfl, h1⟩ := h
  obtain ⟨t', e2, h2⟩ := k
  cases e2
  rw [h1] at h2
  have h3 := HO.tup.inj (Option.some.inj h2)
  have h4 := V.int.inj (List.cons.inj h3).1
  have h5 := V.int.inj (List.cons.inj (List.cons.inj h3).2).1
  exact Prod.ext h4 h5
open Classical in
/-- the pair at v -/
noncomputable def prOf (H : Hp) (v : V) : Int × Int := if h : ∃ e, TP H v e then h.choose else (0, 0)
theorem prOf_eq (h : TP H v e) : prOf H v = e := by
  unfold prOf
  rw [dif_pos ⟨e, h⟩]
  exact TP.one (Exists.choose_spec (⟨e, h⟩ : ∃ e, TP H v e)) h
theorem TPs.map : ∀ {vs : List V} {prs : List (Int × Int)}, TPs H vs prs → prs = vs.map (prOf H)
  | [], [], _ => rfl
  | [], _ :: _, h => by cases h.1
  | _ :: _, [], h => by cases h.1
  | v :: vs, e :: prs, h => by
    obtain ⟨h1, h2⟩ := h.tail
    rw [List.map_cons, prOf_eq h1, ← TPs.map h2]
theorem TPs.of : ∀ {vs : List V}, (∀ v ∈ vs, ∃ e, TP H v e) → TPs H vs (vs.map (prOf H)) := fun {vs} h => ⟨by rw [List.length_map], fun i v e a b => by
  rw [List.getElem?_map, a] at b
  cases Option.some.inj b
  obtain ⟨f, hf⟩ := h v (List.mem_of_getElem? a)
  rw [prOf_eq hf]
  exact hf⟩
/-- before or like, by the first, then by the second -/
def PLe (e f : Int × Int) : Prop := e.1 < f.1 ∨ (e.1 = f.1 ∧ e.2 ≤ f.2)
/-- sorted(a list of new pairs) -/
theorem sort_TPs {Q : VK} (hd : SqL K H d vs) (h : TPs H vs prs) (q : ∀ ys qrs p, H p = none → qrs.Perm prs → qrs.Pairwise PLe → TPs (upd H p (.lst ys)) ys qrs → Q (.ref p) (upd H p (.lst ys))) : rSortedPO K [.ref d] H Q := by
  refine ⟨d, vs, prOf H, rfl, hd, fun x hx => ?_, fun ys p hs hb np => ?_⟩
  · obtain ⟨e, _, t, rfl, ht⟩ := h.mem x hx
    exact ⟨t, rfl, by rw [prOf_eq ⟨t, rfl, ht⟩]; exact ht⟩
  · have hm : ∀ v ∈ ys, ∃ e, TP H v e := fun v hv => by
      obtain ⟨e, _, ht⟩ := h.mem v (hb.perm.mem_iff.mp hv)
      exact ⟨e, ht⟩
    refine q ys (ys.map (prOf H)) p np ?_ ?_ ((TPs.of hm).same (Same.new np))
    · rw [h.map]
      exact hb.perm.map _
    · rw [List.pairwise_map]
      refine List.Pairwise.imp (fun {a b} z => ?_) hs
      have := SrtO.lexB_no.mp z
      unfold PLe
      omega
end
/-! ### a comprehension that reads, any target -/
theorem lc_rdG {J : It} {n : Nat} {G : Hp → Prop} {Y : Nat → Hp → V → Hp → Prop} (w : Walk J n G Y) {g : TG} {vs : List Nat} {σ : L2.St} {H1 : Hp} {D : Addr} {te : TE} {Qd : Hp → Prop} (τ : Nat → L2.St) (P : Nat → V → Hp → Prop)
    (hg : ∀ i x H H' (Qk : L2.St → Hp → Prop), i < n → Same H1 H → Y i H x H' → Same H H' ∧ (Qk (τ i) H' → g x (wipe σ vs) H' Qk))
    (hD : H1 D = none) (hn : n < 100000) (hw : ∀ i, i < n → wipe (τ i) vs = wipe σ vs) (hG : ∀ H', Same H1 H' → G H')
    (hP : ∀ i v H H', Same H H' → P i v H → P i v H')
    (hd : ∀ i : Nat, i < n → Rd te (τ i) H1 (P i))
    (fin : ∀ (xs : List V) H', xs.length = n → H' D = some (.lst xs) → Same H1 H' → (∀ i v, xs[i]? = some v → P i v H') → Qd H') (hPm : ∀ i v H (x : List V) y, P i v H → H D = some (.lst x) → P i v (upd H D y)) :
    ∃ W : Nat → Nat → Hp → Prop, (∃ m, W 0 m (upd H1 D (.lst []))) ∧ ∀ i m H, W i m H →
      (J.stop i H ∧ Qd H) ∨ (J.go i H ∧ ∃ Nx : Hp → Prop, (∀ H', Nx H' → ∃ m', m' < m ∧ W (i + 1) m' H') ∧ ∀ x H', J.yld i H x H' → g x (wipe σ vs) H' fun σ2 H2 => wipe σ2 vs = wipe σ vs ∧ tYes σ2 H2 fun b H3 =>
        if b = true then te σ2 H3 fun y H4 => ∃ acc, H4 D = some (.lst acc) ∧ acc.length < sizeLine ∧ Nx (upd H4 D (.lst (acc ++ [y]))) else Nx H3) := by
  refine lc_it w (fun i H' => ∃ xs : List V, xs.length = i ∧ H' D = some (.lst xs) ∧ Same H1 H' ∧ ∀ k v, xs[k]? = some v → P k v H') ⟨[], rfl, upd_same, Same.new hD, fun k v e => by simp at e⟩ (fun i H' _ h => hG _ (by obtain ⟨_, _, _, s, _⟩ := h; exact s)) (fun i x H2 H3 hi h y => ?_) (fun H' h => ?_)
  · obtain ⟨xs, h1, h2, h3, h4⟩ := h
    obtain ⟨s3, go⟩ := hg i x H2 H3 (fun σ2 H2 => wipe σ2 vs = wipe σ vs ∧ tYes σ2 H2 fun b H3 =>
        if b = true then te σ2 H3 fun y H4 => ∃ acc, H4 D = some (.lst acc) ∧ acc.length < sizeLine ∧ ∃ xs : List V, xs.length = i + 1 ∧ (upd H4 D (.lst (acc ++ [y]))) D = some (.lst xs) ∧ Same H1 (upd H4 D (.lst (acc ++ [y]))) ∧ ∀ k v, xs[k]? = some v → P k v (upd H4 D (.lst (acc ++ [y]))) else ∃ xs : List V, xs.length = i + 1 ∧ H3 D = some (.lst xs) ∧ Same H1 H3 ∧ ∀ k v, xs[k]? = some v → P k v H3) hi h3 y
    refine go ⟨hw i hi, ?_⟩
    refine tYes_i ?_
    refine iteT ?_
    refine hd i hi H3 _ (h3.trans s3) fun v H4 s4 p4 => ⟨xs, s4 _ _ (s3 _ _ h2), smallLt (by omega), xs ++ [v], by rw [List.length_append, h1]; rfl, upd_same, ((h3.trans s3).trans s4).mut hD, fun k v' e => ?_⟩
    rcases Nat.lt_trichotomy k xs.length with hk | hk | hk
    · rw [List.getElem?_append_left hk] at e
      exact hPm _ _ _ _ _ (hP _ _ _ _ (s3.trans s4) (h4 k v' e)) (s4 _ _ (s3 _ _ h2))
    · subst hk
      rw [List.getElem?_append_right (Nat.le_refl _), Nat.sub_self] at e
      cases Option.some.inj e
      rw [h1]
      exact hPm _ _ _ _ _ p4 (s4 _ _ (s3 _ _ h2))
    · rw [List.getElem?_eq_none (by rw [List.length_append]; show xs.length + 1 ≤ k; omega)] at e
      cases e
  · obtain ⟨xs, h1, h2, h3, h4⟩ := h
    exact fin xs H' h1 h2 h3 h4
/-- a list of bools -/
theorem bls_of {f : Nat → Bool} : ∀ {xs : List V} (k : Nat), (∀ (i : Nat) (v : V), xs[i]? = some v → v = .bl (f (k + i))) → xs = ((List.range' k xs.length).map f).map V.bl
  | [], _, _ => rfl
  | x :: xs, k, h => by
    rw [List.length_cons, List.range'_succ, List.map_cons, List.map_cons, ← bls_of (xs := xs) (k + 1) fun i v e => by rw [show k + 1 + i = k + (i + 1) by omega]; exact h (i + 1) v e, h 0 x rfl]
    rfl
theorem all_map_id {f : Nat → Bool} {n : Nat} : ((List.range' 0 n).map f).all id = true ↔ ∀ i, i < n → f i = true := by
  rw [List.all_map, List.all_eq_true]
  constructor
  · intro h i hi
    exact h i (List.mem_range'.mpr ⟨i, hi, by omega⟩)
  · intro h i hi
    obtain ⟨j, hj, rfl⟩ := List.mem_range'.mp hi
    exact h _ (by omega)
theorem notIn_int {K : PySem.W.Frag} {H : Hp} {p : Addr} {c : Int} {ns : List Int} {Q : VK} (h : SqT K H p (ns.map V.int)) (hfl : (ns.map V.int).all flatV = true) (hin : inV (.int c) (ns.map V.int) = decide (c ∈ ns)) (q : Q (.bl (!decide (c ∈ ns))) H) : rIn K true (.int c) (.ref p) H Q :=
  ⟨p, _, rfl, .inr h, rfl, hfl, by rw [hin]; exact q⟩
/-- a list of draws, each made to a number -/
theorem lc_drawI {n j : Nat} {vs : List Nat} {σ : L2.St} {H1 : Hp} {D : Addr} {te : TE} {Qd : Hp → Prop} (p : Addr) (hD : H1 D = none) (s : Src H1 p) (hn : n < 100000) (hw : ∀ x, wipe ((wipe σ vs).set j (some x)) vs = wipe σ vs)
    (hd : ∀ (i : Nat) (H : Hp) (Q : VK), i < n → Src H p → Exb p H1 H → (∀ (r : Int) H', Src H' p → Exb p H H' → Q (.int r) H') → te ((wipe σ vs).set j (some (.int (0 + (i : Int))))) H Q)
    (fin : ∀ (ns : List Int) H', ns.length = n → D ≠ p → H' D = some (.lst (ns.map V.int)) → Src H' p → Exb p H1 H' → Qd H') :
    ∃ W : Nat → Nat → Hp → Prop, (∃ m, W 0 m (upd H1 D (.lst []))) ∧ ∀ i m H, W i m H →
      ((Itr 0 n).stop i H ∧ Qd H) ∨ ((Itr 0 n).go i H ∧ ∃ Nx : Hp → Prop, (∀ H', Nx H' → ∃ m', m' < m ∧ W (i + 1) m' H') ∧ ∀ x H', (Itr 0 n).yld i H x H' → gName j x (wipe σ vs) H' fun σ2 H2 => wipe σ2 vs = wipe σ vs ∧ tYes σ2 H2 fun b H3 =>
        if b = true then te σ2 H3 fun y H4 => ∃ acc, H4 D = some (.lst acc) ∧ acc.length < sizeLine ∧ Nx (upd H4 D (.lst (acc ++ [y]))) else Nx H3) := by
  have nDp := s.ne hD
  refine lc_it walk_range (fun i H' => ∃ ns : List Int, H' D = some (.lst (ns.map V.int)) ∧ ns.length = i ∧ Src H' p ∧ Exb p H1 H') ⟨[], upd_same, rfl, s.put nDp, Exb.new hD⟩ (fun _ _ _ _ => trivial) (fun i x H2 H3 hi h y => ?_) (fun H' h => ?_)
  · obtain ⟨ns, h1, h2, h4, h5⟩ := h
    obtain ⟨rfl, rfl⟩ := y
    refine ⟨hw _, ?_⟩
    refine tYes_i ?_
    refine iteT ?_
    refine hd i H3 _ hi h4 h5 fun r H4 s4 e4 => ⟨_, e4.lst nDp h1, smallLt (by rw [List.length_map]; omega), ns ++ [r], by rw [upd_same, List.map_append]; rfl, by rw [List.length_append, h2]; rfl, s4.put nDp, (h5.trans e4).mut hD⟩
  · obtain ⟨ns, h1, h2, h4, h5⟩ := h
    exact fin ns H' h2 nDp h1 h4 h5
end Bw

set_option maxHeartbeats 1000000
namespace Bw
open PySem PySem.Spec PyProof.Rows L2
/-! ### several except clauses, each with a name -/
def wManyA (K : PySem.W.Frag) (Wout : WX) (D : Ends) : List (Value × Nat × (Addr → Value → Option Addr → TS)) → WX
  | [] => Wout
  | (c, i, ts) :: r => fun cls d σ H => ∃ b, PySem.W.exmOne K cls c = some b ∧
      (b = true → ∀ a, H a = none → ts a cls d { nx := fun σ' H' => D.nx (σ'.set i none) H', rt := D.rt, bk := fun σ' H' => D.bk (σ'.set i none) H', ct := fun σ' H' => D.ct (σ'.set i none) H' } (σ.set i (some (.ref a))) H) ∧
      (b = false → wManyA K Wout D r cls d σ H)
inductive HdsA (X : Cx) : List ExceptHandler → List (Value × Nat × (Addr → Value → Option Addr → TS)) → Prop
  | nil : HdsA X [] []
  | cons {x n : Str} {c : Value} {i : Nat} {ts : Addr → Value → Option Addr → TS} {b₀ : Stmt} {suite : List Stmt} {np pos' : Pos} {hds : List ExceptHandler} {l : List (Value × Nat × (Addr → Value → Option Addr → TS))}
      (hi : X.N[i]? = some n) (hln : X.env.kindOf n = some .local) (hc : Names X x c)
      (hsu : ∀ (a : Addr) (oe : Obj) (cls : Value) (d : Option Addr) (pn : List (Addr × Obj)), Zc cls d oe → (∃ vs, oe.data = .fields vs) → PSs (X.suite a ((a, oe) :: pn)) (b₀ :: suite) (ts a cls d)) (r : HdsA X hds l) :
      HdsA X (.ExceptHandler (some (.Name x np)) (some n) (b₀ :: suite) pos' :: hds) ((c, i, ts) :: l)
section
variable {X : Cx} {body : List Stmt} {h₀ : ExceptHandler} {hds : List ExceptHandler} {l : List (Value × Nat × (Addr → Value → Option Addr → TS))} {pos : Pos} {tb : WX → TS} {Wout : WX}
theorem ps_try_mas (hs : X.stack = X.env :: X.outer) (hf : X.env.frame = some X.env.locals) (hN : X.N.Nodup) (tk : Takes X Wout)
    (hb : ∀ (W : WX) (pn : List (Addr × Obj)) (xe : Value → Shared → Prop), Takes (X.tr pn xe) W → PassesOwn (model X.prog X.w) X.A X.env xe → PSs (X.tr pn xe) body (tb W))
    (hh : HdsA X (h₀ :: hds) l) : PS X (.Try body (h₀ :: hds) [] [] pos) (fun D σ H => tb (wManyA X.K Wout D l) D σ H) := by
  refine ⟨fun pins s σ H D I h => ?_⟩
  have ok := I.ok
  have hfr : X.A.frames = some (X.env :: X.outer) := by rw [ok.frames, hs]
  refine wpAny_Try_except ?_
  refine wpAny_mono ((hb (wManyA X.K Wout D l) (X.pn ++ pins) (fun e s₁ => wpAny (model X.prog X.w) X.A (noteFrame e X.env) (fun _ s₂ => wpAny (model X.prog X.w) X.A (setFlight e none) (fun _ s₃ =>
    wpAny (model X.prog X.w) X.A (handleBy e X.env (h₀ :: hds)) (SP X pins D) X.xe s₃) X.xe s₂) X.xe s₁) (fun u s' xx => ?_) PassesOwn.looking).run [] s σ H D (I.toTry _) h) (fun f s1 hsp => ?_) (fun e s1 he => he)
  · -- the catch
    obtain ⟨a, B, sI, pins', σ', H', cls, d, rfl, J', nb, up, sky, na, os, ag, w⟩ := xx
    have J : Inv X pins σ' H' sI := J'.ofTry ok
    have sky' : Sky B (X.env :: X.outer) a (Zc cls d) X.env.locals s'.heap := by rw [← hs]; exact sky
    show wpAny (model X.prog X.w) X.A (noteFrame (.ref a) X.env) _ _ _
    refine Sky.land Zc.steady hfr hf sky' fun h3 fl3 up3 => ?_
    have J3 : Inv X pins σ' H' { s' with heap := h3 } := J.landed nb fl3.1 (up.trans up3) os ag
    obtain ⟨oe3, vs3, he3, hz3, hd3⟩ := fl3.there
    have notFr : ∀ {h : Heap} {o : Obj} {vs : Array Value}, h.FunFrames B (X.env :: X.outer) → h.get? a = some o → o.data = .fields vs → a ∉ frs (X.env :: X.outer) := fun {h o vs} ff e dd hm => by
      obtain ⟨_, o', e', hnf⟩ := ff.mem hm
      rw [e] at e'; cases e'
      exact hnf _ dd
    have nfr := notFr fl3.2.2.1 he3 hd3
    have nL : a ≠ X.env.locals := fun z => nfr (List.mem_filterMap.mpr ⟨X.env, List.mem_cons_self, by rw [hf, z]⟩)
    have nF : a ∉ X.fs := fun hm => by
      obtain ⟨e, he, q⟩ := List.mem_filterMap.mp hm
      exact nfr (List.mem_filterMap.mpr ⟨e, List.mem_cons_of_mem _ he, q⟩)
    have S3 := J3.suite he3 hd3 na nL nF
    have go : ∀ {hds' : List ExceptHandler} {l' : List (Value × Nat × (Addr → Value → Option Addr → TS))}, HdsA X hds' l' → wManyA X.K Wout D l' cls d σ' H' →
        wpAny (model X.prog X.w) X.A (handleBy (.ref a) X.env hds') (SP X pins D) X.xe { s' with heap := h3 } := by
      intro hds' l' hk
      induction hk with
      | nil =>
        intro w
        refine wpAny_handleBy_nil ?_
        obtain ⟨k1, k2, k3, oe, vs, T, oT, ts', he, hz, hd, h1, hr⟩ := id fl3
        unfold PySem.passOn
        refine wpAny_bind (wpAny_field he hd h1 ?_)
        rw [if_neg (show ¬ ((Value.ref T == Value.none) = true) from by simp)]
        have fin : wpAny (model X.prog X.w) X.A (setFlight (.ref a) X.env.frame) (fun _ s4 => wpAny (model X.prog X.w) X.A (throw (.ref a) : Sem Flow) (SP X pins D) X.xe s4) X.xe { s' with heap := h3 } := by
          rw [hf]
          refine HandSPX.setFlight_upZ fl3 fun h4 hh4 up4 => wpAny_throw (tk _ _ ?_)
          exact ⟨a, B, sI, pins, σ', H', cls, d, rfl, J, nb, (up.trans up3).trans up4, .inr (.inr (by rw [hs]; exact hh4)), na, os, ag, w⟩
        first
          | exact wpAny_bind (wpAny_pure (wpAny_bind fin))
          | exact wpAny_bind fin
      | @cons x n c i ts b₀ suite np pos' hds2 l2 hi hln hc hsu r ih =>
        intro w
        have hloc : Loc X.env.scope n := .inl hln
        obtain ⟨b, hb1, hyes, hno⟩ := w
        refine wpAny_handleBy_cons (codeAny_handlers_test ?_) (by intro q; cases q)
        have LT : PySem.W.Looks (model X.prog X.w) h3 (typeOf (.ref a)) cls := fun A Q E s k q => wpAny_typeOf_ref (k _ _ he3) (by rw [hz3.1]; exact q)
        have LM := PySem.W.exm_one (M := model X.prog X.w) (J3.kIn) LT hb1
        have test : ∀ {Q : Value → Shared → Prop} {E : Value → Shared → Prop}, Q c { s' with heap := h3 } → wpAny (model X.prog X.w) (X.A.mark (some (.ref a))) (eval (.Name x np) X.env) Q E { s' with heap := h3 } := fun {Q E} q => by
          obtain ⟨hg, hdbg, hm | ⟨hm, hv, hnn⟩⟩ := hc
          · exact ld_glob (X := X.suite a ((a, oe3) :: (X.pn ++ pins))) S3 hg hm q hdbg
          · exact ld_blt (X := X.suite a ((a, oe3) :: (X.pn ++ pins))) S3 hg hm hv q hnn hdbg
        refine test (LM.here ?_)
        cases b with
        | true =>
          refine codeAny_handlers_suite_as ?_
          refine HandSPX.lands_againZ fl3 fun h4 fl4 up4 => ?_
          have J4 : Inv X pins σ' H' { s' with heap := h4 } := J.landed nb fl4.1 ((up.trans up3).trans up4) os ag
          obtain ⟨oe4, vs4, he4, hz4, hd4⟩ := fl4.there
          have S4 := J4.suite he4 hd4 na nL nF
          refine store_ok (X := X.suite a ((a, oe4) :: (X.pn ++ pins))) (v := .ref a) S4 hN hi hloc rfl (fun s5 S5 => ?_) (.inr hln)
          refine wpAny_mono ((hsu a oe4 cls d (X.pn ++ pins) hz4 ⟨_, hd4⟩).run [] s5 _ H' _ S5 (hyes rfl a na)) (fun f s6 hsp => ?_) (fun _ _ z => False.elim z)
          have end_ : ∀ {σ6 : L2.St} {H6 : Hp} {Q : Shared → Prop}, Inv (X.suite a ((a, oe4) :: (X.pn ++ pins))) [] σ6 H6 s6 → (∀ s7, Inv X pins (σ6.set i none) H6 s7 → Q s7) →
              wpAny (model X.prog X.w) X.A (do bindName X.env n .none; unbindBehindTheSuite X.env n pos') (fun _ s7 => Q s7) X.xe s6 := fun {σ6 H6 Q} S6 hq => gone_ok (S6.unsuite ok) hN hi hln hq
          cases f with
          | next =>
            obtain ⟨σ6, H6, S6, q6⟩ := hsp
            exact end_ S6 fun s7 J7 => ⟨_, _, J7, q6⟩
          | brk =>
            obtain ⟨σ6, H6, S6, q6⟩ := hsp
            exact end_ S6 fun s7 J7 => ⟨_, _, J7, q6⟩
          | cont =>
            obtain ⟨σ6, H6, S6, q6⟩ := hsp
            exact end_ S6 fun s7 J7 => ⟨_, _, J7, q6⟩
          | ret u =>
            obtain ⟨v6, σ6, H6, S6, r6, q6⟩ := hsp
            exact end_ S6 fun s7 J7 => ⟨_, _, _, J7, r6, q6⟩
        | false =>
          show wpAny _ X.A (handleBy (.ref a) X.env hds2) _ _ _
          exact ih (hno rfl)
    exact go hh w
  · cases f with
    | next =>
      obtain ⟨σ', H', J', q⟩ := hsp
      exact wpAny_execs_nil ⟨σ', H', J'.ofTry ok, q⟩
    | brk =>
      obtain ⟨σ', H', J', q⟩ := hsp
      exact ⟨σ', H', J'.ofTry ok, q⟩
    | cont =>
      obtain ⟨σ', H', J', q⟩ := hsp
      exact ⟨σ', H', J'.ofTry ok, q⟩
    | ret u =>
      obtain ⟨v, σ', H', J', r, q⟩ := hsp
      exact ⟨v, σ', H', J'.ofTry ok, r, q⟩
end
/-! ### xs[i], a list or a tuple -/
section
variable {X : Cx}
def rIxQ (K : PySem.W.Frag) : R2 := fun x y H Q => rIxL K x y H Q ∨ rIxT K x y H Q
theorem ixS (K : PySem.W.Frag) (h : X.K = K := by rfl) : IxR X (rIxQ K) := h ▸ ix_list.or ix_tup
end
/-! ### like data -/
theorem shaped_can {d : PyData} (h : SeqAt.shaped d = true) : d.canLay0 = true := by
  unfold SeqAt.shaped at h
  exact ((Bool.and_eq_true _ _).mp h).1
theorem eqSame {K : PySem.W.Frag} {H : Hp} {x y : V} {d : PyData} {Q : VK} (hs : SeqAt.shaped d = true) (hx : Dp K H x d) (hy : Dp K H y d) (q : Q (.bl true) H) : rEqD K x y H Q :=
  ⟨d, d, hx, hy, hs, hs, by rw [SeqAt.eqv_refl _ (shaped_can hs)]; exact q⟩
theorem neSame {K : PySem.W.Frag} {H : Hp} {x y : V} {d : PyData} {Q : VK} (hs : SeqAt.shaped d = true) (hx : Dp K H x d) (hy : Dp K H y d) (q : Q (.bl false) H) : rNeD K x y H Q :=
  ⟨d, d, hx, hy, hs, hs, by rw [SeqAt.eqv_refl _ (shaped_can hs)]; exact q⟩
/-! ### sorted(a dict whose keys are numbers) -/
section
variable {X : Cx}
def rSortedK : List V → Hp → VK → Prop := fun xs H Q => ∃ (a : Addr) (kvs : List (Key × V)) (ks : List Int), xs = [.ref a] ∧ L2.Rd H a (.dK kvs) ∧ kvs.map (·.1) = ks.map Sum.inl ∧ ks.length < 64 ∧
  ∀ (ys : List Int) (p : Addr), ys.Perm ks → ys.Pairwise (· ≤ ·) → H p = none → Q (.ref p) (upd H p (.lst (ys.map V.int)))
theorem sortK (hc : X.calm = true) : CallR X (.builtin "sorted") rSortedK := call_sortedDI hc
end
section
variable {X : Cx}
theorem repT (K : PySem.W.Frag) (h : X.K = K := by rfl) : OpR X (binaryOp .Mult) (rRepT K) := h ▸ op_repT
end
end Bw

set_option maxHeartbeats 1000000
namespace Bw
open PySem PySem.Spec PyProof.Rows L2
/-! ### for x in xs, a list or a tuple -/
def iSeq (K : PySem.W.Frag) (tl : TE) : TI := fun σ H R => tl σ H fun x H1 => ∃ a, x = .ref a ∧ (((∃ xs, SqL K H1 a xs) ∧ R (Itl K a) H1) ∨ ((∃ xs, SqT K H1 a xs) ∧ R (Itt K a) H1))
section
variable {X : Cx} {tg : Expr}
theorem pi_seq {l : Expr} {tl : TE} (hl : PE X l tl) : PI X tg l (iSeq X.K tl) := by
  refine ⟨fun pins s σ H R I h => ?_⟩
  refine thn (hl.run pins s σ H _ I h) fun v s1 ⟨x, H1, I1, r1, q1⟩ => ?_
  obtain ⟨a, e, q1⟩ := q1
  subst e
  cases r1
  rcases q1 with ⟨⟨xs, hq⟩, q⟩ | ⟨⟨xs, hq⟩, q⟩
  · obtain ⟨its, rv, p, hz⟩ := I1.list hq
    refine wpAny_pyIter_list p.isList ?_
    refine ⟨s1.heap.objs.size, [s1.heap.objs.size], _, _, H1, rfl, I1.kept (t' := s1.toks) fun b o e => Heap.get?_push_of_some _ e, turn_list a _, ⟨_, Heap.get?_push_size _ rfl, rfl, rfl⟩, fun b hb => ?_, q⟩
    have e : b = s1.heap.objs.size := by simpa using hb
    subst e
    exact I1.fpOk (Nat.le_refl _) (I1.hok.fresh (Nat.le_refl _))
  · obtain ⟨its, rv, p, hz⟩ := I1.tuple hq
    refine wpAny_pyIter_tuple (show s1.heap.IsTuple a its.toArray from p) ?_
    refine ⟨s1.heap.objs.size, [s1.heap.objs.size], _, _, H1, rfl, I1.kept (t' := s1.toks) fun b o e => Heap.get?_push_of_some _ e, turn_tuple a _, ⟨_, Heap.get?_push_size _ rfl, rfl, rfl⟩, fun b hb => ?_, q⟩
    have e : b = s1.heap.objs.size := by simpa using hb
    subst e
    exact I1.fpOk (Nat.le_refl _) (I1.hok.fresh (Nat.le_refl _))
theorem piS (K : PySem.W.Frag) {tg l : Expr} {tl : TE} (hl : PE X l tl) (h : X.K = K := by rfl) : PI X tg l (iSeq K tl) := h ▸ pi_seq hl
end
theorem pe_revTK (K : PySem.W.Frag) {X : Cx} {e : Expr} {te : TE} {k : Nat} {p1 p2 p3 pos : Pos} (he : PE X e te) (h : X.K = K := by rfl) : PE X (.Subscript e (.Slice none none (some (.UnaryOp .USub (.Constant (.int 1) k p1) p2)) p3) pos) (tRevT K te) := h ▸ pe_revT he
end Bw

set_option maxHeartbeats 2000000
namespace Bw
open PySem PySem.Spec PyProof.Rows L2
/-! ### math.comb -/
section
variable {X : Cx}
def rComb : List V → Hp → VK → Prop := fun vs H Q => ∃ a b : Int, vs = [.int a, .int b] ∧ 0 ≤ a ∧ 0 ≤ b ∧ a < 2 ^ 64 ∧ b ≤ 9000 ∧ Q (.int (PySem.W.mcComb a b)) H
theorem cr_comb : CallR X (.builtin "math.comb") rComb := by
  intro pins s σ H vs us Q I r h
  obtain ⟨a, b, rfl, h1, h2, h3, h4, q⟩ := h
  obtain ⟨t, u, rfl⟩ := Vals.int2 r
  exact PySem.W.mc_comb h1 h2 h3 (.inl h4) fun _ => ⟨.int _, H, I.tok _, ⟨_, rfl⟩, q⟩
/-- ints -/
def ipIc (c : Int → Int → Prop) (f : Int → Int → Int) : TIp := fun x y H Q => ∃ i j, x = .int i ∧ y = .int j ∧ c i j ∧ Q (.int (f i j)) H
theorem ip_mulW : PIp X .Mult (ipIc CMulW fun i j => i * j) := by
  intro pins s σ H x y v u Q I r1 r2 h
  obtain ⟨i, j, e1, e2, c, q⟩ := h
  subst e1; subst e2
  obtain ⟨t, rfl⟩ := r1
  obtain ⟨t', rfl⟩ := r2
  exact imul_int ⟨.int _, H, I.tok _, ⟨_, rfl⟩, q⟩ c.ok
end
theorem indexL (K : PySem.W.Frag) {X : Cx} (h : X.K = K := by rfl) : MtR X "list.index" (rIndex K) := h ▸ mt_index
theorem wipe1 {σ : L2.St} {j : Nat} {x : Option V} : wipe ((wipe σ [j]).set j x) [j] = wipe σ [j] := by
  show ((σ.set j none).set j x).set j none = σ.set j none
  rw [List.set_set, List.set_set]
section
variable {X : Cx} {T : String} {name : Str} {id : String} {r : V → List V → Hp → VK → Prop} {o e : Expr} {es : List Expr} {to : TE} {t : TA} {apos cpos : Pos}
theorem pe_bmK (K : PySem.W.Frag) (pa : PlainAttrs T) (slot : Slot T name id) (hty : typeOf (.builtin id) = pure (.type "method_descriptor")) (hm : MtR X id r) (ho : PE X o to) (ha : PA X (e :: es) t) (h : X.K = K := by rfl)
    (hbase : attributeBase o name X.env (eval o X.env) = eval o X.env := by rfl)
    (hfew : ((backTo cpos (starEach (e :: es) X.env)).all (fun x => !x.1) && (backToKw cpos (keywordEach [] X.env)).all (fun x => x.1.isSome)
      && decide ((e :: es).length + ([] : List Keyword).length + (if ([] : List Keyword).isEmpty then 0 else 1) < 30)) = true := by rfl)
    (hline : (apos.endLine == cpos.line) = true := by rfl) (hs : starEach (e :: es) X.env = (false, eval e X.env) :: starEach es X.env := by rfl) (hplain : (backTo cpos (starEach es X.env)).any (·.1) = false := by rfl) :
    PE X (.Call (.Attribute o name apos) (e :: es) [] cpos) (tBM K T r to t) := h ▸ pe_bm pa slot hty hm ho ha hbase hfew hline hs hplain
end
/-! ### zip of three lists -/
def Itz3 (K : PySem.W.Frag) (a b c : Addr) : It :=
  ⟨fun i H => ∃ (xs ys zs : List V) (x y z : V), SqL K H a xs ∧ SqL K H b ys ∧ SqL K H c zs ∧ xs[i]? = some x ∧ ys[i]? = some y ∧ zs[i]? = some z,
    fun i H v H' => ∃ T x y z, v = .ref T ∧ H T = none ∧ H' = upd H T (.tup [x, y, z]) ∧ (∀ xs, SqL K H a xs → xs[i]? = some x) ∧ (∀ ys, SqL K H b ys → ys[i]? = some y) ∧ ∀ zs, SqL K H c zs → zs[i]? = some z,
    fun i H => ∃ xs ys zs : List V, SqL K H a xs ∧ SqL K H b ys ∧ SqL K H c zs ∧ i = xs.length ∧ i = ys.length ∧ i = zs.length⟩
theorem turn_zip3 {P : Program} {w : World} {K : PySem.W.Frag} {elts : List Expr} {kk : Nat} {tpos : Pos} {a b c z TI TO i1 i2 i3 : Addr} (S : ZipSep3 z TI TO i1 i2 i3 [i1, a] [i2, b] [i3, c]) (na : a ≠ i1) (nb : b ≠ i2) (nc : c ≠ i3) :
    Turn P w K (.Tuple elts kk tpos) (Itz3 K a b c) [z, TI, TO, i1, i2, i3] z (fun i h => IsZip h z TI TO .none ∧ IsTupOf3 h TI (.ref i1) (.ref i2) (.ref i3) ∧ (∃ x y u, IsTupOf3 h TO x y u) ∧ h.IsListIter i1 a i ∧ h.IsListIter i2 b i ∧ h.IsListIter i3 c i) where
  mem := by simp
  obj := fun i h st d hd => by
    obtain ⟨hz, hTI, ⟨x, y, u, hTO⟩, ⟨o1, e1, _, d1⟩, ⟨o2, e2, _, d2⟩, ⟨o3, e3, _, d3⟩⟩ := st
    have e' : d = z ∨ d = TI ∨ d = TO ∨ d = i1 ∨ d = i2 ∨ d = i3 := by simpa using hd
    rcases e' with q | q | q | q | q | q
    · rw [q]; exact ⟨_, hz, fun v q => nomatch q⟩
    · rw [q]; exact ⟨_, hTI, fun v q => nomatch q⟩
    · rw [q]; exact ⟨_, hTO, fun v q => nomatch q⟩
    · rw [q]; exact ⟨o1, e1, fun v q => by rw [d1] at q; cases q⟩
    · rw [q]; exact ⟨o2, e2, fun v q => by rw [d2] at q; cases q⟩
    · rw [q]; exact ⟨o3, e3, fun v q => by rw [d3] at q; cases q⟩
  keep := fun i h h' st k => by
    obtain ⟨hz, hTI, ⟨x, y, u, hTO⟩, h1, h2, h3⟩ := st
    exact ⟨k z (by simp) _ hz, k TI (by simp) _ hTI, ⟨x, y, u, k TO (by simp) _ hTO⟩, h1.at fun o q => k i1 (by simp) o q, h2.at fun o q => k i2 (by simp) o q, h3.at fun o q => k i3 (by simp) o q⟩
  item := by
    intro X hP hw hK hc i pins s σ H E I hf st hg
    subst hP hw hK
    obtain ⟨hz, hTI, ⟨x0, y0, u0, hTO⟩, h1, h2, h3⟩ := st
    obtain ⟨xs, ys, zs, x, y, w_, hqx, hqy, hqz, hx, hy, hw_⟩ := hg
    obtain ⟨its, rv, p, _⟩ := I.list hqx
    obtain ⟨its2, rv2, p2, _⟩ := I.list hqy
    obtain ⟨its3, rv3, p3, _⟩ := I.list hqz
    obtain ⟨u, hu, ru⟩ := rv.get hx
    obtain ⟨u2, hu2, ru2⟩ := rv2.get hy
    obtain ⟨u3, hu3, ru3⟩ := rv3.get hw_
    have hzl : z < s.heap.objs.size := Heap.lt_size hz
    have hh : X.A.in1.handled = none := I.ok.hd hc
    have D1 := Draws.list (prog := X.prog) (w := X.w) (A := X.A.in1) hh i1 a na its.toArray
    have D2 := Draws.list (prog := X.prog) (w := X.w) (A := X.A.in1) hh i2 b nb its2.toArray
    have D3 := Draws.list (prog := X.prog) (w := X.w) (A := X.A.in1) hh i3 c nc its3.toArray
    have l1 : i < its.toArray.size := by have := (List.getElem?_eq_some_iff.mp hu).1; simpa using this
    have l2 : i < its2.toArray.size := by have := (List.getElem?_eq_some_iff.mp hu2).1; simpa using this
    have l3 : i < its3.toArray.size := by have := (List.getElem?_eq_some_iff.mp hu3).1; simpa using this
    refine wpAny_pyNext_zipD3_item S D1 D2 D3 hz hTI hTO ⟨h1, p.isList⟩ ⟨h2, p2.isList⟩ ⟨h3, p3.isList⟩ l1 l2 l3 fun x1 x2 x3 h' tk y1 y2 y3 b1 b2 d1 d2 d3 b5 b6 hk => ?_
    have e1 : x1 = u := Option.some.inj (y1.symm.trans (show its.toArray[i]? = some u by simpa using hu))
    have e2 : x2 = u2 := Option.some.inj (y2.symm.trans (show its2.toArray[i]? = some u2 by simpa using hu2))
    have e3 : x3 = u3 := Option.some.inj (y3.symm.trans (show its3.toArray[i]? = some u3 by simpa using hu3))
    subst e1 e2 e3
    refine ⟨_, rfl, wpAny_letOwnedTupleGo_zip (s := { s with heap := h', toks := tk }) b1 fun h'' z'' sb => ?_⟩
    have hT2 : h''.get? s.heap.objs.size = some { cls := .type "tuple", data := .seq #[x1, x2, x3] } := (sb.2 _ (Nat.ne_of_gt hzl)).trans b5
    have new : ObjOk X.prog X.w (upd H s.heap.objs.size (.tup [x, y, w_])) h'' s.heap.objs.size (.tup [x, y, w_]) :=
      ⟨by show 3 ≤ sizeLine; decide, [x1, x2, x3], .cons ru (.cons ru2 (.cons ru3 .nil)), ⟨_, hT2, rfl, _, rfl⟩⟩
    have I1 : Inv X pins σ (upd H s.heap.objs.size (.tup [x, y, w_])) { s with heap := h'', toks := tk } :=
      I.turnedNew (ch := [z, TI, TO, i1, i2, i3]) (fun d o hb q => (sb.2 d (fun q' => hb (by simp [q']))).trans (hk d o (fun q' => hb (by simp [q'])) (fun q' => hb (by simp [q'])) (fun q' => hb (by simp [q'])) (fun q' => hb (by simp [q'])) (fun q' => hb (by simp [q'])) q)) hf (Nat.le_refl _) new
    refine ⟨.ref s.heap.objs.size, _, I1, rfl, ⟨_, x, y, w_, rfl, I.hok.fresh (Nat.le_refl _), rfl, fun l hl => by rw [I.list_inj hl hqx]; exact hx, fun l hl => by rw [I.list_inj hl hqy]; exact hy, fun l hl => by rw [I.list_inj hl hqz]; exact hw_⟩, ⟨z'', ?_, ⟨x1, x2, x3, ?_⟩, ?_, ?_, ?_⟩, fun d hdm => ?_⟩
    · exact (sb.2 _ S.TIz).trans (hk _ _ S.TIz S.TITO S.TIi1 S.TIi2 S.TIi3 hTI)
    · exact (sb.2 _ S.TOz).trans b2
    · exact d1.1.at fun o q => (sb.2 _ S.zi1.symm).trans q
    · exact d2.1.at fun o q => (sb.2 _ S.zi2.symm).trans q
    · exact d3.1.at fun o q => (sb.2 _ S.zi3.symm).trans q
    · have hlt : d < s.heap.objs.size := by
        have e' : d = z ∨ d = TI ∨ d = TO ∨ d = i1 ∨ d = i2 ∨ d = i3 := by simpa using hdm
        rcases e' with q | q | q | q | q | q
        · rw [q]; exact hzl
        · rw [q]; exact Heap.lt_size hTI
        · rw [q]; exact Heap.lt_size hTO
        · rw [q]; obtain ⟨_, e1, _⟩ := h1; exact Heap.lt_size e1
        · rw [q]; obtain ⟨_, e2, _⟩ := h2; exact Heap.lt_size e2
        · rw [q]; obtain ⟨_, e3, _⟩ := h3; exact Heap.lt_size e3
      rw [upd_ne (Nat.ne_of_lt hlt)]
      exact (hf d hdm).1
  done := by
    intro X hP hw hK hc i pins s σ H E I hf st hg
    subst hP hw hK
    obtain ⟨hz, hTI, ⟨x0, y0, u0, hTO⟩, h1, h2, h3⟩ := st
    obtain ⟨xs, ys, zs, hqx, hqy, hqz, n1, n2, n3⟩ := hg
    obtain ⟨its, rv, p, _⟩ := I.list hqx
    obtain ⟨its2, rv2, p2, _⟩ := I.list hqy
    obtain ⟨its3, rv3, p3, _⟩ := I.list hqz
    have l1 := rv.length
    have l2 := rv2.length
    have l3 := rv3.length
    have hh : X.A.in1.handled = none := I.ok.hd hc
    have D1 := Draws.list (prog := X.prog) (w := X.w) (A := X.A.in1) hh i1 a na its.toArray
    have D2 := Draws.list (prog := X.prog) (w := X.w) (A := X.A.in1) hh i2 b nb its2.toArray
    have D3 := Draws.list (prog := X.prog) (w := X.w) (A := X.A.in1) hh i3 c nc its3.toArray
    exact wpAny_pyNext_zipD3_end S D1 D2 D3 hz hTI hTO ⟨h1, p.isList⟩ ⟨h2, p2.isList⟩ ⟨h3, p3.isList⟩ (by rw [List.size_toArray]; omega) (by rw [List.size_toArray]; omega) (by rw [List.size_toArray]; omega) (.inl (by rw [List.size_toArray]; omega)) fun h' tk hk =>
      ⟨rfl, I.turnedL (t' := tk) (ch := [z, TI, TO, i1, i2, i3]) (fun d o hb q => hk d o (fun q' => hb (by simp [q'])) (fun q' => hb (by simp [q'])) (fun q' => hb (by simp [q'])) (fun q' => hb (by simp [q'])) (fun q' => hb (by simp [q'])) q) hf⟩
  self := fun A i s Q E st h => wpAny_pyIter_zip st.1 h
def iZip3 (K : PySem.W.Frag) (ta : TA) : TI := fun σ H R => ta σ H fun vs H1 => ∃ a b c xs ys zs, vs = [.ref a, .ref b, .ref c] ∧ SqL K H1 a xs ∧ SqL K H1 b ys ∧ SqL K H1 c zs ∧ R (Itz3 K a b c) H1
theorem pi_zip3 {X : Cx} {e e2 e3 : Expr} {ta : TA} {p pos tpos : Pos} {elts : List Expr} {kk : Nat} (hg : Gl X "zip") (hm : X.mg "zip" = none) (ha : PA X [e, e2, e3] ta)
    (hs : starEach [e, e2, e3] X.env = (false, eval e X.env) :: starEach [e2, e3] X.env := by rfl) (hpl : (backTo pos (starEach [e2, e3] X.env)).any (·.1) = false := by rfl) :
    PI X (.Tuple elts kk tpos) (.Call (.Name "zip" p) [e, e2, e3] [] pos) (iZip3 X.K ta) := by
  refine ⟨fun pins s σ H R I h => ?_⟩
  refine Call_ (ld_blt I hg hm PyProof.Rows.boot_zip (PyProof.Rows.callWith_type1 (thn (ha.run pos pins s σ H _ I h) fun us s1 ⟨vs, H1, I1, r1, q1⟩ => ?_) hs hpl))
  obtain ⟨a, b, c, xs, ys, zs, ex, hqx, hqy, hqz, q⟩ := q1
  subst ex
  cases r1 with
  | cons r rr =>
    cases rr with
    | cons r' rr =>
      cases rr with
      | cons r'' rr =>
        cases rr
        cases r
        cases r'
        cases r''
        obtain ⟨its, rv, p1, _⟩ := I1.list hqx
        obtain ⟨its2, rv2, p2, _⟩ := I1.list hqy
        obtain ⟨its3, rv3, p3, _⟩ := I1.list hqz
        have la : a < s1.heap.objs.size := p1.lt
        have lb : b < s1.heap.objs.size := p2.lt
        have lc : c < s1.heap.objs.size := p3.lt
        refine zip_begins3 (begins_list a its.toArray) (begins_list b its2.toArray) (begins_list c its3.toArray) p1.isList p2.isList p3.isList fun h' hz hTI hTO h1 h2 h3 hsz hk => wpAny_pyIter_zip hz ?_
        have I2 : Inv X pins σ H1 { s1 with heap := h' } := I1.kept (t' := s1.toks) hk
        have S : ZipSep3 (s1.heap.objs.size + 5) (s1.heap.objs.size + 3) (s1.heap.objs.size + 4) s1.heap.objs.size (s1.heap.objs.size + 1) (s1.heap.objs.size + 2) [s1.heap.objs.size, a] [s1.heap.objs.size + 1, b] [s1.heap.objs.size + 2, c] :=
          zip_sep3 (fun d hd => by rw [List.mem_singleton.mp hd]; exact la) (fun d hd => by rw [List.mem_singleton.mp hd]; exact lb) (fun d hd => by rw [List.mem_singleton.mp hd]; exact lc)
        refine ⟨s1.heap.objs.size + 5, [s1.heap.objs.size + 5, s1.heap.objs.size + 3, s1.heap.objs.size + 4, s1.heap.objs.size, s1.heap.objs.size + 1, s1.heap.objs.size + 2], _, _, H1, rfl, I2,
          turn_zip3 S (Nat.ne_of_lt la) (Nat.ne_of_lt (Nat.lt_succ_of_lt lb)) (Nat.ne_of_lt (Nat.lt_succ_of_lt (Nat.lt_succ_of_lt lc))),
          ⟨hz, hTI, ⟨_, _, _, hTO⟩, ⟨_, h1, rfl, rfl⟩, ⟨_, h2, rfl, rfl⟩, ⟨_, h3, rfl, rfl⟩⟩, fun d hdm => ?_, q⟩
        have hle : s1.heap.objs.size ≤ d := by
          have e' : d = s1.heap.objs.size + 5 ∨ d = s1.heap.objs.size + 3 ∨ d = s1.heap.objs.size + 4 ∨ d = s1.heap.objs.size ∨ d = s1.heap.objs.size + 1 ∨ d = s1.heap.objs.size + 2 := by simpa using hdm
          rcases e' with z | z | z | z | z | z
          · rw [z]; exact Nat.le_add_right _ _
          · rw [z]; exact Nat.le_add_right _ _
          · rw [z]; exact Nat.le_add_right _ _
          · rw [z]; exact Nat.le_refl _
          · rw [z]; exact Nat.le_add_right _ _
          · rw [z]; exact Nat.le_add_right _ _
        exact I1.fpOk hle (I1.hok.fresh hle)
theorem piZip3 (K : PySem.W.Frag) {X : Cx} {e e2 e3 : Expr} {ta : TA} {p pos tpos : Pos} {elts : List Expr} {kk : Nat} (hm : X.mg "zip" = none) (ha : PA X [e, e2, e3] ta) (h : X.K = K := by rfl) (hg : Gl X "zip" := by rfl)
    (hs : starEach [e, e2, e3] X.env = (false, eval e X.env) :: starEach [e2, e3] X.env := by rfl) (hpl : (backTo pos (starEach [e2, e3] X.env)).any (·.1) = false := by rfl) :
    PI X (.Tuple elts kk tpos) (.Call (.Name "zip" p) [e, e2, e3] [] pos) (iZip3 K ta) := h ▸ pi_zip3 hg hm ha hs hpl
theorem walk_zip3 {K : PySem.W.Frag} {a b c : Addr} {xs ys zs : List V} (h1 : xs.length = ys.length) (h2 : xs.length = zs.length) :
    Walk (Itz3 K a b c) xs.length (fun H => SqL K H a xs ∧ SqL K H b ys ∧ SqL K H c zs) (fun i H v H' => ∃ T x y z, v = .ref T ∧ H T = none ∧ H' = upd H T (.tup [x, y, z]) ∧ xs[i]? = some x ∧ ys[i]? = some y ∧ zs[i]? = some z) := by
  refine ⟨fun i _ hi q => ⟨xs, ys, zs, xs[i], ys[i], zs[i], q.1, q.2.1, q.2.2, by simp [hi], by simp, by simp⟩, fun _ q => ⟨xs, ys, zs, q.1, q.2.1, q.2.2, rfl, h1, h2⟩, fun i H v H' _ q y => ?_⟩
  obtain ⟨T, x, y, z, g1, g2, g3, g4, g5, g6⟩ := y
  exact ⟨T, x, y, z, g1, g2, g3, g4 _ q.1, g5 _ q.2.1, g6 _ q.2.2⟩
end Bw

set_option maxHeartbeats 2000000
namespace HT
open PySem PySem.Spec PyProof.Rows
section
variable {prog : Program} {w : World} {A : Around} {E : Value → Shared → Prop} {s : Shared}
theorem collect_tuple {l : Addr} {vs : List Value} {Q : List Value → Shared → Prop} (hl : s.heap.IsTuple l vs.toArray)
    (h : Q vs { s with heap := (s.heap.push (seqObj "list" #[] 0)).update s.heap.objs.size (Obj.mapSeq (· ++ vs.toArray)) }) (hsz : vs.length ≤ sizeLine) :
    wpAny (model prog w) A (collect (.ref l)) Q E s := by
  obtain ⟨o, ho, hc, n, hd⟩ := id hl
  unfold collect
  refine wpAny_bind (wpAny_runValue (codeAny_builtin entry_proto_collect' ?_))
  show wpAny _ _ (do again (.builtin "list.__iadd__" ⟨[← newList [], .ref l], []⟩)) _ _ s
  refine wpAny_bind (wpAny_newList (wpAny_pure ⟨Code.quiet_builtin _ (by decide +kernel), codeAny_builtin entry_list_iadd' ?_⟩))
  show wpAny _ _ (Builtin.List.listExtendWith (.ref s.heap.objs.size) (.ref l) (.ref s.heap.objs.size)) _ _ { s with heap := s.heap.push (seqObj "list" #[] 0) }
  unfold Builtin.List.listExtendWith
  have ho' : (s.heap.push (seqObj "list" #[] 0)).get? l = some o := Heap.get?_push_of_some _ ho
  refine wpAny_bind (wpAny_typeOf (T := "tuple") ⟨o, ho', hc⟩ ?_)
  have ht : (Value.type "tuple" == Value.type "tuple") = true := by rfl
  rw [if_pos (by rw [ht]; simp)]
  refine wpAny_bind (listItems_at ho' hd ?_)
  refine wpAny_bind (listItems_at (xs := #[]) (n := 0) (Heap.get?_push_size _ rfl) rfl ?_)
  rw [if_neg (by simp)]
  refine wpAny_bind (listUpdate_at (xs := #[]) (n := 0) (Heap.get?_push_size _ rfl) rfl ?_ (Nat.zero_le _) (by show (#[] ++ vs.toArray).size ≤ sizeLine + 1; simp only [Array.size_append, List.size_toArray, List.length_nil]; omega))
  refine wpAny_pure ?_
  show wpAny (model prog w) A (do
      let o ← load s.heap.objs.size
      match o.data with
      | .seq xs _ => pure xs.toList
      | _ => unsupported "internal:collect") Q E { s with heap := (s.heap.push (seqObj "list" #[] 0)).update s.heap.objs.size (Obj.mapSeq (· ++ vs.toArray)) }
  refine wpAny_bind (wpAny_load (get?_update_seq (Heap.get?_push_size _ rfl) _) ?_)
  show wpAny _ _ (pure ((#[] : Array Value) ++ vs.toArray).toList) Q E _
  rw [show ((#[] : Array Value) ++ vs.toArray).toList = vs by simp]
  exact wpAny_pure h
theorem sorted_intsT {l : Addr} {vs : List Value} {ns : List Int} {Q : Value → Shared → Prop} (hl : s.heap.IsTuple l vs.toArray) (hI : IntsAre vs ns) (h64 : vs.length < 64)
    (h : ∀ (out : Array Value) (ns' : List Int), IntsAre out.toList ns' → ns'.Perm ns → ns'.Pairwise (· ≤ ·) → Q (.ref (s.heap.objs.size + 1)) { s with heap := sortedAll s.heap vs out }) :
    wpAny (model prog w) A (call (.builtin "sorted") [.ref l]) Q E s := by
  refine Calls.call_function_entry kind_sorted plain_sorted entry_sorted (args_sorted1 _) ?_
  unfold Builtin.«sorted»
  refine wpAny_bind (m := checkCount "sorted" 1 1 _) (wpAny_pure ?_)
  refine wpAny_bind (collect_tuple hl ?_ (by rw [sizeLine_eq]; omega))
  refine wpAny_bind (wpAny_newList ?_)
  have hsz : ((s.heap.push (seqObj "list" #[] 0)).update s.heap.objs.size (Obj.mapSeq (· ++ vs.toArray))).objs.size = s.heap.objs.size + 1 := by
    rw [Heap.size_update, size_push']
  have hoL : (((s.heap.push (seqObj "list" #[] 0)).update s.heap.objs.size (Obj.mapSeq (· ++ vs.toArray))).push (seqObj "list" vs.toArray 0)).get? (s.heap.objs.size + 1) = some (seqObj "list" vs.toArray 0) := by
    rw [← hsz]; exact Heap.get?_push_size _ rfl
  show wpAny _ _ _ _ _ { s with heap := ((s.heap.push (seqObj "list" #[] 0)).update s.heap.objs.size (Obj.mapSeq (· ++ vs.toArray))).push (seqObj "list" vs.toArray 0) }
  rw [hsz]
  refine wpAny_bind (wpAny_holding (wpAny_call_entry slot_list_sort ⟨_, hoL, rfl⟩ entry_list_sort (list_sort_tree hoL hI h64 fun out ns' a1 a2 a3 => ⟨_, rfl, ?_⟩) (args_list_sort _)))
  exact wpAny_pure ⟨_, rfl, h out ns' a1 a2 a3⟩
end
end HT
namespace Bw
open PySem PySem.Spec PyProof.Rows L2
theorem wipe2 {σ : L2.St} {i j : Nat} {x : Option V} : wipe ((wipe σ [i, j]).set i x) [i, j] = wipe σ [i, j] := by
  show ((((σ.set j none).set i none).set i x).set j none).set i none = (σ.set j none).set i none
  rw [List.set_set]
  refine List.ext_getElem? fun k => ?_
  by_cases h : k = i
  · subst h
    by_cases hl : k < σ.length
    · rw [List.getElem?_set_self (by simpa using hl), List.getElem?_set_self (by simpa using hl)]
    · rw [List.getElem?_eq_none (by simpa using hl), List.getElem?_eq_none (by simpa using hl)]
  · rw [List.getElem?_set_ne (fun z => h z.symm), List.getElem?_set_ne (fun z => h z.symm)]
    by_cases h2 : k = j
    · subst h2
      by_cases hl : k < σ.length
      · rw [List.getElem?_set_self (by simpa using hl), List.getElem?_set_self (by simpa using hl)]
      · rw [List.getElem?_eq_none (by simpa using hl), List.getElem?_eq_none (by simpa using hl)]
    · rw [List.getElem?_set_ne (fun z => h2 z.symm), List.getElem?_set_ne (fun z => h z.symm), List.getElem?_set_ne (fun z => h2 z.symm)]
section
variable {X : Cx}
def rSortTI (K : PySem.W.Frag) : List V → Hp → VK → Prop := fun vs H Q => ∃ (a : Addr) (ns : List Int), vs = [V.ref a] ∧ SqT K H a (ns.map V.int) ∧ ns.length < 64 ∧
  ∀ (ns' : List Int) (p : Addr), ns'.Perm ns → ns'.Pairwise (· ≤ ·) → H p = none → Q (.ref p) (upd H p (.lst (ns'.map V.int)))
theorem cr_sortTI : CallR X (.builtin "sorted") (rSortTI X.K) := by
  intro pins s σ H vs us Q I r h
  obtain ⟨a, ns, rfl, hs, h64, q⟩ := h
  obtain ⟨its, rv, hl, _⟩ := I.tuple hs
  rw [Vals.ref1 r]
  have hi := rv.ints
  refine HT.sorted_intsT (show s.heap.IsTuple a its.toArray from hl) hi (by rw [hi.length]; exact h64) fun out ns' h1 h2 h3 => ?_
  obtain ⟨ep, he'⟩ := PyProof.Rows.sortedAll_at s.heap its out
  have hlen : (ns'.map V.int).length ≤ sizeLine := by rw [List.length_map, h2.length_eq]; exact small64 h64
  exact ⟨.ref _, upd H (s.heap.objs.size + 1) (.lst (ns'.map V.int)), I.laid (t' := s.toks) (fun _ _ => PyProof.Rows.sortedAll_old) (Nat.le_succ _) ⟨hlen, out.toList, ep, vals_of_ints h1, he'⟩, rfl, q ns' _ h2 h3 (I.hok.fresh (Nat.le_succ _))⟩
theorem sortTI (K : PySem.W.Frag) (h : X.K = K := by rfl) : CallR X (.builtin "sorted") (rSortTI K) := h ▸ cr_sortTI
end
end Bw

set_option maxHeartbeats 2000000
namespace Bw
open PySem PySem.Spec PyProof.Rows L2
/-! ### what an expression yields, locked from then on -/
def tLk (te : TE) : TE := fun σ H Q => te σ H fun x H1 => ∃ d u, x = .ref d ∧ H1 d = some u ∧ Mut (some u) ∧ ∀ od, Q x (upd H1 d (.frz od u))
theorem pe_lk {X : Cx} {e : Expr} {te : TE} (h : PE X e te) : PE X e (tLk te) := by
  refine ⟨fun pins s σ H Q I hw => ?_⟩
  refine thn (h.run pins s σ H _ I hw) fun v s1 ⟨x, H1, I1, r, d, u, ex, hd, mu, q⟩ => ?_
  obtain ⟨od, I2⟩ := I1.lock hd mu
  exact ⟨x, _, I2, r, q od⟩
theorem anyL {X : Cx} (K : PySem.W.Frag) (hc : X.calm = true) (h : X.K = K := by rfl) : CallR X (.builtin "any") (rAny K) := h ▸ cr_any hc
end Bw

set_option maxHeartbeats 2000000
namespace Bw
open PySem PySem.Spec PyProof.Rows L2 LamX
/-! ### heaps alike but at p and at the tables of code objects -/
def ExN (p : Addr) (H H' : Hp) : Prop := ∀ b o, b ≠ p → (∀ ps, o ≠ HO.tbl ps) → H b = some o → H' b = some o
section
variable {p q a : Addr} {H H1 H2 : Hp} {K : PySem.W.Frag} {xs : List V} {o : HO}
theorem ExN.refl : ExN p H H := fun _ _ _ _ h => h
theorem ExN.trans (e : ExN p H H1) (f : ExN p H1 H2) : ExN p H H2 := fun b o n m h => f b o n m (e b o n m h)
theorem ExN.of (e : Same H H1) : ExN p H H1 := fun b o _ _ h => e b o h
theorem ExN.ofB (e : Exb p H H1) : ExN p H H1 := fun b o n _ h => e b o n h
theorem ExN.ofN (e : ExtN H H1) : ExN p H H1 := fun b o _ m h => e b o h m
theorem ExN.lst (e : ExN p H H1) (n : q ≠ p) (h : H q = some (.lst xs)) : H1 q = some (.lst xs) := e _ _ n (fun _ z => by cases z) h
theorem ExN.tup (e : ExN p H H1) (s : Src H p) (h : SqT K H a xs) : SqT K H1 a xs := by
  obtain ⟨x, y, hp, _⟩ := s
  rcases h with (h | ⟨o, h⟩) | h
  · exact .inl (.inl (e _ _ (fun z => by rw [z, hp] at h; cases h) (fun _ z => by cases z) h))
  · exact .inl (.inr ⟨o, e _ _ (fun z => by rw [z, hp] at h; cases h) (fun _ z => by cases z) h⟩)
  · exact .inr h
theorem _root_.LamX.ExtN.src (e : ExtN H H1) (s : Src H p) : Src H1 p := by
  obtain ⟨x, y, hp, h⟩ := s
  exact ⟨x, y, e _ _ hp (fun _ z => by cases z), h⟩
theorem _root_.LamX.ExtN.tup (e : ExtN H H1) (h : SqT K H a xs) : SqT K H1 a xs := by
  rcases h with (h | ⟨o, h⟩) | h
  · exact .inl (.inl (e _ _ h (fun _ z => by cases z)))
  · exact .inl (.inr ⟨o, e _ _ h (fun _ z => by cases z)⟩)
  · exact .inr h
theorem _root_.LamX.ExtN.lst (e : ExtN H H1) (h : SqL K H a xs) : SqL K H1 a xs := by
  rcases h with (h | ⟨o, h⟩) | h
  · exact .inl (.inl (e _ _ h (fun _ z => by cases z)))
  · exact .inl (.inr ⟨o, e _ _ h (fun _ z => by cases z)⟩)
  · exact .inr h
theorem _root_.LamX.ExtN.free (e : ExtN H H1) (h : H1 q = none) : H q = none ∨ ∃ ps, H q = some (.tbl ps) := by
  cases z : H q with
  | none => exact .inl rfl
  | some o =>
    by_cases c : ∃ ps, o = HO.tbl ps
    · obtain ⟨ps, rfl⟩ := c
      exact .inr ⟨ps, rfl⟩
    · rw [e q o z fun ps z => c ⟨ps, z⟩] at h
      cases h
theorem _root_.LamX.Tabs.same {T : List (Addr × Str)} (t : Tabs T H) (e : Same H H1) : Tabs T H1 := t.ext e
theorem TabS.exb {P : Addr} {c : Str} (t : TabS H P c) (s : Src H p) (e : Exb p H H1) : TabS H1 P c := by
  obtain ⟨ps, h1, h2, h3⟩ := t
  obtain ⟨x, y, hp, _⟩ := s
  refine ⟨ps, e _ _ (fun z => by rw [z, hp] at h1; cases h1) h1, h2, fun pos cv hc => ?_⟩
  obtain ⟨d, e1, e2⟩ := h3 pos cv hc
  refine ⟨d, e1, e _ _ (fun z => ?_) e2⟩
  rw [z, hp] at e2
  unfold CodeO at e2
  cases e2
theorem _root_.LamX.Tabs.exb {T : List (Addr × Str)} (t : Tabs T H) (s : Src H p) (e : Exb p H H1) : Tabs T H1 := fun x hx => TabS.exb (t x hx) s e
theorem _root_.LamX.Tabs.upd {T : List (Addr × Str)} {ys : List V} (t : Tabs T H) (hq : H q = some (.lst ys)) : Tabs T (upd H q o) := fun x hx => by
  obtain ⟨ps, h1, h2, h3⟩ := t x hx
  have n1 : x.1 ≠ q := fun z => by rw [z, hq] at h1; cases h1
  refine ⟨ps, by rw [upd_ne n1]; exact h1, h2, fun pos cv hc => ?_⟩
  obtain ⟨d, e1, e2⟩ := h3 pos cv hc
  refine ⟨d, e1, ?_⟩
  rw [upd_ne (fun z => ?_)]
  · exact e2
  · rw [z, hq] at e2
    unfold CodeO at e2
    cases e2
end
mutual
theorem dp_extN {K : PySem.W.Frag} {H H1 : Hp} (e : ExtN H H1) : ∀ (d : PyData) (v : V), Dp K H v d → Dp K H1 v d
  | .none, _, h => by cases h; exact .non
  | .bool _, _, h => by cases h; exact .bl _
  | .int _, _, h => by cases h; exact .int _
  | .str _, _, h => by cases h; exact .str _
  | .list ds, _, h => by
    cases h with
    | lst hs ha => exact .lst (e.lst hs) (dp_extNAll e ds _ ha)
  | .tuple ds, _, h => by
    cases h with
    | tup hs ha => exact .tup (e.tup hs) (dp_extNAll e ds _ ha)
  | .dict _, _, h => by cases h
theorem dp_extNAll {K : PySem.W.Frag} {H H1 : Hp} (e : ExtN H H1) : ∀ (ds : List PyData) (vs : List V), DpAll K H vs ds → DpAll K H1 vs ds
  | [], _, h => by cases h; exact .nil
  | d :: ds, _, h => by
    cases h with
    | cons a b => exact .cons (dp_extN e d _ a) (dp_extNAll e ds _ b)
end
/-! ### a def whose code object is known: it makes lambdas -/
structure FunC (K : PySem.W.Frag) (x qual : Str) (st : Stmt) (f : Addr) (fd : FuncData) (c : Addr) : Prop where
  ex : ∃ (oc : Value) (od : Option Addr) (kV doc pm : Value) (an : Option Addr) (ct : Value) (osl : Array (Option Value)),
    fd = PySem.W.fnOf x qual (defArgs st) (defBody st) (defScope st) .none kV doc pm an (.ref c) ct ∧ K.lookup f = some ⟨oc, od, .func fd, osl⟩ ∧ PySem.W.codeIn K (.ref c) qual = true
  kp : PySem.W.keepIn K (.ref f) = true
theorem FunC.fn {K : PySem.W.Frag} {x qual : Str} {st : Stmt} {f : Addr} {fd : FuncData} {c : Addr} (F : FunC K x qual st f fd c) : Fun K x qual st f fd := by
  obtain ⟨oc, od, kV, doc, pm, an, ct, osl, h1, h2, h3⟩ := F.ex
  exact ⟨⟨oc, od, kV, doc, pm, an, _, ct, osl, h1, h2, h3⟩, F.kp⟩
theorem funC_mk {K : PySem.W.Frag} {x qual : Str} {st : Stmt} {f c : Addr} {oc : Value} {od an : Option Addr} {osl : Array (Option Value)} {kV doc pm ct : Value} (l : K.lookup f = some ⟨oc, od, .func (PySem.W.fnOf x qual (defArgs st) (defBody st) (defScope st) .none kV doc pm an (.ref c) ct), osl⟩)
    (cd : PySem.W.codeIn K (.ref c) qual = true) (k : PySem.W.keepIn K (.ref f) = true) : FunC K x qual st f (PySem.W.fnOf x qual (defArgs st) (defBody st) (defScope st) .none kV doc pm an (.ref c) ct) c := ⟨⟨oc, od, kV, doc, pm, an, ct, osl, rfl, l, cd⟩, k⟩
theorem fnC_of {CX : CXT} {P : Program} {w : World} {K : PySem.W.Frag} {mg : Str → Option Value} {base : Heap} {k : Nat} {x qual : Str} {st : Stmt} {f : Addr} {fd : FuncData} {c : Addr} {N ps : List Str} {sp : Sp} (F : FunC K x qual st f fd c) (S : FnScope N ps (defScope st))
    (len : ∀ vs H Q E, sp vs H Q E → vs.length = ps.length)
    (hbody : ∀ (A : Around) (outer : List Env) (s : Shared) (H : Hp) (vs : List V) (Q : VK) (E : XK), (A.deeper (envOfC qual (defScope st) s.heap.objs.size f (.ref c))).guards = some [] → Room k (A.deeper (envOfC qual (defScope st) s.heap.objs.size f (.ref c))) → sp vs H Q E →
      ∃ t, PSs (cxOf CX P w K mg base N qual (defScope st) f (.ref c) A outer s H E) (defBody st) t ∧ t { nx := fun _ H' => Q .non H', rt := Q } (start N vs) H) : FnG P w K mg base CX (k + 1) f fd ps sp := by
  obtain ⟨oc, od, kV, doc, pm, an, ct, osl, rfl, lk, hcd⟩ := F.ex
  refine ⟨len, fun A outer s H args us vs Q E hg hr e0 hb r hsp => ?_⟩
  have stays : ∀ (b : Addr) (o : Obj), base.get? b = some o → s.heap.get? b = some o := fun b o z => (e0.bs b o z).1
  have inK : K.In s.heap := e0.mod.kin.keeps stays
  have pars : ∀ y ∈ ps.zip us, (defScope st).names.lookup y.1 = some .local ∨ ((defScope st).names.lookup y.1 = some .cell ∧ ((cellsFrom (s.heap.objs.size + 1) (defScope st).names []).lookup y.1).isSome = true) := by
    intro y hy
    rcases S.par y.1 (List.of_mem_zip (a := y.1) (b := y.2) hy).1 with z | z
    · exact .inl z
    · exact .inr ⟨z, PySem.W.cellsFrom_some _ _ _ (.inl z)⟩
  refine codeAny_call_function hr.depth (inK _ _ lk) rfl S.co S.gen rfl (PySem.W.codeRec_of inK hcd) (hb _ _ _ _ ?_)
  refine wpAny_newFunctionEnv_cells S.kind pars fun env he s1 x => ?_
  subst he
  refine ⟨(e0.mod.nolimit.keeps stays).keeps x.toInCall.keep, codeAny_func ?_⟩
  obtain ⟨t, ht, hq⟩ := hbody A outer s H vs Q E hg (hr.deeper _) hsp
  have I := inv_start (CX := CX) (E := E) S hr.hd e0 (len _ _ _ _ hsp) r x
  refine wpAny_mono (ht.run [] s1 (start N vs) H _ I hq) ?_ (fun _ _ z => z)
  intro fl s' hs
  cases fl with
  | next =>
    obtain ⟨σ', H', J, z⟩ := hs
    exact ⟨.non, H', J.os, J.bare, J.base, J.hok, rfl, z⟩
  | ret u =>
    obtain ⟨v, σ', H', J, rv, z⟩ := hs
    exact ⟨v, H', J.os, J.bare, J.base, J.hok, rv, z⟩
  | brk => exact hs.elim fun _ h => h.elim fun _ h => h.2.elim
  | cont => exact hs.elim fun _ h => h.elim fun _ h => h.2.elim
/-! ### the def that is handed a lambda; what the lambda lets out may be told by the slots where it is called -/
section
variable {X : Cx} {ps0 : List (Addr × Obj)} {σ : L2.St} {H : Hp} {s : Shared} {nm sl : Str} {scg scl : Scope} {gf f cl : Addr} {cg pm ct : Value} {prm : Arguments} {bd : Expr} {k : Nat} {Ng : List Str} {W : WX} {p1 p2 : Pos} {pn : List (Addr × Obj)} {xe : Value → Shared → Prop} {tb : XK → TE}
/-- deed(): the context is that of the def, entered at s from X -/
theorem pe_actS (I : Inv X ps0 σ H s) (L : LamS X.env.scope scl) (of : s.heap.get? f = some (PySem.W.kla_obj "<lambda>" (X.env.qual ++ "<lambda>") prm bd scl (cloFrom X.env.cells scl.names []) pm cl ct)) (nf : H f = none) (nfr : f ∉ frs X.stack)
    (hb : ∀ (q : Str) (c : List (Str × Addr)) (pm cv ctv : Value), bindArgs (PySem.W.kla_fn "<lambda>" q prm bd scl c pm cv ctv) ⟨[], []⟩ = pure []) (tk : Takes ((cxOf CX0 X.prog X.w X.K X.mg X.base Ng nm scg gf cg X.A X.stack s H E0).tr pn xe) W) (hr : Room (k + 1) (X.A.deeper (envOfC nm scg s.heap.objs.size gf cg)))
    (body : ∀ (A : Around) (outer : List Env) (s : Shared) (H : Hp) (E : XK), Room k (A.deeper (lamEnv X scl s.heap.objs.size f cl)) → PE (lamCx X A outer s H E scl f cl) bd (tb E)) (hN : Ng[0]? = some sl) (hv : Vis scg sl)
    (hd : (sl == ("__debug__" : Str)) = false) (hcd : (sl == ("__classdict__" : Str)) = false) :
    PE ((cxOf CX0 X.prog X.w X.K X.mg X.base Ng nm scg gf cg X.A X.stack s H E0).tr pn xe) (.Call (.Name sl p1) [] [] p2) (fun σZ HZ Q => σZ[0]? = some (some (.ref f)) ∧ HZ cl = some (CodeO cl (X.env.qual ++ "<lambda>")) ∧ tb (fun c d H' => W c d σZ H') σ HZ Q) := by
  refine ⟨fun pz sz σz Hz Q Iz hq => ?_⟩
  obtain ⟨q1, q2, q3⟩ := hq
  refine wpAny_Call_Name_kw (thn ((pe_var (i := 0) (pos := p1) hN hv hd hcd).run pz sz σz Hz (fun v H' => v = .ref f ∧ H' = Hz) Iz ⟨_, q1, rfl, rfl⟩) ?_)
  rintro u s2 ⟨v, H2, I2, r2, rfl, rfl⟩
  obtain rfl : u = Value.ref f := r2
  have o2 := I2.base.keep f _ of nf nfr (fun z => nomatch (show f ∈ ([] : List Addr) from z))
  refine PySem.W.callWith_F0 ⟨_, _, _, _, o2⟩ ?_
  have un : Un (frs X.stack) [] H H2 s.heap s2.heap := I2.base
  have hc2 : ObjOk X.prog X.w H2 s2.heap cl (CodeO cl (X.env.qual ++ "<lambda>")) := I2.hok cl _ q2
  obtain ⟨⟨o3, vs3, t3, g1, g2, g3⟩, _⟩ := hc2
  have run : codeAny (model X.prog X.w) (X.A.deeper (envOfC nm scg s.heap.objs.size gf cg)) (.call (.ref f) ⟨[], []⟩) (CR (L2.CX X.prog X.w) (envOfC nm scg s.heap.objs.size gf cg :: X.stack) X.prog X.w H2 s2 Q (fun c d H' => W c d σz H')) s2 := by
    refine PySem.W.kla_callFunE hr.depth o2 rfl L.co L.gen rfl ⟨cl, o3, vs3, t3, rfl, g1, g2, g3⟩ ?_
    rw [hb]
    refine wpAny_pure (wpAny_newFunctionEnv (fun y hy => (L.own y hy).2) (fun y hy => absurd hy (by simp)) (fun h2 ns fr => ⟨I2.nolimit.fresh _ fr, ?_⟩) L.kind)
    have kp : ∀ b o, s2.heap.get? b = some o → h2.get? b = some o := fun b o e => fr.extBut b o (Nat.ne_of_lt (Heap.lt_size e)) (Heap.get?_push_of_some _ e)
    have J := lam_start2 (f := f) (c' := cl) (E := fun c d H' => W c d σz H') (tk := s2.toks + ([] : List (Str × Value)).length) I L I2.env0 hr.hd un ns kp
    refine PySem.W.kla_codeExpr (wpAny_mono ((body _ _ s2 H2 _ (hr.deeper _)).run [] _ _ H2 Q J q3) ?_ (fun _ _ z => z))
    rintro v' s' ⟨w', H', J', rv, z⟩
    exact ⟨w', H', J'.os, J'.bare, J'.base, J'.hok, rv, z⟩
  refine wpAny_call (codeAny_mono run fun r s' hz => ?_)
  match r, hz with
  | .error e, hz => exact tk e s' (XE.of_call I2 (fun _ _ _ z => z) hz)
  | .ok (.ret u), hz => exact I2.after hz
  | .ok .next, hz => exact False.elim hz
  | .ok .brk, hz => exact False.elim hz
  | .ok .cont, hz => exact False.elim hz
end
def GivesP (P : Program) (w : World) (K : PySem.W.Frag) (mg : Str → Option Value) (base : Heap) (A : Around) (stk : List Env) (Ng : List Str) (x : Str) (sg : Scope) (g : Addr) (cdg : Value) (bg : List Stmt) (a : Str) (q : Str) (kr : Nat) (TT : (XK → Hp → VK → Prop) → Hp → VK → Prop) : Prop :=
  ∀ (lf lc : Addr) (s : Shared) (H : Hp) (Q : VK) (tl : XK → Hp → VK → Prop), Room kr (A.deeper (envOfC x sg s.heap.objs.size g cdg)) → 
    (∀ (W : WX) (pn : List (Addr × Obj)) (xe : Value → Shared → Prop) (p1 p2 : Pos), Takes ((cxOf CX0 P w K mg base Ng x sg g cdg A stk s H E0).tr pn xe) W →
      PE ((cxOf CX0 P w K mg base Ng x sg g cdg A stk s H E0).tr pn xe) (.Call (.Name a p1) [] [] p2) (fun σZ HZ Q => σZ[0]? = some (some (.ref lf)) ∧ HZ lc = some (CodeO lc q) ∧ tl (fun c d H' => W c d σZ H') HZ Q)) →
    H lc = some (CodeO lc q) → TT tl H Q →
    ∃ t, PSs (cxOf CX0 P w K mg base Ng x sg g cdg A stk s H E0).nox bg t ∧ t { nx := fun _ H' => Q .non H', rt := Q } (L2.start Ng [.ref lf]) H
structure CalL (P : Program) (w : World) (K : PySem.W.Frag) (mg : Str → Option Value) (base : Heap) (kr : Nat) (x : Str) (st : Stmt) (Ng : List Str) (a : Str) (TT : (XK → Hp → VK → Prop) → Hp → VK → Prop) : Prop where
  ex : ∃ (g : Addr) (fd : FuncData), Fun K x x st g fd ∧ mg x = some (.ref g) ∧ Binds K fd [a] []
  S : FnScope Ng [a] (defScope st)
  gv : ∀ (A : Around) (stk : List Env) (g : Addr) (cdg : Value) (q : Str), GivesP P w K mg base A stk Ng x (defScope st) g cdg (defBody st) a q kr TT
section
variable {X : Cx} {T : List (Addr × Str)} {TT : (XK → Hp → VK → Prop) → Hp → VK → Prop} {x a : Str} {c P : Addr} {k kr : Nat} {st : Stmt} {Ng : List Str} {params : Arguments} {body : Expr} {scope : Scope} {t : XK → TE} {p lpos pos : Pos}
theorem pe_lamC (cl : CalL X.prog X.w X.K X.mg X.base kr x st Ng a TT) (TB : TabB X.base X.mg c P) (hmT : (P, X.env.qual ++ "<lambda>") ∈ T) (hu : ∀ p ∈ T, p.1 = P → p.2 = X.env.qual ++ "<lambda>") (hr : Room (max k kr + 2) X.A)
    (hbody : ∀ (A : Around) (outer : List Env) (s : Shared) (H : Hp) (E : XK) (f c' : Addr), Room k (A.deeper (lamEnv X scope s.heap.objs.size f c')) → PE (lamCx X A outer s H E scope f c') body (t E))
    (hNg : Ng[0]? = some a) (hva : Vis (defScope st) a)
    (L : LamS X.env.scope scope := by exact LamX.lamS_by (by decide +kernel)) (hcode : X.env.code = .ref c := by rfl) (hg : Gl X x := by rfl) (hdef : defaultsOf params X.env = ([], []) := by rfl)
    (hbind : ∀ (q : Str) (cl : List (Str × Addr)) (pm cv ctv : Value), bindArgs (PySem.W.kla_fn "<lambda>" q params body scope cl pm cv ctv) ⟨[], []⟩ = pure [] := by intros; rfl)
    (hdb : (x == ("__debug__" : Str)) = false := by decide) (hd : (a == ("__debug__" : Str)) = false := by decide) (hcd : (a == ("__classdict__" : Str)) = false := by decide) :
    PE X (.Call (.Name x p) [.Lambda params body scope lpos] [] pos) (tLam T TT t) := by
  obtain ⟨g, fd, F, hm, hb⟩ := cl.ex
  obtain ⟨oc, od, kV, doc, pm, an, cdv, ct, osl, rfl, lk, hcg⟩ := F.ex
  refine ⟨fun ps0 s0 σ H Q I h => ?_⟩
  obtain ⟨hT, hq⟩ := h
  refine wpAny_Call_Name_kw (ld_glob I hg hm ?_ hdb)
  refine PySem.W.callWith_K (h₀ := X.base) I.ok.mod.kin F.kp ?_ (by rfl) (by rfl)
  show wpAny _ _ (spliced ((false, eval (.Lambda params body scope lpos) X.env) :: backTo pos (starEach [] X.env))) _ _ s0
  refine Calls.spliced_cons (lam_make2 I TB hcode hmT hu hT hdef (L.has I.ok) fun f1 c1 pm1 ct1 H1 s1 I1 e1 T1 of nf nfr oc1 => Calls.spliced_nil ⟨I1.kIn, ?_⟩)
  have run : codeAny (model X.prog X.w) X.A (.call (.ref g) ⟨[.ref f1], []⟩) (CR CX0 X.stack X.prog X.w H1 s1 Q E0) s1 := by
    refine run_ofS (N := Ng) (ps := [a]) (us := [.ref f1]) (vs := [.ref f1]) lk hcg cl.S hr I1.env0 (hb s1 [.ref f1] I1.kIn rfl) (.cons rfl .nil) rfl fun hr1 => ?_
    obtain ⟨t1, ht1, z⟩ := cl.gv X.A X.stack g cdv _ f1 c1 s1 H1 Q (fun E H' Q' => t E σ H' Q') (hr1.mono (by omega)) (fun W pn xe p1 p2 tk => pe_actS (k := k) I1 L of nf nfr hbind tk (hr1.mono (by omega)) (fun A outer s H E hr2 => hbody A outer s H E f1 c1 hr2) hNg hva hd hcd) oc1 (hq H1 e1 T1)
    exact ⟨t1, ht1.nox, z⟩
  refine wpAny_call (codeAny_mono run fun r s2 hz => ?_)
  match r, hz with
  | .error e, hz => exact (show False from hz).elim
  | .ok (.ret u), hz => exact I1.after hz
  | .ok .next, hz => exact False.elim hz
  | .ok .brk, hz => exact False.elim hz
  | .ok .cont, hz => exact False.elim hz
end
/-- deed(), in the def that got it, within a try: what the lambda may let out is taken there -/
def tAct (W : WX) (f c' : Addr) (q : Str) (tl : XK → Hp → VK → Prop) : TE := fun σ H Q => σ[0]? = some (some (.ref f)) ∧ H c' = some (CodeO c' q) ∧ tl (fun c d H' => W c d σ H') H Q
/-! ### the end of a law with tables -/
theorem first_heapT {P : Program} {w : World} {K : PySem.W.Frag} {h : Heap} {a : Addr} {vs : List Value} {ns : List Int} (ts : List Addr) (hts : ∀ b ∈ ts, h.get? b = some { cls := .none, data := .fields #[] }) (KX : K.In h) (ha : h.get? a = some { cls := .type "list", data := .seq vs.toArray }) (hi : IntsAre vs ns) (hl : ns.length ≤ sizeLine) :
    ∃ H : Hp, (∀ b, H b = none ∨ b ∈ ts ∨ ∃ o xs, H b = some (.frz o (.lst xs))) ∧ (∀ b ∈ ts, H b = some (.tbl #[])) ∧ SqL K H a (ns.map V.int) ∧ HOk P w H h ∧ (∀ b u, H b = some u → b ∈ ts ∨ (b = a ∧ K.lookup b = none)) := by
  have rv := vals_ints hi
  have nats : a ∉ ts := fun z => by
    have := hts a z
    rw [ha] at this
    cases this
  by_cases hk : K.lookup a = none
  · let u : HO := .frz { cls := .type "list", data := .seq vs.toArray } (.lst (ns.map V.int))
    have ev : ∀ b z, (if b ∈ ts then some (HO.tbl #[]) else if b = a then some u else none) = some z → (b ∈ ts ∧ z = .tbl #[]) ∨ (b = a ∧ z = u) := fun b z e => by
      by_cases ht : b ∈ ts
      · rw [if_pos ht] at e
        exact .inl ⟨ht, (Option.some.inj e).symm⟩
      · rw [if_neg ht] at e
        by_cases hb : b = a
        · rw [if_pos hb] at e
          exact .inr ⟨hb, (Option.some.inj e).symm⟩
        · rw [if_neg hb] at e
          cases e
    have eva : (if a ∈ ts then some (HO.tbl #[]) else if a = a then some u else none) = some u := by rw [if_neg nats, if_pos rfl]
    refine ⟨fun b => if b ∈ ts then some (.tbl #[]) else if b = a then some u else none, fun b => ?_, fun b hb => if_pos hb, .inl (.inr ⟨_, eva⟩), fun b z e => ?_, fun b z e => ?_⟩
    · by_cases ht : b ∈ ts
      · exact .inr (.inl ht)
      · by_cases hb : b = a
        · exact .inr (.inr ⟨_, _, (if_neg ht).trans (if_pos hb)⟩)
        · exact .inl ((if_neg ht).trans (if_neg hb))
    · rcases ev b z e with ⟨ht, rfl⟩ | ⟨rfl, rfl⟩
      · exact hts b ht
      · exact ⟨ha, by rw [List.length_map]; exact hl, vs, _, rv, ha⟩
    · rcases ev b z e with ⟨ht, rfl⟩ | ⟨rfl, rfl⟩
      · exact .inl ht
      · exact .inr ⟨rfl, hk⟩
  · obtain ⟨o, ho⟩ := Option.ne_none_iff_exists'.mp hk
    have e := KX a o ho
    rw [ha] at e
    cases e
    have ev : ∀ b z, (if b ∈ ts then some (HO.tbl #[]) else none) = some z → b ∈ ts ∧ z = .tbl #[] := fun b z e => by
      by_cases ht : b ∈ ts
      · rw [if_pos ht] at e
        exact ⟨ht, (Option.some.inj e).symm⟩
      · rw [if_neg ht] at e
        cases e
    refine ⟨fun b => if b ∈ ts then some (.tbl #[]) else none, fun b => ?_, fun b hb => if_pos hb, .inr ⟨_, vs.toArray, _, ho, rfl, rfl, rfl, by rw [List.size_toArray, hi.length]; exact hl, by simpa using rv⟩, fun b z e => ?_, fun b z e => .inl (ev b z e).1⟩
    · by_cases ht : b ∈ ts
      · exact .inr (.inl ht)
      · exact .inl (if_neg ht)
    · obtain ⟨ht, rfl⟩ := ev b z e
      exact hts b ht
theorem law_callTG {P : Program} {w : World} {K : PySem.W.Frag} {mg mb : Str → Option Value} {CX : CXT} {k : Nat} {fa a : Addr} {cs : List (Addr × Addr)} {fd : FuncData} {x : Str} {sp : Sp} {s₁ : Shared} {vs : List Value} {ns : List Int}
    (KX : K.In s₁.heap) (hns : s₁.heap.Ns mainGlobals mg) (hb : s₁.heap.Ns builtinsNs mb) (hbb : ∀ x : Str, x ≠ "__name__" → mb x = bootBuiltins x) (hlim : s₁.heap.NoLimit) (hg : s₁.gens = #[])
    (hT : ∀ p ∈ cs, s₁.heap.get? p.2 = some { cls := .none, data := .fields #[] }) (nT : ∀ p ∈ cs, K.lookup p.2 = none) (C : ∀ p ∈ cs, PySem.W.CodeHd s₁.heap p.1 p.2)
    (hbm : ∃ (bm : Addr) (ob : Obj), mg "__builtins__" = some (.ref bm) ∧ bm ≠ builtinsNs ∧ s₁.heap.get? bm = some ob ∧ ob.cls = .type "module" ∧ ob.dict = some builtinsNs ∧ ob.data = .plain)
    (ha : s₁.heap.get? a = some { cls := .type "list", data := .seq vs.toArray }) (hi : IntsAre vs ns) (hl : ns.length ≤ sizeLine) (hr : Room k callerA)
    (F : ∀ base : Heap, K.In base → base.Ns mainGlobals mg → (∀ p ∈ cs, TabB base mg p.1 p.2) → FnG P w K mg base CX k fa fd [x] sp) (hbind : ∀ (s : Shared) (u : Value), BindsTo s fd ⟨[u], []⟩ [(x, u)])
    (hsp : ∀ H : Hp, (∀ p ∈ cs, H p.2 = some (.tbl #[])) → SqL K H a (ns.map V.int) → sp [.ref a] H (fun v _ => v = .bl true) fun _ _ _ => False)
    (hCX : ∀ H e s', CX [] H s₁ (fun _ _ _ => False) e s' → False) :
    codeAny (model P w) callerA (.call (.ref fa) ⟨[.ref a], []⟩) (fun r s' => r = .ok (.ret (.bool true)) ∧ OldK s₁.heap s'.heap ∧ s'.os = s₁.os ∧ AllBare s'.gens) s₁ := by
  have hts : ∀ b ∈ cs.map (·.2), s₁.heap.get? b = some { cls := .none, data := .fields #[] } := fun b hb => by
    obtain ⟨p, hp, rfl⟩ := List.mem_map.mp hb
    exact hT p hp
  have mts : ∀ p ∈ cs, p.2 ∈ cs.map (·.2) := fun p hp => List.mem_map.mpr ⟨p, hp, rfl⟩
  obtain ⟨H, hO, hTb, hS, hok, hA⟩ := first_heapT (P := P) (w := w) (cs.map (·.2)) hts KX ha hi hl
  let B := hidT s₁.heap H
  have inB : ∀ {b : Addr} {o : Obj}, s₁.heap.get? b = some o → (∀ u, H b ≠ some u) → B.get? b = some o := fun {b o} e n => hidT_get e (by
    cases q : H b with
    | none => rfl
    | some u => exact absurd q (n u))
  -- objects that are neither lists nor empty tables are on the ground
  have noD : ∀ {b : Addr} {o : Obj}, s₁.heap.get? b = some o → (∀ vs n, o.data ≠ .seq vs n) → o.data ≠ .fields #[] → B.get? b = some o := fun {b o} e h1 h2 => inB e fun u q => by
    rcases hA b u q with z | ⟨rfl, _⟩
    · rw [hts b z] at e
      cases e
      exact h2 rfl
    · rw [ha] at e
      cases e
      exact h1 _ _ rfl
  have nsB : ∀ {b : Addr} {m : Str → Option Value}, s₁.heap.Ns b m → B.Ns b m := fun {b m} hm => by
    obtain ⟨o, es, ep, e, dt, r⟩ := hm
    exact ⟨o, es, ep, noD e (fun _ _ z => by rw [dt] at z; cases z) (fun z => by rw [dt] at z; cases z), dt, r⟩
  have kB : K.In B := fun b o e => inB (KX b o e) fun u q => by
    rcases hA b u q with z | ⟨_, z⟩
    · obtain ⟨p, hp, rfl⟩ := List.mem_map.mp z
      rw [nT p hp] at e
      cases e
    · rw [z] at e
      cases e
  have limB : B.NoLimit := by
    obtain ⟨mc, h1, h2⟩ := hlim
    exact ⟨mc, nsB h1, h2⟩
  have TB : ∀ p ∈ cs, TabB B mg p.1 p.2 := fun p hp => by
    have hTp := hT p hp
    refine ⟨?_, ?_, fun z => ?_⟩
    · obtain ⟨o, us, file, tf, flags, tg, inF, text, tt, e1, r1, r2, r3, r⟩ := C p hp
      refine ⟨o, us, file, tf, flags, tg, inF, text, tt, noD e1 (fun _ _ z => by rw [r2] at z; cases z) (fun z => ?_), r1, r2, r3, r⟩
      rw [r2] at z
      cases z
      simp at r3
    · obtain ⟨bm, ob, b1, b2, b3, b4, b5, b6⟩ := hbm
      have nG : bm ≠ mainGlobals := fun q => by
        obtain ⟨o, es, ep, e, hd, _⟩ := hns
        rw [q, e] at b3
        cases b3
        rw [hd] at b6
        cases b6
      have nP : bm ≠ p.2 := fun q => by
        rw [q, hTp] at b3
        cases b3
        cases b6
      exact ⟨bm, ob, b1, b2, nG, nP, noD b3 (fun _ _ z => by rw [b6] at z; cases z) (fun z => by rw [b6] at z; cases z), b4, b5, b6⟩
    · obtain ⟨o, es, ep, e, hd, _⟩ := hns
      rw [z, hTp] at e
      cases e
      cases hd
  have e0 : Env0 P w K mg B callerA [] s₁ H := ⟨rfl, ⟨kB, nsB hns, ⟨mb, nsB hb, hbb⟩, limB⟩, fun b o e => of_hidT e, Nat.le_of_eq (hidT_size _ _), trivial, fun b hb => absurd (show b ∈ ([] : List Addr) from hb) (by simp), hok, .of_eq hg⟩
  have run := (F B kB (nsB hns) TB).go callerA [] s₁ H ⟨[.ref a], []⟩ [.ref a] [.ref a] _ _ rfl hr e0 (hbind s₁ (.ref a)) (.cons rfl .nil) (hsp H (fun p hp => hTb _ (mts p hp)) hS)
  refine codeAny_mono run fun r s' h => ?_
  match r, h with
  | .error e, h => exact (hCX H e s' h).elim
  | .ok .next, h => exact False.elim h
  | .ok .brk, h => exact False.elim h
  | .ok .cont, h => exact False.elim h
  | .ok (.ret u), h =>
    obtain ⟨v, H', os, bare, un, hok', r', q⟩ := h
    have q' : v = .bl true := q
    subst q'
    obtain rfl : u = Value.bool true := r'
    have grown : ∀ p ∈ cs, ∃ more : Array Value, s'.heap.get? p.2 = some { cls := .none, data := .fields more } := fun p hp => by
      obtain ⟨more, z⟩ := un.tbls p.2 #[] (hTb _ (mts p hp))
      exact ⟨_, hok' p.2 _ z⟩
    have key : ∀ b o, b ∉ cs.map (·.2) → s₁.heap.get? b = some o → s'.heap.get? b = some o := fun b o nb e => by
      rcases hO b with z | z | ⟨ob, xs, z⟩
      · exact un.keep b o e z (fun w => absurd (show b ∈ ([] : List Addr) from w) (by simp)) (by simp)
      · exact absurd z nb
      · have z1 := (hok b _ z).1
        have z2 := (hok' b _ (un.frzs b ob _ z)).1
        rw [e] at z1
        cases z1
        exact z2
    refine ⟨rfl, ⟨fun b o e => ?_, fun b o e => ?_⟩, os, bare⟩
    · by_cases hb : b ∈ cs.map (·.2)
      · obtain ⟨p, hp, rfl⟩ := List.mem_map.mp hb
        obtain ⟨more, hm⟩ := grown p hp
        rw [hT p hp] at e
        cases e
        exact .inr (.inl ⟨((C p hp).tab (hT p hp)).isCodeTable, rfl, #[], more, rfl, by rw [Array.empty_append]; exact hm⟩)
      · exact .inl (key b o hb e)
    · by_cases hb : b ∈ cs.map (·.2)
      · obtain ⟨p, hp, rfl⟩ := List.mem_map.mp hb
        obtain ⟨more, hm⟩ := grown p hp
        exact ⟨_, hm⟩
      · exact ⟨o, key b o hb e⟩
/-- what is known of the law's promise at the head's heap -/
def LawAtG (l : PySem.W.OpenLaw) (w : World) (K : PySem.W.Frag) (CX : CXT) (k n : Nat) (x : Str) (mg : Str → Option Value) (fa : Addr) (h : Heap) : Prop :=
  ∃ (fd : FuncData) (cs : List (Addr × Addr)) (sp : Sp), (∀ p ∈ cs, h.get? p.2 = some { cls := .none, data := .fields #[] }) ∧ (∀ p ∈ cs, K.lookup p.2 = none) ∧ (∀ p ∈ cs, PySem.W.CodeHd h p.1 p.2) ∧ (∀ (s : Shared) (u : Value), BindsTo s fd ⟨[u], []⟩ [(x, u)]) ∧
    (∀ (H : Hp) (a : Addr) (ns : List Int), ns.length ≤ n → (∀ p ∈ cs, H p.2 = some (.tbl #[])) → SqL K H a (ns.map V.int) → sp [.ref a] H (fun v _ => v = .bl true) fun _ _ _ => False) ∧
    ∀ base : Heap, K.In base → base.Ns mainGlobals mg → (∀ p ∈ cs, TabB base mg p.1 p.2) → FnG l.prog w K mg base CX k fa fd [x] sp
theorem walk_ofTG {l : PySem.W.OpenLaw} {n k : Nat} {q : Program} {loose : List Str} {XP : (Str → Option Value) → Heap → Prop} {YP : World → Heap → Prop} {d : DefRec} {K : Params → PySem.W.Frag} {CX : World → CXT} {x : Str}
    (hn : l.most = some n) (hn2 : n ≤ sizeLine) (hdf : d.params.defaults = []) (hr : Room k callerA) (hY : ∀ (w : World) (h : Heap), YP w h → (K w.params).In h)
    (F : ∀ (w : World) (mg : Str → Option Value) (fa : Addr) (h : Heap), YP w h → (K w.params).In h → h.Ns mainGlobals mg → mg d.name = some (.ref fa) → LawAtG l w (K w.params) (CX w) k n x mg fa h)
    (hCX : ∀ (w : World) (H : Hp) (s : Shared) (e : Value) (s' : Shared), CX w [] H s (fun _ _ _ => False) e s' → False) :
    PySem.W.WalkO q loose XP YP l.row.toRowW d [] (fun f vs => PySem.call f vs) := by
  refine Att.attach_call hn hdf fun w s₀ s₁ mg mb fa o pm cd doc a vs ns G Y ho hd hcd hmg hobj hints hlen hg => ?_
  obtain ⟨fd, cs, sp, hT, nT, C, hb, hsp, hF⟩ := F w mg fa _ Y (hY w _ Y) G.T.g hmg
  exact law_callTG (hY w _ Y) G.T.g G.T.b G.T.builtins G.T.nolimit hg hT nT C G.T.bmain hobj hints (Nat.le_trans hlen hn2) hr hF hb (fun H hH hS => hsp H a ns hlen hH hS) fun H e s' => hCX w H s₁ e s'
/-! ### expressions and tests that leave the heap alone, by their values -/
def ED (t : TE) (σ : L2.St) (H : Hp) (v : V) : Prop := ∀ Q : VK, Q v H → t σ H Q
def TD (t : L2.TT) (σ : L2.St) (H : Hp) (c : Bool) : Prop := ∀ Q : Bool → Hp → Prop, Q c H → t σ H Q
section
variable {σ : L2.St} {H : Hp} {ta tb : TE} {tA tB' : L2.TT} {a b : Int} {x y : Bool} {i : Nat} {v : V}
theorem ED.var (h : σ[i]? = some (some v)) : ED (tVar i) σ H v := fun _ q => ⟨v, h, q⟩
theorem ED.c : ED (tC v) σ H v := fun _ q => q
theorem ED.op0 {f : Int → Int → V} (h1 : ED ta σ H (.int a)) (h2 : ED tb σ H (.int b)) : ED (tOp (rI0 f) ta tb) σ H (f a b) := fun _ q => h1 _ (h2 _ ⟨a, b, rfl, rfl, q⟩)
theorem ED.opC {C : Int → Int → Prop} {f : Int → Int → V} (h1 : ED ta σ H (.int a)) (h2 : ED tb σ H (.int b)) (hc : C a b) : ED (tOp (rI C f) ta tb) σ H (f a b) := fun _ q => h1 _ (h2 _ ⟨a, b, rfl, rfl, hc, q⟩)
theorem dvI : decide (V.int a = V.int b) = decide (a = b) := decide_eq_decide.mpr ⟨V.int.inj, congrArg _⟩
theorem ED.eq (h1 : ED ta σ H (.int a)) (h2 : ED tb σ H (.int b)) : ED (tOp rEq ta tb) σ H (.bl (decide (a = b))) := fun _ q => h1 _ (h2 _ ⟨rfl, by rw [dvI]; exact q⟩)
theorem ED.ne (h1 : ED ta σ H (.int a)) (h2 : ED tb σ H (.int b)) : ED (tOp rNe ta tb) σ H (.bl (!decide (a = b))) := fun _ q => h1 _ (h2 _ ⟨rfl, by rw [dvI]; exact q⟩)
theorem ED.and (h1 : ED ta σ H (.bl x)) (h2 : x = true → ED tb σ H (.bl y)) : ED (tAndV ta tb) σ H (.bl (x && y)) := fun _ q => h1 _ ⟨x, rfl, by
  cases x with
  | true => exact iteT (h2 rfl _ q)
  | false => exact iteF q⟩
theorem ED.or (h1 : ED ta σ H (.bl x)) (h2 : x = false → ED tb σ H (.bl y)) : ED (tOrV ta tb) σ H (.bl (x || y)) := fun _ q => h1 _ ⟨x, rfl, by
  cases x with
  | true => exact iteT q
  | false => exact iteF (h2 rfl _ q)⟩
theorem TD.test (h : ED ta σ H (.bl x)) : TD (tTest ta) σ H x := fun _ q => h _ ⟨x, rfl, q⟩
theorem TD.ofB (h : ED ta σ H (.bl x)) : TD (tB ta) σ H x := fun _ q => h _ ⟨x, rfl, q⟩
theorem TD.and (h1 : TD tA σ H x) (h2 : x = true → TD tB' σ H y) : TD (tAnd tA tB') σ H (x && y) := fun _ q => h1 _ (by
  cases x with
  | true => exact iteT (h2 rfl _ q)
  | false => exact iteF q)
theorem TD.or (h1 : TD tA σ H x) (h2 : x = false → TD tB' σ H y) : TD (tOr tA tB') σ H (x || y) := fun _ q => h1 _ (by
  cases x with
  | true => exact iteT q
  | false => exact iteF (h2 rfl _ q))
theorem TD.not (h1 : TD tA σ H x) : TD (tNot tA) σ H (!x) := fun _ q => h1 _ q
theorem tdIf {t u : TS} {D : Ends} (h : TD tA σ H x) (q1 : x = true → t D σ H) (q2 : x = false → u D σ H) : tIfS tA t u D σ H := h _ (by
  cases x with
  | true => exact iteT (q1 rfl)
  | false => exact iteF (q2 rfl))
theorem tdIfE {Q : VK} (h : TD tA σ H x) (q1 : x = true → ta σ H Q) (q2 : x = false → tb σ H Q) : tIf tA ta tb σ H Q := h _ (by
  cases x with
  | true => exact iteT (q1 rfl)
  | false => exact iteF (q2 rfl))
theorem tdRetIf {D : Ends} (h : TD tA σ H x) (q1 : x = true → tRet ta D σ H) (q2 : x = false → tRet tb D σ H) : tRet (tIf tA ta tb) D σ H := h _ (by
  cases x with
  | true => exact iteT (q1 rfl)
  | false => exact iteF (q2 rfl))
theorem tdRet {D : Ends} (h : ED ta σ H v) (q : D.rt v H) : tRet ta D σ H := h _ q
end
end Bw

set_option maxHeartbeats 2000000
namespace Bw
open PySem PySem.Spec PyProof.Rows L2
/-! ### list.count of flat items -/
def rCountV (K : PySem.W.Frag) : V → List V → Hp → VK → Prop := fun x xs H Q => ∃ (a : Addr) (ys : List V) (y : V), x = V.ref a ∧ xs = [y] ∧ SqL K H a ys ∧ flatV y = true ∧ ys.all flatV = true ∧ Q (.int (ys.countP (fun z => eqV z y) : Nat)) H
theorem countP_eqU {y : V} : ∀ {ys : List V} {us : List Value}, Vals ys us → ys.all flatV = true → us.countP (eqU y) = ys.countP fun z => eqV z y
  | _, _, .nil, _ => rfl
  | _, _, .cons r rs, f => by
    obtain ⟨f1, f2⟩ := (Bool.and_eq_true _ _).mp f
    rw [List.countP_cons, List.countP_cons, countP_eqU rs f2, eqU_of r f1]
theorem mt_countV {X : Cx} : MtR X "list.count" (rCountV X.K) := by
  intro pins s σ H x xs v us Q I rx rxs h
  obtain ⟨a, ys, y, rfl, rfl, hs, fy, fys, q⟩ := h
  cases rx
  obtain ⟨uy, rfl, ry⟩ := rxs.one
  obtain ⟨its, rv, ⟨⟨cls, dd, data, sl⟩, n, ho, hc, hdn, hd⟩, hlen⟩ := I.list hs
  simp only at hc hd
  subst hc hd
  refine call_meets PySem.F.slot_list_count ⟨_, ho, rfl⟩ PySem.F.entry_list_count (PySem.F.args_list_count_2 _ _)
    (SeqAt.list_countAt a its.toArray n dd sl uy (eqU y)) ⟨ho, fun u' hu' => mem_eqAt ry fy rv fys u' (by simpa using hu'), ?_⟩
  refine ⟨.int (ys.countP (fun z => eqV z y) : Nat), H, I.tok _, ⟨s.toks, ?_⟩, q⟩
  show Value.int ((its.toArray.toList.countP (eqU y) : Nat) : Int) s.toks = Value.int _ s.toks
  rw [show its.toArray.toList = its from rfl, countP_eqU rv fys]
theorem countL (K : PySem.W.Frag) {X : Cx} (h : X.K = K := by rfl) : MtR X "list.count" (rCountV K) := h ▸ mt_countV
/-! ### if a or b: .. -/
theorem tdIfOr {σ : L2.St} {H : Hp} {tA tB' : L2.TT} {x : Bool} {t u : TS} {D : Ends} (h : TD tA σ H x) (q1 : x = true → t D σ H) (q2 : x = false → tIfS tB' t u D σ H) : tIfS (tOr tA tB') t u D σ H := h _ (by
  cases x with
  | true => exact iteT (iteT (q1 rfl))
  | false => exact iteF (q2 rfl))
/-! ### a local name that holds one of some defs, called -/
structure CalF (P : Program) (w : World) (K : PySem.W.Frag) (mg : Str → Option Value) (base : Heap) (CX : CXT) (j : Nat) (f : Addr) (sp : Sp) : Prop where
  ex : ∃ (k : Nat) (ps : List Str) (fd : FuncData), k ≤ j ∧ FnOk P w K mg base CX k f fd ps sp ∧ PySem.W.keepIn K (.ref f) = true ∧ Binds K fd ps []
theorem calAt {P : Program} {w : World} {K : PySem.W.Frag} {mg : Str → Option Value} {base : Heap} {CX : CXT} {k j : Nat} {x : Str} {ps : List Str} {st : Stmt} {sp : Sp} {a : Addr} (c : Cal P w K mg base CX k x ps st sp) (hm : mg x = some (.ref a)) (hk : k ≤ j) : CalF P w K mg base CX j a sp := by
  obtain ⟨f, fd, G, F, hf, hb⟩ := c.ex
  rw [hf] at hm
  cases hm
  exact ⟨k, ps, fd, hk, G, F.kp, hb⟩
def tCallVar (i : Nat) (fs : List (Addr × Sp)) (E : XK) (t : TA) : TE := fun σ H Q => ∃ p ∈ fs, σ[i]? = some (some (.ref p.1)) ∧ t σ H fun vs H1 => p.2 vs H1 Q E
theorem pe_calVar {X : Cx} {CX : CXT} {j i : Nat} {x : Str} {fs : List (Addr × Sp)} {E : XK} {e : Expr} {es : List Expr} {t : TA} {p pos : Pos} (c : ∀ q ∈ fs, CalF X.prog X.w X.K X.mg X.base CX j q.1 q.2) (hr : Room j X.A) (hx : Passes CX X E) (ha : PA X (e :: es) t) (hN : X.N[i]? = some x) (hv : Vis X.env.scope x)
    (hd : (x == ("__debug__" : Str)) = false := by decide) (hcd : (x == ("__classdict__" : Str)) = false := by decide)
    (he : starEach (e :: es) X.env = (false, eval e X.env) :: starEach es X.env := by rfl) (hpl : (backTo pos (starEach es X.env)).any (·.1) = false := by rfl) :
    PE X (.Call (.Name x p) (e :: es) [] pos) (tCallVar i fs E t) := by
  refine ⟨fun pins s σ H Q I h => ?_⟩
  obtain ⟨q, hq, hs, ht⟩ := h
  obtain ⟨k, ps, fd, hk, F, kp, b⟩ := (c q hq).ex
  refine wpAny_Call_Name_kw (thn ((pe_var (pos := p) hN hv hd hcd).run pins s σ H (fun v H1 => v = .ref q.1 ∧ H1 = H) I ⟨.ref q.1, hs, rfl, rfl⟩) ?_)
  rintro u s1 ⟨v, H1, I1, r1, rfl, rfl⟩
  cases r1
  refine PySem.W.callWith_K (h₀ := X.base) I.ok.mod.kin kp (thn (ha.run pos pins s1 σ _ _ I1 ht) ?_) he hpl
  rintro us s2 ⟨vs, H2, I2, r, z⟩
  exact ⟨I2.kIn, run_fn F (hr.mono hk) b .nil hx I2 r (by rw [List.append_nil]; exact z)⟩
end Bw

set_option maxHeartbeats 4000000
namespace Bw
open PySem PySem.Spec PyProof.Rows L2
/-! ### sum of a list of ints -/
section
variable {X : Cx}
theorem sumL (K : PySem.W.Frag) (hc : X.calm = true) (h : X.K = K := by rfl) : CallR X (.builtin "sum") (rSum K) := h ▸ cr_sum hc
end
/-! ### tuple * int, also none and one -/
theorem tuple_mulZ (l : Addr) (items : Array Value) (n : Nat) (dd : Option Addr) (sl : Array (Option Value)) (u : Tok) (c1 : items.isEmpty = false) :
    Meets (Builtin.«tuple.__mul__» ⟨[.ref l, .int 0 u], []⟩) (fun _ R s => s.heap.get? l = some { cls := .type "tuple", dict := dd, data := .seq items n, slots := sl } ∧
      R (.ok (.ret (Value.ref s.heap.objs.size))) { s with heap := s.heap.push { cls := Value.type "tuple", data := Data.seq #[] }, toks := s.toks }) :=
  .of_wp fun prog w A R s h => by
    obtain ⟨hp, g, d, tk, os⟩ := s
    obtain ⟨hl, h⟩ := h
    have f1 := AutoSeq1.idx_int
    have c2 : (items.isEmpty || (0 : Int) == 1) = false := by rw [c1]; rfl
    have c3 : (decide ((0 : Int) ≤ 0) || items.isEmpty) = true := rfl
    wp_walk using wpAny_loadPart' hl
    repeat (first
      | (refine wpAny_ite_false (decide_eq_false (by rw [c2]; exact Bool.false_ne_true)) ?_; wp_walk using wpAny_loadPart' hl)
      | (refine wpAny_ite_false (decide_eq_false (by decide)) ?_; wp_walk using wpAny_loadPart' hl)
      | (refine wpAny_ite_true (decide_eq_true c3) ?_; wp_walk using wpAny_loadPart' hl))
    exact ⟨_, rfl, h⟩
theorem tuple_mulO (l : Addr) (items : Array Value) (n : Nat) (dd : Option Addr) (sl : Array (Option Value)) (u : Tok) :
    Meets (Builtin.«tuple.__mul__» ⟨[.ref l, .int 1 u], []⟩) (fun _ R s => s.heap.get? l = some { cls := .type "tuple", dict := dd, data := .seq items n, slots := sl } ∧
      R (.ok (.ret (Value.ref l))) s) :=
  .of_wp fun prog w A R s h => by
    obtain ⟨hp, g, d, tk, os⟩ := s
    obtain ⟨hl, h⟩ := h
    have f1 := AutoSeq1.idx_int
    have c2 : (items.isEmpty || (1 : Int) == 1) = true := by rw [show ((1 : Int) == 1) = true from rfl, Bool.or_true]
    wp_walk using wpAny_loadPart' hl
    repeat (first
      | (refine wpAny_ite_true (decide_eq_true c2) ?_; wp_walk using wpAny_loadPart' hl)
      | (refine wpAny_ite_false (decide_eq_false (by decide)) ?_; wp_walk using wpAny_loadPart' hl)
      | (refine wpAny_ite_true (decide_eq_true rfl) ?_; wp_walk using wpAny_loadPart' hl))
    exact ⟨_, rfl, h⟩
def rRepA (K : PySem.W.Frag) : R2 := fun x y H Q => ∃ l k xs, x = .ref l ∧ y = .int k ∧ SqT K H l xs ∧ xs ≠ [] ∧ 0 ≤ k ∧ k ≤ 1000 ∧ xs.length ≤ 1000 ∧
  (k = 0 → ∀ p, H p = none → Q (.ref p) (upd H p (.tup []))) ∧ (k = 1 → Q (.ref l) H) ∧ (2 ≤ k → ∀ p, H p = none → Q (.ref p) (upd H p (.tup (List.replicate k.toNat xs).flatten)))
section
variable {X : Cx}
theorem op_repA : OpR X (binaryOp .Mult) (rRepA X.K) := by
  intro pins s σ H x y v u Q I rx ry h
  obtain ⟨l, k, xs, rfl, rfl, hT, hne, h0, h2, hz, q0, q1, q⟩ := h
  by_cases c : 2 ≤ k
  · exact op_repT pins s σ H _ _ v u Q I rx ry ⟨l, k, xs, rfl, rfl, hT, hne, c, h2, hz, q c⟩
  cases rx
  obtain ⟨t, rfl⟩ := ry
  obtain ⟨its, r, ⟨⟨cls, dd, data, sl⟩, ho, hc, n, hd⟩, hs⟩ := I.tuple hT
  simp only at hc hd
  subst hc hd
  have hle : its.length = xs.length := r.length.symm
  have hn : its ≠ [] := fun e => hne (by
    rw [e] at hle
    exact List.eq_nil_of_length_eq_zero hle.symm)
  have hi : its.toArray.isEmpty = false := by
    cases its with
    | nil => exact absurd rfl hn
    | cons a b => rfl
  refine wpAny_binaryOp_repeat_ref (T := "tuple") (U := "int") (by decide) ⟨_, ho, rfl⟩ (fun s' => typeIs_int s' k t) noFill_tuple_mul F.fills_int_mul F.slot_int_rmul repeat_tuple F.slot_int_index.lookup
    (call_meets F.slot_int_rmul (typeIs_int s k t) F.entry_int_rmul (F.args_int_rmul_2 _ _) (int_rmul_tuple k t l its.toArray n dd sl)
      ⟨ho, rfl, ⟨_, ho, rfl⟩, ?_⟩)
  by_cases c0 : k = 0
  · subst c0
    refine call_meets F.slot_tuple_mul ⟨_, ho, rfl⟩ F.entry_tuple_mul (F.args_tuple_mul_2 _ _) (tuple_mulZ l its.toArray n dd sl t hi) ⟨ho, ?_⟩
    refine ⟨.ref s.heap.objs.size, _, I.laid (t' := s.toks) (o := .tup []) (fun b ob q => Heap.get?_push_of_some _ q) (Nat.le_refl _) ?_, rfl, q0 rfl _ (I.hok.fresh (Nat.le_refl _))⟩
    exact ⟨Nat.zero_le _, _, .nil, IsTup.new _ _⟩
  · obtain rfl : k = 1 := by omega
    refine call_meets F.slot_tuple_mul ⟨_, ho, rfl⟩ F.entry_tuple_mul (F.args_tuple_mul_2 _ _) (tuple_mulO l its.toArray n dd sl t) ⟨ho, ?_⟩
    exact ⟨.ref l, H, I, rfl, q1 rfl⟩
theorem repA (K : PySem.W.Frag) (h : X.K = K := by rfl) : OpR X (binaryOp .Mult) (rRepA K) := h ▸ op_repA
end
theorem rpA {K : PySem.W.Frag} {H : Hp} {l : Addr} {k : Nat} {xs : List V} {Q : VK} (hT : SqT K H l xs) (hne : xs ≠ []) (h2 : k ≤ 1000) (hz : xs.length ≤ 1000) (q : ∀ p H', Same H H' → SqT K H' p (List.replicate k xs).flatten → Q (.ref p) H') : rRepA K (.ref l) (.int (k : Nat)) H Q := by
  refine ⟨l, _, xs, rfl, rfl, hT, hne, by omega, by omega, hz, fun c p np => ?_, fun c => ?_, fun c p np => ?_⟩
  · obtain rfl : k = 0 := by omega
    exact q p _ (Same.new np) (SqT.of upd_same)
  · obtain rfl : k = 1 := by omega
    refine q l _ (Same.refl _) ?_
    rw [show (List.replicate 1 xs).flatten = xs by simp]
    exact hT
  · rw [Int.toNat_natCast]
    exact q p _ (Same.new np) (SqT.of upd_same)
end Bw

set_option maxHeartbeats 4000000
namespace Bw
open PySem PySem.Spec PyProof.Rows L2
/-! ### dict comprehensions with two loops, entries by numbers or by tuples -/
section
variable {X : Cx}
/-- D[y] = z within a comprehension -/
theorem dictSetA {cx : Cx} {ps : List (Addr × Obj)} {sl : L2.St} {G G' : Hp} {s : Shared} {EE : Value → Shared → Prop} {D : Addr} {y z : V} {u r : Value} {QQ : Unit → Shared → Prop} (hu : cx.A.units + 1 < cLine) (I : Inv cx ps sl G s) (g : DPut G D y z G')
    (ry : RelV y u) (rz : RelV z r) (fin : ∀ s', Inv cx ps sl G' s' → QQ () s') : wpAny (model cx.prog cx.w) cx.A (dictSet D u r) QQ EE s := by
  rcases g with ⟨kvs, k, e, ey, l, eH⟩ | ⟨kvs, k, b, e, ey, eb, l, eH⟩
  · subst ey eH
    exact d_dictSet I e l ry rz fin
  · subst ey eH
    cases (show u = Value.ref b from ry)
    obtain ⟨zl, nsys, xs, rel, dd⟩ := dt_of I.hok e
    have hxs : xs.length ≤ sizeLine := Paired.length rel ▸ zl
    have hnl : (putK kvs k z).length ≤ sizeLine := Nat.le_trans (length_putK kvs k z) l
    refine wpAny_dictSet_heap (hsz := hxs) (show (tupleKind (mixKind cx.prog cx.w)).room cx.A from Nat.lt_of_succ_lt hu) (key_of I.hok eb) dd fun hp dd' sb => fin _ ?_
    obtain ⟨oo, es, ep, g1, g2, g3, g4, _, g5⟩ := dd'
    refine d_write I (by rw [e]; exact True.intro) sb ⟨oo, g1⟩ ⟨hnl, nsys, _, (rel.put k eb rz).keeps fun c ys ec => ?_, oo, es, ep, g1, g2, g3, g4, g5⟩
    rw [upd_ne (ne_of ec e (fun z => nomatch z)), ec]
def tDc2 (wi : TI) (g : TG) (tt : L2.TT) (wi1 : TI) (g1 : TG) (tt1 : L2.TT) (tk tv : TE) (vs vs1 : List Nat) : TE := fun σ H Q => wi σ H fun J H1 => ∀ D, H1 D = none → ∃ W : Nat → Nat → Hp → Prop, (∃ m, W 0 m (upd H1 D (.dT []))) ∧ ∀ i m H, W i m H →
  (J.stop i H ∧ Q (.ref D) H) ∨
  (J.go i H ∧ ∃ Nx : Hp → Prop, (∀ H', Nx H' → ∃ m', m' < m ∧ W (i + 1) m' H') ∧
    ∀ x H', J.yld i H x H' → g x (wipe σ vs) H' fun σ2 H2 => wipe σ2 vs = wipe σ vs ∧ tt σ2 H2 fun b H3 =>
      if b = true then wi1 σ2 H3 fun J1 H4 => ∃ W1 : Nat → Nat → Hp → Prop, (∃ m, W1 0 m H4) ∧ ∀ j k H, W1 j k H →
        (J1.stop j H ∧ Nx H) ∨
        (J1.go j H ∧ ∃ Nx1 : Hp → Prop, (∀ H', Nx1 H' → ∃ k', k' < k ∧ W1 (j + 1) k' H') ∧
          ∀ x H', J1.yld j H x H' → g1 x (wipe σ2 vs1) H' fun σ3 H5 => wipe σ3 vs1 = wipe σ2 vs1 ∧ tt1 σ3 H5 fun b H6 =>
            if b = true then tk σ3 H6 fun y H7 => tv σ3 H7 fun z H8 => ∃ H9, DPut H8 D y z H9 ∧ Nx1 H9 else Nx1 H6)
      else Nx H3)

theorem turnD_out (kx vx t0 i0 t1 i1 : Expr) (c0 c1 : List Expr) (scope : Scope) (pos : Pos) (it : Value) (D : Addr) (env : Env) :
    compTurn (.DictComp kx vx [⟨t0, i0, c0, 0⟩, ⟨t1, i1, c1, 0⟩] scope pos) 0 it (.ref D) env =
    (do
      standAt i0.pos
      match ← pyNext it with
      | none => pure (.done .next)
      | some v =>
        letOwnedTupleGo t0 it v
        assign t0 env v
        let mut ok := true
        for c in c0 do
          if ok then ok ← isTrue c env (eval c env)
        if ok then
          let x ← eval i1 env
          standAt i1.pos
          let x ← foldedSetIterable i1 env x
          let _ ← runOwn (.compStart (.DictComp kx vx [⟨t0, i0, c0, 0⟩, ⟨t1, i1, c1, 0⟩] scope pos) 1 (← holding [x] (pyIter x)) (.ref D) env) env
        again (.compLoop (.DictComp kx vx [⟨t0, i0, c0, 0⟩, ⟨t1, i1, c1, 0⟩] scope pos) 0 it (.ref D) env)) := by rfl
theorem turnD_in (kx vx t0 i0 t1 i1 : Expr) (c0 c1 : List Expr) (scope : Scope) (pos : Pos) (it : Value) (D : Addr) (env : Env) :
    compTurn (.DictComp kx vx [⟨t0, i0, c0, 0⟩, ⟨t1, i1, c1, 0⟩] scope pos) 1 it (.ref D) env =
    (do
      standAt i1.pos
      match ← pyNext it with
      | none => pure (.done .next)
      | some v =>
        letOwnedTupleGo t1 it v
        assign t1 env v
        let mut ok := true
        for c in c1 do
          if ok then ok ← isTrue c env (eval c env)
        if ok then
          (do
            let kv ← eval kx env
            let vv ← holding [kv] (eval vx env)
            standAt { kx.pos with endLine := vx.pos.endLine, endCol := vx.pos.endCol }
            holding [kv, vv] (dictSet D kv vv))
        again (.compLoop (.DictComp kx vx [⟨t0, i0, c0, 0⟩, ⟨t1, i1, c1, 0⟩] scope pos) 1 it (.ref D) env)) := by rfl
end
section
variable {pr : Program} {wd : World} {ar : Around} {R : Result → Shared → Prop} {s : Shared} {kx vx t0 i0 t1 i1 : Expr} {c0 c1 : List Expr} {scope : Scope} {pos : Pos} {it : Value} {D : Addr} {env : Env}
/-- an error leaves the block -/
abbrev raisesTo (pr : Program) (wd : World) (ar : Around) (env : Env) (R : Result → Shared → Prop) : Value → Shared → Prop := notedBy (model pr wd) ar env fun e s' => R (.error e) s'
/-- what the tests of a clause do -/
abbrev testsOf (cs : List Expr) (env : Env) : Sem Bool := forIn cs true fun c r => if r = true then do let ok ← isTrue c env (eval c env); pure (ForInStep.yield ok) else pure (ForInStep.yield r)
theorem loopD_out (fs : ∀ x, foldedSetIterable i1 env x = pure x) (I : Nat → Shared → Prop)
    (turn : ∀ n s, I n s → wpAny (model pr wd) ar (pyNext it)
      (fun r a1 => match r with
      | none => R (.ok .next) a1
      | some v => wpAny (model pr wd) ar (letOwnedTupleGo t0 it v)
        (fun _ a2 => wpAny (model pr wd) ar (assign t0 env v)
          (fun _ a3 => wpAny (model pr wd) ar (testsOf c0 env)
            (fun ok a4 => if ok = true then wpAny (model pr wd) ar (eval i1 env)
                (fun x a5 => wpAny (model pr wd) ar (pyIter x)
                  (fun j a6 => codeAny (model pr wd) ar (.compStart (.DictComp kx vx [⟨t0, i0, c0, 0⟩, ⟨t1, i1, c1, 0⟩] scope pos) 1 j (.ref D) env) (fun r s' => match r with
                    | .ok _ => ∃ m, m < n ∧ I m s'
                    | .error _ => False) a6) (raisesTo pr wd ar env R) a5) (raisesTo pr wd ar env R) a4
              else ∃ m, m < n ∧ I m a4) (raisesTo pr wd ar env R) a3) (raisesTo pr wd ar env R) a2) (raisesTo pr wd ar env R) a1) (raisesTo pr wd ar env R) s)
    (n : Nat) (h : I n s) : codeAny (model pr wd) ar (.compLoop (.DictComp kx vx [⟨t0, i0, c0, 0⟩, ⟨t1, i1, c1, 0⟩] scope pos) 0 it (.ref D) env) R s := by
  refine codeAny_loop rfl I (fun n s hI => ?_) n h
  show wpAny _ ar ((compTurn (.DictComp kx vx [⟨t0, i0, c0, 0⟩, ⟨t1, i1, c1, 0⟩] scope pos) 0 it (.ref D) env).onRaise (fun x => do noteFrame x env; theTreesLotGoes x)) _ _ s
  refine wpAny_noted ?_
  rw [turnD_out]
  refine wpAny_bind (wpAny_standAt (wpAny_bind (wpAny_mono (turn n s hI) (fun r a1 k1 => ?_) fun _ _ q => q)))
  cases r with
  | none => exact wpAny_pure k1
  | some v =>
    refine wpAny_bind (wpAny_mono k1 (fun _ a2 k2 => ?_) fun _ _ q => q)
    refine wpAny_bind (wpAny_mono k2 (fun _ a3 k3 => wpAny_bind (wpAny_mono k3 (fun ok a4 k4 => ?_) fun _ _ q => q)) fun _ _ q => q)
    cases ok with
    | false => exact wpAny_pure ⟨rfl, k4⟩
    | true =>
      refine wpAny_bind (wpAny_mono k4 (fun x a5 k5 => ?_) fun _ _ q => q)
      refine wpAny_bind (wpAny_standAt (wpAny_bind (wpAny_of_eq (fs x) (wpAny_bind (wpAny_holding (wpAny_mono k5 (fun j a6 k6 => ?_) fun _ _ q => q))))))
      refine wpAny_bind (wpAny_runOwn ?_)
      rw [Around.mark_none]
      refine codeAny_mono k6 fun r s' hr => ?_
      cases r with
      | error e => exact hr.elim
      | ok f =>
        first
          | exact wpAny_pure ⟨rfl, hr⟩
          | exact wpAny_bind (wpAny_pure (wpAny_pure ⟨rfl, hr⟩))
theorem loopD_in (I : Nat → Shared → Prop)
    (turn : ∀ n s, I n s → wpAny (model pr wd) ar (pyNext it)
      (fun r a1 => match r with
      | none => R (.ok .next) a1
      | some v => wpAny (model pr wd) ar (letOwnedTupleGo t1 it v)
        (fun _ a2 => wpAny (model pr wd) ar (assign t1 env v)
          (fun _ a3 => wpAny (model pr wd) ar (testsOf c1 env)
            (fun ok a4 => if ok = true then wpAny (model pr wd) ar (eval kx env)
                (fun kv a5 => wpAny (model pr wd) ar (eval vx env)
                  (fun vv a6 => wpAny (model pr wd) ar (dictSet D kv vv)
                    (fun _ a7 => ∃ m, m < n ∧ I m a7) (raisesTo pr wd ar env R) a6) (raisesTo pr wd ar env R) a5) (raisesTo pr wd ar env R) a4
              else ∃ m, m < n ∧ I m a4) (raisesTo pr wd ar env R) a3) (raisesTo pr wd ar env R) a2) (raisesTo pr wd ar env R) a1) (raisesTo pr wd ar env R) s)
    (n : Nat) (h : I n s) : codeAny (model pr wd) ar (.compLoop (.DictComp kx vx [⟨t0, i0, c0, 0⟩, ⟨t1, i1, c1, 0⟩] scope pos) 1 it (.ref D) env) R s := by
  refine codeAny_loop rfl I (fun n s hI => ?_) n h
  show wpAny _ ar ((compTurn (.DictComp kx vx [⟨t0, i0, c0, 0⟩, ⟨t1, i1, c1, 0⟩] scope pos) 1 it (.ref D) env).onRaise (fun x => do noteFrame x env; theTreesLotGoes x)) _ _ s
  refine wpAny_noted ?_
  rw [turnD_in]
  refine wpAny_bind (wpAny_standAt (wpAny_bind (wpAny_mono (turn n s hI) (fun r a1 k1 => ?_) fun _ _ q => q)))
  cases r with
  | none => exact wpAny_pure k1
  | some v =>
    refine wpAny_bind (wpAny_mono k1 (fun _ a2 k2 => ?_) fun _ _ q => q)
    refine wpAny_bind (wpAny_mono k2 (fun _ a3 k3 => wpAny_bind (wpAny_mono k3 (fun ok a4 k4 => ?_) fun _ _ q => q)) fun _ _ q => q)
    cases ok with
    | false => exact wpAny_pure ⟨rfl, k4⟩
    | true =>
      refine wpAny_bind (wpAny_bind (wpAny_mono k4 (fun kv a5 k5 => wpAny_bind (wpAny_holding (wpAny_mono k5 (fun vv a6 k6 => ?_) fun _ _ q => q))) fun _ _ q => q))
      exact wpAny_bind (wpAny_standAt (wpAny_holding (wpAny_mono k6 (fun _ a7 k7 => wpAny_pure ⟨rfl, k7⟩) fun _ _ q => q)))
theorem startD1 (h0 : codeAny (model pr wd) ar (.compLoop (.DictComp kx vx [⟨t0, i0, c0, 0⟩, ⟨t1, i1, c1, 0⟩] scope pos) 1 it (.ref D) env) R s)
    (h : wpAny (model pr wd) ar (pyIter it) (fun j s' => codeAny (model pr wd) ar (.compLoop (.DictComp kx vx [⟨t0, i0, c0, 0⟩, ⟨t1, i1, c1, 0⟩] scope pos) 1 j (.ref D) env) R s') (notedBy (model pr wd) ar env fun x s' => R (.error x) s') s) :
    codeAny (model pr wd) ar (.compStart (.DictComp kx vx [⟨t0, i0, c0, 0⟩, ⟨t1, i1, c1, 0⟩] scope pos) 1 it (.ref D) env) R s := by
  refine codeAny_of_tree ?_
  show wpAny _ _ ((compStart (.DictComp kx vx [⟨t0, i0, c0, 0⟩, ⟨t1, i1, c1, 0⟩] scope pos) 1 it (.ref D) env).onRaise (fun x => do noteFrame x env; standAt theWindowsPlace)) _ _ s
  refine wpAny_notedAt ?_
  unfold compStart
  show wpAny _ _ (ask >>= _) _ _ s
  refine wpAny_bind (wpAny_askSetting (wpAny_ite ?_))
  split
  · first
      | exact wpAny_bind (wpAny_pure (wpAny_pure (And.intro rfl h0)))
      | exact wpAny_pure (And.intro rfl h0)
  · first
      | exact wpAny_bind (wpAny_rule (wpAny_bind (wpAny_standAt (wpAny_bind (wpAny_mono h (fun j s' q => wpAny_pure (And.intro rfl q)) fun _ _ x => x)))))
      | (refine wpAny_bind (wpAny_rule ?_); show wpAny _ _ (standAt i1.pos >>= _) _ _ s; exact wpAny_bind (wpAny_standAt (wpAny_bind (wpAny_mono h (fun j s' q => wpAny_pure (And.intro rfl q)) fun _ _ x => x))))
end
section
variable {X : Cx}
/-- what a rule asks within the block -/
abbrev InBlk (X : Cx) (scope : Scope) (F : Cx → Prop) : Prop := ∀ (s : Shared) (H : Hp) (C : Addr) (cl : List (Str × Addr)) (fp : List Addr), F (X.blk s H scope (compEnvC scope cl C X.env) fp)
theorem dc2_core {ps : List (Addr × Obj)} {s : Shared} {σ : L2.St} {H : Hp} {Q : VK} {kx vx tg0 src0 tg1 src1 : Expr} {c0 c1 : List Expr} {scope : Scope} {own : List (Str × Nat)} {vs1 : List Nat} {pos pos' : Pos} {wi wi1 : TI} {g g1 : TG} {tt tt1 : L2.TT} {tk tv : TE}
    {use : Option (Value → Sem Unit)} {Qf : Value → Shared → Prop}
    (hc : X.calm = true) (hu : X.A.units + 1 < cLine) (hN : X.N.Nodup) (I : Inv X ps σ H s) (hi : PI X tg0 src0 wi) (ok : BlkOk X.N X.env.scope scope own) (hv : ∀ i ∈ vs1, i ∈ own.map (·.2))
    (hg : InBlk X scope fun Y => PG Y tg0 g) (ht : InBlk X scope fun Y => PTs Y c0 tt) (hi1 : InBlk X scope fun Y => PI Y tg1 src1 wi1) (hg1 : InBlk X scope fun Y => PG Y tg1 g1) (ht1 : InBlk X scope fun Y => PTs Y c1 tt1)
    (hk : InBlk X scope fun Y => PE Y kx tk) (he : InBlk X scope fun Y => PE Y vx tv)
    (hs : ∀ x, foldedSetIterable src0 X.env x = pure x) (hs1 : ∀ env x, foldedSetIterable src1 env x = pure x)
    (h : tDc2 wi g tt wi1 g1 tt1 tk tv (own.map (·.2)) vs1 σ H Q)
    (hRR : ∀ D C s' m H', Inv X ps σ H' s' → Q (.ref D) H' → s'.heap.Ns C m → FpOk X ps H' C → compPost (model X.prog X.w) X.A X.xe use Qf (.ref D) C (.ok .next) s') :
    wpAny (model X.prog X.w) X.A (comprehension (.DictComp kx vx [⟨tg0, src0, c0, 0⟩, ⟨tg1, src1, c1, 0⟩] scope pos) scope X.env pos' newDict false (eval src0 X.env) use) Qf X.xe s := by
  have fr : ∀ y ∈ scope.names, y.2 = .free → ∃ c, X.env.cells.lookup y.1 = some c := fun y hy e => (ok.free y hy e).elim (fun k => I.ok.has _ (.inl k)) fun k => I.ok.has _ (.inr k)
  refine wpAny_comprehension_free (use := use) rfl hs (closure_ok fr) ok.kind (fun y hy e => by rw [ok.uniq y hy, e]) (thn (hi.run ps s σ H _ I h) fun xv z1 hx => thn hx fun itv z2 h2 => ?_)
  obtain ⟨it, fp, tn, J, H2, e, I2, T, st2, f2, q⟩ := h2
  subst e
  refine wpAny_newObj_type (newEnv_comp ?_)
  generalize hD : z2.heap.objs.size = D
  have hDn := I2.hok.fresh (Nat.le_of_eq hD)
  obtain ⟨W, ⟨m0, w0⟩, turn⟩ := q D hDn
  generalize hz3 : ({ z2 with heap := z2.heap.push { cls := .type "dict", data := .dict #[] } } : Shared) = z3
  have I3 : Inv X ps σ (upd H2 D (.dT [])) z3 := by
    rw [← hz3]
    refine I2.laid (t' := z2.toks) (fun b o e => Heap.get?_push_of_some _ e) (Nat.le_of_eq hD) ?_
    exact hD ▸ dt_empty z2.heap I2.big
  have e3 : z3.heap = z2.heap.push { cls := .type "dict", data := .dict #[] } := by rw [← hz3]
  have lo : ∀ b ∈ fp, b < z2.heap.objs.size := fun b hb => (T.obj _ _ st2 b hb).elim fun o z => Heap.lt_size z.1
  have f3 : ∀ b ∈ fp, FpOk X ps (upd H2 D (.dT [])) b ∧ b < z3.heap.objs.size := fun b hb => by
    have lb := lo b hb
    refine ⟨⟨?_, (f2 b hb).2⟩, ?_⟩
    · rw [upd_ne (hD ▸ Nat.ne_of_lt lb), (f2 b hb).1]
    · rw [e3, Heap.size_push]
      exact Nat.lt_succ_of_lt lb
  have st3 : tn 0 z3.heap := T.keep _ _ _ st2 fun b _ o e => e3 ▸ Heap.get?_push_of_some _ e
  have I4 := block_start I3 ok hN f3
  have pg := hg z3 (upd H2 D (.dT [])) z3.heap.objs.size (cellsFrom (z3.heap.objs.size + 1) scope.names (cloFrom X.env.cells scope.names [])) fp
  have pt := ht z3 (upd H2 D (.dT [])) z3.heap.objs.size (cellsFrom (z3.heap.objs.size + 1) scope.names (cloFrom X.env.cells scope.names [])) fp
  have pk := hk z3 (upd H2 D (.dT [])) z3.heap.objs.size (cellsFrom (z3.heap.objs.size + 1) scope.names (cloFrom X.env.cells scope.names [])) fp
  have pv := he z3 (upd H2 D (.dT [])) z3.heap.objs.size (cellsFrom (z3.heap.objs.size + 1) scope.names (cloFrom X.env.cells scope.names [])) fp
  have qi := hi1 z3 (upd H2 D (.dT [])) z3.heap.objs.size (cellsFrom (z3.heap.objs.size + 1) scope.names (cloFrom X.env.cells scope.names [])) fp
  have qg := hg1 z3 (upd H2 D (.dT [])) z3.heap.objs.size (cellsFrom (z3.heap.objs.size + 1) scope.names (cloFrom X.env.cells scope.names [])) fp
  have qt := ht1 z3 (upd H2 D (.dT [])) z3.heap.objs.size (cellsFrom (z3.heap.objs.size + 1) scope.names (cloFrom X.env.cells scope.names [])) fp
  show codeAny _ _ (.compStart (.DictComp kx vx [⟨tg0, src0, c0, 0⟩, ⟨tg1, src1, c1, 0⟩] scope pos) 0 (.ref it) (.ref D) (compEnvC scope (cellsFrom (z3.heap.objs.size + 1) scope.names (cloFrom X.env.cells scope.names [])) z3.heap.objs.size X.env)) (compPost (model X.prog X.w) X.A X.xe use Qf (.ref D) z3.heap.objs.size)
    { z3 with heap := pushCells (z3.heap.push { cls := .type "dict", data := .dict #[] }) scope.names }
  have nfp := fun b hb => (f3 b hb).1.1
  generalize hce : compEnvC scope (cellsFrom (z3.heap.objs.size + 1) scope.names (cloFrom X.env.cells scope.names [])) z3.heap.objs.size X.env = ce at I4 pg pt pk pv qi qg qt ⊢
  have cL : ce.locals = z3.heap.objs.size := by subst hce; rfl
  generalize hH3 : upd H2 D (.dT []) = H3 at I3 I4 pg pt pk pv qi qg qt w0 nfp f3
  generalize hz4 : ({ z3 with heap := pushCells (z3.heap.push { cls := .type "dict", data := .dict #[] }) scope.names } : Shared) = z4 at I4 ⊢
  have st4 : tn 0 z4.heap := T.keep _ _ _ st3 fun b _ o e => hz4 ▸ pushCells_keeps _ _ _ _ (Heap.get?_push_of_some _ e)
  have stat : ∀ {σ' : L2.St} {H' : Hp} {s' : Shared}, Inv (X.blk z3 H3 scope ce fp) [] σ' H' s' → (∀ b ∈ fp, H' b = none) → ∀ b ∈ fp, FpOk (X.blk z3 H3 scope ce fp) [] H' b := fun {σ' H' s'} I' hn b hb =>
    have z := I'.ok.exf b hb
    ⟨hn b hb, z.1, I'.ok.exfs b hb, .inl hb, fun x c e => z.2 x c e, fun p hp => absurd (show p ∈ ([] : List (Addr × Obj)) ++ [] from hp) (by simp)⟩
  have loop : codeAny (model X.prog X.w) X.A (.compLoop (.DictComp kx vx [⟨tg0, src0, c0, 0⟩, ⟨tg1, src1, c1, 0⟩] scope pos) 0 (.ref it) (.ref D) ce) (compPost (model X.prog X.w) X.A X.xe use Qf (.ref D) z3.heap.objs.size) z4 := by
    refine loopD_out (hs1 ce) (fun n s' => ∃ i H', Inv (X.blk z3 H3 scope ce fp) [] (wipe σ (own.map (·.2))) H' s' ∧ tn i s'.heap ∧ (∀ b ∈ fp, H' b = none) ∧ W i n H') ?_ m0 ⟨0, H3, I4, st4, nfp, w0⟩
    rintro n z5 ⟨i, H5, I5, st5, n5, w5⟩
    rcases turn i n H5 w5 with ⟨stop, qq⟩ | ⟨go, Nx, hNx, step⟩
    · refine thnF (T.done (X.blk z3 H3 scope ce fp) rfl rfl rfl hc i [] z5 _ H5 (fun _ _ => False) I5 (stat I5 n5) st5 stop) fun r z6 ⟨hr, I6⟩ => ?_
      subst hr
      have I7 : Inv X ps σ H5 z6 := I3.call' (ch := fp) I6.os I6.base I6.hok I6.bare fun b hb => have z := (f3 b hb).1.2; ⟨z.2.2.1, z.1, z.2.2.2.1, z.2.2.2.2⟩
      have nC : H5 ce.locals = none := I6.free
      obtain ⟨m, hn, _⟩ := I6.loc
      have hn : z6.heap.Ns ce.locals m := hn
      rw [cL] at hn nC
      exact hRR D _ z6 m H5 I7 qq hn (I3.fpOk (Nat.le_refl _) nC)
    · refine thnF (T.item (X.blk z3 H3 scope ce fp) rfl rfl rfl hc i [] z5 _ H5 (fun _ _ => False) I5 (stat I5 n5) st5 go) fun r z6 ⟨u, hr, h6⟩ => ?_
      subst hr
      refine thnF h6 fun _ z7 ⟨x, H7, I7, r7, y7, st7, n7⟩ => ?_
      refine thnF (pg.run _ z7 _ H7 x u _ (I7.pinned (stat I7 n7) (T.obj _ _ st7)) r7 (step x H7 y7)) fun _ z8 ⟨σ8, H8, I8, hw8, q8⟩ => ?_
      refine thnF (pt.run _ z8 σ8 H8 _ I8 q8) fun b z9 ⟨H9, I9, q9⟩ => ?_
      have fin : ∀ {σ9 : L2.St} {s' : Shared} {H' : Hp}, Inv (X.blk z3 H3 scope ce fp) ([] ++ pinsAt fp z7.heap) σ9 H' s' → (wipe σ (own.map (·.2))).length = σ9.length → (∀ (j : Nat) v, (wipe σ (own.map (·.2)))[j]? = some (some v) → σ9[j]? = some (some v)) → Nx H' →
          ∃ m, m < n ∧ ∃ i H', Inv (X.blk z3 H3 scope ce fp) [] (wipe σ (own.map (·.2))) H' s' ∧ tn i s'.heap ∧ (∀ b ∈ fp, H' b = none) ∧ W i m H' := fun {σ9 s' H'} I' l9 k9 nx => by
        obtain ⟨m', hm, w'⟩ := hNx H' nx
        have pin : ∀ b ∈ fp, ∀ o, z7.heap.get? b = some o → s'.heap.get? b = some o ∧ H' b = none := fun b hb o e => have z := I'.pin (b, o) (List.mem_append_right _ (List.mem_append_right _ (mem_pinsAt hb e))); ⟨z.1, z.2.1⟩
        exact ⟨m', hm, i + 1, H', (I'.unpinned (pins := [])).weak l9 k9, T.keep _ _ _ st7 fun b hb o e => (pin b hb o e).1, fun b hb => (T.obj _ _ st7 b hb).elim fun o z => (pin b hb o z.1).2, w'⟩
      have l8 : (wipe σ (own.map (·.2))).length = σ8.length := by rw [← hw8, wipe_length]
      have k8 : ∀ (j : Nat) v, (wipe σ (own.map (·.2)))[j]? = some (some v) → σ8[j]? = some (some v) := fun j v e => (wipe_some (show (wipe σ8 (own.map (·.2)))[j]? = _ by rw [hw8]; exact e)).1
      have k9 : ∀ (j : Nat) v, (wipe σ (own.map (·.2)))[j]? = some (some v) → (wipe σ8 vs1)[j]? = some (some v) := fun j v e => by
        obtain ⟨g1, g2⟩ := wipe_some (show (wipe σ8 (own.map (·.2)))[j]? = _ by rw [hw8]; exact e)
        rw [wipe_out fun z => g2 (hv j z), g1]
      cases b with
      | false =>
        simp only [Bool.false_eq_true, if_false] at q9 ⊢
        exact fin I9 l8 k8 q9
      | true =>
        simp only [if_true] at q9 ⊢
        refine thnF (qi.run _ z9 σ8 H9 _ I9 q9) fun xv z10 hx => thnF hx fun itv z11 h11 => ?_
        obtain ⟨it1, fp1, tn1, J1, Ha, ea, Ia, T1, sta, fa, W1, ⟨m1, w1⟩, turn1⟩ := h11
        subst ea
        have stat1 : ∀ {H' : Hp}, (∀ b ∈ fp1, H' b = none) → ∀ b ∈ fp1, FpOk (X.blk z3 H3 scope ce fp) ([] ++ pinsAt fp z7.heap) H' b := fun hn b hb => ⟨hn b hb, (fa b hb).2⟩
        have loop1 : codeAny (model X.prog X.w) X.A (.compLoop (.DictComp kx vx [⟨tg0, src0, c0, 0⟩, ⟨tg1, src1, c1, 0⟩] scope pos) 1 (.ref it1) (.ref D) ce)
            (fun r s' => match r with
              | .ok _ => ∃ m, m < n ∧ ∃ i H', Inv (X.blk z3 H3 scope ce fp) [] (wipe σ (own.map (·.2))) H' s' ∧ tn i s'.heap ∧ (∀ b ∈ fp, H' b = none) ∧ W i m H'
              | .error _ => False) z11 := by
          refine loopD_in (fun k s' => ∃ j H', Inv (X.blk z3 H3 scope ce fp) ([] ++ pinsAt fp z7.heap) (wipe σ8 vs1) H' s' ∧ tn1 j s'.heap ∧ (∀ b ∈ fp1, H' b = none) ∧ W1 j k H') ?_ m1
            ⟨0, Ha, Ia.weak (wipe_length _ _) (fun j v e => (wipe_some e).1), sta, fun b hb => (fa b hb).1, w1⟩
          rintro k z12 ⟨j, Hb, Ib, stb, nb, wb⟩
          rcases turn1 j k Hb wb with ⟨stop1, nx1⟩ | ⟨go1, Nx1, hNx1, step1⟩
          · refine thnF (T1.done (X.blk z3 H3 scope ce fp) rfl rfl rfl hc j _ z12 (wipe σ8 vs1) Hb (fun _ _ => False) Ib (stat1 nb) stb stop1) fun r z13 ⟨hr, Ic⟩ => ?_
            subst hr
            exact fin Ic (l8.trans (wipe_length σ8 vs1).symm) k9 nx1
          · refine thnF (T1.item (X.blk z3 H3 scope ce fp) rfl rfl rfl hc j _ z12 (wipe σ8 vs1) Hb (fun _ _ => False) Ib (stat1 nb) stb go1) fun r z13 ⟨u1, hr, h13⟩ => ?_
            subst hr
            refine thnF h13 fun _ z14 ⟨x1, Hd, Id, rd, yd, std, nd⟩ => ?_
            refine thnF (qg.run _ z14 (wipe σ8 vs1) Hd x1 u1 _ (Id.pinned (stat1 nd) (T1.obj _ _ std)) rd (step1 x1 Hd yd)) fun _ z15 ⟨σe, He, Ie, hwe, qe⟩ => ?_
            refine thnF (qt.run _ z15 σe He _ Ie qe) fun b1 z16 ⟨Hf, If, qf⟩ => ?_
            have fin1 : ∀ {s' : Shared} {H' : Hp}, Inv (X.blk z3 H3 scope ce fp) (([] ++ pinsAt fp z7.heap) ++ pinsAt fp1 z14.heap) σe H' s' → Nx1 H' →
                ∃ m, m < k ∧ ∃ j H', Inv (X.blk z3 H3 scope ce fp) ([] ++ pinsAt fp z7.heap) (wipe σ8 vs1) H' s' ∧ tn1 j s'.heap ∧ (∀ b ∈ fp1, H' b = none) ∧ W1 j m H' := fun {s' H'} I' nx => by
              obtain ⟨m', hm, w'⟩ := hNx1 H' nx
              have pin : ∀ b ∈ fp1, ∀ o, z14.heap.get? b = some o → s'.heap.get? b = some o ∧ H' b = none := fun b hb o e => have z := I'.pin (b, o) (List.mem_append_right _ (List.mem_append_right _ (mem_pinsAt hb e))); ⟨z.1, z.2.1⟩
              exact ⟨m', hm, j + 1, H', I'.unpinned.weak (by rw [← hwe, wipe_length]) (fun j v e => (wipe_some (show (wipe σe vs1)[j]? = _ by rw [hwe]; exact e)).1), T1.keep _ _ _ std fun b hb o e => (pin b hb o e).1, fun b hb => (T1.obj _ _ std b hb).elim fun o z => (pin b hb o z.1).2, w'⟩
            cases b1 with
            | false =>
              simp only [Bool.false_eq_true, if_false] at qf ⊢
              exact fin1 If qf
            | true =>
              simp only [if_true] at qf ⊢
              refine thnF (pk.run _ z16 σe Hf _ If qf) fun ku z17 ⟨yk, Hg, Ig, rg, qg'⟩ => ?_
              refine thnF (pv.run _ z17 σe Hg _ Ig qg') fun vu z18 ⟨yv, Hh, Ih, rh, Hj, put, nx⟩ => ?_
              exact dictSetA (cx := X.blk z3 H3 scope ce fp) hu Ih put rg rh fun z19 I19 => fin1 I19 nx
        exact startD1 loop1 (T1.self X.A 0 _ _ _ sta loop1)
  exact codeAny_compStart_dict loop (T.self X.A 0 _ _ _ st4 loop)
/-- as a value -/
theorem pe_dc2 {kx vx tg0 src0 tg1 src1 : Expr} {c0 c1 : List Expr} {scope : Scope} {own : List (Str × Nat)} {vs1 : List Nat} {pos : Pos} {wi wi1 : TI} {g g1 : TG} {tt tt1 : L2.TT} {tk tv : TE}
    (hc : X.calm = true) (hN : X.N.Nodup) (hu : X.A.units + 1 < cLine) (hi : PI X tg0 src0 wi) (ok : BlkOk X.N X.env.scope scope own) (hv : ∀ i ∈ vs1, i ∈ own.map (·.2))
    (hg : InBlk X scope fun Y => PG Y tg0 g) (ht : InBlk X scope fun Y => PTs Y c0 tt) (hi1 : InBlk X scope fun Y => PI Y tg1 src1 wi1) (hg1 : InBlk X scope fun Y => PG Y tg1 g1) (ht1 : InBlk X scope fun Y => PTs Y c1 tt1)
    (hk : InBlk X scope fun Y => PE Y kx tk) (he : InBlk X scope fun Y => PE Y vx tv)
    (hs : ∀ x, foldedSetIterable src0 X.env x = pure x := by intro _; rfl) (hs1 : ∀ env x, foldedSetIterable src1 env x = pure x := by intro _ _; rfl) :
    PE X (.DictComp kx vx [⟨tg0, src0, c0, 0⟩, ⟨tg1, src1, c1, 0⟩] scope pos) (tDc2 wi g tt wi1 g1 tt1 tk tv (own.map (·.2)) vs1) := by
  refine ⟨fun ps s σ H Q I h => ?_⟩
  rw [arm_eval_DictComp]
  refine dc2_core hc hu hN I hi ok hv hg ht hi1 hg1 ht1 hk he hs hs1 h fun D C s' m H' I' q hn f => ⟨m, hn, fun h2 sb => ?_⟩
  obtain ⟨f0, f1, f2, f3, f4, f5⟩ := f
  exact ⟨.ref D, H', I'.turned (t' := s'.toks) (fun b o hb e => (sb.2 b hb).trans e) f0 f1 f3 f4 f5, rfl, q⟩
end
/-! ### y = {..} by a comprehension, y a local -/
section
variable {X : Cx}
theorem sw_trueD {kx vx : Expr} {gs : List Comprehension} {scope : Scope} {pos py : Pos} {y : Str} {l : Nat} {env : Env} (fn : env.scope.kind = .function) (loc : env.scope.names.lookup y = some .local) (ln : (py.line == pos.line) = true)
    (no : (scope.names.any fun (n, k) => n == y && (k == .local || k == .cell)) = false) : swapsWith (.DictComp kx vx gs scope pos) (some (.Name y py)) l env = pure true := by
  have e1 : env.kindOf y = some .local := loc
  have e2 : env.blockKind = .function := by unfold Env.blockKind; rw [fn]; rfl
  unfold swapsWith
  simp only [e2, e1, no, Expr.pos, ln]
  rfl
/-- the store behind the block -/
theorem store_comp {ps : List (Addr × Obj)} {σ : L2.St} {H' : Hp} {s' : Shared} {i : Nat} {y : Str} {py : Pos} {L C : Addr} {m : Str → Option Value} {D : Ends} (hN : X.N.Nodup) (hy : X.N[i]? = some y) (hyl : X.env.scope.names.lookup y = some .local)
    (I' : Inv X ps σ H' s') (q : gName i (.ref L) σ H' D.nx) (hn : s'.heap.Ns C m) (f : FpOk X ps H' C) :
    compPost (model X.prog X.w) X.A X.xe (some (assign (.Name y py) X.env)) (fun _ s2 => SP X ps D .next s2) (.ref L) C (.ok .next) s' := by
  show wpAny _ _ (assign (.Name y py) X.env (.ref L)) _ _ _
  refine wpAny_assign_Name (store_ok2 (v := V.ref L) I' hN hy (.inl hyl) rfl (fun s2 I2 ⟨a, sb, ha⟩ => ?_) (.inr hyl))
  obtain ⟨g0, g1, g2, g3, g4, g5⟩ := f
  have ne : C ≠ a := ha.elim (fun z => z ▸ g1) fun z e => g4 y a z e.symm
  exact ⟨m, hn.sameBut sb ne, fun h3 sb3 => ⟨_, H', I2.turned (t' := s2.toks) (fun b o hb e => (sb3.2 b hb).trans e) g0 g1 g3 g4 g5, q⟩⟩
theorem ps_setDc {i : Nat} {y : Str} {py : Pos} {kx vx tg iter : Expr} {ifs : List Expr} {scope : Scope} {own : List (Str × Nat)} {pos spos : Pos} {wi : TI} {g : TG} {tt : L2.TT} {tk tv : TE} (hc : X.calm = true) (hN : X.N.Nodup) (hy : X.N[i]? = some y)
    (hyl : X.env.scope.names.lookup y = some .local) (hsw : swapsWith (.DictComp kx vx [⟨tg, iter, ifs, 0⟩] scope pos) (some (.Name y py)) spos.line X.env = pure true) (hi : PI X tg iter wi) (ok : BlkOk X.N X.env.scope scope own)
    (hg : InBlk X scope fun Y => PG Y tg g) (ht : InBlk X scope fun Y => PTs Y ifs tt) (hk : InBlk X scope fun Y => PE Y kx tk) (he : InBlk X scope fun Y => PE Y vx tv) (hs : ∀ x, foldedSetIterable iter X.env x = pure x := by intro _; rfl) :
    PS X (.Assign [.Name y py] (.DictComp kx vx [⟨tg, iter, ifs, 0⟩] scope pos) spos) (tAsg (tDc wi g tt tk tv (own.map (·.2))) (gName i)) := by
  refine ⟨fun ps s σ H D I h => ?_⟩
  rw [exec_Assign_Name_used _ _ _ _ hsw]
  refine wpAny_bind (wpAny_standAt (wpAny_bind ?_))
  show wpAny _ X.A (do let _ ← comprehension (.DictComp kx vx [⟨tg, iter, ifs, 0⟩] scope pos) scope X.env (firstIterPos [⟨tg, iter, ifs, 0⟩] pos) newDict false (eval iter X.env) (some (assign (.Name y py) X.env))) _ _ s
  have h : tDc wi g tt tk tv (own.map (·.2)) σ H (fun x H1 => gName i x σ H1 D.nx) := h
  exact wpAny_bind (thn (dc_core (Qf := fun _ s2 => SP X ps D .next s2) hc hN I hi ok hg ht hk he hs h fun L C s' m H' I' q hn f => store_comp hN hy hyl I' q hn f) fun _ s' hq => wpAny_pure (wpAny_pure hq))
theorem ps_setDc2 {i : Nat} {y : Str} {py : Pos} {kx vx tg0 src0 tg1 src1 : Expr} {c0 c1 : List Expr} {scope : Scope} {own : List (Str × Nat)} {vs1 : List Nat} {pos spos : Pos} {wi wi1 : TI} {g g1 : TG} {tt tt1 : L2.TT} {tk tv : TE}
    (hc : X.calm = true) (hN : X.N.Nodup) (hy : X.N[i]? = some y) (hyl : X.env.scope.names.lookup y = some .local) (hsw : swapsWith (.DictComp kx vx [⟨tg0, src0, c0, 0⟩, ⟨tg1, src1, c1, 0⟩] scope pos) (some (.Name y py)) spos.line X.env = pure true)
    (hu : X.A.units + 1 < cLine) (hi : PI X tg0 src0 wi) (ok : BlkOk X.N X.env.scope scope own) (hv : ∀ i ∈ vs1, i ∈ own.map (·.2))
    (hg : InBlk X scope fun Y => PG Y tg0 g) (ht : InBlk X scope fun Y => PTs Y c0 tt) (hi1 : InBlk X scope fun Y => PI Y tg1 src1 wi1) (hg1 : InBlk X scope fun Y => PG Y tg1 g1) (ht1 : InBlk X scope fun Y => PTs Y c1 tt1)
    (hk : InBlk X scope fun Y => PE Y kx tk) (he : InBlk X scope fun Y => PE Y vx tv)
    (hs : ∀ x, foldedSetIterable src0 X.env x = pure x := by intro _; rfl) (hs1 : ∀ env x, foldedSetIterable src1 env x = pure x := by intro _ _; rfl) :
    PS X (.Assign [.Name y py] (.DictComp kx vx [⟨tg0, src0, c0, 0⟩, ⟨tg1, src1, c1, 0⟩] scope pos) spos) (tAsg (tDc2 wi g tt wi1 g1 tt1 tk tv (own.map (·.2)) vs1) (gName i)) := by
  refine ⟨fun ps s σ H D I h => ?_⟩
  rw [exec_Assign_Name_used _ _ _ _ hsw]
  refine wpAny_bind (wpAny_standAt (wpAny_bind ?_))
  show wpAny _ X.A (do let _ ← comprehension (.DictComp kx vx [⟨tg0, src0, c0, 0⟩, ⟨tg1, src1, c1, 0⟩] scope pos) scope X.env (firstIterPos [⟨tg0, src0, c0, 0⟩, ⟨tg1, src1, c1, 0⟩] pos) newDict false (eval src0 X.env) (some (assign (.Name y py) X.env))) _ _ s
  have h : tDc2 wi g tt wi1 g1 tt1 tk tv (own.map (·.2)) vs1 σ H (fun x H1 => gName i x σ H1 D.nx) := h
  exact wpAny_bind (thn (dc2_core (Qf := fun _ s2 => SP X ps D .next s2) hc hu hN I hi ok hv hg ht hi1 hg1 ht1 hk he hs hs1 h fun L C s' m H' I' q hn f => store_comp hN hy hyl I' q hn f) fun _ s' hq => wpAny_pure (wpAny_pure hq))
end
/-! ### for k, v in d.items(), keys that are tuples -/
section
variable {X : Cx} {ps : List (Addr × Obj)} {σ : L2.St} {H : Hp} {s : Shared} {d : Addr} {o : Obj}
theorem lockedT {kvs : List (List Key × V)} (I : Inv X ps σ H s) (h : H d = some (.frz o (.dT kvs))) : (d == sysModules) = false ∧ s.heap.get? d = some o ∧ o.ExactDict ∧
    ∃ (es : Array DictEntry) (ep : Nat), o.data = .dict es ep ∧ es.size = kvs.length ∧ ∀ (i : Nat) (k : List Key) (v : V), kvs[i]? = some (k, v) → ∃ (en : DictEntry) (q : Addr), es[i]? = some en ∧ en.key = .ref q ∧ H q = some (.tup (k.map kV)) ∧ RelV v en.val := by
  obtain ⟨g0, _, g1, xs, pr, o2, es, ep, g2, g3, g4, g5, _⟩ := I.hok d _ h
  cases g0.symm.trans g2
  refine ⟨g1, g0, g3, es, ep, g4, (size_of_entries g5).trans (Paired.length pr).symm, fun i k v e => ?_⟩
  obtain ⟨b, hb, e1, e2, e3⟩ := paired_get pr e
  have q := entry_at g5 i
  rw [hb] at q
  exact ⟨_, b.2.1, q, rfl, e2, e3⟩
end
/-- the pairs, each a new tuple of the key's own tuple and the value -/
def IttI (d : Addr) (o : Obj) (kvs : List (List Key × V)) : It :=
  ⟨fun i G => G d = some (.frz o (.dT kvs)) ∧ i < kvs.length,
   fun i G x G' => ∃ T k v q, kvs[i]? = some (k, v) ∧ G q = some (.tup (k.map kV)) ∧ x = .ref T ∧ G T = none ∧ G' = upd G T (.tup [.ref q, v]),
   fun i G => G d = some (.frz o (.dT kvs)) ∧ kvs.length ≤ i⟩
theorem walk_itemsT {d : Addr} {o : Obj} {kvs : List (List Key × V)} : Walk (IttI d o kvs) kvs.length (fun G => G d = some (.frz o (.dT kvs)))
    (fun i G x G' => ∃ T k v q, kvs[i]? = some (k, v) ∧ G q = some (.tup (k.map kV)) ∧ x = .ref T ∧ G T = none ∧ G' = upd G T (.tup [.ref q, v])) :=
  ⟨fun _ _ l q => ⟨q, l⟩, fun _ q => ⟨q, Nat.le_refl _⟩, fun _ _ _ _ _ _ y => y⟩
section
variable {P : Program} {w : World} {K : PySem.W.Frag} {d : Addr} {o : Obj} {es : Array DictEntry} {ep : Nat}
theorem turn_itemsT {kvs : List (List Key × V)} {elts : List Expr} {kk : Nat} {tp : Pos} (it : Addr) (hod : o.data = .dict es ep) :
    Turn P w K (.Tuple elts kk tp) (IttI d o kvs) [it] it (fun i h => ∃ ok ov, IsItemIter h it d i es.size ep ok ov) where
  mem := by simp
  obj := fun i h st b hb => by
    obtain rfl : b = it := by simpa using hb
    obtain ⟨u1, u2, e⟩ := st
    exact ⟨_, e, fun v z => nomatch z⟩
  keep := fun i h h2 st k => st.elim fun u1 z => z.elim fun u2 e => ⟨u1, u2, k it (by simp) _ e⟩
  self := fun A i s Q E st h => st.elim fun _ z => z.elim fun _ e => PySem.W.kcp_self e h
  done := by
    intro X eP ew eK hc i ps s σ G E I hf st hg
    subst eP ew eK
    obtain ⟨hd, le⟩ := hg
    obtain ⟨f0, f1, f2, f3, f4, f5⟩ := hf it (by simp)
    obtain ⟨hs, hgd, hx, es2, ep2, hdt, hsz, ent⟩ := lockedT I hd
    obtain ⟨rfl, rfl⟩ := dict_ep hod hdt
    obtain ⟨u1, u2, e⟩ := st
    exact DT.endI (I.ok.hd hc) e ⟨o, hgd, hx, hdt⟩ (hsz ▸ le) fun h2 eb => ⟨rfl, I.turned (t' := s.toks) (fun b ob hb z => eb b ob hb z) f0 f1 f3 f4 f5⟩
  item := by
    intro X eP ew eK hc i ps s σ G E I hf st hg
    subst eP ew eK
    obtain ⟨hd, lt⟩ := hg
    obtain ⟨hs, hgd, hx, es2, ep2, hdt, hsz, ent⟩ := lockedT I hd
    obtain ⟨rfl, rfl⟩ := dict_ep hod hdt
    obtain ⟨⟨k, v⟩, hkv⟩ : ∃ p, kvs[i]? = some p := ⟨kvs[i], List.getElem?_eq_getElem lt⟩
    obtain ⟨en, q, hen, hkey, hq, hval⟩ := ent i k v hkv
    obtain ⟨u1, u2, e⟩ := st
    have li : i < es2.size := hsz ▸ lt
    have een : es2[i] = en := by
      rw [Array.getElem?_eq_getElem li] at hen
      exact Option.some.inj hen
    have lit : it < s.heap.objs.size := Heap.lt_size e
    refine DT.nextI e ⟨o, hgd, hx, hdt⟩ li fun h2 ho hT hz hk => ?_
    rw [een] at ho hT
    refine ⟨_, rfl, wpAny_letOwnedTupleGo_items (s := { s with heap := h2 }) ho fun h3 st3 sb => ?_⟩
    have hT2 := (sb.2 s.heap.objs.size (Nat.ne_of_gt lit)).trans hT
    have new : ObjOk X.prog X.w (upd G s.heap.objs.size (.tup [.ref q, v])) h3 s.heap.objs.size (.tup [.ref q, v]) := ⟨by show 2 ≤ sizeLine; decide, [en.key, en.val], .cons hkey (.cons hval .nil), ⟨_, hT2, rfl, _, rfl⟩⟩
    have I1 : Inv X ps σ (upd G s.heap.objs.size (.tup [.ref q, v])) { s with heap := h3 } :=
      I.turnedNew (t' := s.toks) (ch := [it]) (fun b ob hb z => (sb.2 b (by simpa using hb)).trans (hk b ob (by simpa using hb) z)) hf (Nat.le_refl _) new
    refine ⟨.ref s.heap.objs.size, _, I1, rfl, ⟨_, k, v, q, hkv, hq, rfl, I.hok.fresh (Nat.le_refl _), rfl⟩, ⟨_, _, st3⟩, fun b hb => ?_⟩
    obtain rfl : b = it := by simpa using hb
    rw [upd_ne (Nat.ne_of_lt lit)]
    exact (hf b hb).1
end
/-- the dict is locked -/
def iItemsT (td : TE) : TI := fun σ H R => td σ H fun x H1 => ∃ d o kvs, x = .ref d ∧ H1 d = some (.frz o (.dT kvs)) ∧ R (IttI d o kvs) H1
theorem pi_itemsT {X : Cx} {e : Expr} {td : TE} {ap cp : Pos} {elts : List Expr} {kk : Nat} {tp : Pos} (he : PE X e td) (base : attributeBase e "items" X.env (eval e X.env) = eval e X.env := by rfl) (line : (ap.endLine == cp.line) = true := by rfl) :
    PI X (.Tuple elts kk tp) (.Call (.Attribute e "items" ap) [] [] cp) (iItemsT td) := by
  refine ⟨fun ps s σ H R I h => ?_⟩
  refine wpAny_Call_method (T := "dict") (id := "dict.items") base rfl line F.plainAttrs_dict F.slot_dict_items F.type_dict_items (thn (he.run ps s σ H _ I h) fun u z ⟨x, G, J, rx, d, o, kvs, ex, hd, q⟩ => ?_)
  subst ex
  cases (show u = Value.ref d from rx)
  obtain ⟨hs, hgd, hx, es, ep, hdt, hsz, ent⟩ := lockedT J hd
  have raw : DT.Raw z.heap d es ep := ⟨o, hgd, hx, hdt⟩
  refine ⟨raw.typeIs, ?_, ?_⟩
  · intro b hb
    cases hb
    exact ⟨_, hgd, hx.2.1⟩
  have K2 : Inv X ps σ G { z with heap := z.heap.push { cls := .type "dict_items", data := .fields #[.ref d] } } := J.kept (t' := z.toks) fun b ob q => Heap.get?_push_of_some _ q
  have fin : wpAny (model X.prog X.w) X.A (pyIter (.ref z.heap.objs.size)) (PIE X ps σ (.Tuple elts kk tp) R) X.xe { z with heap := z.heap.push { cls := .type "dict_items", data := .fields #[.ref d] } } :=
    DT.iterI (d := d) ⟨_, Heap.get?_push_size _ rfl, rfl, rfl⟩ (raw.push _) (pi_one (tk := z.toks) K2 _ (turn_itemsT _ hdt) ⟨.none, .none, Heap.get?_push_size _ rfl⟩ q)
  show wpAny _ _ (callWith cp (.builtin "dict.items") [.ref d] [] []) _ X.xe z
  exact method_meetsIn F.slot_dict_items F.entry_dict_items rfl (PySem.evalArgs_none ⟨rfl, raw.typeIs, F.args_dict_items_1 _, _, DT.meetsItems (es := es) (ep := ep) hs, raw, fin⟩)
/-! ### walks for dict comprehensions -/
section
variable {J : It} {n : Nat} {G : Hp → Prop} {Y : Nat → Hp → V → Hp → Prop}
/-- what one loop of a dict comprehension asks -/
def DcW (J : It) (g : TG) (tt : L2.TT) (vs : List Nat) (σ : L2.St) (Qd : Hp → Prop) (El : L2.St → Hp → (Hp → Prop) → Prop) (G0 : Hp) : Prop := ∃ W : Nat → Nat → Hp → Prop, (∃ m, W 0 m G0) ∧ ∀ i m H, W i m H →
  (J.stop i H ∧ Qd H) ∨ (J.go i H ∧ ∃ Nx : Hp → Prop, (∀ H', Nx H' → ∃ m', m' < m ∧ W (i + 1) m' H') ∧ ∀ x H', J.yld i H x H' → g x (wipe σ vs) H' fun σ2 H2 => wipe σ2 vs = wipe σ vs ∧ tt σ2 H2 fun b H3 => if b = true then El σ2 H3 Nx else Nx H3)
theorem dcw_it (w : Walk J n G Y) {g : TG} {tt : L2.TT} {vs : List Nat} {σ : L2.St} {Qd : Hp → Prop} {El : L2.St → Hp → (Hp → Prop) → Prop} {G0 : Hp} (Pv : Nat → Hp → Prop) (h0 : Pv 0 G0) (hG : ∀ i H, i ≤ n → Pv i H → G H)
    (hs : ∀ i x H H', i < n → Pv i H → Y i H x H' → g x (wipe σ vs) H' fun σ2 H2 => wipe σ2 vs = wipe σ vs ∧ tt σ2 H2 fun b H3 => if b = true then El σ2 H3 (Pv (i + 1)) else Pv (i + 1) H3) (hd : ∀ H, Pv n H → Qd H) : DcW J g tt vs σ Qd El G0 := by
  refine ⟨fun i m H => m = n - i ∧ i ≤ n ∧ Pv i H, ⟨n, by simp, Nat.zero_le _, h0⟩, ?_⟩
  rintro i m H ⟨rfl, hi, p⟩
  have q := hG i H hi p
  rcases Nat.lt_or_eq_of_le hi with hlt | rfl
  · exact .inr ⟨w.goes i H hlt q, Pv (i + 1), fun H' p' => ⟨n - (i + 1), by omega, rfl, hlt, p'⟩, fun x H' y => hs i x H H' hlt p (w.yields i H x H' hlt q y)⟩
  · exact .inl ⟨w.stops H q, hd H p⟩
end
end Bw

set_option maxHeartbeats 4000000
namespace Bw
open PySem PySem.Spec PyProof.Rows L2
open L2H (RoomH PinOk cxH inv_startH)
/-! ### a def that is handed the caught error, called within the suite -/
abbrev SpJ := Addr → Value → Option Addr → Hp → VK → Prop
structure FnJ (P : Program) (w : World) (K : PySem.W.Frag) (mg : Str → Option Value) (base : Heap) (k : Nat) (f : Addr) (fd : FuncData) (x : Str) (sp : SpJ) : Prop where
  run : ∀ (A : Around) (outer : List Env) (s : Shared) (H : Hp) (args : Args) (a : Addr) (oe : Obj) (cls : Value) (d : Option Addr) (Q : VK), RoomH k A → Zc cls d oe → (∃ vs, oe.data = .fields vs) → PinOk outer H s (a, oe) →
    Env0 P w K mg base A outer s H → BindsTo s fd args ([x].zip [Value.ref a]) → sp a cls d H Q → codeAny (model P w) A (.call (.ref f) args) (CR CX0 outer P w H s Q E0) s
/-- by its body -/
theorem fnJ_of {P : Program} {w : World} {K : PySem.W.Frag} {mg : Str → Option Value} {base : Heap} {x q p : Str} {st : Stmt} {f : Addr} {fd : FuncData} {N : List Str} {k : Nat} {sp : SpJ} (F : Fun K x q st f fd) (S : FnScope N [p] (defScope st))
    (hbody : ∀ (cdv : Value) (A : Around) (outer : List Env) (s : Shared) (H : Hp) (a : Addr) (oe : Obj) (cls : Value) (d : Option Addr) (Q : VK), Zc cls d oe → (∃ vs, oe.data = .fields vs) → RoomH k (A.deeper (envOfC q (defScope st) s.heap.objs.size f cdv)) → sp a cls d H Q →
      ∃ t, PSs (cxH CX0 P w K mg base N q (defScope st) f cdv A outer s H E0 (a, oe)) (defBody st) t ∧ t { nx := fun _ H' => Q .non H', rt := Q } (start N [.ref a]) H) : FnJ P w K mg base (k + 1) f fd p sp := by
  obtain ⟨oc, od, kV, doc, pm, an, cdv, ct, osl, rfl, lk, hcd⟩ := F.ex
  refine ⟨fun A outer s H args a oe cls d Q hr hz hf hpin e0 hb hsp => ?_⟩
  have kin : K.In s.heap := e0.mod.kin.keeps fun b o e => (e0.bs b o e).1
  have nolim := e0.mod.nolimit.keeps fun b o e => (e0.bs b o e).1
  have kinds : ∀ y ∈ [p].zip [Value.ref a], (defScope st).names.lookup y.1 = some .local ∨ ((defScope st).names.lookup y.1 = some .cell ∧ ((cellsFrom (s.heap.objs.size + 1) (defScope st).names []).lookup y.1).isSome = true) := fun ⟨n, v⟩ hy =>
    (S.par n (List.of_mem_zip hy).1).elim .inl fun z => .inr ⟨z, PySem.W.cellsFrom_some _ _ _ (.inl z)⟩
  refine codeAny_call_function hr.depth (kin _ _ lk) rfl S.co S.gen rfl (PySem.W.codeRec_of kin hcd) (hb _ _ _ _ ?_)
  refine wpAny_newFunctionEnv_cells S.kind kinds fun env he s1 z => ?_
  subst he
  refine ⟨nolim.keeps z.toInCall.keep, codeAny_func ?_⟩
  obtain ⟨t, ht, hq⟩ := hbody cdv A outer s H a oe cls d Q hz hf (hr.deeper _) hsp
  have J := inv_startH (CX := CX0) (w := w) (qual := q) (f := f) (cd := cdv) (E := E0) (vs := [V.ref a]) S hpin e0 rfl (.cons rfl .nil) z
  refine wpAny_mono (ht.run [] s1 _ H _ J hq) ?_ fun e s' hs => hs
  rintro (_ | _ | _ | u) s2 hs
  · obtain ⟨sl, G, I2, r⟩ := hs
    exact ⟨.non, G, I2.os, I2.bare, I2.base, I2.hok, rfl, r⟩
  · exact hs.elim fun _ h => h.elim fun _ h => h.2.elim
  · exact hs.elim fun _ h => h.elim fun _ h => h.2.elim
  · obtain ⟨v, sl, G, I2, rv, r⟩ := hs
    exact ⟨v, G, I2.os, I2.bare, I2.base, I2.hok, rv, r⟩
structure CalJ (P : Program) (w : World) (K : PySem.W.Frag) (mg : Str → Option Value) (base : Heap) (k : Nat) (x : Str) (p : Str) (st : Stmt) (sp : SpJ) : Prop where
  ex : ∃ (f : Addr) (fd : FuncData), FnJ P w K mg base k f fd p sp ∧ Fun K x x st f fd ∧ mg x = some (.ref f) ∧ Binds K fd [p] []
theorem roomJ {k : Nat} {A : Around} {v : Option Value} (r : Room k A) : RoomH k (A.mark v) := ⟨r.dp, r.un⟩
/-- what the call asks -/
def tCalJ (sp : SpJ) (a : Addr) (cls : Value) (d : Option Addr) (te : TE) : TE := fun σ H Q => te σ H fun v H1 => [v] = [V.ref a] ∧ sp a cls d H1 Q
section
variable {X : Cx} {k : Nat} {x p : Str} {st : Stmt} {sp : SpJ} {a : Addr} {oe : Obj} {cls : Value} {d : Option Addr} {pn : List (Addr × Obj)} {e : Expr} {te : TE} {q pos : Pos}
theorem pe_calJ (c : CalJ X.prog X.w X.K X.mg X.base k x p st sp) (hr : Room k X.A) (hz : Zc cls d oe) (hf : ∃ vs, oe.data = .fields vs) (he : PE (X.suite a ((a, oe) :: pn)) e te) (hg : Gl X x := by rfl) (hdb : (x == ("__debug__" : Str)) = false := by decide)
    (hst : starEach [e] X.env = (false, eval e X.env) :: starEach [] X.env := by rfl) (hpl : (backTo pos (starEach [] X.env)).any (·.1) = false := by rfl) : PE (X.suite a ((a, oe) :: pn)) (.Call (.Name x q) [e] [] pos) (tCalJ sp a cls d te) := by
  obtain ⟨f, fd, G, F, hm, hb⟩ := c.ex
  refine ⟨fun ps s σ H Q I h => ?_⟩
  refine wpAny_Call_Name_kw (ld_glob I hg hm ?_ hdb)
  refine PySem.W.callWith_K (h₀ := X.base) I.ok.mod.kin F.kp (thn ((pa_cons he pa_nil hst).run pos ps s σ H (fun vs H1 => vs = [.ref a] ∧ sp a cls d H1 Q) I h) fun us s1 ⟨vs, H1, I1, r, z, r2⟩ => ⟨I1.kIn, ?_⟩) hst hpl
  subst z
  cases r with
  | cons r1 r0 =>
    cases r0
    cases (show _ = Value.ref a from r1)
    have pin := I1.pin (a, oe) (List.mem_append_left _ List.mem_cons_self)
    have ok : PinOk X.stack H1 s1 (a, oe) := ⟨pin.1, pin.2.1, fun hm => (List.mem_cons.mp (I1.stkSub a hm)).elim pin.2.2.1 pin.2.2.2.1, pin.2.2.2.2⟩
    have b := hb s1 [.ref a] I1.kIn rfl
    refine wpAny_call (codeAny_mono (G.run _ X.stack s1 H1 ⟨[.ref a], []⟩ a oe cls d Q (roomJ hr) hz hf ok I1.env0 (by exact b) r2) fun r s2 hq => ?_)
    match r, hq with
    | .error e, hq => exact False.elim (show False from hq)
    | .ok (.ret u), hq => exact I1.after hq
    | .ok .next, hq => exact False.elim hq
    | .ok .brk, hq => exact False.elim hq
    | .ok .cont, hq => exact False.elim hq
end
/-! ### isinstance of the error there -/
section
variable {X : Cx} {a : Addr} {oe : Obj} {cls : Value} {d : Option Addr}
theorem call_isJ (hp : (a, oe) ∈ X.pn) (hz : Zc cls d oe) (hf : ∃ vs, oe.data = .fields vs) : CallR X (.builtin "isinstance") (rIsX X.K a cls d) := by
  intro ps s σ H xs us Q I r h
  obtain ⟨D, c, cv, b, dd, fs, rfl, rfl, T, hcv, hk, rfl, hx, q⟩ := h
  obtain ⟨u1, u2, rfl, r1, r2⟩ := vals2 r
  cases (show u1 = Value.ref a from r1)
  cases hcv _ r2
  obtain ⟨vs, hv⟩ := hf
  have there := (I.pin (a, oe) (List.mem_append_left _ hp)).1
  obtain ⟨m, hns, _⟩ := (show ObjOk X.prog X.w H s.heap dd (.xd fs) from I.hok dd _ hx)
  obtain ⟨od, ho, _⟩ := lookIn_ns hns
  have J : PySem.W.InstAt s.heap a oe D (some od) := ⟨there, hz.1, by unfold PySem.W.notCls; rw [hv] <;> rfl, by rw [hz.2]; exact ho⟩
  exact PySem.W.kia_one (PySem.W.kitx_exc T.hcl T.xf.ga T.xf.gg T.xf.exC T.ha T.hn T.ht T.hm) I.kIn J hk (fun z => nomatch z) fun t => ⟨.bl b, H, I.kept (t' := t) fun _ _ z => z, rfl, q⟩
theorem isJ (K : PySem.W.Frag) (hp : (a, oe) ∈ X.pn) (hz : Zc cls d oe) (hf : ∃ vs, oe.data = .fields vs) (h : X.K = K := by rfl) : CallR X (.builtin "isinstance") (rIsX K a cls d) := h ▸ call_isJ hp hz hf
end
end Bw

set_option maxHeartbeats 4000000
namespace Bw
open PySem PySem.Spec PyProof.Rows L2
/-! ### tuples of ints of any lengths, sorted, any number of them -/
theorem lexLt_asym : ∀ a b : List Int, HT.lexLt a b = true → HT.lexLt b a = false
  | [], [], _ => rfl
  | [], _ :: _, _ => rfl
  | _ :: _, [], h => by cases h
  | x :: xs, y :: ys, h => by
    rw [HT.lexLt_cons] at h ⊢
    by_cases e : x = y
    · rw [if_pos e] at h
      rw [if_pos e.symm]
      exact lexLt_asym xs ys h
    · rw [if_neg e] at h
      rw [if_neg (fun z => e z.symm)]
      have := of_decide_eq_true h
      exact decide_eq_false (by omega)
theorem lexLt_tr : ∀ a b c : List Int, HT.lexLt b a = false → HT.lexLt c b = false → HT.lexLt c a = false
  | [], [], [], _, _ => rfl
  | [], [], _ :: _, _, _ => rfl
  | [], _ :: _, [], _, h => by cases h
  | [], _ :: _, _ :: _, _, _ => rfl
  | _ :: _, [], _, h, _ => by cases h
  | _ :: _, _ :: _, [], _, h => by cases h
  | x :: xs, y :: ys, z :: zs, h1, h2 => by
    rw [HT.lexLt_cons] at h1 h2 ⊢
    by_cases e1 : y = x
    · rw [if_pos e1] at h1
      by_cases e2 : z = y
      · rw [if_pos e2] at h2
        rw [if_pos (e2.trans e1)]
        exact lexLt_tr xs ys zs h1 h2
      · rw [if_neg e2] at h2
        have := of_decide_eq_false h2
        rw [if_neg (fun w => e2 (w.trans e1.symm))]
        exact decide_eq_false (by omega)
    · rw [if_neg e1] at h1
      have a1 := of_decide_eq_false h1
      by_cases e2 : z = y
      · rw [if_neg (fun w => e1 (e2.symm.trans w))]
        exact decide_eq_false (by omega)
      · rw [if_neg e2] at h2
        have a2 := of_decide_eq_false h2
        rw [if_neg (by omega)]
        exact decide_eq_false (by omega)
theorem lexSwo {α : Type} (k : α → List Int) : SrtO.Swo fun v u => HT.lexLt (k v) (k u) := ⟨fun x y h => lexLt_asym _ _ h, fun x y z h1 h2 => lexLt_tr _ _ _ h1 h2⟩
section
variable {prog : Program} {w : World} {A : Around} {E : Value → Shared → Prop} {s : Shared}
theorem katLex_ints {Q : Bool → Shared → Prop} : ∀ {xs ys : List Value} {ns ms : List Int} (i : Nat), IntsAre xs ns → IntsAre ys ms → Q (HT.lexLt ns ms) s → PySem.W.KatLex prog w A true (decide (xs.length < ys.length)) Q (xs.zip ys) i s := by
  intro xs
  induction xs with
  | nil =>
    intro ys ns ms i hx hy h
    cases hx
    cases hy with
    | nil => exact PySem.W.kat_nil h
    | cons y u r => exact PySem.W.kat_nil h
  | cons x xs ih =>
    intro ys ns ms i hx hy h
    cases hx with
    | cons n t hx =>
      cases hy with
      | nil => exact PySem.W.kat_nil h
      | cons m u hy =>
        rename_i ys0 ms0
        rw [HT.lexLt_cons] at h
        rw [List.zip_cons_cons]
        refine PySem.W.kat_cons (SeqAt.EqAt.int_int n t m u prog w _ _ ?_)
        refine PySem.W.kat_go (fun e1 => ?_) (fun e1 => ?_)
        · have ex : n = m := by simpa using e1
          rw [if_pos ex] at h
          have := ih (i + 1) hx hy h
          refine PySem.W.kat_yes ?_
          have e0 : decide ((Value.int n t :: xs).length < (Value.int m u :: ys0).length) = decide (xs.length < ys0.length) := by
            rw [List.length_cons, List.length_cons]
            exact decide_eq_decide.mpr ⟨fun z => by omega, fun z => by omega⟩
          rw [e0]
          exact this
        · have ex : ¬ n = m := by simpa using e1
          rw [if_neg ex] at h
          refine PySem.W.kat_no ?_
          cases i with
          | zero => exact oneLt_int h
          | succ i => exact PySem.W.kat_one _ _ (PyProof.Rows.lt_int h)
theorem tups_cmp {vs : List Value} {k : Value → List Int} (hp : ∀ v ∈ vs, TS.TupInts s.heap v (k v)) : SrtO.Cmp prog w A s (tuples' true) (fun p => p.1 ∈ vs) (SrtO.lt2 fun v u => HT.lexLt (k v) (k u)) := by
  intro p q hm hm'
  obtain ⟨a, xs, e1, ⟨o, ho, hc, n, hd⟩, i1⟩ := hp _ hm
  obtain ⟨b, ys, e2, ⟨o', ho', hc', n', hd'⟩, i2⟩ := hp _ hm'
  show wpAny (model prog w) A (keyLt' (tuples' true) p.1 q.1) (fun r s' => s' = s ∧ r = HT.lexLt (k p.1) (k q.1)) (fun _ _ => False) s
  rw [e1] at i1 ⊢
  rw [e2] at i2 ⊢
  refine PySem.W.kat_lt ho hd ho' hd' ?_
  have := katLex_ints (prog := prog) (w := w) (A := A) (Q := fun r s' => s' = s ∧ r = HT.lexLt (k (.ref a)) (k (.ref b))) 0 i1 i2 ⟨rfl, rfl⟩
  simpa using this
theorem tups_firsts {k : Value → List Int} : ∀ {vs : List Value}, (∀ v ∈ vs, TS.TupInts s.heap v (k v) ∧ k v ≠ []) → ∃ fs, PySem.W.KatTups s.heap vs fs ∧ fs.length = vs.length ∧ ∀ f ∈ fs, ∃ x t, f = Value.int x t
  | [], _ => ⟨[], PySem.W.KatTups.nil, rfl, fun f h => (by cases h)⟩
  | v :: vs, hp => by
    obtain ⟨fs, h1, h2, h3⟩ := tups_firsts fun v hv => hp v (List.mem_cons_of_mem _ hv)
    obtain ⟨⟨a, xs, rfl, ⟨o, ho, hc, n, hd⟩, i⟩, ne⟩ := hp v List.mem_cons_self
    obtain ⟨f, hf, x, t, rfl⟩ : ∃ f, xs[0]? = some f ∧ ∃ x t, f = Value.int x t := by
      rw [← Array.getElem?_toList]
      generalize xs.toList = l at i
      generalize k (.ref a) = ns at i ne
      cases i with
      | nil => exact absurd rfl ne
      | cons n t r => exact ⟨_, rfl, n, t, rfl⟩
    refine ⟨Value.int x t :: fs, PySem.W.KatTups.cons ho hc hd hf h1, by rw [List.length_cons, h2, List.length_cons], fun g hg => ?_⟩
    rcases List.mem_cons.mp hg with rfl | hg
    · exact ⟨x, t, rfl⟩
    · exact h3 g hg
theorem tups_sortable {a : Addr} {vs : List Value} {k : Value → List Int} (h0 : 0 < vs.length) (hp : ∀ v ∈ vs, TS.TupInts s.heap v (k v) ∧ k v ≠ []) (ha : ∀ o, s.heap.get? a = some o → o.cls ≠ .type "tuple") : SrtO.SortableO prog w A s a vs fun v u => HT.lexLt (k v) (k u) := by
  intro h' keep
  have hp' : ∀ v ∈ vs, TS.TupInts h' v (k v) ∧ k v ≠ [] := fun v hm => ⟨(hp v hm).1.keeps fun b o e c => keep b o (fun z => by subst z; exact ha o e c) e, (hp v hm).2⟩
  obtain ⟨fs, h1, h2, h3⟩ := tups_firsts (s := { s with heap := h' }) hp'
  refine ⟨tuples' true, fun Q E hq => ?_, tups_cmp fun v hv => (hp' v hv).1⟩
  refine PySem.W.kat_kind (T := .type "int") h1 (by omega) (fun f hm => ?_) (by rfl) ?_
  · obtain ⟨x, t, rfl⟩ := h3 f hm
    exact PySem.W.Looks.now
  · have e : (Value.type "int" != Value.type "tuple") = true := by first | decide +kernel | rfl | decide
    rw [e]
    exact hq
end
/-- sorted(d) of a dict whose keys are tuples of ints: g says which -/
def rSortedDT : List V → Hp → VK → Prop := fun vs H Q => ∃ (d : Addr) (kvs : List (List Key × V)) (g : List Key → List Int), vs = [.ref d] ∧ L2.Rd H d (.dT kvs) ∧ (∀ p ∈ kvs, p.1 = (g p.1).map Sum.inl ∧ g p.1 ≠ []) ∧
  ∀ (bs : List Addr) (ks : List (List Int)) (p : Addr), H p = none → ks.Perm (kvs.map fun q => g q.1) → ks.Pairwise (fun a b => HT.lexLt b a = false) → bs.length = ks.length →
    (∀ (i : Nat) b n, bs[i]? = some b → ks[i]? = some n → H b = some (.tup (n.map V.int))) → Q (.ref p) (upd H p (.lst (bs.map V.ref)))
theorem ints_of_vals : ∀ {ns : List Int} {us : List Value}, Vals (ns.map V.int) us → IntsAre us ns
  | [], _, r => by cases r; exact .nil
  | n :: ns, _, r => by
    cases r with
    | cons h t =>
      obtain ⟨t0, rfl⟩ := h
      exact .cons n t0 (ints_of_vals t)
section
variable {X : Cx}
theorem call_sortedDT (hc : X.calm = true) : CallR X (.builtin "sorted") rSortedDT := by
  intro ps s σ H xs us Q I r h
  obtain ⟨d, kvs, g, rfl, hd, hg, q⟩ := h
  obtain ⟨u, rfl, rx⟩ := r.one
  cases (show u = Value.ref d from rx)
  obtain ⟨z, hs, ks, pr, o, es, ep, ho, hx, hdt, he, hn⟩ := (show ObjOk X.prog X.w H s.heap d (.dT kvs) from hd.ok I.hok)
  have l1 : es.size = ks.length := size_of_entries he
  have l2 : kvs.length = ks.length := Paired.length pr
  refine Calls.call_function_entry kind_sorted plain_sorted entry_sorted (args_sorted1 _) ?_
  unfold Builtin.«sorted»
  refine wpAny_bind (m := checkCount "sorted" 1 1 _) (wpAny_pure ?_)
  refine wpAny_bind (PySem.W.kdu_collect (A := X.A.in1) (kdl_raw hs hx hdt) (I.ok.hd hc) ho (by omega) fun h' tk acc kp it => ?_)
  have ea : acc.toList = ks.map fun x => Value.ref x.2.1 := by
    have hl : acc.toList.length = ks.length := by rw [Array.length_toList, it.1, l1]
    refine List.ext_getElem? fun j => ?_
    rw [List.getElem?_map]
    cases hj : acc.toList[j]? with
    | none => rw [List.getElem?_eq_none (by have := List.getElem?_eq_none_iff.mp hj; omega)]; rfl
    | some v =>
      obtain ⟨en, hen, hv⟩ := it.2 j v (by rw [← Array.getElem?_toList]; exact hj)
      have qe := entry_at he j
      rw [hen] at qe
      cases hb : ks[j]? with
      | none => rw [hb] at qe; cases qe
      | some b =>
        rw [hb] at qe
        cases qe
        rw [hv]
        rfl
  -- the ints of each key's tuple
  have tup : ∀ v ∈ acc.toList, ∃ b p, v = Value.ref b ∧ p ∈ kvs ∧ H b = some (.tup ((g p.1).map V.int)) ∧ TS.TupInts s.heap v (g p.1) ∧ g p.1 ≠ [] := fun v hv => by
    rw [ea] at hv
    obtain ⟨x, hx2, rfl⟩ := List.mem_map.mp hv
    obtain ⟨i, hi⟩ := List.getElem?_of_mem hx2
    obtain ⟨p, hp, e1, e2, e3⟩ := DX.pget pr hi
    have hpm := List.mem_of_getElem? hp
    obtain ⟨h1, h2⟩ := hg p hpm
    have ht : H x.2.1 = some (.tup ((g p.1).map V.int)) := by
      rw [e2]
      conv => lhs; rw [h1]
      rw [List.map_map]
      rfl
    obtain ⟨_, its, rv, o2, ho2, hc2, n2, hd2⟩ := (show ObjOk X.prog X.w H s.heap x.2.1 (.tup ((g p.1).map V.int)) from I.hok _ _ ht)
    exact ⟨x.2.1, p, rfl, hpm, ht, ⟨x.2.1, its.toArray, rfl, ⟨o2, ho2, hc2, n2, hd2⟩, by simpa using ints_of_vals rv⟩, h2⟩
  let kk : Value → List Int := fun v => TS.intsOf s.heap v
  have tup2 : ∀ v ∈ acc.toList, TS.TupInts s.heap v (kk v) ∧ kk v ≠ [] := fun v hv => by
    obtain ⟨b, p, _, _, _, t, ne⟩ := tup v hv
    have e : kk v = g p.1 := t.ints
    rw [e]
    exact ⟨t, ne⟩
  have I1 : Inv X ps σ H { s with heap := h', toks := tk } := I.kept kp
  have hz : acc.toList.length ≤ sizeLine := by rw [Array.length_toList, it.1]; omega
  refine wpAny_bind (wpAny_newList ?_ hz)
  have hoL : (h'.push (seqObj "list" acc.toList.toArray 0)).get? h'.objs.size = some (seqObj "list" acc.toList.toArray 0) := Heap.get?_push_size _ rfl
  show wpAny _ _ _ _ _ { s with heap := h'.push (seqObj "list" acc.toList.toArray 0), toks := tk }
  refine wpAny_bind (wpAny_holding (wpAny_call_entry slot_list_sort ⟨_, hoL, rfl⟩ entry_list_sort
    (SrtO.list_sort_ord (s := { s with heap := h'.push (seqObj "list" acc.toList.toArray 0), toks := tk }) (lexSwo kk) hoL hz (fun h2 => ?_) fun out hsr hst => ⟨_, rfl, ?_⟩) (args_list_sort _)))
  · refine tups_sortable (by omega) (fun v hv => ⟨(tup2 v hv).1.keeps fun b o2 e _ => Heap.get?_push_of_some _ (kp b o2 e), (tup2 v hv).2⟩) fun o2 e => ?_
    cases e.symm.trans hoL
    exact fun c => absurd (Value.type.inj c) (by decide)
  · have pm := hst.perm
    have m2 : ∀ v ∈ out, v ∈ acc.toList := fun v hv => pm.mem_iff.mp hv
    let ad : Value → Addr := fun v => match v with
      | .ref b => b
      | _ => 0
    have eout : out = (out.map ad).map Value.ref := by
      rw [List.map_map]
      refine (List.map_id' _).symm.trans (List.map_congr_left fun v hv => ?_)
      obtain ⟨b, p, rfl, _⟩ := tup v (m2 v hv)
      rfl
    obtain ⟨e', he'⟩ := sortedHeap_at (vs := acc.toList) (out := out.toArray) hoL
    have hlen : ((out.map ad).map V.ref).length ≤ sizeLine := by rw [List.length_map, List.length_map, pm.length_eq]; exact hz
    have rv : Vals ((out.map ad).map V.ref) out := by
      conv => rhs; rw [eout]
      exact vals_refs _
    have ekk : (ks.map fun x => Value.ref x.2.1).map kk = kvs.map fun q => g q.1 := by
      rw [List.map_map]
      refine List.ext_getElem? fun j => ?_
      rw [List.getElem?_map, List.getElem?_map]
      cases hj : ks[j]? with
      | none => rw [List.getElem?_eq_none (by have := List.getElem?_eq_none_iff.mp hj; omega)]; rfl
      | some x =>
        obtain ⟨p, hp, e1, e2, e3⟩ := DX.pget pr hj
        rw [hp]
        have hv : Value.ref x.2.1 ∈ acc.toList := by rw [ea]; exact List.mem_map.mpr ⟨x, List.mem_of_getElem? hj, rfl⟩
        have hpm := List.mem_of_getElem? hp
        obtain ⟨h1, h2⟩ := hg p hpm
        have ht : H x.2.1 = some (.tup ((g p.1).map V.int)) := by
          rw [e2]
          conv => lhs; rw [h1]
          rw [List.map_map]
          rfl
        obtain ⟨_, its, rv2, o2, ho2, hc2, n2, hd2⟩ := (show ObjOk X.prog X.w H s.heap x.2.1 (.tup ((g p.1).map V.int)) from I.hok _ _ ht)
        have t : TS.TupInts s.heap (.ref x.2.1) (g p.1) := ⟨x.2.1, its.toArray, rfl, ⟨o2, ho2, hc2, n2, hd2⟩, by simpa using ints_of_vals rv2⟩
        exact congrArg some t.ints
    refine wpAny_pure ⟨_, rfl, .ref h'.objs.size, upd H h'.objs.size (.lst ((out.map ad).map V.ref)), I1.laid (t' := tk) (fun b u e => ?_) (Nat.le_refl _) (show ObjOk X.prog X.w _ _ _ (.lst ((out.map ad).map V.ref)) from ⟨hlen, out, e', rv, he'⟩), rfl,
      q (out.map ad) (out.map kk) _ (I1.hok.fresh (Nat.le_refl _)) ?_ ?_ (by rw [List.length_map, List.length_map]) fun i b n hb hn => ?_⟩
    · have lb : b < h'.objs.size := Heap.lt_size e
      rw [sortedHeap_old (Nat.ne_of_lt lb) (by rw [size_push']; exact Nat.lt_succ_of_lt lb)]
      exact Heap.get?_push_of_some _ e
    · rw [← ekk, ← ea]
      exact pm.map kk
    · exact List.pairwise_map.mpr hsr
    · rw [List.getElem?_map] at hb hn
      cases ho3 : out[i]? with
      | none => rw [ho3] at hb; cases hb
      | some v =>
        rw [ho3] at hb hn
        cases hb
        cases hn
        obtain ⟨b, p, rfl, hpm, ht, t, _⟩ := tup v (m2 v (List.mem_of_getElem? ho3))
        have e : kk (.ref b) = g p.1 := t.ints
        rw [e]
        exact ht
end
end Bw

set_option maxHeartbeats 4000000
namespace Bw
open PySem PySem.Spec PyProof.Rows L2
/-! ### dict comprehensions with one loop, entries by tuples -/
section
variable {X : Cx}
def tDc1 (wi : TI) (g : TG) (tt : L2.TT) (tk tv : TE) (vs : List Nat) : TE := fun σ H Q => wi σ H fun J H1 => ∀ D, H1 D = none → ∃ W : Nat → Nat → Hp → Prop, (∃ m, W 0 m (upd H1 D (.dT []))) ∧ ∀ i m H, W i m H →
  (J.stop i H ∧ Q (.ref D) H) ∨
  (J.go i H ∧ ∃ Nx : Hp → Prop, (∀ H', Nx H' → ∃ m', m' < m ∧ W (i + 1) m' H') ∧
    ∀ x H', J.yld i H x H' → g x (wipe σ vs) H' fun σ2 H2 => wipe σ2 vs = wipe σ vs ∧ tt σ2 H2 fun b H3 =>
      if b = true then tk σ2 H3 fun y H4 => tv σ2 H4 fun z H5 => ∃ H6, DPut H5 D y z H6 ∧ Nx H6 else Nx H3)
theorem dc1_core {ps : List (Addr × Obj)} {s : Shared} {σ : L2.St} {H : Hp} {Q : VK} {kx vx tg0 src0 : Expr} {c0 : List Expr} {scope : Scope} {own : List (Str × Nat)} {pos pos' : Pos} {wi : TI} {g : TG} {tt : L2.TT} {tk tv : TE}
    {use : Option (Value → Sem Unit)} {Qf : Value → Shared → Prop}
    (hc : X.calm = true) (hu : X.A.units + 1 < cLine) (hN : X.N.Nodup) (I : Inv X ps σ H s) (hi : PI X tg0 src0 wi) (ok : BlkOk X.N X.env.scope scope own)
    (hg : InBlk X scope fun Y => PG Y tg0 g) (ht : InBlk X scope fun Y => PTs Y c0 tt)
    (hk : InBlk X scope fun Y => PE Y kx tk) (he : InBlk X scope fun Y => PE Y vx tv)
    (hs : ∀ x, foldedSetIterable src0 X.env x = pure x)
    (h : tDc1 wi g tt tk tv (own.map (·.2)) σ H Q)
    (hRR : ∀ D C s' m H', Inv X ps σ H' s' → Q (.ref D) H' → s'.heap.Ns C m → FpOk X ps H' C → compPost (model X.prog X.w) X.A X.xe use Qf (.ref D) C (.ok .next) s') :
    wpAny (model X.prog X.w) X.A (comprehension (.DictComp kx vx [⟨tg0, src0, c0, 0⟩] scope pos) scope X.env pos' newDict false (eval src0 X.env) use) Qf X.xe s := by
  have fr : ∀ y ∈ scope.names, y.2 = .free → ∃ c, X.env.cells.lookup y.1 = some c := fun y hy e => (ok.free y hy e).elim (fun k => I.ok.has _ (.inl k)) fun k => I.ok.has _ (.inr k)
  refine wpAny_comprehension_free (use := use) rfl hs (closure_ok fr) ok.kind (fun y hy e => by rw [ok.uniq y hy, e]) (thn (hi.run ps s σ H _ I h) fun xv z1 hx => thn hx fun itv z2 h2 => ?_)
  obtain ⟨it, fp, tn, J, H2, e, I2, T, st2, f2, q⟩ := h2
  subst e
  refine wpAny_newObj_type (newEnv_comp ?_)
  generalize hD : z2.heap.objs.size = D
  have hDn := I2.hok.fresh (Nat.le_of_eq hD)
  obtain ⟨W, ⟨m0, w0⟩, turn⟩ := q D hDn
  generalize hz3 : ({ z2 with heap := z2.heap.push { cls := .type "dict", data := .dict #[] } } : Shared) = z3
  have I3 : Inv X ps σ (upd H2 D (.dT [])) z3 := by
    rw [← hz3]
    refine I2.laid (t' := z2.toks) (fun b o e => Heap.get?_push_of_some _ e) (Nat.le_of_eq hD) ?_
    exact hD ▸ dt_empty z2.heap I2.big
  have e3 : z3.heap = z2.heap.push { cls := .type "dict", data := .dict #[] } := by rw [← hz3]
  have lo : ∀ b ∈ fp, b < z2.heap.objs.size := fun b hb => (T.obj _ _ st2 b hb).elim fun o z => Heap.lt_size z.1
  have f3 : ∀ b ∈ fp, FpOk X ps (upd H2 D (.dT [])) b ∧ b < z3.heap.objs.size := fun b hb => by
    have lb := lo b hb
    refine ⟨⟨?_, (f2 b hb).2⟩, ?_⟩
    · rw [upd_ne (hD ▸ Nat.ne_of_lt lb), (f2 b hb).1]
    · rw [e3, Heap.size_push]
      exact Nat.lt_succ_of_lt lb
  have st3 : tn 0 z3.heap := T.keep _ _ _ st2 fun b _ o e => e3 ▸ Heap.get?_push_of_some _ e
  have I4 := block_start I3 ok hN f3
  have pg := hg z3 (upd H2 D (.dT [])) z3.heap.objs.size (cellsFrom (z3.heap.objs.size + 1) scope.names (cloFrom X.env.cells scope.names [])) fp
  have pt := ht z3 (upd H2 D (.dT [])) z3.heap.objs.size (cellsFrom (z3.heap.objs.size + 1) scope.names (cloFrom X.env.cells scope.names [])) fp
  have pk := hk z3 (upd H2 D (.dT [])) z3.heap.objs.size (cellsFrom (z3.heap.objs.size + 1) scope.names (cloFrom X.env.cells scope.names [])) fp
  have pv := he z3 (upd H2 D (.dT [])) z3.heap.objs.size (cellsFrom (z3.heap.objs.size + 1) scope.names (cloFrom X.env.cells scope.names [])) fp
  show codeAny _ _ (.compStart (.DictComp kx vx [⟨tg0, src0, c0, 0⟩] scope pos) 0 (.ref it) (.ref D) (compEnvC scope (cellsFrom (z3.heap.objs.size + 1) scope.names (cloFrom X.env.cells scope.names [])) z3.heap.objs.size X.env)) (compPost (model X.prog X.w) X.A X.xe use Qf (.ref D) z3.heap.objs.size)
    { z3 with heap := pushCells (z3.heap.push { cls := .type "dict", data := .dict #[] }) scope.names }
  have nfp := fun b hb => (f3 b hb).1.1
  generalize hce : compEnvC scope (cellsFrom (z3.heap.objs.size + 1) scope.names (cloFrom X.env.cells scope.names [])) z3.heap.objs.size X.env = ce at I4 pg pt pk pv ⊢
  have cL : ce.locals = z3.heap.objs.size := by subst hce; rfl
  generalize hH3 : upd H2 D (.dT []) = H3 at I3 I4 pg pt pk pv w0 nfp f3
  generalize hz4 : ({ z3 with heap := pushCells (z3.heap.push { cls := .type "dict", data := .dict #[] }) scope.names } : Shared) = z4 at I4 ⊢
  have st4 : tn 0 z4.heap := T.keep _ _ _ st3 fun b _ o e => hz4 ▸ pushCells_keeps _ _ _ _ (Heap.get?_push_of_some _ e)
  have stat : ∀ {σ' : L2.St} {H' : Hp} {s' : Shared}, Inv (X.blk z3 H3 scope ce fp) [] σ' H' s' → (∀ b ∈ fp, H' b = none) → ∀ b ∈ fp, FpOk (X.blk z3 H3 scope ce fp) [] H' b := fun {σ' H' s'} I' hn b hb =>
    have z := I'.ok.exf b hb
    ⟨hn b hb, z.1, I'.ok.exfs b hb, .inl hb, fun x c e => z.2 x c e, fun p hp => absurd (show p ∈ ([] : List (Addr × Obj)) ++ [] from hp) (by simp)⟩
  have loop : codeAny (model X.prog X.w) X.A (.compLoop (.DictComp kx vx [⟨tg0, src0, c0, 0⟩] scope pos) 0 (.ref it) (.ref D) ce) (compPost (model X.prog X.w) X.A X.xe use Qf (.ref D) z3.heap.objs.size) z4 := by
    refine L2.compLoop_anyD (fun n s' => ∃ i H', Inv (X.blk z3 H3 scope ce fp) [] (wipe σ (own.map (·.2))) H' s' ∧ tn i s'.heap ∧ (∀ b ∈ fp, H' b = none) ∧ W i n H') ?_ m0 ⟨0, H3, I4, st4, nfp, w0⟩
    rintro n z5 ⟨i, H5, I5, st5, n5, w5⟩
    rcases turn i n H5 w5 with ⟨stop, qq⟩ | ⟨go, Nx, hNx, step⟩
    · refine thnF (T.done (X.blk z3 H3 scope ce fp) rfl rfl rfl hc i [] z5 _ H5 (fun _ _ => False) I5 (stat I5 n5) st5 stop) fun r z6 ⟨hr, I6⟩ => ?_
      subst hr
      have I7 : Inv X ps σ H5 z6 := I3.call' (ch := fp) I6.os I6.base I6.hok I6.bare fun b hb => have z := (f3 b hb).1.2; ⟨z.2.2.1, z.1, z.2.2.2.1, z.2.2.2.2⟩
      have nC : H5 ce.locals = none := I6.free
      obtain ⟨m, hn, _⟩ := I6.loc
      have hn : z6.heap.Ns ce.locals m := hn
      rw [cL] at hn nC
      exact hRR D _ z6 m H5 I7 qq hn (I3.fpOk (Nat.le_refl _) nC)
    · refine thnF (T.item (X.blk z3 H3 scope ce fp) rfl rfl rfl hc i [] z5 _ H5 (fun _ _ => False) I5 (stat I5 n5) st5 go) fun r z6 ⟨u, hr, h6⟩ => ?_
      subst hr
      refine thnF h6 fun _ z7 ⟨x, H7, I7, r7, y7, st7, n7⟩ => ?_
      refine thnF (pg.run _ z7 _ H7 x u _ (I7.pinned (stat I7 n7) (T.obj _ _ st7)) r7 (step x H7 y7)) fun _ z8 ⟨σ8, H8, I8, hw8, q8⟩ => ?_
      refine thnF (pt.run _ z8 σ8 H8 _ I8 q8) fun b z9 ⟨H9, I9, q9⟩ => ?_
      have fin : ∀ {σ9 : L2.St} {s' : Shared} {H' : Hp}, Inv (X.blk z3 H3 scope ce fp) ([] ++ pinsAt fp z7.heap) σ9 H' s' → (wipe σ (own.map (·.2))).length = σ9.length → (∀ (j : Nat) v, (wipe σ (own.map (·.2)))[j]? = some (some v) → σ9[j]? = some (some v)) → Nx H' →
          ∃ m, m < n ∧ ∃ i H', Inv (X.blk z3 H3 scope ce fp) [] (wipe σ (own.map (·.2))) H' s' ∧ tn i s'.heap ∧ (∀ b ∈ fp, H' b = none) ∧ W i m H' := fun {σ9 s' H'} I' l9 k9 nx => by
        obtain ⟨m', hm, w'⟩ := hNx H' nx
        have pin : ∀ b ∈ fp, ∀ o, z7.heap.get? b = some o → s'.heap.get? b = some o ∧ H' b = none := fun b hb o e => have z := I'.pin (b, o) (List.mem_append_right _ (List.mem_append_right _ (mem_pinsAt hb e))); ⟨z.1, z.2.1⟩
        exact ⟨m', hm, i + 1, H', (I'.unpinned (pins := [])).weak l9 k9, T.keep _ _ _ st7 fun b hb o e => (pin b hb o e).1, fun b hb => (T.obj _ _ st7 b hb).elim fun o z => (pin b hb o z.1).2, w'⟩
      have l8 : (wipe σ (own.map (·.2))).length = σ8.length := by rw [← hw8, wipe_length]
      have k8 : ∀ (j : Nat) v, (wipe σ (own.map (·.2)))[j]? = some (some v) → σ8[j]? = some (some v) := fun j v e => (wipe_some (show (wipe σ8 (own.map (·.2)))[j]? = _ by rw [hw8]; exact e)).1
      cases b with
      | false =>
        simp only [Bool.false_eq_true, if_false] at q9 ⊢
        exact fin I9 l8 k8 q9
      | true =>
        simp only [if_true] at q9 ⊢
        refine thnF (pk.run _ z9 σ8 H9 _ I9 q9) fun ku z17 ⟨yk, Hg, Ig, rg, qg'⟩ => ?_
        refine thnF (pv.run _ z17 σ8 Hg _ Ig qg') fun vu z18 ⟨yv, Hh, Ih, rh, Hj, put, nx⟩ => ?_
        exact dictSetA (cx := X.blk z3 H3 scope ce fp) hu Ih put rg rh fun z19 I19 => fin I19 l8 k8 nx
  exact codeAny_compStart_dict loop (T.self X.A 0 _ _ _ st4 loop)
theorem pe_dcT {kx vx tg iter : Expr} {ifs : List Expr} {scope : Scope} {own : List (Str × Nat)} {pos : Pos} {wi : TI} {g : TG} {tt : L2.TT} {tk tv : TE}
    (hc : X.calm = true) (hN : X.N.Nodup) (hu : X.A.units + 1 < cLine) (hi : PI X tg iter wi) (ok : BlkOk X.N X.env.scope scope own)
    (hg : InBlk X scope fun Y => PG Y tg g) (ht : InBlk X scope fun Y => PTs Y ifs tt) (hk : InBlk X scope fun Y => PE Y kx tk) (he : InBlk X scope fun Y => PE Y vx tv)
    (hs : ∀ x, foldedSetIterable iter X.env x = pure x := by intro _; rfl) :
    PE X (.DictComp kx vx [⟨tg, iter, ifs, 0⟩] scope pos) (tDc1 wi g tt tk tv (own.map (·.2))) := by
  refine ⟨fun ps s σ H Q I h => ?_⟩
  rw [arm_eval_DictComp]
  refine dc1_core hc hu hN I hi ok hg ht hk he hs h fun D C s' m H' I' q hn f => ⟨m, hn, fun h2 sb => ?_⟩
  obtain ⟨f0, f1, f2, f3, f4, f5⟩ := f
  exact ⟨.ref D, H', I'.turned (t' := s'.toks) (fun b o hb e => (sb.2 b hb).trans e) f0 f1 f3 f4 f5, rfl, q⟩
theorem ps_setDcT {i : Nat} {y : Str} {py : Pos} {kx vx tg iter : Expr} {ifs : List Expr} {scope : Scope} {own : List (Str × Nat)} {pos spos : Pos} {wi : TI} {g : TG} {tt : L2.TT} {tk tv : TE} (hc : X.calm = true) (hN : X.N.Nodup) (hy : X.N[i]? = some y)
    (hyl : X.env.scope.names.lookup y = some .local) (hsw : swapsWith (.DictComp kx vx [⟨tg, iter, ifs, 0⟩] scope pos) (some (.Name y py)) spos.line X.env = pure true) (hu : X.A.units + 1 < cLine) (hi : PI X tg iter wi) (ok : BlkOk X.N X.env.scope scope own)
    (hg : InBlk X scope fun Y => PG Y tg g) (ht : InBlk X scope fun Y => PTs Y ifs tt) (hk : InBlk X scope fun Y => PE Y kx tk) (he : InBlk X scope fun Y => PE Y vx tv) (hs : ∀ x, foldedSetIterable iter X.env x = pure x := by intro _; rfl) :
    PS X (.Assign [.Name y py] (.DictComp kx vx [⟨tg, iter, ifs, 0⟩] scope pos) spos) (tAsg (tDc1 wi g tt tk tv (own.map (·.2))) (gName i)) := by
  refine ⟨fun ps s σ H D I h => ?_⟩
  rw [exec_Assign_Name_used _ _ _ _ hsw]
  refine wpAny_bind (wpAny_standAt (wpAny_bind ?_))
  show wpAny _ X.A (do let _ ← comprehension (.DictComp kx vx [⟨tg, iter, ifs, 0⟩] scope pos) scope X.env (firstIterPos [⟨tg, iter, ifs, 0⟩] pos) newDict false (eval iter X.env) (some (assign (.Name y py) X.env))) _ _ s
  have h : tDc1 wi g tt tk tv (own.map (·.2)) σ H (fun x H1 => gName i x σ H1 D.nx) := h
  exact wpAny_bind (thn (dc1_core (Qf := fun _ s2 => SP X ps D .next s2) hc hu hN I hi ok hg ht hk he hs h fun L C s' m H' I' q hn f => store_comp hN hy hyl I' q hn f) fun _ s' hq => wpAny_pure (wpAny_pure hq))
end
theorem ltT {X : Cx} (K : PySem.W.Frag) (hu : X.A.units < cLine) (h : X.K = K := by rfl) : OpR X (compareOp .Lt) (rLtT K) := h ▸ op_ltT hu
theorem indexD {X : Cx} (K : PySem.W.Frag) (hu : X.A.units + 65 < cLine) (h : X.K = K := by rfl) : MtR X "list.index" (rIndexD K) := h ▸ mt_indexD hu
end Bw

set_option maxHeartbeats 4000000
namespace Bw
open PySem PySem.Spec PyProof.Rows L2
/-! ### {(a, b): v}: a display with one tuple as key -/
section
variable {X : Cx}
def tDispT (tk tv : TE) : TE := fun σ H Q => ∀ p, H p = none → tPairs [(tk, tv)] σ (upd H p (.dT [])) fun zs H2 => ∃ x y H3, zs = [(x, y)] ∧ DPut H2 p x y H3 ∧ Q (.ref p) H3
theorem pe_dispT {pos : Pos} {k v : Expr} {tk tv : TE} (hu : X.A.units + 1 < cLine) (hk : PE X k tk) (hv : PE X v tv) : PE X (.Dict [some k] [v] pos) (tDispT tk tv) := by
  refine ⟨fun ps s σ H Q I q => ?_⟩
  have hn := I.hok.fresh (Nat.le_refl s.heap.objs.size)
  have I1 := I.laid (a := s.heap.objs.size) (o := .dT []) (h' := s.heap.push { cls := .type "dict", data := .dict #[] }) (t' := s.toks) (fun _ _ q => Heap.get?_push_of_some _ q) (Nat.le_refl _) (dt_empty s.heap I.big)
  have hp := pps_cons (pos := pos) hk hv (pps_nil (X := X) (pos := pos))
  refine wpAny_Dict_any rfl rfl (by simp) (by simp) (thn (hp.run ps _ σ _ (fun zs H2 => ∃ x y H3, zs = [(x, y)] ∧ DPut H2 s.heap.objs.size x y H3 ∧ Q (.ref s.heap.objs.size) H3) I1 (q _ hn)) fun ws s2 ⟨zs, H2, I2, rel, x, y, H3, e, put, q2⟩ => ?_)
  subst e
  cases rel with
  | @cons a b as bs h t =>
    cases t
    obtain ⟨b1, b2⟩ := b
    unfold storeAll
    simp only [List.forIn_cons, List.forIn_nil]
    refine wpAny_bind (wpAny_bind (dictSetA hu I2 put h.1 h.2 fun s' I' => wpAny_pure (wpAny_pure ⟨.ref s.heap.objs.size, H3, I', rfl, q2⟩)))
/-- l[i], a number from 0 on -/
def rGetL (K : PySem.W.Frag) : V → V → Hp → VK → Prop := fun x y H Q => ∃ p xs i v, x = .ref p ∧ y = .int (i : Nat) ∧ SqL K H p xs ∧ xs[i]? = some v ∧ Q v H
theorem get_listN : PGet X (rGetL X.K) := by
  intro ps s σ H x y v u Q I rx ry h
  obtain ⟨p, xs, i, z, rfl, rfl, hq, he, q⟩ := h
  cases (show v = Value.ref p from rx)
  obtain ⟨t, rfl⟩ := ry
  obtain ⟨its, r, pl, hz⟩ := I.list hq
  obtain ⟨w, ew, rw'⟩ := r.get he
  have hl := r.length
  have hn := line63
  have hi := (List.getElem?_eq_some_iff.mp he).1
  exact wpAny_getItem_list pl.isList (by omega) (by omega) (by rw [Int.toNat_natCast]; simpa using ew) ⟨z, H, I, rw', q⟩
theorem getL (K : PySem.W.Frag) (h : X.K = K := by rfl) : PGet X (rGetL K) := h ▸ get_listN
end
end Bw

set_option maxHeartbeats 4000000
namespace Bw
open PySem PySem.Spec PyProof.Rows L2
/-! ### dict([(t, v)]): one pair whose key is a tuple -/
section
variable {prog : Program} {w : World} {A : Around} {E : Value → Shared → Prop}
theorem upd_loop1 {R : Result → Shared → Prop} {S I l b k0 : Addr} {u : Value} {key : List Key} {ix : Int} {t : Tok} {res : Value} {s : Shared} (hh : A.handled = none) (hu : A.units + 1 < cLine) (hlI : l ≠ I) (hSI : S ≠ I) (hSl : S ≠ l) (hbS : b ≠ S) (hbI : b ≠ I) (hkS : k0 ≠ S) (hkI : k0 ≠ I)
    (hb : IsTup s.heap b #[.ref k0, u]) (hk : (tupleKind (mixKind prog w)).is s.heap key k0) (hit : s.heap.IsListIter I l 0) (hl : s.heap.IsList l #[.ref b]) (hm : s.heap.DictOfH (tupleKind (mixKind prog w)) S [])
    (hR : ∀ h' tk, h'.DictOfH (tupleKind (mixKind prog w)) S (storedH [] key k0 u) → (∀ b o, b ≠ S → b ≠ I → s.heap.get? b = some o → h'.get? b = some o) → R (.ok (.ret res)) { s with heap := h', toks := tk }) :
    codeAny (model prog w) A (.builtin "dict.update.loop" ⟨[.ref S, .ref I, .int ix t, res], []⟩) R s := by
  refine codeAny_builtin ud_entry ?_
  rw [Around.under_plainId ud_plain _]
  show wpAny _ A.in1 (pyNext (.ref I) >>= _) _ _ s
  refine wpAny_bind (wpAny_pyNext_list_item (x := .ref b) hit hl rfl fun h1 hit1 hs1 => ?_)
  have ht1 : IsTup h1 b #[.ref k0, u] := hb.extBut hs1.extBut hbI
  have hl1 : h1.IsList l #[.ref b] := hl.extBut hs1.extBut hlI
  obtain ⟨mo, mes, mep, m1, m2, m3, m4, m5, m6⟩ := id hm
  have hkb : ∀ {h2 : Heap}, (∀ o, s.heap.get? k0 = some o → h2.get? k0 = some o) → (tupleKind (mixKind prog w)).is h2 key k0 := fun z => by
    obtain ⟨o, its, n, k1, k2⟩ := hk
    exact ⟨o, its, n, z _ k1, k2⟩
  have hm1 : h1.DictOfH (tupleKind (mixKind prog w)) S [] := ⟨mo, mes, mep, hs1.extBut S mo hSI m1, m2, m3, m4, fun x hx => (by cases hx), m6⟩
  obtain ⟨o, ho, hc, n, hd⟩ := id ht1
  show wpAny _ A.in1 (holding [Value.ref b] _ >>= _) _ _ _
  refine wpAny_bind (wpAny_holding ?_)
  refine wpAny_bind (wpAny_tryCatch ?_)
  unfold Builtin.Dict.pairItems
  refine wpAny_bind (wpAny_typeOf (T := "tuple") ⟨o, ho, hc⟩ ?_)
  rw [if_pos (by first | decide | rfl | simp)]
  refine wpAny_bind (wpAny_seqItems ho hd (wpAny_pure ?_))
  show wpAny _ A.in1 (holding [Value.ref k0, u] (dictSet S (.ref k0) u)) _ _ _
  refine wpAny_holding (wpAny_dictSet_heap (knd := tupleKind (mixKind prog w)) (k := key) (show A.in1.units < cLine from Nat.lt_of_le_of_lt (by show A.in1.units ≤ A.units + 1; first | exact Nat.le_refl _ | exact Nat.le_succ _ | omega) hu) (hkb fun o e => hs1.extBut k0 o hkI e) hm1 fun h2 hm2 hs2 => ?_)
  refine wpAny_pure ⟨plainId_quiet ud_plain _, ?_⟩
  refine codeAny_builtin ud_entry ?_
  rw [Around.under_plainId ud_plain _]
  show wpAny _ A.in1 (pyNext (.ref I) >>= _) _ _ _
  have hl2 : h2.IsList l #[.ref b] := hl1.extBut hs2.extBut (Ne.symm hSl)
  have hit2 : h2.IsListIter I l 1 := hit1.at fun o' e => hs2.extBut I o' (Ne.symm hSI) e
  refine wpAny_bind (wpAny_pyNext_list_end (A := A.in1) hh hit2 hl2 (by first | rfl | simp) fun h' he => ?_)
  show wpAny _ A.in1 (Builtin.Dict.addKeywords S [] >>= _) _ _ _
  refine wpAny_bind (wpAny_pure (wpAny_pure ?_))
  obtain ⟨no, nes, nep, n1, n2, n3, n4, n5, n6⟩ := id hm2
  refine hR h' _ ⟨no, nes, nep, he S no hSI n1, n2, n3, n4, fun x hx => ?_, n6⟩ fun b o h3 h4 e => he b o h4 (hs2.extBut b o h3 (hs1.extBut b o h4 e))
  have hx1 : x = (key, k0, u) := by simpa [storedH, atKey] using hx
  rw [hx1]
  exact hkb fun o e => he k0 o hkI (hs2.extBut k0 o hkS (hs1.extBut k0 o hkI e))
theorem call_dict_one {s : Shared} {l b k0 : Addr} {ol : Obj} {n : Nat} {u : Value} {key : List Key} {Q : Value → Shared → Prop} (hh : A.handled = none) (hu : A.units + 2 < cLine) (hl : s.heap.get? l = some ol) (hc : ol.cls = .type "list") (hd : ol.dict = none)
    (hdat : ol.data = .seq #[.ref b] n) (hb : IsTup s.heap b #[.ref k0, u]) (hk : (tupleKind (mixKind prog w)).is s.heap key k0)
    (h : ∀ h' tk, h'.DictOfH (tupleKind (mixKind prog w)) s.heap.objs.size (storedH [] key k0 u) → (∀ b o, s.heap.get? b = some o → h'.get? b = some o) → Q (.ref s.heap.objs.size) { s with heap := h', toks := tk }) :
    wpAny (model prog w) A (call (.type "dict") [.ref l]) Q E s := by
  refine callType_codes (Q₁ := fun obj s₁ => obj = .ref s.heap.objs.size ∧ s₁ = { s with heap := s.heap.push { cls := .type "dict", data := .dict #[] } }) PySem.F.kt_called_dict (PySem.F.kt_typeCall_dict_1 _) PySem.F.entry_dict_init (kt_code_dict_new _ ⟨rfl, rfl⟩) ?_
  rintro obj s₁ ⟨rfl, rfl⟩
  have hnew : (s.heap.push { cls := .type "dict", data := .dict #[] }).DictOfH (tupleKind (mixKind prog w)) s.heap.objs.size [] := Heap.DictOfH.new s.heap
  have k0' : ∀ b o, s.heap.get? b = some o → (s.heap.push { cls := .type "dict", data := .dict #[] }).get? b = some o := fun b o e => Heap.get?_push_of_some _ e
  refine ⟨hnew.typeIs, PySem.F.args_dict_init_2 _ _, ?_⟩
  unfold Builtin.«dict.__init__»
  refine wpAny_bind ?_
  unfold Builtin.Dict.selfAndRest
  refine wpAny_bind (wpAny_notOrdered_dict hnew.typeIs ?_)
  show wpAny _ _ (pure (s.heap.objs.size, [Value.ref l])) _ _ _
  refine wpAny_pure ?_
  show wpAny _ _ (Builtin.Dict.updateFrom "dict.__init__" s.heap.objs.size (.ref l) [] .none) _ _ _
  unfold Builtin.Dict.updateFrom
  refine wpAny_bind (wpAny_typeOf (T := "list") ⟨ol, k0' _ _ hl, hc⟩ ?_)
  rw [if_pos (by first | decide | rfl | simp)]
  refine wpAny_bind (miss_list (k0' _ _ hl) hc hdat hd hh fun h1 tk1 hk1 => ?_)
  rw [if_pos (show (none : Option Value).isNone = true from rfl)]
  refine wpAny_bind (wpAny_rule ?_)
  have hl1 : h1.IsList l #[.ref b] := ⟨ol, hk1 _ _ (k0' _ _ hl), hc, n, hdat⟩
  have hS1 : s.heap.objs.size < h1.objs.size := by
    have e : (s.heap.push { cls := .type "dict", data := .dict #[] }).get? s.heap.objs.size = some { cls := .type "dict", data := .dict #[] } := Heap.get?_push_size _ rfl
    exact Heap.lt_size (hk1 _ _ e)
  refine wpAny_bind (wpAny_pyIter_list hl1 ?_)
  have k2 : ∀ b o, h1.get? b = some o → (h1.push { cls := .type "list_iterator", data := .fields #[.ref l, .int 0 0] }).get? b = some o := fun b o e => Heap.get?_push_of_some _ e
  have kk : ∀ b o, s.heap.get? b = some o → (h1.push { cls := .type "list_iterator", data := .fields #[.ref l, .int 0 0] }).get? b = some o := fun b o e => k2 _ _ (hk1 _ _ (k0' _ _ e))
  have hlt : l < s.heap.objs.size := Heap.lt_size hl
  have hbt : b < s.heap.objs.size := hb.lt
  have hkt : k0 < s.heap.objs.size := by
    obtain ⟨o, its, n, k1, k2⟩ := hk
    exact Heap.lt_size k1
  obtain ⟨mo, mes, mep, m1, m2, m3, m4, m5, m6⟩ := id hnew
  have key := upd_loop1 (prog := prog) (w := w) (A := A.in1) (R := wants (fun r s₂ => r = .none ∧ Q (.ref s.heap.objs.size) s₂) E) (S := s.heap.objs.size) (I := h1.objs.size) (l := l) (b := b) (k0 := k0) (u := u) (key := key) (ix := 0) (t := 0) (res := Value.none)
    (s := { s with heap := h1.push { cls := .type "list_iterator", data := .fields #[.ref l, .int 0 0] }, toks := tk1 }) hh (show A.units + 1 + 1 < cLine from hu)
    (Nat.ne_of_lt (Nat.lt_trans hlt hS1)) (Nat.ne_of_lt hS1) (Nat.ne_of_gt hlt) (Nat.ne_of_lt hbt) (Nat.ne_of_lt (Nat.lt_trans hbt hS1)) (Nat.ne_of_lt hkt) (Nat.ne_of_lt (Nat.lt_trans hkt hS1))
    (hb.keeps kk) (by obtain ⟨o, its, n, q1, q2⟩ := hk; exact ⟨o, its, n, kk _ _ q1, q2⟩)
    ⟨_, Heap.get?_push_size _ rfl, rfl, rfl⟩ (hl1.at fun o e => k2 _ _ e) ⟨mo, mes, mep, k2 _ _ (hk1 _ _ m1), m2, m3, m4, fun x hx => (by cases hx), m6⟩
    (fun h' tk hd' k => ⟨rfl, h h' tk hd' fun b o e => k b o (Nat.ne_of_lt (Heap.lt_size e)) (Nat.ne_of_lt (Nat.lt_trans (Heap.lt_size e) hS1)) (kk _ _ e)⟩)
  first
    | exact wpAny_pure ⟨plainId_quiet ud_plain _, key⟩
    | exact wpAny_bind (wpAny_pure (wpAny_pure ⟨plainId_quiet ud_plain _, key⟩))
end
section
variable {X : Cx}
theorem call_dictT1 (hcalm : X.calm = true) (hu : X.A.units + 2 < cLine) : CallR X (.type "dict") (fun xs H Q => ∃ (a b t : Addr) (k : List Key) (v : V), xs = [.ref a] ∧ SqL X.K H a [V.ref b] ∧ SqT X.K H b [.ref t, v] ∧ H t = some (.tup (k.map kV)) ∧
    ∀ p, H p = none → Q (.ref p) (upd H p (.dT [(k, v)]))) := by
  intro pins s σ H xs us Q I r q
  obtain ⟨a, b, t, k, v, ex, hq, hp, ht, q⟩ := q
  subst ex
  obtain ⟨u, eu, rx⟩ := vals1 r
  subst eu
  cases rx
  obtain ⟨its, rv, pl, hz⟩ := I.list hq
  obtain ⟨z, ei, rz⟩ := vals1 rv
  subst ei
  cases (show z = Value.ref b from rz)
  obtain ⟨its2, rv2, hb, _⟩ := I.tuple hp
  obtain ⟨u2, y, e2, ru, ry⟩ := vals2 rv2
  subst e2
  cases (show u2 = Value.ref t from ru)
  obtain ⟨o, n, ho, hc, hd, hdat⟩ := pl
  refine call_dict_one (key := k) (I.ok.hd hcalm) hu ho hc hd (by simpa using hdat) hb (key_of I.hok ht) fun h' tk hd' kk => ?_
  have hm : (s.heap.objs.size == sysModules) = false := beq_eq_false_iff_ne.mpr (Nat.ne_of_gt I.big)
  have est : storedH [] k t y = [(k, t, y)] := rfl
  rw [est] at hd'
  obtain ⟨oo, es, ep, g1, g2, g3, g4, _, g5⟩ := hd'
  have hne : t ≠ s.heap.objs.size := fun e => by
    have := I.hok.fresh (Nat.le_refl s.heap.objs.size)
    rw [← e, ht] at this
    cases this
  refine ⟨.ref s.heap.objs.size, upd H s.heap.objs.size (.dT [(k, v)]), I.laid (t' := tk) kk (Nat.le_refl _) (show ObjOk X.prog X.w _ _ _ (.dT [(k, v)]) from ⟨by show 1 ≤ sizeLine; decide, hm, [(k, t, y)], .cons ⟨rfl, ?_, ry⟩ .nil, oo, es, ep, g1, g2, g3, g4, g5⟩), rfl, q _ (I.hok.fresh (Nat.le_refl _))⟩
  first
    | exact ht
    | (show upd H _ _ t = _; rw [upd_ne hne]; exact ht)
end
end Bw

set_option maxHeartbeats 4000000
namespace Bw
open PySem PySem.Spec PyProof.Rows L2
theorem piZipA (K : PySem.W.Frag) {X : Cx} {e e2 : Expr} {ta : TA} {p pos tpos : Pos} {elts : List Expr} {kk : Nat} (hm : X.mg "zip" = none) (ha : PA X [e, e2] ta) (h : X.K = K := by rfl) (hg : Gl X "zip" := by rfl)
    (hs : starEach [e, e2] X.env = (false, eval e X.env) :: starEach [e2] X.env := by rfl) (hpl : (backTo pos (starEach [e2] X.env)).any (·.1) = false := by rfl) :
    PI X (.Tuple elts kk tpos) (.Call (.Name "zip" p) [e, e2] [] pos) (RZ.iZipA K ta) := h ▸ RZ.pi_zipA hg hm ha hs hpl
theorem walk_zipT {K : PySem.W.Frag} {a b : Addr} {xs ys : List V} :
    Walk (RZ.ItzT K a b) (min xs.length ys.length) (fun H => SqT K H a xs ∧ SqT K H b ys) (fun i H v H' => ∃ T x y, v = .ref T ∧ H T = none ∧ H' = upd H T (.tup [x, y]) ∧ xs[i]? = some x ∧ ys[i]? = some y) := by
  refine ⟨fun i _ hi q => ?_, fun _ q => ⟨xs, ys, q.1, q.2, by omega⟩, fun i H v H' _ q y => ?_⟩
  · have h1 : i < xs.length := by omega
    have h2 : i < ys.length := by omega
    exact ⟨xs, ys, xs[i], ys[i], q.1, q.2, List.getElem?_eq_getElem h1, List.getElem?_eq_getElem h2⟩
  · obtain ⟨T, x, y, g1, g2, g3, g4, g5⟩ := y
    exact ⟨T, x, y, g1, g2, g3, g4 _ q.1, g5 _ q.2⟩
/-- dict of a list of pairs -/
def rDictP (K : PySem.W.Frag) : List V → Hp → VK → Prop := fun xs H Q => ∃ (a : Addr) (ps : List Addr) (kvs : List (Key × V)), xs = [.ref a] ∧ SqL K H a (ps.map V.ref) ∧ Paired (fun p kv => SqT K H p [kV kv.1, kv.2]) ps kvs ∧ ∀ p, H p = none → Q (.ref p) (upd H p (.dK (mergeK [] kvs)))
theorem dictP (K : PySem.W.Frag) {X : Cx} (hc : X.calm = true) (h : X.K = K := by rfl) : CallR X (.type "dict") (rDictP K) := h ▸ call_dictP hc
def rDictT1 (K : PySem.W.Frag) : List V → Hp → VK → Prop := fun xs H Q => ∃ (a b t : Addr) (k : List Key) (v : V), xs = [.ref a] ∧ SqL K H a [V.ref b] ∧ SqT K H b [.ref t, v] ∧ H t = some (.tup (k.map kV)) ∧ ∀ p, H p = none → Q (.ref p) (upd H p (.dT [(k, v)]))
theorem hu2 {k : Nat} {A : Around} (hr : Room k A) : A.units + 2 < cLine := by have := hr.un; omega
theorem dictT1 (K : PySem.W.Frag) {X : Cx} (hc : X.calm = true) (hu : X.A.units + 2 < cLine) (h : X.K = K := by rfl) : CallR X (.type "dict") (rDictT1 K) := h ▸ call_dictT1 hc hu
end Bw

set_option maxHeartbeats 4000000
namespace Bw
open PySem PySem.Spec PyProof.Rows PyProof.V L2
/-! ### sum of a tuple of ints -/
def rSumT (K : PySem.W.Frag) : List V → Hp → VK → Prop := fun vs H Q => ∃ (a : Addr) (ns : List Int), vs = [V.ref a] ∧ SqT K H a (ns.map V.int) ∧ Q (.int ns.sum) H
section
variable {X : Cx}
theorem call_sumT (hc : X.calm = true) : CallR X (.builtin "sum") (rSumT X.K) := by
  intro pins s σ H vs us Q I r h
  obtain ⟨a, ns, rfl, hs, q⟩ := h
  obtain ⟨its, rv, hb, _⟩ := I.tuple hs
  rw [Vals.ref1 r]
  have hi := rv.ints
  obtain ⟨xs, hx⟩ := hi.allInts.items
  have hl : s.heap.IsTuple a its.toArray := hb
  have hn : numsOf its.toArray.toList = ns := by rw [show its.toArray.toList = its from rfl, hi.numsOf]
  rw [hx] at hl hn
  rw [nums_intItems] at hn
  refine PySem.W.ktm_sumG (I.ok.hd hc) hl fun h' tk t' hk => ?_
  rw [preSum_eq, List.take_of_length_le (by simp), hn]
  exact ⟨.int _, H, I.kept hk, ⟨_, rfl⟩, q⟩
theorem sumT (K : PySem.W.Frag) (hc : X.calm = true) (h : X.K = K := by rfl) : CallR X (.builtin "sum") (rSumT K) := h ▸ call_sumT hc
end
end Bw

set_option maxHeartbeats 2000000
namespace K
open PySem PySem.Spec PyProof.Rows L2 Bw
open PySem.W (Tup Datum)
/-! ### rows and their rests -/
def Row (ns : List Int) : Prop := 1 ≤ ns.length ∧ ns.length ≤ 200 ∧ ∀ c ∈ ns, 0 ≤ c ∧ c ≤ 7
def stp (l : List Int) (c : Int) : List Int := if l.length > 1 ∧ l[l.length - 2]? = some c then l.dropLast else l ++ [c]
def strk (ns : List Int) : List Int := ns.foldl stp []
/-- the open places -/
def isOpn (ns : List Int) (i : Nat) : Bool := decide (ns[i]? = ns[i + 2]?)
def opn (ns : List Int) : List Int := ((List.range (ns.length - 2)).filter (isOpn ns)).map fun (i : Nat) => 1 + (i : Int)
theorem given_opn (ns : List Int) : Evl.given (ns.length - 2) (isOpn ns) (fun i => V.int (1 + (i : Int))) = (opn ns).map V.int := by
  unfold Evl.given opn
  rw [List.map_map]
  rfl
theorem stp_len (l : List Int) (c : Int) : (stp l c).length ≤ l.length + 1 := by
  unfold stp
  split
  · rw [List.length_dropLast]; omega
  · rw [List.length_append]; exact Nat.le_refl _
theorem foldl_stp_len : ∀ (ns l : List Int), (ns.foldl stp l).length ≤ l.length + ns.length
  | [], l => Nat.le_refl _
  | c :: ns, l => by
    have h := foldl_stp_len ns (stp l c)
    have h2 := stp_len l c
    show (ns.foldl stp (stp l c)).length ≤ l.length + (ns.length + 1)
    omega
theorem strk_len (ns : List Int) : (strk ns).length ≤ ns.length := by
  have h := foldl_stp_len ns []
  simpa [strk] using h

/-! ### striking, in any order -/
theorem stp_pop {m : List Int} {c x : Int} : stp (m ++ [c, x]) c = m ++ [c] := by
  unfold stp
  have h1 : (m ++ [c, x]).length > 1 := by rw [List.length_append]; show 1 < m.length + 2; omega
  have h2 : (m ++ [c, x])[(m ++ [c, x]).length - 2]? = some c := by
    rw [List.length_append, show m.length + [c, x].length - 2 = m.length from Nat.add_sub_cancel .., List.getElem?_append_right (Nat.le_refl _), Nat.sub_self]
    rfl
  rw [if_pos ⟨h1, h2⟩, show m ++ [c, x] = (m ++ [c]) ++ [x] by rw [List.append_assoc]; rfl, List.dropLast_concat]
theorem stp_cases (l : List Int) (c : Int) : (∃ m x, l = m ++ [c, x] ∧ stp l c = m ++ [c]) ∨ (stp l c = l ++ [c] ∧ ∀ m x, l ≠ m ++ [c, x]) := by
  by_cases h : l.length > 1 ∧ l[l.length - 2]? = some c
  · refine .inl ?_
    obtain ⟨h1, h2⟩ := h
    have e0 : l ≠ [] := fun z => by rw [z] at h1; exact absurd h1 (by decide)
    have e1 : l.dropLast ≠ [] := fun z => by
      have := congrArg List.length z
      rw [List.length_dropLast] at this
      simp at this
      omega
    have p1 := List.dropLast_concat_getLast e0
    have p2 := List.dropLast_concat_getLast e1
    have e2 : l.dropLast.getLast e1 = c := by
      have q : l.dropLast.getLast? = some c := by
        rw [List.getLast?_eq_getElem?, List.length_dropLast, List.getElem?_dropLast, if_pos (by omega), show l.length - 1 - 1 = l.length - 2 by omega]
        exact h2
      rw [List.getLast?_eq_getLast e1] at q
      exact Option.some.inj q
    refine ⟨l.dropLast.dropLast, l.getLast e0, ?_, ?_⟩
    · rw [show l.dropLast.dropLast ++ [c, l.getLast e0] = (l.dropLast.dropLast ++ [c]) ++ [l.getLast e0] by rw [List.append_assoc]; rfl, ← e2, p2, p1]
    · unfold stp
      rw [if_pos ⟨h1, h2⟩, ← e2, p2]
  · refine .inr ⟨?_, fun m x e => h ?_⟩
    · unfold stp
      rw [if_neg h]
    · subst e
      refine ⟨by rw [List.length_append]; show 1 < m.length + 2; omega, ?_⟩
      rw [List.length_append, show m.length + [c, x].length - 2 = m.length from Nat.add_sub_cancel .., List.getElem?_append_right (Nat.le_refl _), Nat.sub_self]
      rfl
/-- nothing to strike -/
def Str8 (l : List Int) : Prop := ∀ m t q p, l ≠ m ++ [t, q, t] ++ p
theorem stp_last (l : List Int) (c : Int) : ∃ m, stp l c = m ++ [c] := by
  rcases stp_cases l c with ⟨m, x, _, e⟩ | ⟨e, _⟩
  · exact ⟨m, e⟩
  · exact ⟨l, e⟩
theorem Str8.pre {l m : List Int} (h : Str8 (l ++ m)) : Str8 l := fun a t q p e => h a t q (p ++ m) (by rw [e, List.append_assoc])
theorem stp_str {l : List Int} {c : Int} (h : Str8 l) : Str8 (stp l c) := by
  rcases stp_cases l c with ⟨m, x, e, e2⟩ | ⟨e, hn⟩
  · rw [e2]
    exact Str8.pre (m := [x]) (by rw [List.append_assoc]; exact e ▸ h)
  · rw [e]
    intro m t q p z
    rcases List.eq_nil_or_concat p with rfl | ⟨p', y, rfl⟩
    · rw [List.append_nil, show m ++ [t, q, t] = (m ++ [t, q]) ++ [t] by rw [List.append_assoc]; rfl] at z
      obtain ⟨z1, z2⟩ := List.append_inj' z rfl
      have z3 : c = t := (List.cons.inj z2).1
      exact hn m q (by rw [z1, z3])
    · rw [List.concat_eq_append, ← List.append_assoc] at z
      obtain ⟨z1, _⟩ := List.append_inj' z rfl
      exact h m t q p' z1
theorem foldl_str : ∀ (ns l : List Int), Str8 l → Str8 (ns.foldl stp l)
  | [], _, h => h
  | _ :: ns, _, h => foldl_str ns _ (stp_str h)
theorem str_nil : Str8 [] := fun m t q p e => by
  have := congrArg List.length e
  simp at this
theorem strk_str (ns : List Int) : Str8 (strk ns) := foldl_str ns [] str_nil
/-- a coat and the one before it again: nothing is left of them -/
theorem stp_there_back {m : List Int} {t q : Int} (h : Str8 (m ++ [t])) : stp (stp (m ++ [t]) q) t = m ++ [t] := by
  rcases stp_cases (m ++ [t]) q with ⟨a, x, e, e2⟩ | ⟨e, _⟩
  · rw [show a ++ [q, x] = (a ++ [q]) ++ [x] by rw [List.append_assoc]; rfl] at e
    obtain ⟨e3, e4⟩ := List.append_inj' e rfl
    have e5 : t = x := (List.cons.inj e4).1
    rw [e2]
    rcases stp_cases (a ++ [q]) t with ⟨b, y, f, _⟩ | ⟨f, _⟩
    · refine absurd ?_ (h b t y [])
      rw [e3, f, List.append_nil, List.append_assoc]
      rfl
    · rw [f, ← e3]
  · rw [e, show m ++ [t] ++ [q] = m ++ [t, q] by rw [List.append_assoc]; rfl]
    exact stp_pop
/-- one strike -/
def Red (a b : List Int) : Prop := ∃ m t q p, a = m ++ [t, q, t] ++ p ∧ b = m ++ [t] ++ p
theorem strk_red {a b : List Int} (h : Red a b) : strk a = strk b := by
  obtain ⟨m, t, q, p, rfl, rfl⟩ := h
  unfold strk
  rw [List.foldl_append, List.foldl_append, List.foldl_append, List.foldl_append]
  show List.foldl stp (stp (stp (stp (List.foldl stp [] m) t) q) t) p = List.foldl stp (stp (List.foldl stp [] m) t) p
  have hs : Str8 (stp (List.foldl stp [] m) t) := stp_str (foldl_str m [] str_nil)
  obtain ⟨k, e⟩ := stp_last (List.foldl stp [] m) t
  rw [e] at hs ⊢
  rw [stp_there_back hs]
theorem strk_of_str : ∀ (ns l : List Int), Str8 (l ++ ns) → ns.foldl stp l = l ++ ns
  | [], l, _ => (List.append_nil l).symm
  | c :: ns, l, h => by
    have e : stp l c = l ++ [c] := by
      rcases stp_cases l c with ⟨m, x, f, _⟩ | ⟨f, _⟩
      · refine absurd ?_ (h m c x ns)
        rw [f, List.append_assoc, List.append_assoc]
        rfl
      · exact f
    show ns.foldl stp (stp l c) = l ++ c :: ns
    rw [e, strk_of_str ns (l ++ [c]) (by rw [List.append_assoc]; exact h), List.append_assoc]
    rfl
theorem strk_id {ns : List Int} (h : Str8 ns) : strk ns = ns := strk_of_str ns [] h
theorem red_inv {α : Type} {f : List Int → α} (hf : ∀ a b, Red a b → f a = f b) : ∀ (ns l : List Int), f (l ++ ns) = f (ns.foldl stp l)
  | [], l => by rw [List.append_nil]; rfl
  | c :: ns, l => by
    show f (l ++ c :: ns) = f (ns.foldl stp (stp l c))
    rw [← red_inv hf ns (stp l c)]
    rcases stp_cases l c with ⟨m, x, e, e2⟩ | ⟨e, _⟩
    · rw [e2, e]
      refine hf _ _ ⟨m, c, x, ns, ?_, rfl⟩
      rw [List.append_assoc, List.append_assoc]
      rfl
    · rw [e, List.append_assoc]
      rfl
theorem Red.rev {a b : List Int} (h : Red a b) : Red a.reverse b.reverse := by
  obtain ⟨m, t, q, p, rfl, rfl⟩ := h
  refine ⟨p.reverse, t, q, m.reverse, ?_, ?_⟩
  · simp
  · simp
theorem Str8.rev {l : List Int} (h : Str8 l) : Str8 l.reverse := fun m t q p e => h p.reverse t q m.reverse (by
  have := congrArg List.reverse e
  simpa using this)
theorem strk_rev (ns : List Int) : strk ns.reverse = (strk ns).reverse := by
  have h := red_inv (f := fun l : List Int => strk l.reverse) (fun a b r => strk_red r.rev) ns []
  exact h.trans (strk_id (strk_str ns).rev)
theorem strk_idem (ns : List Int) : strk (strk ns) = strk ns := strk_id (strk_str ns)
theorem strk_mem {c : Int} (ns : List Int) (h : c ∈ strk ns) : c ∈ ns := by
  have key : ∀ (ns l : List Int), (∀ x ∈ ns.foldl stp l, x ∈ l ∨ x ∈ ns) := by
    intro ns
    induction ns with
    | nil => intro l x hx; exact .inl hx
    | cons d ns ih =>
      intro l x hx
      rcases ih (stp l d) x hx with h | h
      · rcases stp_cases l d with ⟨m, y, e, e2⟩ | ⟨e, _⟩
        · rw [e2] at h
          rw [e]
          refine .inl ?_
          rcases List.mem_append.mp h with h | h
          · exact List.mem_append_left _ h
          · exact List.mem_append_right _ (by rw [List.mem_singleton.mp h]; exact List.mem_cons_self)
        · rw [e] at h
          rcases List.mem_append.mp h with h | h
          · exact .inl h
          · exact .inr (by rw [List.mem_singleton.mp h]; exact List.mem_cons_self)
      · exact .inr (List.mem_cons_of_mem _ h)
  rcases key ns [] c h with h | h
  · cases h
  · exact h
theorem strk_pos {ns : List Int} (h : 1 ≤ ns.length) : 1 ≤ (strk ns).length := by
  rcases List.eq_nil_or_concat ns with rfl | ⟨m, c, rfl⟩
  · exact absurd h (by decide)
  · unfold strk
    rw [List.concat_eq_append, List.foldl_append]
    obtain ⟨k, e⟩ := stp_last (List.foldl stp [] m) c
    show 1 ≤ (stp (List.foldl stp [] m) c).length
    rw [e, List.length_append]
    exact Nat.le_add_left _ _
theorem Row.strk {ns : List Int} (h : Row ns) : Row (strk ns) := ⟨strk_pos h.1, Nat.le_trans (strk_len ns) h.2.1, fun c hc => h.2.2 c (strk_mem ns hc)⟩
theorem Row.rev {ns : List Int} (h : Row ns) : Row ns.reverse := ⟨by rw [List.length_reverse]; exact h.1, by rw [List.length_reverse]; exact h.2.1, fun c hc => h.2.2 c (List.mem_reverse.mp hc)⟩
/-- an open place is a place where can be struck -/
theorem opn_red {ns : List Int} {i : Int} (h : i ∈ opn ns) : ∃ k : Nat, i = 1 + (k : Int) ∧ k + 2 < ns.length ∧ Red ns (ns.take (k + 1) ++ ns.drop (k + 3)) := by
  unfold opn at h
  obtain ⟨k, hk, rfl⟩ := List.mem_map.mp h
  obtain ⟨h1, h2⟩ := List.mem_filter.mp hk
  have h3 := List.mem_range.mp h1
  have h4 : ns[k]? = ns[k + 2]? := of_decide_eq_true h2
  have l2 : k + 2 < ns.length := by omega
  refine ⟨k, rfl, l2, ns.take k, ns[k], ns[k + 1], ns.drop (k + 3), ?_, ?_⟩
  · have e : ns[k + 2] = ns[k] := by
      rw [List.getElem?_eq_getElem (by omega), List.getElem?_eq_getElem l2] at h4
      exact (Option.some.inj h4).symm
    have d0 : ns.drop k = ns[k] :: ns.drop (k + 1) := List.drop_eq_getElem_cons (by omega)
    have d1 : ns.drop (k + 1) = ns[k + 1] :: ns.drop (k + 2) := List.drop_eq_getElem_cons (by omega)
    have d2 : ns.drop (k + 2) = ns[k + 2] :: ns.drop (k + 3) := List.drop_eq_getElem_cons l2
    rw [d2, e] at d1
    rw [d1] at d0
    have := List.take_append_drop k ns
    rw [d0] at this
    rw [List.append_assoc]
    exact this.symm
  · rw [List.take_add_one, List.getElem?_eq_getElem (by omega)]
    rfl
theorem opn_str {ns : List Int} (h : opn ns = []) : Str8 ns := fun m t q p e => by
  have h1 : (List.range (ns.length - 2)).filter (isOpn ns) = [] := List.map_eq_nil_iff.mp h
  have h2 := List.filter_eq_nil_iff.mp h1 m.length (List.mem_range.mpr (by
    rw [e, List.length_append, List.length_append]
    show m.length < m.length + 3 + p.length - 2
    omega))
  refine h2 (decide_eq_true ?_)
  have g : ∀ j, j < 3 → ns[m.length + j]? = [t, q, t][j]? := fun j hj => by
    rw [e, List.append_assoc, List.getElem?_append_right (Nat.le_add_right _ _), Nat.add_sub_cancel_left, List.getElem?_append_left hj]
  exact (g 0 (by decide)).trans (g 2 (by decide)).symm
theorem str_opn {ns : List Int} (h : Str8 ns) : opn ns = [] := by
  cases e : opn ns with
  | nil => rfl
  | cons i r =>
    obtain ⟨k, _, _, m, t, q, p, f, _⟩ := opn_red (ns := ns) (i := i) (by rw [e]; exact List.mem_cons_self)
    exact absurd f (h m t q p)
theorem red_len {a b : List Int} (h : Red a b) : b.length + 2 = a.length := by
  obtain ⟨m, t, q, p, rfl, rfl⟩ := h
  simp only [List.length_append, List.length_cons, List.length_nil]
  omega
theorem red_row {a b : List Int} (h : Red a b) (r : Row a) : Row b := by
  have hl := red_len h
  obtain ⟨m, t, q, p, rfl, rfl⟩ := h
  refine ⟨?_, by have := r.2.1; omega, fun c hc => r.2.2 c ?_⟩
  · simp only [List.length_append, List.length_cons, List.length_nil]
    omega
  · simp only [List.mem_append, List.mem_cons, List.not_mem_nil, or_false] at hc ⊢
    rcases hc with (hc | hc) | hc
    · exact .inl (.inl hc)
    · exact .inl (.inr (.inl hc))
    · exact .inr hc

/-! ### rows joined -/
theorem strk_app (a b : List Int) : strk (a ++ b) = strk (strk a ++ b) := by
  unfold strk
  rw [List.foldl_append, List.foldl_append]
  have h : List.foldl stp [] (List.foldl stp [] a) = List.foldl stp [] a := strk_idem a
  rw [h]
theorem strk_mid (a b : List Int) : strk (a ++ b) = strk (a ++ strk b) :=
  red_inv (f := fun l => strk (a ++ l)) (fun x y ⟨m, t, q, p, ex, ey⟩ => strk_red ⟨a ++ m, t, q, p, by rw [ex]; simp, by rw [ey]; simp⟩) b []
theorem head_stp (c : Int) (l : List Int) (d : Int) : (stp (c :: l) d).head? = some c := by
  rcases stp_cases (c :: l) d with ⟨m, x, e, e2⟩ | ⟨e, _⟩
  · rw [e2]
    cases m with
    | nil => exact (congrArg List.head? e).symm
    | cons y m => exact (congrArg List.head? e).symm
  · rw [e]
    rfl
theorem head_foldl : ∀ (ns : List Int) (c : Int) (l : List Int), (ns.foldl stp (c :: l)).head? = some c
  | [], _, _ => rfl
  | d :: ns, c, l => by
    have h := head_stp c l d
    cases e : stp (c :: l) d with
    | nil => rw [e] at h; cases h
    | cons x r =>
      rw [e] at h
      have ex : x = c := Option.some.inj h
      rw [ex] at e
      show (ns.foldl stp (stp (c :: l) d)).head? = some c
      rw [e]
      exact head_foldl ns c r
theorem strk_head : ∀ ns : List Int, (strk ns).head? = ns.head?
  | [] => rfl
  | c :: ns => head_foldl ns c []
theorem strk_last (ns : List Int) : (strk ns).getLast? = ns.getLast? := by
  rcases List.eq_nil_or_concat ns with rfl | ⟨m, c, rfl⟩
  · rfl
  · unfold strk
    rw [List.concat_eq_append, List.foldl_append]
    obtain ⟨k, e⟩ := stp_last (List.foldl stp [] m) c
    show (stp (List.foldl stp [] m) c).getLast? = _
    rw [e, List.getLast?_concat, List.getLast?_concat]
/-- a row's end and the next row's beginning are one stone -/
theorem glue {a b : List Int} {c : Int} (ha : a.getLast? = some c) (hb : b.head? = some c) : a ++ b.tail = a.dropLast ++ b := by
  rcases List.eq_nil_or_concat a with rfl | ⟨m, x, rfl⟩
  · cases ha
  · rw [List.concat_eq_append] at *
    rw [List.getLast?_concat] at ha
    cases Option.some.inj ha
    cases b with
    | nil => cases hb
    | cons y b =>
      cases Option.some.inj hb
      rw [List.dropLast_concat, List.append_assoc]
      rfl
/-- joining a rested row -/
theorem join_rest {a b : List Int} {c : Int} (ha : a.getLast? = some c) (hb : b.head? = some c) : strk (a ++ (strk b).tail) = strk (a ++ b.tail) := by
  rw [glue ha ((strk_head b).trans hb), glue ha hb, ← strk_mid]
theorem there_back : ∀ (a : List Int) (c : Int), a.getLast? = some c → strk (a.reverse ++ a.tail) = [c]
  | [], _, h => nomatch h
  | [x], c, h => by
    cases Option.some.inj h
    rfl
  | x :: y :: a, c, h => by
    rw [List.getLast?_cons_cons] at h
    rw [← there_back (y :: a) c h]
    exact strk_red ⟨a.reverse, y, x, a, by simp, by simp⟩
theorem str_ix {l : List Int} : Str8 l ↔ ∀ i, i + 2 < l.length → l[i]? ≠ l[i + 2]? := by
  constructor
  · intro h i hi e
    have z := str_opn h
    have : (1 + (i : Int)) ∈ opn l := List.mem_map.mpr ⟨i, List.mem_filter.mpr ⟨List.mem_range.mpr (by omega), decide_eq_true e⟩, rfl⟩
    rw [z] at this
    cases this
  · intro h
    refine opn_str ?_
    have z : (List.range (l.length - 2)).filter (isOpn l) = [] := List.filter_eq_nil_iff.mpr fun i hi e => h i (by have := List.mem_range.mp hi; omega) (of_decide_eq_true e)
    unfold opn
    rw [z]
    rfl
theorem str_mid {x y : List Int} {c : Int} (h1 : Str8 (x ++ [c])) (h2 : Str8 (c :: y)) (h3 : ∀ d, x.getLast? = some d → y.head? = some d → False) : Str8 (x ++ c :: y) := by
  rw [str_ix] at *
  intro i hi e
  rw [List.length_append, List.length_cons] at hi
  by_cases c1 : i + 2 ≤ x.length
  · refine h1 i (by rw [List.length_append]; show i + 2 < x.length + 1; omega) ?_
    have g : ∀ j, j ≤ x.length → (x ++ [c])[j]? = (x ++ c :: y)[j]? := fun j hj => by
      by_cases hj2 : j < x.length
      · rw [List.getElem?_append_left hj2, List.getElem?_append_left hj2]
      · rw [List.getElem?_append_right (by omega), List.getElem?_append_right (by omega), show j - x.length = 0 by omega]
        rfl
    rw [g i (by omega), g (i + 2) c1]
    exact e
  · by_cases c2 : x.length ≤ i
    · refine h2 (i - x.length) (by rw [List.length_cons]; omega) ?_
      rw [List.getElem?_append_right c2, List.getElem?_append_right (by omega), show i + 2 - x.length = i - x.length + 2 by omega] at e
      exact e
    · rw [List.getElem?_append_left (by omega), List.getElem?_append_right (by omega), show i + 2 - x.length = 1 by omega] at e
      have e2 : x.getLast? = y.head? := by
        rw [List.getLast?_eq_getElem?, show x.length - 1 = i by omega, e, List.head?_eq_getElem?]
        rfl
      cases f : y.head? with
      | none =>
        rw [List.head?_eq_none_iff] at f
        subst f
        simp at hi
        omega
      | some d => exact h3 d (e2.trans f) f
/-- how long two rows are alike -/
def lcp : List Int → List Int → Nat
  | a :: as, b :: bs => if a = b then lcp as bs + 1 else 0
  | _, _ => 0
theorem lcp_eq {a b : Int} {as bs : List Int} (h : a = b) : lcp (a :: as) (b :: bs) = lcp as bs + 1 := if_pos h
theorem lcp_ne {a b : Int} {as bs : List Int} (h : ¬ a = b) : lcp (a :: as) (b :: bs) = 0 := if_neg h
theorem lcp_comm : ∀ a b : List Int, lcp a b = lcp b a
  | [], [] => rfl
  | [], _ :: _ => rfl
  | _ :: _, [] => rfl
  | a :: as, b :: bs => by
    unfold lcp
    rw [lcp_comm as bs]
    by_cases h : a = b
    · rw [if_pos h, if_pos h.symm]
    · rw [if_neg h, if_neg (fun z => h z.symm)]
theorem lcp_self : ∀ a : List Int, lcp a a = a.length
  | [] => rfl
  | a :: as => by
    unfold lcp
    rw [if_pos rfl, lcp_self as]
    rfl
theorem lcp_nil (a : List Int) : lcp a [] = 0 := by cases a <;> rfl
theorem lcp_one {c : Int} : ∀ {b : List Int}, b.head? = some c → lcp [c] b = 1
  | [], h => nomatch h
  | x :: b, h => by
    cases Option.some.inj h
    unfold lcp
    rw [if_pos rfl]
    show lcp [] b + 1 = 1
    cases b <;> rfl
/-- the gap of two straight rows that begin alike -/
theorem gap_str : ∀ (a b : List Int) (c : Int), Str8 a → Str8 b → a.head? = some c → b.head? = some c → ((strk (a.reverse ++ b.tail)).length : Int) - 1 = a.length + b.length - 2 * lcp a b
  | [], _, _, _, _, h, _ => nomatch h
  | _ :: _, [], _, _, _, _, h => nomatch h
  | x :: a, y :: b, c, ha, hb, h1, h2 => by
    have ex : x = c := Option.some.inj h1
    have ey : y = c := Option.some.inj h2
    rw [ex] at ha h1 ⊢
    rw [ey] at hb h2 ⊢
    clear ex ey
    have ta : Str8 a := fun m t q p e => ha (c :: m) t q p (by rw [e]; rfl)
    have tb : Str8 b := fun m t q p e => hb (c :: m) t q p (by rw [e]; rfl)
    have el : lcp (c :: a) (c :: b) = lcp a b + 1 := by
      show (if c = c then lcp a b + 1 else 0) = _
      rw [if_pos rfl]
    have base : (∀ d, a.head? = some d → b.head? = some d → False) → lcp a b = 0 → ((strk ((c :: a).reverse ++ (c :: b).tail)).length : Int) - 1 = (c :: a).length + (c :: b).length - 2 * lcp (c :: a) (c :: b) := fun hd hl => by
      have hs : Str8 (a.reverse ++ c :: b) := str_mid (by
        have := ha.rev
        rw [List.reverse_cons] at this
        exact this) hb (fun d h3 h4 => hd d (by rw [List.getLast?_reverse] at h3; exact h3) h4)
      rw [List.reverse_cons, List.append_assoc]
      show ((strk (a.reverse ++ c :: b)).length : Int) - 1 = _
      rw [strk_id hs, el, hl, List.length_append, List.length_reverse, List.length_cons, List.length_cons]
      omega
    cases a with
    | nil => exact base (fun d h => nomatch h) (by cases b <;> rfl)
    | cons d a =>
      cases b with
      | nil => exact base (fun d _ h => nomatch h) rfl
      | cons e b =>
        by_cases hde : d = e
        · subst hde
          have ih := gap_str (d :: a) (d :: b) d ta tb rfl rfl
          have r : strk ((c :: d :: a).reverse ++ (c :: d :: b).tail) = strk ((d :: a).reverse ++ (d :: b).tail) := strk_red ⟨a.reverse, d, c, b, by simp, by simp⟩
          rw [r, el, ih, List.length_cons, List.length_cons, List.length_cons (a := c), List.length_cons (a := c), List.length_cons, List.length_cons]
          omega
        · refine base (fun f h3 h4 => hde ?_) ?_
          · exact (Option.some.inj h3).trans (Option.some.inj h4).symm
          · show (if d = e then lcp a b + 1 else 0) = 0
            rw [if_neg hde]
theorem gap_eq {a b : List Int} {c : Int} (ha : a.head? = some c) (hb : b.head? = some c) : ((strk (a.reverse ++ b.tail)).length : Int) - 1 = (strk a).length + (strk b).length - 2 * lcp (strk a) (strk b) := by
  have hl : a.reverse.getLast? = some c := by rw [List.getLast?_reverse]; exact ha
  rw [← join_rest hl hb, strk_app, strk_rev]
  exact gap_str _ _ c (strk_str a) (strk_str b) ((strk_head a).trans ha) ((strk_head b).trans hb)
theorem Row.last {ns : List Int} (h : Row ns) : ∃ c, ns.getLast? = some c ∧ 0 ≤ c ∧ c ≤ 7 := by
  rcases List.eq_nil_or_concat ns with rfl | ⟨m, c, rfl⟩
  · exact absurd h.1 (by decide)
  · rw [List.concat_eq_append] at *
    exact ⟨c, List.getLast?_concat, h.2.2 c (List.mem_append_right _ List.mem_cons_self)⟩
theorem Row.head {ns : List Int} (h : Row ns) : ∃ c, ns.head? = some c ∧ 0 ≤ c ∧ c ≤ 7 := by
  cases ns with
  | nil => exact absurd h.1 (by decide)
  | cons c r => exact ⟨c, rfl, h.2.2 c List.mem_cons_self⟩
theorem Row.join {a b : List Int} (ha : Row a) (hb : Row b) (h : a.length + b.length ≤ 201) : Row (K.strk (a ++ b.tail)) := by
  have hz : b.tail.length = b.length - 1 := List.length_tail ..
  have h1 := hb.1
  have h2 := ha.1
  have h3 := K.strk_len (a ++ b.tail)
  rw [List.length_append] at h3
  refine ⟨K.strk_pos (by rw [List.length_append]; omega), by omega, fun c hc => ?_⟩
  rcases List.mem_append.mp (K.strk_mem _ hc) with h | h
  · exact ha.2.2 c h
  · exact hb.2.2 c (List.mem_of_mem_tail h)
theorem join_head {a b : List Int} {c : Int} (h : a.head? = some c) : (strk (a ++ b.tail)).head? = some c := by
  rw [strk_head]
  cases a with
  | nil => cases h
  | cons x r => exact h
theorem join_last {a b : List Int} {c d : Int} (ha : a.getLast? = some c) (hb : b.head? = some c) (h : b.getLast? = some d) : (strk (a ++ b.tail)).getLast? = some d := by
  rw [strk_last, glue ha hb]
  rcases List.eq_nil_or_concat b with rfl | ⟨m, x, rfl⟩
  · cases h
  · rw [List.concat_eq_append, List.getLast?_concat] at h
    cases Option.some.inj h
    rw [List.concat_eq_append, ← List.append_assoc, List.getLast?_concat]
theorem rests_join {a b : List Int} {c : Int} (ha : a.getLast? = some c) (hb : b.head? = some c) : strk (strk a ++ (strk b).tail) = strk (a ++ b.tail) := by
  rw [← strk_app, join_rest ha hb]
theorem join3l (a b d : List Int) : strk (strk (a ++ b.tail) ++ d.tail) = strk (a ++ b.tail ++ d.tail) := (strk_app _ _).symm
theorem join3r {a b d : List Int} {c e : Int} (ha : a.getLast? = some c) (hb : b.head? = some c) (hb2 : b.getLast? = some e) (hd : d.head? = some e) : strk (a ++ (strk (b ++ d.tail)).tail) = strk (a ++ b.tail ++ d.tail) := by
  have h : (b ++ d.tail).head? = some c := by
    cases b with
    | nil => cases hb
    | cons x r => exact hb
  rw [join_rest ha h]
  cases b with
  | nil => cases hb
  | cons x r => rw [List.append_assoc]; rfl
theorem join_off {a b : List Int} {c d : Int} (ha : a.getLast? = some c) (hb : b.head? = some c) (hh : a.head? = some d) : strk ((strk a).reverse ++ (strk (a ++ b.tail)).tail) = strk b := by
  have hl : (strk a).reverse.getLast? = some d := by rw [List.getLast?_reverse, strk_head, hh]
  have hy : (a ++ b.tail).head? = some d := by
    cases a with
    | nil => cases hh
    | cons x r => exact hh
  rw [join_rest hl hy, ← strk_rev, ← strk_app]
  have e : a.reverse ++ (a ++ b.tail).tail = (a.reverse ++ a.tail) ++ b.tail := by
    cases a with
    | nil => cases hh
    | cons x r => rw [List.append_assoc]; rfl
  rw [e, strk_app, there_back a c ha]
  cases b with
  | nil => cases hb
  | cons x r =>
    cases Option.some.inj hb
    rfl
theorem join_back {a : List Int} {d : Int} (hh : a.head? = some d) : strk (a ++ a.reverse.tail) = a.take 1 := by
  have h := there_back a.reverse d (by rw [List.getLast?_reverse]; exact hh)
  rw [List.reverse_reverse] at h
  rw [h]
  cases a with
  | nil => cases hh
  | cons x r =>
    cases Option.some.inj hh
    rfl
theorem back_join {a : List Int} {c : Int} (ha : a.getLast? = some c) : strk (a.reverse ++ a.tail) = a.drop (a.length - 1) := by
  rw [there_back a c ha]
  rcases List.eq_nil_or_concat a with rfl | ⟨m, x, rfl⟩
  · cases ha
  · rw [List.concat_eq_append] at *
    rw [List.getLast?_concat] at ha
    cases Option.some.inj ha
    rw [List.length_append, show m.length + [c].length - 1 = m.length from rfl, List.drop_left]
theorem gap_self {a : List Int} {c : Int} (h : a.head? = some c) : ((strk (a.reverse ++ a.tail)).length : Int) - 1 = 0 := by
  rw [gap_eq h h, lcp_self]
  omega
theorem gap_comm {a b : List Int} {c : Int} (ha : a.head? = some c) (hb : b.head? = some c) : ((strk (b.reverse ++ a.tail)).length : Int) - 1 = ((strk (a.reverse ++ b.tail)).length : Int) - 1 := by
  rw [gap_eq ha hb, gap_eq hb ha, lcp_comm]
  omega
theorem gap_first {a : List Int} {c : Int} (ha : a.head? = some c) : ((strk ((a.take 1).reverse ++ a.tail)).length : Int) - 1 = (strk a).length - 1 := by
  cases a with
  | nil => cases ha
  | cons x r => rfl

/-! ### tables, plainly -/
def okAt (ns : List Int) (m : Int) (i : Nat) : Prop := ∀ c, ns[i]? = some c → (0 ≤ c ∧ c < m) ∧ ∀ d, 0 < i → ns[i - 1]? = some d → d < c
def rowOf (rows : List (List Int)) (p : Nat) : List Int := rows.getD p []
/-- what made_table asks of rows -/
structure GoodT (rows : List (List Int)) : Prop where
  n1 : 1 ≤ rows.length
  n8 : rows.length ≤ 8
  asc : ∀ row ∈ rows, ∀ i, okAt row (rows.length : Nat) i
  sym : ∀ (p : Nat) (row : List Int), rows[p]? = some row → ∀ s ∈ row, ∃ row', rows[s.toNat]? = some row' ∧ ((p : Nat) : Int) ∈ row'
theorem GoodT.lt {rows : List (List Int)} (g : GoodT rows) {row : List Int} (hr : row ∈ rows) {c : Int} (hc : c ∈ row) : 0 ≤ c ∧ c < (rows.length : Nat) := by
  obtain ⟨i, hi, rfl⟩ := List.getElem_of_mem hc
  exact (g.asc row hr i row[i] (List.getElem?_eq_getElem hi)).1
theorem row_of {rows : List (List Int)} {p : Nat} {row : List Int} (h : rows[p]? = some row) : rowOf rows p = row := by
  unfold rowOf
  rw [List.getD_eq_getElem?_getD, h]
  rfl
theorem inV_int {p : Int} : ∀ {ns : List Int}, p ∈ ns → inV (.int p) (ns.map V.int) = true
  | n :: ns, h => by
    show (eqV (.int n) (.int p) || inV (.int p) (ns.map V.int)) = true
    rcases List.mem_cons.mp h with e | e
    · subst e
      have : eqV (.int p) (.int p) = true := by simp [eqV]
      rw [this]; rfl
    · rw [inV_int e, Bool.or_true]
theorem flat_ints : ∀ ns : List Int, (ns.map V.int).all flatV = true
  | [] => rfl
  | n :: ns => by
    rw [List.map_cons, List.all_cons, flat_ints ns]
    rfl
theorem all_true : ∀ n : Nat, (List.replicate n true).all id = true
  | 0 => rfl
  | n + 1 => by rw [List.replicate_succ, List.all_cons, all_true n]; rfl
theorem all_bl {b : Bool} : ∀ {xs : List V}, (∀ (i : Nat) (v : V), xs[i]? = some v → v = .bl b) → xs = (List.replicate xs.length b).map V.bl
  | [], _ => rfl
  | x :: xs, h => by
    rw [List.length_cons, List.replicate_succ, List.map_cons, ← all_bl (xs := xs) fun i v e => h (i + 1) v e, h 0 x rfl]
theorem asc_get {row : List Int} {m : Int} (h : ∀ i, okAt row m i) : ∀ (i : Nat) (c : Int), row[i]? = some c → (i : Int) ≤ c
  | 0, c, e => (h 0 c e).1.1
  | i + 1, c, e => by
    have hi := (List.getElem?_eq_some_iff.mp e).1
    have h1 := asc_get h i (row[i]'(by omega)) (List.getElem?_eq_getElem (by omega))
    have h2 := (h (i + 1) c e).2 (row[i]'(by omega)) (by omega) (List.getElem?_eq_getElem (by omega))
    omega
theorem asc_len {rows : List (List Int)} (g : GoodT rows) {row : List Int} (hr : row ∈ rows) : row.length ≤ 8 := by
  cases h : row.length with
  | zero => omega
  | succ k =>
    have h1 := asc_get (g.asc row hr) k (row[k]'(by omega)) (List.getElem?_eq_getElem (by omega))
    have h2 := (g.asc row hr k (row[k]'(by omega)) (List.getElem?_eq_getElem (by omega))).1.2
    have := g.n8
    omega
def dblRow (row : List Int) (side : Int) : List Int := row.map fun s => 2 * s + 1 - side
def dbl (rows : List (List Int)) : List (List Int) := rows.flatMap fun row => [dblRow row 0, dblRow row 1]
theorem dbl_len : ∀ rows : List (List Int), (dbl rows).length = 2 * rows.length
  | [] => rfl
  | r :: rows => by
    have := dbl_len rows
    unfold dbl at *
    rw [List.flatMap_cons, List.length_append, this]
    show 2 + _ = 2 * (rows.length + 1)
    omega
theorem dbl_take {rows : List (List Int)} {i : Nat} {row : List Int} (h : rows[i]? = some row) : dbl (rows.take (i + 1)) = dbl (rows.take i) ++ [dblRow row 0] ++ [dblRow row 1] := by
  unfold dbl
  rw [List.take_add_one, h, List.flatMap_append, List.append_assoc]
  rfl
/-! ### even steps -/
/-- two steps from p to q -/
def Two (rows : List (List Int)) (p q : Int) : Prop := ∃ s, s ∈ rowOf rows p.toNat ∧ q ∈ rowOf rows s.toNat
inductive RchI (rows : List (List Int)) (q : Int) : Int → Prop
  | refl : RchI rows q q
  | head {p m : Int} : Two rows p m → RchI rows q m → RchI rows q p
/-- even steps lead from p to q -/
def Rch (rows : List (List Int)) (p q : Int) : Prop := RchI rows q p
theorem Rch.refl {rows : List (List Int)} {p : Int} : Rch rows p p := RchI.refl
theorem Rch.step {rows : List (List Int)} {p m q : Int} (h : Rch rows p m) (t : Two rows m q) : Rch rows p q := by
  unfold Rch at *
  induction h with
  | refl => exact .head t .refl
  | head a _ ih => exact .head a ih
theorem Rch.tr {rows : List (List Int)} {p m q : Int} (h : Rch rows p m) (t : Rch rows m q) : Rch rows p q := by
  unfold Rch at *
  induction h with
  | refl => exact t
  | head a _ ih => exact .head a ih
theorem inV_dec {p : Int} : ∀ {ns : List Int}, inV (.int p) (ns.map V.int) = decide (p ∈ ns)
  | [] => by simp [inV]
  | n :: ns => by
    by_cases h : p ∈ n :: ns
    · rw [inV_int h, decide_eq_true h]
    · rw [decide_eq_false h]
      show (eqV (.int n) (.int p) || inV (.int p) (ns.map V.int)) = false
      rw [inV_dec (ns := ns), decide_eq_false (fun z => h (List.mem_cons_of_mem _ z)), Bool.or_false]
      simp only [eqV]
      have : ¬ n = p := fun z => h (by rw [z]; exact List.mem_cons_self)
      simp [this]
theorem nodup_len : ∀ (n : Nat) (es : List Int), es.Nodup → (∀ e ∈ es, 0 ≤ e ∧ e < (n : Nat)) → es.length ≤ n
  | 0, [], _, _ => Nat.le_refl _
  | 0, e :: es, _, h => by have := h e List.mem_cons_self; omega
  | n + 1, es, hn, h => by
    have h1 := nodup_len n (es.erase (n : Nat)) (hn.erase _) fun e he => by
      have := (hn.mem_erase_iff).mp he
      have := h e this.2
      omega
    by_cases hm : ((n : Nat) : Int) ∈ es
    · rw [List.length_erase_of_mem hm] at h1
      omega
    · rw [List.erase_of_not_mem hm] at h1
      omega
def twos (rows : List (List Int)) (row : List Int) : List Int := row.flatMap fun s => rowOf rows s.toNat
theorem mem_twos {rows : List (List Int)} {p q : Int} : q ∈ twos rows (rowOf rows p.toNat) ↔ Two rows p q := by
  unfold twos Two
  rw [List.mem_flatMap]
theorem twos_take {rows : List (List Int)} {row : List Int} {i : Nat} (h : i < row.length) : twos rows (row.take (i + 1)) = twos rows (row.take i) ++ rowOf rows row[i].toNat := by
  unfold twos
  rw [List.take_add_one, List.getElem?_eq_getElem h, List.flatMap_append]
  simp
theorem two_lt {rows : List (List Int)} (g : GoodT rows) {p q : Int} (h : Two rows p q) : 0 ≤ q ∧ q < (rows.length : Nat) := by
  obtain ⟨s, _, hq⟩ := h
  unfold rowOf at hq
  rw [List.getD_eq_getElem?_getD] at hq
  cases e : rows[s.toNat]? with
  | none => rw [e] at hq; cases hq
  | some row =>
    rw [e] at hq
    exact g.lt (List.mem_of_getElem? e) hq
theorem rch_lt {rows : List (List Int)} (g : GoodT rows) {p q : Int} (hp : 0 ≤ p ∧ p < (rows.length : Nat)) (h : Rch rows p q) : 0 ≤ q ∧ q < (rows.length : Nat) := by
  unfold Rch at h
  induction h with
  | refl => exact hp
  | head a _ ih => exact ih (two_lt g a)
theorem closed_rch {rows : List (List Int)} {p : Int} {es : List Int} (hp : p ∈ es) (hc : ∀ e ∈ es, ∀ q, Two rows e q → q ∈ es) {q : Int} (h : Rch rows p q) : q ∈ es := by
  unfold Rch at h
  induction h with
  | refl => exact hp
  | head a _ ih => exact ih (hc _ hp _ a)
theorem twos_len {rows : List (List Int)} (g : GoodT rows) : ∀ row : List Int, (twos rows row).length ≤ 8 * row.length
  | [] => Nat.le_refl _
  | s :: row => by
    have := twos_len g row
    unfold twos at *
    rw [List.flatMap_cons, List.length_append, List.length_cons]
    have h2 : (rowOf rows s.toNat).length ≤ 8 := by
      unfold rowOf
      rw [List.getD_eq_getElem?_getD]
      cases e : rows[s.toNat]? with
      | none => exact Nat.zero_le _
      | some row => exact asc_len g (List.mem_of_getElem? e)
    omega
theorem snocV {xs : List Int} {c : Int} : (xs ++ [c]).map V.int = xs.map V.int ++ [V.int c] := List.map_append
theorem nodup1 {α : Type} (x : α) : [x].Nodup := by simp
/-- the least coat that even steps lead to -/
def Lst (rows : List (List Int)) (p m : Int) : Prop := Rch rows p m ∧ ∀ q, Rch rows p q → m ≤ q
theorem Lst.one {rows : List (List Int)} {p m m' : Int} (h : Lst rows p m) (h' : Lst rows p m') : m = m' := by
  have := h.2 _ h'.1
  have := h'.2 _ h.1
  omega
theorem lots_one {rows : List (List Int)} {ms ms' : List Int} (hl : ms.length = ms'.length) (h : ∀ (i : Nat) m, ms[i]? = some m → Lst rows (i : Nat) m) (h' : ∀ (i : Nat) m, ms'[i]? = some m → Lst rows (i : Nat) m) : ms = ms' :=
  List.ext_getElem hl fun i h1 h2 => (h i _ (List.getElem?_eq_getElem h1)).one (h' i _ (List.getElem?_eq_getElem h2))
theorem ints_ex {P : Nat → Int → Prop} : ∀ {xs : List V} (k : Nat), (∀ (i : Nat) (v : V), xs[i]? = some v → ∃ m, v = .int m ∧ P (k + i) m) → ∃ ms : List Int, xs = ms.map V.int ∧ ∀ (i : Nat) (m : Int), ms[i]? = some m → P (k + i) m
  | [], _, _ => ⟨[], rfl, fun i m e => by simp at e⟩
  | x :: xs, k, h => by
    obtain ⟨ms, e, hm⟩ := ints_ex (xs := xs) (P := P) (k + 1) fun i v e => by
      rw [show k + 1 + i = k + (i + 1) by omega]
      exact h (i + 1) v e
    obtain ⟨m, rfl, hp⟩ := h 0 x rfl
    refine ⟨m :: ms, by rw [e]; rfl, fun i z hz => ?_⟩
    cases i with
    | zero => cases Option.some.inj hz; exact hp
    | succ i =>
      have := hm i z hz
      rw [show k + 1 + i = k + (i + 1) by omega] at this
      exact this
/-! rounds -/
def RN (rows : List (List Int)) : Nat → Int → Int → Prop
  | 0, p, q => p = q
  | k + 1, p, q => RN rows k p q ∨ ∃ r, Two rows p r ∧ RN rows k r q
theorem RN.up {rows : List (List Int)} {p q : Int} : ∀ k, RN rows 0 p q → RN rows k p q
  | 0, h => h
  | k + 1, h => .inl (RN.up k h)
open Classical in
noncomputable def cnt (rows : List (List Int)) (q : Int) (k n : Nat) : Nat := ((List.range n).filter fun (p : Nat) => decide (RN rows k (p : Int) q)).length
open Classical in
theorem filt_le {n : Nat} {f g : Nat → Bool} (h : ∀ p, p < n → f p = true → g p = true) : ((List.range n).filter f).length ≤ ((List.range n).filter g).length ∧ ((∃ p, p < n ∧ g p = true ∧ f p = false) → ((List.range n).filter f).length + 1 ≤ ((List.range n).filter g).length) := by
  induction n with
  | zero => exact ⟨Nat.le_refl _, fun ⟨p, hp, _⟩ => absurd hp (by omega)⟩
  | succ n ih =>
    obtain ⟨i1, i2⟩ := ih fun p hp => h p (by omega)
    have hn := h n (by omega)
    rw [List.range_succ, List.filter_append, List.filter_append, List.length_append, List.length_append]
    have a1 : ([n].filter f).length = if f n = true then 1 else 0 := by
      rw [List.filter_cons]; split <;> rfl
    have a2 : ([n].filter g).length = if g n = true then 1 else 0 := by
      rw [List.filter_cons]; split <;> rfl
    rw [a1, a2]
    refine ⟨?_, fun ⟨p, hp, h1, h2⟩ => ?_⟩
    · by_cases c : f n = true
      · rw [if_pos c, if_pos (hn c)]; omega
      · rw [if_neg c]; omega
    · by_cases e : p = n
      · subst e
        rw [if_pos h1, h2, if_neg (by decide)]; omega
      · have := i2 ⟨p, by omega, h1, h2⟩
        by_cases c : f n = true
        · rw [if_pos c, if_pos (hn c)]; omega
        · rw [if_neg c]; omega
open Classical in
theorem rn_stable {rows : List (List Int)} (g : GoodT rows) {q : Int} (hq : 0 ≤ q ∧ q < (rows.length : Nat)) : ∀ k, (k + 1 ≤ cnt rows q k rows.length) ∨ ∀ p : Int, 0 ≤ p → p < (rows.length : Nat) → RN rows (k + 1) p q → RN rows k p q
  | 0 => by
    left
    have h := (filt_le (n := rows.length) (f := fun _ => false) (g := fun p => decide (RN rows 0 (p : Int) q)) fun p _ z => by cases z).2 ⟨q.toNat, by omega, decide_eq_true (show ((q.toNat : Nat) : Int) = q by omega), rfl⟩
    unfold cnt
    omega
  | k + 1 => by
    rcases rn_stable g hq k with h | h
    · by_cases c : ∀ p : Int, 0 ≤ p → p < (rows.length : Nat) → RN rows (k + 1) p q → RN rows k p q
      · right
        intro p h0 h1 hr
        rcases hr with hr | ⟨r, ht, hr⟩
        · exact hr
        · have := two_lt g ht
          exact .inr ⟨r, ht, c r this.1 this.2 hr⟩
      · left
        obtain ⟨p, hp⟩ := Classical.not_forall.mp c
        have hp1 : 0 ≤ p := Classical.byContradiction fun z => hp fun z2 => absurd z2 z
        have hp2 : p < (rows.length : Nat) := Classical.byContradiction fun z => hp fun _ z2 => absurd z2 z
        have hp3 : RN rows (k + 1) p q := Classical.byContradiction fun z => hp fun _ _ z2 => absurd z2 z
        have hp4 : ¬ RN rows k p q := fun z => hp fun _ _ _ => z
        have e : ((p.toNat : Nat) : Int) = p := by omega
        have h2 := (filt_le (n := rows.length) (f := fun p => decide (RN rows k (p : Int) q)) (g := fun p => decide (RN rows (k + 1) (p : Int) q)) fun p _ z => decide_eq_true (.inl (of_decide_eq_true z))).2 ⟨p.toNat, by omega, decide_eq_true (by rw [e]; exact hp3), decide_eq_false (by rw [e]; exact hp4)⟩
        unfold cnt at *
        omega
    · right
      intro p h0 h1 hr
      rcases hr with hr | ⟨r, ht, hr⟩
      · exact hr
      · have := two_lt g ht
        exact .inr ⟨r, ht, h r this.1 this.2 hr⟩
theorem rch_rn {rows : List (List Int)} (g : GoodT rows) {p q : Int} (hp : 0 ≤ p ∧ p < (rows.length : Nat)) (h : Rch rows p q) : RN rows rows.length p q := by
  have hq := rch_lt g hp h
  have st : ∀ p : Int, 0 ≤ p → p < (rows.length : Nat) → RN rows (rows.length + 1) p q → RN rows rows.length p q := by
    rcases rn_stable g hq rows.length with h | h
    · have : cnt rows q rows.length rows.length ≤ rows.length := by
        unfold cnt
        refine Nat.le_trans (List.length_filter_le ..) ?_
        rw [List.length_range]
        exact Nat.le_refl _
      omega
    · exact h
  unfold Rch at h
  induction h with
  | refl => exact RN.up _ rfl
  | head a _ ih => exact st _ hp.1 hp.2 (.inr ⟨_, a, ih (two_lt g a)⟩)
/-- what stands behind k rounds, in the next one behind p coats and at p behind R -/
structure Rnd (rows : List (List Int)) (k p : Nat) (R : List Int) (F : List Int) : Prop where
  len : F.length = rows.length
  ins : ∀ (i : Nat) m, F[i]? = some m → Rch rows (i : Nat) m
  dn : ∀ (i : Nat) m, F[i]? = some m → ∀ q, RN rows k (i : Nat) q → m ≤ q
  fst : ∀ (i : Nat), i < p → ∀ m, F[i]? = some m → ∀ q, RN rows (k + 1) (i : Nat) q → m ≤ q
  at_ : ∀ r ∈ R, ∀ m, F[p]? = some m → ∀ q, RN rows k r q → m ≤ q
theorem Rnd.upd {rows : List (List Int)} {k p : Nat} {R F : List Int} {x y r : Int} (h : Rnd rows k p R F) (hx : F[p]? = some x) (hy : F[r.toNat]? = some y) (h0 : 0 ≤ r) (ht : Two rows (p : Nat) r) {z : Int} (hz : (z = x ∨ z = y) ∧ z ≤ x ∧ z ≤ y) : Rnd rows k p (R ++ [r]) (F.set p z) := by
  have hp := (List.getElem?_eq_some_iff.mp hx).1
  have hr : ((r.toNat : Nat) : Int) = r := by omega
  have key : ∀ (i : Nat) m, (F.set p z)[i]? = some m → (i = p ∧ m = z) ∨ (i ≠ p ∧ F[i]? = some m) := fun i m e => by
    by_cases c : i = p
    · subst c
      rw [List.getElem?_set_self hp] at e
      exact .inl ⟨rfl, (Option.some.inj e).symm⟩
    · rw [List.getElem?_set_ne (Ne.symm c)] at e
      exact .inr ⟨c, e⟩
  refine ⟨by rw [List.length_set]; exact h.len, fun i m e => ?_, fun i m e q hq => ?_, fun i hi m e q hq => ?_, fun s hs m e q hq => ?_⟩
  · rcases key i m e with ⟨rfl, rfl⟩ | ⟨_, e⟩
    · rcases hz.1 with rfl | rfl
      · exact h.ins _ _ hx
      · have := h.ins _ _ hy
        rw [hr] at this
        exact RchI.head ht this
    · exact h.ins _ _ e
  · rcases key i m e with ⟨rfl, rfl⟩ | ⟨_, e⟩
    · exact Int.le_trans hz.2.1 (h.dn _ _ hx q hq)
    · exact h.dn _ _ e q hq
  · rcases key i m e with ⟨rfl, rfl⟩ | ⟨_, e⟩
    · exact absurd hi (by omega)
    · exact h.fst i hi _ e q hq
  · rcases key p m e with ⟨_, rfl⟩ | ⟨c, _⟩
    · rcases List.mem_append.mp hs with hs | hs
      · exact Int.le_trans hz.2.1 (h.at_ s hs _ hx q hq)
      · rw [List.mem_singleton.mp hs] at hq
        refine Int.le_trans hz.2.2 (h.dn _ _ hy q ?_)
        rw [hr]
        exact hq
    · exact absurd rfl c
theorem Rnd.nextP {rows : List (List Int)} {k p : Nat} {F : List Int} (h : Rnd rows k p (twos rows (rowOf rows p)) F) : Rnd rows k (p + 1) [] F := by
  refine ⟨h.len, h.ins, h.dn, fun i hi m e q hq => ?_, fun r hr => by cases hr⟩
  by_cases c : i < p
  · exact h.fst i c m e q hq
  · obtain rfl : i = p := by omega
    rcases hq with hq | ⟨r, ht, hq⟩
    · exact h.dn _ _ e q hq
    · refine h.at_ r ?_ m e q hq
      have := mem_twos.mpr ht
      rw [Int.toNat_natCast] at this
      exact this
theorem Rnd.nextK {rows : List (List Int)} {k : Nat} {F : List Int} (h : Rnd rows k rows.length [] F) : Rnd rows (k + 1) 0 [] F :=
  ⟨h.len, h.ins, fun i m e q hq => h.fst i (by have := (List.getElem?_eq_some_iff.mp e).1; have := h.len; omega) m e q hq, fun i hi => absurd hi (by omega), fun r hr => by cases hr⟩
theorem Rnd.fin {rows : List (List Int)} (g : GoodT rows) {F : List Int} (h : Rnd rows rows.length 0 [] F) : ∀ (i : Nat) m, F[i]? = some m → Lst rows (i : Nat) m := fun i m e => by
  have hi := (List.getElem?_eq_some_iff.mp e).1
  have := h.len
  exact ⟨h.ins i m e, fun q hq => h.dn i m e q (rch_rn g (by omega) hq)⟩
theorem Rnd.start {rows : List (List Int)} : Rnd rows 0 0 [] ((List.range rows.length).map Int.ofNat) := by
  have key : ∀ (i : Nat) (m : Int), ((List.range rows.length).map Int.ofNat)[i]? = some m → m = (i : Nat) := fun i m e => by
    rw [List.getElem?_map] at e
    cases c : (List.range rows.length)[i]? with
    | none => rw [c] at e; cases e
    | some x =>
      rw [c] at e
      obtain ⟨hi, hx⟩ := List.getElem?_eq_some_iff.mp c
      rw [List.getElem_range] at hx
      cases Option.some.inj e
      rw [← hx]
      rfl
  refine ⟨by rw [List.length_map, List.length_range], fun i m e => ?_, fun i m e q hq => ?_, fun i hi => absurd hi (by omega), fun r hr => by cases hr⟩
  · rw [key i m e]; exact .refl
  · rw [key i m e]
    have : ((i : Nat) : Int) = q := hq
    omega
/-! ### a drawn table -/
def addL (R : Nat → List Int) (i : Nat) (c : Int) : Nat → List Int := fun k => if k = i then R k ++ [c] else R k
structure Dra (many : Nat) (R : Nat → List Int) (p s : Nat) : Prop where
  nd : ∀ i, (R i).Nodup
  lt : ∀ i, ∀ c ∈ R i, 0 ≤ c ∧ c < (many : Nat)
  sym : ∀ i j : Nat, i < many → j < many → ((j : Nat) : Int) ∈ R i → ((i : Nat) : Int) ∈ R j
  old : ∀ i j : Nat, i ≤ j → ((j : Nat) : Int) ∈ R i → i < p ∨ (i = p ∧ j < s)
theorem Dra.skip {many p s : Nat} {R : Nat → List Int} (h : Dra many R p s) : Dra many R p (s + 1) :=
  ⟨h.nd, h.lt, h.sym, fun i j hij hm => by have := h.old i j hij hm; omega⟩
theorem Dra.next {many p s : Nat} {R : Nat → List Int} (h : Dra many R p s) : Dra many R (p + 1) (p + 1) :=
  ⟨h.nd, h.lt, h.sym, fun i j hij hm => by have := h.old i j hij hm; omega⟩
theorem mem_addL {R : Nat → List Int} {i k : Nat} {c d : Int} : d ∈ addL R i c k ↔ d ∈ R k ∨ (k = i ∧ d = c) := by
  unfold addL
  by_cases h : k = i
  · rw [if_pos h, List.mem_append, List.mem_singleton]
    exact ⟨fun z => z.imp id fun e => ⟨h, e⟩, fun z => z.imp id fun e => e.2⟩
  · rw [if_neg h]
    exact ⟨.inl, fun z => z.elim id fun e => absurd e.1 h⟩
theorem nd_addL {R : Nat → List Int} {i : Nat} {c : Int} (h : ∀ k, (R k).Nodup) (hc : c ∉ R i) : ∀ k, (addL R i c k).Nodup := fun k => by
  unfold addL
  by_cases e : k = i
  · rw [if_pos e]
    refine List.nodup_append.mpr ⟨h k, nodup1 _, fun a ha b hb => ?_⟩
    rw [List.mem_singleton.mp hb]
    intro z
    rw [z, e] at ha
    exact hc ha
  · rw [if_neg e]
    exact h k
theorem Dra.self {many p : Nat} {R : Nat → List Int} (h : Dra many R p p) (hp : p < many) : Dra many (addL R p (p : Nat)) p (p + 1) := by
  refine ⟨nd_addL h.nd fun z => ?_, fun i c hc => ?_, fun i j hi hj hm => ?_, fun i j hij hm => ?_⟩
  · have := h.old p p (Nat.le_refl _) z
    omega
  · rcases mem_addL.mp hc with hc | ⟨_, rfl⟩
    · exact h.lt i c hc
    · omega
  · rcases mem_addL.mp hm with hm | ⟨h1, h2⟩
    · exact mem_addL.mpr (.inl (h.sym i j hi hj hm))
    · have : j = p := by omega
      subst h1
      subst this
      exact mem_addL.mpr (.inr ⟨rfl, rfl⟩)
  · rcases mem_addL.mp hm with hm | ⟨h1, h2⟩
    · have := h.old i j hij hm
      omega
    · omega
theorem Dra.two {many p s : Nat} {R : Nat → List Int} (h : Dra many R p s) (hps : p < s) (hs : s < many) : Dra many (addL (addL R p (s : Nat)) s (p : Nat)) p (s + 1) := by
  have n1 : ((s : Nat) : Int) ∉ R p := fun z => by
    have := h.old p s (Nat.le_of_lt hps) z
    omega
  have n2 : ((p : Nat) : Int) ∉ R s := fun z => n1 (h.sym s p hs (by omega) z)
  refine ⟨nd_addL (nd_addL h.nd n1) fun z => ?_, fun i c hc => ?_, fun i j hi hj hm => ?_, fun i j hij hm => ?_⟩
  · rcases mem_addL.mp z with z | ⟨e, _⟩
    · exact n2 z
    · omega
  · rcases mem_addL.mp hc with hc | ⟨_, rfl⟩
    · rcases mem_addL.mp hc with hc | ⟨_, rfl⟩
      · exact h.lt i c hc
      · omega
    · omega
  · rcases mem_addL.mp hm with hm | ⟨h1, h2⟩
    · rcases mem_addL.mp hm with hm | ⟨h1, h2⟩
      · exact mem_addL.mpr (.inl (mem_addL.mpr (.inl (h.sym i j hi hj hm))))
      · have : j = s := by omega
        subst h1
        subst this
        exact mem_addL.mpr (.inr ⟨rfl, rfl⟩)
    · have : j = p := by omega
      subst h1
      subst this
      exact mem_addL.mpr (.inl (mem_addL.mpr (.inr ⟨rfl, rfl⟩)))
  · rcases mem_addL.mp hm with hm | ⟨h1, h2⟩
    · rcases mem_addL.mp hm with hm | ⟨h1, h2⟩
      · have := h.old i j hij hm
        omega
      · omega
    · omega
theorem asc_ok {row : List Int} {m : Int} (hp : row.Pairwise (· ≤ ·)) (hn : row.Nodup) (hl : ∀ c ∈ row, 0 ≤ c ∧ c < m) : ∀ i, okAt row m i := fun i c hc => by
  obtain ⟨hi, rfl⟩ := List.getElem?_eq_some_iff.mp hc
  refine ⟨hl _ (List.getElem_mem hi), fun d h0 hd => ?_⟩
  obtain ⟨hj, rfl⟩ := List.getElem?_eq_some_iff.mp hd
  have h1 := (List.pairwise_iff_getElem.mp hp) (i - 1) i hj hi (by omega)
  have h2 := (List.pairwise_iff_getElem.mp hn) (i - 1) i hj hi (by omega)
  have : ¬ row[i - 1] = row[i] := h2
  have h3 : row[i - 1] ≤ row[i] := h1
  omega
theorem Dra.good {many p s : Nat} {R : Nat → List Int} (h : Dra many R p s) (h1 : 1 ≤ many) (h8 : many ≤ 8) {rows : List (List Int)} (hl : rows.length = many) (hr : ∀ (i : Nat) row, rows[i]? = some row → row.Perm (R i) ∧ row.Pairwise (· ≤ ·)) : GoodT rows := by
  refine ⟨by omega, by omega, fun row hrow => ?_, fun q row hq s hs => ?_⟩
  · obtain ⟨i, hi, rfl⟩ := List.getElem_of_mem hrow
    obtain ⟨hp, hw⟩ := hr i _ (List.getElem?_eq_getElem hi)
    rw [hl]
    exact asc_ok hw (hp.nodup_iff.mpr (h.nd i)) fun c hc => h.lt i c (hp.mem_iff.mp hc)
  · obtain ⟨hp, _⟩ := hr q row hq
    have hs2 := hp.mem_iff.mp hs
    have hlt := h.lt q s hs2
    have hq2 := (List.getElem?_eq_some_iff.mp hq).1
    have e : ((s.toNat : Nat) : Int) = s := by omega
    rw [← e] at hs2
    have := h.sym q s.toNat (by omega) (by omega) hs2
    have hi : s.toNat < rows.length := by omega
    refine ⟨rows[s.toNat], List.getElem?_eq_getElem hi, ?_⟩
    exact (hr s.toNat _ (List.getElem?_eq_getElem hi)).1.mem_iff.mpr this
structure HB (D : Addr) (bs : List Addr) (R : Nat → List Int) (H : Hp) : Prop where
  d : H D = some (.lst (bs.map V.ref))
  at_ : ∀ (i : Nat) b, bs[i]? = some b → H b = some (.lst ((R i).map V.int))
theorem HB.app {D b : Addr} {bs : List Addr} {R : Nat → List Int} {H : Hp} {i : Nat} {c : Int} (h : HB D bs R H) (nd : bs.Nodup) (nD : D ∉ bs) (hi : bs[i]? = some b) : HB D bs (addL R i c) (upd H b (.lst ((R i).map V.int ++ [V.int c]))) := by
  refine ⟨?_, fun j b' hj => ?_⟩
  · have hm := List.mem_of_getElem? hi
    rw [upd_ne (fun z => nD (by rw [z]; exact hm))]
    exact h.d
  · by_cases e : j = i
    · subst e
      rw [hi] at hj
      cases Option.some.inj hj
      rw [upd_same]
      unfold addL
      rw [if_pos rfl, snocV]
    · have ne : b' ≠ b := fun z => by
        subst z
        obtain ⟨h1, h2⟩ := List.getElem?_eq_some_iff.mp hj
        obtain ⟨h3, h4⟩ := List.getElem?_eq_some_iff.mp hi
        rcases Nat.lt_or_gt_of_ne e with q | q
        · exact (List.pairwise_iff_getElem.mp nd) j i h1 h3 q (h2.trans h4.symm)
        · exact (List.pairwise_iff_getElem.mp nd) i j h3 h1 q (h4.trans h2.symm)
      rw [upd_ne ne]
      unfold addL
      rw [if_neg e]
      exact h.at_ j b' hj
theorem HB.exb {D p : Addr} {bs : List Addr} {R : Nat → List Int} {H H1 : Hp} (h : HB D bs R H) (e : Exb p H H1) (hD : D ≠ p) (hb : ∀ b ∈ bs, b ≠ p) : HB D bs R H1 :=
  ⟨e _ _ hD h.d, fun i b hi => e _ _ (hb b (List.mem_of_getElem? hi)) (h.at_ i b hi)⟩
theorem HB.same {D : Addr} {bs : List Addr} {R : Nat → List Int} {H H1 : Hp} (h : HB D bs R H) (e : Same H H1) : HB D bs R H1 :=
  ⟨e _ _ h.d, fun i b hi => e _ _ (h.at_ i b hi)⟩
def toldD (rows : List (List Int)) : PyData := if 2 * rows.length ≤ 8 then .tuple [.int (2 * (rows.length : Nat)), .tuple ((dbl rows).map rowD)] else .tuple [.str "size", .int (2 * (rows.length : Nat))]
theorem dp2 {K : PySem.W.Frag} {H : Hp} {a : Addr} {u v : V} {d e : PyData} (h : SqT K H a [u, v]) (h1 : Dp K H u d) (h2 : Dp K H v e) : Dp K H (.ref a) (.tuple [d, e]) := .tup h (.cons h1 (.cons h2 .nil))
theorem gN {i : Nat} {v : V} {σ : L2.St} {H : Hp} {k : L2.St → Hp → Prop} (h : k (σ.set i (some v)) H) : gName i v σ H k := h
theorem asgK {te : TE} {i : Nat} {u : TS} {D : Ends} {σ : L2.St} {H : Hp} (A : V → Hp → Prop) (h1 : ∀ R : VK, (∀ v H', A v H' → R v H') → te σ H R) (h2 : ∀ v H', A v H' → u D (σ.set i (some v)) H') : tSeq (tAsg te (gName i)) u D σ H := h1 _ h2
theorem GoodT.abs {rows : List (List Int)} (g : GoodT rows) : ∀ r ∈ rows, r.length ≤ 8 ∧ ∀ c ∈ r, c.natAbs < 2 ^ 60 := fun r hr => ⟨asc_len g hr, fun c hc => by
  have := g.lt hr hc
  have := g.n8
  have e : (2 : Nat) ^ 60 = 1152921504606846976 := by decide
  omega⟩
theorem GoodT.shows {rows : List (List Int)} (g : GoodT rows) : Sh 72 2 (.tuple (rows.map rowD)) := (Sh.rows (m := 8) (n := 8) g.abs g.n8).le (by decide) (by decide)
theorem dbl_abs {rows : List (List Int)} (g : GoodT rows) : ∀ r ∈ dbl rows, r.length ≤ 8 ∧ ∀ c ∈ r, c.natAbs < 2 ^ 60 := fun r hr => by
  unfold dbl at hr
  obtain ⟨row, hrow, hr⟩ := List.mem_flatMap.mp hr
  have key : ∀ side : Int, 0 ≤ side → side ≤ 1 → (dblRow row side).length ≤ 8 ∧ ∀ c ∈ dblRow row side, c.natAbs < 2 ^ 60 := fun side h0 h1 => by
    unfold dblRow
    refine ⟨by rw [List.length_map]; exact asc_len g hrow, fun c hc => ?_⟩
    obtain ⟨d, hd, rfl⟩ := List.mem_map.mp hc
    have := g.lt hrow hd
    have := g.n8
    have e : (2 : Nat) ^ 60 = 1152921504606846976 := by decide
    omega
  rcases List.mem_cons.mp hr with rfl | hr
  · exact key 0 (by decide) (by decide)
  · rw [List.mem_singleton.mp hr]
    exact key 1 (by decide) (by decide)
theorem _root_.Bw.Sh.all {b k : Nat} {d : PyData} (h : Sh b k d) (hb : b ≤ 200000) (hk : k < 64) : d.showable = true ∧ d.hasDict = false ∧ d.depth < 64 ∧ d.shown.length ≤ sizeLine := ⟨h.sh, h.nod, Nat.lt_of_le_of_lt h.dp hk, h.fits hb⟩
theorem told_shows {rows : List (List Int)} (g : GoodT rows) : Sh 200 3 (toldD rows) := by
  have n8 := g.n8
  have e : (2 : Nat) ^ 60 = 1152921504606846976 := by decide
  have hi : Sh 72 2 (.int (2 * (rows.length : Nat))) := (Sh.int (by omega)).le (by decide) (by decide)
  unfold toldD
  by_cases c : 2 * rows.length ≤ 8
  · rw [if_pos c]
    exact (Sh.pair hi ((Sh.rows (m := 8) (n := 8) (dbl_abs g) (by rw [dbl_len]; exact c)).le (by decide) (by decide))).le (by decide) (by decide)
  · rw [if_neg c]
    exact (Sh.pair (b := 72) (k := 2) ⟨by decide, by decide, by decide, by decide, by decide⟩ hi).le (by decide) (by decide)
theorem lots_shows {rows : List (List Int)} (g : GoodT rows) {ms : List Int} (hl : ms.length = rows.length) (h : ∀ (i : Nat) m, ms[i]? = some m → Lst rows (i : Nat) m) : Sh 8 1 (rowD ms) := by
  have n8 := g.n8
  refine Sh.row (fun c hc => ?_) (by omega)
  obtain ⟨i, hi, rfl⟩ := List.getElem_of_mem hc
  have := rch_lt g (p := (i : Nat)) (by omega) (h i _ (List.getElem?_eq_getElem hi)).1
  have e : (2 : Nat) ^ 60 = 1152921504606846976 := by decide
  omega
theorem asc_nd {row : List Int} {m : Int} (h : ∀ i, okAt row m i) : row.Nodup := by
  refine List.pairwise_iff_getElem.mpr fun i j hi hj hij => ?_
  have key : ∀ k, (hk : i + k + 1 < row.length) → row[i] < row[i + k + 1] := fun k => by
    induction k with
    | zero => exact fun hk => (h (i + 1) _ (List.getElem?_eq_getElem hk)).2 _ (by omega) (List.getElem?_eq_getElem hi)
    | succ k ih =>
      intro hk
      have h1 := ih (by omega)
      have h2 := (h (i + (k + 1) + 1) _ (List.getElem?_eq_getElem hk)).2 _ (by omega) (List.getElem?_eq_getElem (by omega))
      have e : row[i + (k + 1) + 1 - 1]'(by omega) = row[i + k + 1]'(by omega) := rfl
      rw [e] at h2
      omega
  have := key (j - i - 1) (by omega)
  have e : row[i + (j - i - 1) + 1]'(by omega) = row[j] := by congr 1; omega
  rw [e] at this
  intro z
  have z2 : row[i] = row[j] := z
  omega

/-! ### nets, plainly -/
def thR (ths : List (Int × Int)) : List (List Int) := ths.map fun e => [e.1, e.2]
/-- each a pair of places, the lesser first -/
def InN (n : Nat) (ths : List (Int × Int)) : Prop := ∀ e ∈ ths, 0 ≤ e.1 ∧ e.1 < e.2 ∧ e.2 < (n : Nat)
def Adj (ths : List (Int × Int)) (p c : Int) : Prop := (p, c) ∈ ths ∨ (c, p) ∈ ths
def nStep (R : Nat → List Int) (e : Int × Int) : Nat → List Int := addL (addL R e.1.toNat e.2) e.2.toNat e.1
def nR (ths : List (Int × Int)) : Nat → List Int := ths.foldl nStep fun _ => []
theorem nR_snoc (ths : List (Int × Int)) (e : Int × Int) : nR (ths ++ [e]) = nStep (nR ths) e := by
  unfold nR
  rw [List.foldl_append]
  rfl
theorem snocInd {α : Type} {P : List α → Prop} (h0 : P []) (hs : ∀ xs x, P xs → P (xs ++ [x])) (xs : List α) : P xs := by
  have h : ∀ ys : List α, P ys.reverse := fun ys => by
    induction ys with
    | nil => exact h0
    | cons y ys ih =>
      rw [List.reverse_cons]
      exact hs _ _ ih
  have := h xs.reverse
  rw [List.reverse_reverse] at this
  exact this
theorem nR_ok {n : Nat} : ∀ (ths : List (Int × Int)), ths.Nodup → InN n ths → (∀ p, (nR ths p).Nodup) ∧ ∀ (p : Nat) (c : Int), c ∈ nR ths p ↔ Adj ths (p : Nat) c := by
  refine snocInd (fun _ _ => ⟨fun _ => List.nodup_nil, fun p c => ⟨fun h => (by cases h), fun h => (by rcases h with h | h <;> cases h)⟩⟩) fun ths e ih => ?_
  · intro nd hi
    obtain ⟨n1, n2, n3⟩ := List.nodup_append.mp nd
    obtain ⟨i1, i2⟩ := ih n1 fun x hx => hi x (List.mem_append_left _ hx)
    obtain ⟨e0, e1, e2⟩ := hi e (List.mem_append_right _ (List.mem_singleton_self _))
    have he : e ∉ ths := fun z => n3 e z e (List.mem_singleton_self _) rfl
    have m1 : ∀ (p : Nat) (c : Int), c ∈ nR (ths ++ [e]) p ↔ Adj (ths ++ [e]) (p : Nat) c := fun p c => by
      rw [nR_snoc]
      unfold nStep
      rw [mem_addL, mem_addL, i2]
      unfold Adj
      rw [List.mem_append, List.mem_append, List.mem_singleton, List.mem_singleton]
      obtain ⟨x, y⟩ := e
      simp only [Prod.mk.injEq]
      dsimp only at e0 e1 e2
      constructor
      · rintro ((h | ⟨h1, h2⟩) | ⟨h1, h2⟩)
        · rcases h with h | h
          · exact .inl (.inl h)
          · exact .inr (.inl h)
        · exact .inl (.inr ⟨by omega, h2⟩)
        · exact .inr (.inr ⟨h2, by omega⟩)
      · rintro ((h | ⟨h1, h2⟩) | (h | ⟨h1, h2⟩))
        · exact .inl (.inl (.inl h))
        · exact .inl (.inr ⟨by omega, h2⟩)
        · exact .inl (.inl (.inr h))
        · exact .inr ⟨by omega, h1⟩
    refine ⟨?_, m1⟩
    rw [nR_snoc]
    unfold nStep
    obtain ⟨x, y⟩ := e
    dsimp only at e0 e1 e2 ⊢
    have q1 : y ∉ nR ths x.toNat := fun z => by
      rcases (i2 _ _).mp z with h | h
      · rw [show ((x.toNat : Nat) : Int) = x by omega] at h
        exact he h
      · rw [show ((x.toNat : Nat) : Int) = x by omega] at h
        have := hi _ (List.mem_append_left _ h)
        dsimp only at this
        omega
    refine nd_addL (nd_addL i1 q1) fun z => ?_
    rcases mem_addL.mp z with z | ⟨z1, z2⟩
    · rcases (i2 _ _).mp z with h | h
      · rw [show ((y.toNat : Nat) : Int) = y by omega] at h
        have := hi _ (List.mem_append_left _ h)
        dsimp only at this
        omega
      · rw [show ((y.toNat : Nat) : Int) = y by omega] at h
        exact he h
    · omega
structure NearOk (n : Nat) (ths : List (Int × Int)) (nrs : List (List Int)) : Prop where
  len : nrs.length = n
  asc : ∀ row ∈ nrs, ∀ i, okAt row (n : Nat) i
  mem : ∀ (p : Nat) row, nrs[p]? = some row → ∀ c, c ∈ row ↔ Adj ths (p : Nat) c
theorem adj_lt {n : Nat} {ths : List (Int × Int)} (h : InN n ths) {p c : Int} (a : Adj ths p c) : 0 ≤ c ∧ c < (n : Nat) := by
  rcases a with a | a
  · have := h _ a; dsimp only at this; omega
  · have := h _ a; dsimp only at this; omega
theorem near_of {n : Nat} {ths : List (Int × Int)} (nd : ths.Nodup) (hi : InN n ths) {nrs : List (List Int)} (hl : nrs.length = n) (h : ∀ (k : Nat) row, nrs[k]? = some row → row.Perm (nR ths k) ∧ row.Pairwise (· ≤ ·)) : NearOk n ths nrs := by
  obtain ⟨i1, i2⟩ := nR_ok ths nd hi
  refine ⟨hl, fun row hr => ?_, fun p row hp c => ?_⟩
  · obtain ⟨k, hk, rfl⟩ := List.getElem_of_mem hr
    obtain ⟨g1, g2⟩ := h k _ (List.getElem?_eq_getElem hk)
    exact asc_ok g2 (g1.nodup_iff.mpr (i1 k)) fun c hc => adj_lt hi ((i2 k c).mp (g1.mem_iff.mp hc))
  · exact (h p row hp).1.mem_iff.trans (i2 p c)
theorem nR_len {n : Nat} {ths : List (Int × Int)} (nd : ths.Nodup) (hi : InN n ths) (p : Nat) : (nR ths p).length ≤ n := by
  obtain ⟨i1, i2⟩ := nR_ok ths nd hi
  exact nodup_len n _ (i1 p) fun c hc => adj_lt hi ((i2 p c).mp hc)
/-- a net at t -/
def NB (K : PySem.W.Frag) (C : Addr) (H : Hp) (t : Addr) (n : Nat) (ths : List (Int × Int)) : Prop := ∃ dx r s nrs, H t = some (.ins C dx [("many", .int (n : Nat)), ("threads", .ref r), ("near", .ref s)]) ∧ TT K H r (thR ths) ∧ TT K H s nrs ∧ NearOk n ths nrs
theorem NB.same {K : PySem.W.Frag} {C t : Addr} {H H1 : Hp} {n : Nat} {ths : List (Int × Int)} (e : Same H H1) (h : NB K C H t n ths) : NB K C H1 t n ths := by
  obtain ⟨dx, r, s, nrs, h1, h2, h3, h4⟩ := h
  exact ⟨dx, r, s, nrs, e _ _ h1, h2.same e, h3.same e, h4⟩
def RwsN (K : PySem.W.Frag) (t : Addr) (H : Hp) (us : List V) (rs : List (List Int)) : Prop := ∀ H2, (∀ b o, b ≠ t → H b = some o → H2 b = some o) → Rws K H2 us rs
def kvOf (ord : List (Int × Int)) : List (Key × V) := ord.map fun e => (.inl e.1, .int e.2)
/-- places in the order in which they are come to from x, each with the one it is come to from -/
structure Ord (ths : List (Int × Int)) (x : Int) (ord : List (Int × Int)) : Prop where
  fst : ord[0]? = some (x, -1)
  nd : (ord.map (·.1)).Nodup
  up : ∀ (i : Nat) e, ord[i]? = some e → 0 < i → ∃ (j : Nat) (f : Int × Int), j < i ∧ ord[j]? = some f ∧ f.1 = e.2 ∧ Adj ths e.2 e.1
  all : ∀ e ∈ ord, ∀ c, Adj ths e.1 c → c ∈ ord.map (·.1)
theorem valV_of {p : Int} : ∀ {ord : List (Int × Int)}, (valV (kvOf ord) (.inl p)).isSome = decide (p ∈ ord.map (·.1))
  | [] => rfl
  | e :: ord => by
    unfold kvOf at *
    rw [List.map_cons]
    by_cases h : e.1 = p
    · rw [valV_pos (by rw [h])]
      rw [List.map_cons, decide_eq_true (by rw [h]; exact List.mem_cons_self)]
      rfl
    · rw [valV_neg (fun z => h (Sum.inl.inj z))]
      have := valV_of (p := p) (ord := ord)
      unfold kvOf at this
      rw [this, List.map_cons]
      refine decide_eq_decide.mpr ⟨List.mem_cons_of_mem _, fun z => ?_⟩
      rcases List.mem_cons.mp z with z | z
      · exact absurd z.symm h
      · exact z
/-- under way: the first k places are done -/
structure Bfs (ths : List (Int × Int)) (x n : Nat) (ord : List (Int × Int)) (k : Nat) : Prop where
  fst : ord[0]? = some ((x : Int), -1)
  nd : (ord.map (·.1)).Nodup
  up : ∀ (i : Nat) e, ord[i]? = some e → 0 < i → ∃ (j : Nat) (f : Int × Int), j < i ∧ ord[j]? = some f ∧ f.1 = e.2 ∧ Adj ths e.2 e.1
  rng : ∀ e ∈ ord, 0 ≤ e.1 ∧ e.1 < (n : Nat)
  done : ∀ (i : Nat) e, i < k → ord[i]? = some e → ∀ c, Adj ths e.1 c → c ∈ ord.map (·.1)
  le : k ≤ ord.length
theorem Bfs.size {ths : List (Int × Int)} {x n k : Nat} {ord : List (Int × Int)} (h : Bfs ths x n ord k) : ord.length ≤ n := by
  have := nodup_len n (ord.map (·.1)) h.nd fun e he => by
    obtain ⟨f, hf, rfl⟩ := List.mem_map.mp he
    exact h.rng f hf
  rw [List.length_map] at this
  exact this
theorem Bfs.start {ths : List (Int × Int)} {x n : Nat} (hx : x < n) : Bfs ths x n [((x : Int), -1)] 0 := by
  refine ⟨rfl, nodup1 _, fun i e he h0 => ?_, fun e he => ?_, fun i e hi => absurd hi (by omega), Nat.zero_le _⟩
  · have := (List.getElem?_eq_some_iff.mp he).1
    have h2 : i < 1 := this
    omega
  · rw [List.mem_singleton.mp he]
    dsimp only
    omega
theorem Bfs.snoc {ths : List (Int × Int)} {x n k : Nat} {ord : List (Int × Int)} {c : Int} {f : Int × Int} (h : Bfs ths x n ord k) (hc : c ∉ ord.map (·.1)) (hk : k < ord.length) (hf : ord[k]? = some f) (ha : Adj ths f.1 c) (hr : 0 ≤ c ∧ c < (n : Nat)) : Bfs ths x n (ord ++ [(c, f.1)]) k := by
  have h0 : 0 < ord.length := by omega
  refine ⟨by rw [List.getElem?_append_left h0]; exact h.fst, ?_, fun i e he hi => ?_, fun e he => ?_, fun i e hi he c' ha' => ?_, by rw [List.length_append]; omega⟩
  · rw [List.map_append]
    refine List.nodup_append.mpr ⟨h.nd, nodup1 _, fun a ha b hb => ?_⟩
    have : b = c := by simpa using hb
    rw [this]
    exact fun z => hc (z ▸ ha)
  · by_cases hl : i < ord.length
    · rw [List.getElem?_append_left hl] at he
      obtain ⟨j, g, hj, hg, g1, g2⟩ := h.up i e he hi
      exact ⟨j, g, hj, by rw [List.getElem?_append_left (by omega)]; exact hg, g1, g2⟩
    · have hl2 := (List.getElem?_eq_some_iff.mp he).1
      rw [List.length_append] at hl2
      have ei : i = ord.length := by
        have : i < ord.length + 1 := hl2
        omega
      subst ei
      rw [List.getElem?_append_right (Nat.le_refl _), Nat.sub_self] at he
      cases Option.some.inj he
      exact ⟨k, f, hk, by rw [List.getElem?_append_left hk]; exact hf, rfl, ha⟩
  · rcases List.mem_append.mp he with he | he
    · exact h.rng e he
    · rw [List.mem_singleton.mp he]
      exact hr
  · rw [List.map_append]
    rw [List.getElem?_append_left (by omega)] at he
    exact List.mem_append_left _ (h.done i e hi he c' ha')
theorem Bfs.next {ths : List (Int × Int)} {x n k : Nat} {ord : List (Int × Int)} (h : Bfs ths x n ord k) (hk : ∀ e, ord[k]? = some e → ∀ c, Adj ths e.1 c → c ∈ ord.map (·.1)) (hl : k < ord.length := by assumption) : Bfs ths x n ord (k + 1) := by
  refine ⟨h.fst, h.nd, h.up, h.rng, fun i e hi he c ha => ?_, hl⟩
  by_cases e2 : i < k
  · exact h.done i e e2 he c ha
  · have : i = k := by omega
    subst this
    exact hk e he c ha
theorem Bfs.fin {ths : List (Int × Int)} {x n k : Nat} {ord : List (Int × Int)} (h : Bfs ths x n ord k) (hk : ord.length ≤ k) : Ord ths (x : Nat) ord :=
  ⟨h.fst, h.nd, h.up, fun e he c ha => by
    obtain ⟨i, hi, rfl⟩ := List.getElem_of_mem he
    exact h.done i _ (by omega) (List.getElem?_eq_getElem hi) c ha⟩
/-- what made_net asks -/
structure GoodN (n : Nat) (ths : List (Int × Int)) : Prop where
  n1 : 1 ≤ n
  n24 : n ≤ 24
  len : ths.length ≤ 60
  rng : InN n ths
  asc : ths.Pairwise fun e f => e.1 < f.1 ∨ (e.1 = f.1 ∧ e.2 < f.2)
  con : ∀ ord, Ord ths 0 ord → ∀ p : Nat, p < n → ((p : Nat) : Int) ∈ ord.map (·.1)
theorem GoodN.nodup {n : Nat} {ths : List (Int × Int)} (g : GoodN n ths) : ths.Nodup := g.asc.imp fun {e f} h z => by
  rw [z] at h
  omega
theorem le2 {x y x' y' : Int} (h : x' < x ∨ (x' = x ∧ y' < y)) : Ob.lexAt (fun j => decide ([x, y].getD j 0 = [x', y'].getD j 0)) (fun j => decide ([x, y].getD j 0 ≤ [x', y'].getD j 0)) (decide ([x, y].length ≤ [x', y'].length)) 0 (min [x, y].length [x', y'].length) = false := by
  show Ob.lexAt _ _ _ 0 2 = false
  simp only [Ob.lexAt, List.getD_cons_zero, List.getD_cons_succ]
  rcases h with h | ⟨h1, h2⟩
  · have e1 : ¬ x = x' := by omega
    have e2 : ¬ x ≤ x' := by omega
    simp [e1, e2]
  · have e2 : ¬ y = y' := by omega
    have e3 : ¬ y ≤ y' := by omega
    simp [h1, e2, e3]

/-- a world at w -/
def WB (K : PySem.W.Frag) (CT CN CW : Addr) (H : Hp) (w : Addr) (rows : List (List Int)) (n : Nat) (ths : List (Int × Int)) (ps : List Int) : Prop := ∃ dx t m p, H w = some (.ins CW dx [("table", .ref t), ("net", .ref m), ("pegs", .ref p), ("base", .int (ps.headD 0))]) ∧ TB K CT H t rows ∧ NB K CN H m n ths ∧ SqT K H p (ps.map V.int)
theorem WB.same {K : PySem.W.Frag} {CT CN CW w : Addr} {H H1 : Hp} {rows : List (List Int)} {n : Nat} {ths : List (Int × Int)} {ps : List Int} (e : Same H H1) (h : WB K CT CN CW H w rows n ths ps) : WB K CT CN CW H1 w rows n ths ps := by
  obtain ⟨dx, t, m, p, h1, h2, h3, h4⟩ := h
  exact ⟨dx, t, m, p, e _ _ h1, h2.same e, h3.same e, e.tup h4⟩
/-- the stone at p fits under those before it -/
def FitP (rows : List (List Int)) (ths : List (Int × Int)) (st : List Int) (p : Nat) : Prop := ∃ c, st[p]? = some c ∧ 0 ≤ c ∧ c < (rows.length : Nat) ∧ ∀ o : Int, Adj ths (p : Nat) o → o < (p : Nat) → ∃ d, st[o.toNat]? = some d ∧ d ∈ rowOf rows c.toNat
/-- the row's stone at i is a coat of the table, beside the one before it -/
def rowAt (rows : List (List Int)) (row : List Int) (i : Nat) : Prop := ∀ c, row[i]? = some c → (0 ≤ c ∧ c < (rows.length : Nat)) ∧ ∀ d : Int, 0 < i → row[i - 1]? = some d → c ∈ rowOf rows d.toNat

def LinkRow (rows : List (List Int)) (row : List Int) (x y : Int) : Prop := row.length % 2 = 1 ∧ row.head? = some x ∧ row.getLast? = some y ∧ (∀ i, rowAt rows row i) ∧ opn row = []
/-- a list of lists of whole numbers at l -/
def LL (H : Hp) (l : Addr) (rows : List (List Int)) : Prop := ∃ bs : List Addr, H l = some (.lst (bs.map V.ref)) ∧ bs.length = rows.length ∧ ∀ (i : Nat) b row, bs[i]? = some b → rows[i]? = some row → H b = some (.lst (row.map V.int))
theorem LL.same {H H1 : Hp} {l : Addr} {rows : List (List Int)} (e : Same H H1) (h : LL H l rows) : LL H1 l rows := by
  obtain ⟨bs, h1, h2, h3⟩ := h
  exact ⟨bs, e _ _ h1, h2, fun i b row hb hr => e _ _ (h3 i b row hb hr)⟩
/-- the same, all of it new since H0 -/
def LLf (H0 H : Hp) (l : Addr) (rows : List (List Int)) : Prop := H0 l = none ∧ ∃ bs : List Addr, H l = some (.lst (bs.map V.ref)) ∧ bs.length = rows.length ∧ (∀ (i : Nat) b row, bs[i]? = some b → rows[i]? = some row → H b = some (.lst (row.map V.int))) ∧ ∀ b ∈ bs, H0 b = none
/-- the same, none of it at p -/
def LLp (p : Addr) (H : Hp) (l : Addr) (rows : List (List Int)) : Prop := l ≠ p ∧ ∃ bs : List Addr, H l = some (.lst (bs.map V.ref)) ∧ bs.length = rows.length ∧ (∀ (i : Nat) b row, bs[i]? = some b → rows[i]? = some row → H b = some (.lst (row.map V.int))) ∧ p ∉ bs
theorem LLf.of {H0 H : Hp} {p l : Addr} {rows : List (List Int)} (h : LLf H0 H l rows) (s : Src H0 p) : LLp p H l rows := by
  obtain ⟨h0, bs, h1, h2, h3, h4⟩ := h
  exact ⟨s.ne h0, bs, h1, h2, h3, fun hp => s.ne (h4 p hp) rfl⟩
theorem LLp.same {H H1 : Hp} {p l : Addr} {rows : List (List Int)} (e : Same H H1) (h : LLp p H l rows) : LLp p H1 l rows := by
  obtain ⟨h0, bs, h1, h2, h3, h4⟩ := h
  exact ⟨h0, bs, e _ _ h1, h2, fun i b row hb hr => e _ _ (h3 i b row hb hr), h4⟩
theorem LLp.exb {H H1 : Hp} {p l : Addr} {rows : List (List Int)} (e : Exb p H H1) (h : LLp p H l rows) : LLp p H1 l rows := by
  obtain ⟨h0, bs, h1, h2, h3, h4⟩ := h
  exact ⟨h0, bs, e _ _ h0 h1, h2, fun i b row hb hr => e _ _ (fun z => h4 (z ▸ List.mem_of_getElem? hb)) (h3 i b row hb hr), h4⟩

theorem seqK {t u : TS} {D : Ends} {σ : L2.St} {H : Hp} (A : L2.St → Hp → Prop) (h1 : ∀ N : L2.St → Hp → Prop, (∀ σ' H', A σ' H' → N σ' H') → t { D with nx := N } σ H) (h2 : ∀ σ' H', A σ' H' → u D σ' H') : tSeq t u D σ H := h1 _ h2
theorem ifK {te : TE} {a b : TS} {D : Ends} {σ : L2.St} {H : Hp} (c : Bool) (h1 : ∀ R : VK, (∀ H', Same H H' → R (.bl c) H') → te σ H R) (h2 : ∀ H', Same H H' → c = true → a D σ H') (h3 : ∀ H', Same H H' → c = false → b D σ H') : tIfS (tB te) a b D σ H :=
  h1 _ fun H' s => ⟨c, rfl, by
    cases c with
    | true => exact iteT (h2 H' s rfl)
    | false => exact iteF (h3 H' s rfl)⟩

def bsr (n : Nat) (prs : List (Int × Int)) (p : Nat) : List Int := ((List.range n).map Int.ofNat).filter fun s => decide ((Int.ofNat p, s) ∈ prs ∨ (s, Int.ofNat p) ∈ prs)
def besd (n : Nat) (prs : List (Int × Int)) : List (List Int) := (List.range n).map (bsr n prs)
theorem rws_of {K : PySem.W.Frag} {H : Hp} {f : Nat → List Int} : ∀ {xs : List V} (k : Nat), (∀ (i : Nat) (v : V), xs[i]? = some v → ∃ b, v = .ref b ∧ SqT K H b ((f (k + i)).map V.int)) → Rws K H xs ((List.range' k xs.length).map f)
  | [], _, _ => Rws.nil
  | x :: xs, k, h => by
    obtain ⟨b, rfl, hb⟩ := h 0 x rfl
    rw [List.length_cons, List.range'_succ, List.map_cons]
    exact DpAll.cons (row_dp hb) (rws_of (xs := xs) (k + 1) fun i v e => by
      rw [show k + 1 + i = k + (i + 1) by omega]
      exact h (i + 1) v e)
theorem yRng {n : Nat} : ∀ (i : Nat) (H : Hp) (x : V) (H' : Hp), YFn (fun i => V.int (0 + (i : Int))) i H x H' → i < n → H' = H ∧ x = .int (((List.range n).map Int.ofNat).getD i 0) := by
  rintro i H x H' ⟨h1, rfl⟩ hi
  refine ⟨h1, ?_⟩
  show V.int (0 + (i : Int)) = _
  rw [List.getD_eq_getElem?_getD, List.getElem?_map, List.getElem?_range hi, Int.zero_add]
  rfl

/-! ### trees told by their uppers -/
def Tree (n : Nat) (prs : List (Int × Int)) : Prop := ∀ v : Nat, 0 < v → v < n → ∃ w : Nat, w < v ∧ ((w : Int), (v : Int)) ∈ prs
theorem con_of_tree {n : Nat} {ths : List (Int × Int)} (h : Tree n ths) {ord : List (Int × Int)} (o : Ord ths 0 ord) : ∀ p : Nat, p < n → ((p : Nat) : Int) ∈ ord.map (·.1) := by
  intro p
  induction p using Nat.strongRecOn with
  | _ p ih =>
    intro hp
    by_cases h0 : p = 0
    · subst h0
      exact List.mem_map.mpr ⟨_, List.mem_of_getElem? o.fst, rfl⟩
    · obtain ⟨w, hw, hm⟩ := h p (by omega) hp
      obtain ⟨e, he, e1⟩ := List.mem_map.mp (ih w hw (by omega))
      exact o.all e he _ (.inl (by rw [e1]; exact hm))
theorem goodN_of {n : Nat} {prs qrs : List (Int × Int)} (n1 : 1 ≤ n) (n24 : n ≤ 24) (hp : qrs.Perm prs) (hs : qrs.Pairwise PLe) (nd : prs.Nodup) (hi : InN n prs) (ht : Tree n prs) (hl : prs.length ≤ 60) : GoodN n qrs := by
  refine ⟨n1, n24, by rw [hp.length_eq]; exact hl, fun e he => hi e (hp.mem_iff.mp he), ?_, fun ord o => con_of_tree (fun v h0 hv => ?_) o⟩
  · refine (hs.and (hp.nodup_iff.mpr nd)).imp fun {e f} h => ?_
    obtain ⟨h1, h2⟩ := h
    rcases h1 with h1 | ⟨h1, h3⟩
    · exact .inl h1
    · refine .inr ⟨h1, ?_⟩
      have : e.2 ≠ f.2 := fun z => h2 (Prod.ext h1 z)
      omega
  · obtain ⟨w, hw, hm⟩ := ht v h0 hv
    exact ⟨w, hw, hp.mem_iff.mpr hm⟩
/-- the tree so far: its threads up to place k -/
structure TreeK (k : Nat) (prs : List (Int × Int)) : Prop where
  len : prs.length + 1 = k
  at_ : ∀ (i : Nat) e, prs[i]? = some e → 0 ≤ e.1 ∧ e.1 ≤ (i : Nat) ∧ e.2 = (i : Nat) + 1
theorem TreeK.snoc {k : Nat} {prs : List (Int × Int)} (h : TreeK k prs) {w : Int} (h0 : 0 ≤ w) (h1 : w < (k : Nat)) : TreeK (k + 1) (prs ++ [(w, ((k : Nat) : Int))]) := by
  have hl := h.len
  refine ⟨by rw [List.length_append]; show prs.length + 1 + 1 = k + 1; omega, fun i e he => ?_⟩
  by_cases hi : i < prs.length
  · rw [List.getElem?_append_left hi] at he
    exact h.at_ i e he
  · have hi2 := (List.getElem?_eq_some_iff.mp he).1
    rw [List.length_append] at hi2
    have ei : i = prs.length := by
      have : i < prs.length + 1 := hi2
      omega
    subst ei
    rw [List.getElem?_append_right (Nat.le_refl _), Nat.sub_self] at he
    cases Option.some.inj he
    dsimp only
    omega
theorem TreeK.tree {n : Nat} {prs : List (Int × Int)} (h : TreeK n prs) : Tree n prs := fun v h0 hv => by
  have hl := h.len
  have hi : v - 1 < prs.length := by omega
  obtain ⟨h1, h2, h3⟩ := h.at_ (v - 1) _ (List.getElem?_eq_getElem hi)
  refine ⟨prs[v - 1].1.toNat, by omega, ?_⟩
  have : ((prs[v - 1].1.toNat : Int), (v : Int)) = prs[v - 1] := Prod.ext (by show ((prs[v - 1].1.toNat : Nat) : Int) = _; omega) (by show (v : Int) = _; omega)
  rw [this]
  exact List.getElem_mem hi
theorem TreeK.inN {n : Nat} {prs : List (Int × Int)} (h : TreeK n prs) : InN n prs := fun e he => by
  obtain ⟨i, hi, rfl⟩ := List.getElem_of_mem he
  have hl := h.len
  have := h.at_ i _ (List.getElem?_eq_getElem hi)
  omega
theorem TreeK.nodup {n : Nat} {prs : List (Int × Int)} (h : TreeK n prs) : prs.Nodup := by
  refine List.pairwise_iff_getElem.mpr fun i j hi hj hij z => ?_
  have h1 := h.at_ i _ (List.getElem?_eq_getElem hi)
  have h2 := h.at_ j _ (List.getElem?_eq_getElem hj)
  rw [z] at h1
  omega
/-- the neighbours of p, by a look at each place -/
theorem near_bsr {n : Nat} {ths : List (Int × Int)} (hi : InN n ths) : NearOk n ths (besd n ths) := by
  refine ⟨by unfold besd; rw [List.length_map, List.length_range], fun row hr => ?_, fun p row hp c => ?_⟩
  · obtain ⟨p, _, rfl⟩ := List.mem_map.mp hr
    unfold bsr
    refine asc_ok ?_ ?_ fun c hc => ?_
    · refine List.Pairwise.filter _ ?_
      rw [List.pairwise_map]
      exact (List.pairwise_le_range).imp fun {a b} h => by show (a : Int) ≤ (b : Int); omega
    · refine List.Pairwise.filter _ ?_
      exact List.Pairwise.map _ (fun a b h z => h (by
        have z2 : (a : Int) = (b : Int) := z
        omega)) List.nodup_range
    · obtain ⟨i, h1, rfl⟩ := List.mem_map.mp (List.mem_filter.mp hc).1
      have := List.mem_range.mp h1
      show (0 : Int) ≤ (i : Int) ∧ (i : Int) < (n : Nat)
      omega
  · unfold besd at hp
    rw [List.getElem?_map] at hp
    by_cases hpn : p < n
    · rw [List.getElem?_range hpn] at hp
      cases Option.some.inj hp
      unfold bsr
      rw [List.mem_filter, decide_eq_true_eq]
      constructor
      · intro h
        exact h.2
      · intro h
        have := adj_lt hi h
        exact ⟨List.mem_map.mpr ⟨c.toNat, List.mem_range.mpr (by omega), by show ((c.toNat : Nat) : Int) = c; omega⟩, h⟩
    · rw [List.getElem?_eq_none (by rw [List.length_range]; omega)] at hp
      cases hp
/-- a list of rows at l, which are the neighbours -/
def NL (K : PySem.W.Frag) (H : Hp) (l : Addr) (n : Nat) (ths : List (Int × Int)) : Prop := ∃ us nrs, H l = some (.lst us) ∧ Rws K H us nrs ∧ NearOk n ths nrs
theorem NL.same {K : PySem.W.Frag} {H H1 : Hp} {l : Addr} {n : Nat} {ths : List (Int × Int)} (e : Same H H1) (h : NL K H l n ths) : NL K H1 l n ths := by
  obtain ⟨us, nrs, h1, h2, h3⟩ := h
  exact ⟨us, nrs, e _ _ h1, h2.same e, h3⟩
theorem Rws.get {K : PySem.W.Frag} {H : Hp} {us : List V} {rs : List (List Int)} (h : Rws K H us rs) {i : Nat} {r : List Int} (hr : rs[i]? = some r) : ∃ b, us[i]? = some (.ref b) ∧ SqT K H b (r.map V.int) := by
  obtain ⟨v, hv, hd⟩ := dpAll_get h (i := i) (d := rowD r) (by rw [List.getElem?_map, hr]; rfl)
  obtain ⟨b, rfl, hb⟩ := dp_row hd
  exact ⟨b, hv, hb⟩
/-- the neighbours of place i stand in the list -/
theorem NL.at_ {K : PySem.W.Frag} {H : Hp} {l : Addr} {n : Nat} {ths : List (Int × Int)} (h : NL K H l n ths) : ∃ us, H l = some (.lst us) ∧ us.length = n ∧ ∀ i : Nat, i < n → ∃ (b : Addr) (row : List Int), us[i]? = some (.ref b) ∧ SqT K H b (row.map V.int) ∧ row.length ≤ n ∧ ∀ c, c ∈ row ↔ Adj ths (i : Nat) c := by
  obtain ⟨us, nrs, h1, h2, h3⟩ := h
  have hl := h2.len
  have hl2 := h3.len
  refine ⟨us, h1, by omega, fun i hi => ?_⟩
  have hr : nrs[i]? = some (nrs[i]'(by omega)) := List.getElem?_eq_getElem (by omega)
  obtain ⟨b, hb, hs⟩ := Rws.get h2 hr
  refine ⟨b, _, hb, hs, ?_, h3.mem i _ hr⟩
  have := h3.asc _ (List.getElem_mem (by omega : i < nrs.length))
  generalize nrs[i]'(by omega) = row at this
  cases e : row.length with
  | zero => omega
  | succ k =>
    have g1 := asc_get this k (row[k]'(by omega)) (List.getElem?_eq_getElem (by omega))
    have g2 := (this k (row[k]'(by omega)) (List.getElem?_eq_getElem (by omega))).1.2
    omega
theorem Rws.exb {K : PySem.W.Frag} {H H1 : Hp} {p : Addr} (hp : Src H p) (e : Exb p H H1) : ∀ {us : List V} {rs : List (List Int)}, Rws K H us rs → Rws K H1 us rs
  | [], [], _ => DpAll.nil
  | [], _ :: _, h => by cases h
  | _ :: _, [], h => by cases h
  | v :: us, r :: rs, h => by
    cases h with
    | cons x y =>
      obtain ⟨b, rfl, hb⟩ := dp_row x
      exact DpAll.cons (row_dp (e.tup hp hb)) (Rws.exb hp e y)
theorem NL.exb {K : PySem.W.Frag} {H H1 : Hp} {p l : Addr} {n : Nat} {ths : List (Int × Int)} (hp : Src H p) (e : Exb p H H1) (hl : l ≠ p) (h : NL K H l n ths) : NL K H1 l n ths := by
  obtain ⟨us, nrs, h1, h2, h3⟩ := h
  exact ⟨us, nrs, e _ _ hl h1, Rws.exb hp e h2, h3⟩
theorem tt_exb {K : PySem.W.Frag} {H H1 : Hp} {p r : Addr} {rows : List (List Int)} (hp : Src H p) (e : Exb p H H1) (h : Bw.TT K H r rows) : Bw.TT K H1 r rows := by
  cases h with
  | tup hs ha => exact .tup (e.tup hp hs) (Rws.exb hp e ha)
theorem TPs.tt {K : PySem.W.Frag} {H : Hp} {t : Addr} {us : List V} {prs : List (Int × Int)} (h : TPs H us prs) (ht : SqT K H t us) : Bw.TT K H t (thR prs) := by
  unfold Bw.TT thR
  rw [List.map_map]
  exact .tup ht h.dp
theorem fresh_exb {p d : Addr} {H H1 : Hp} (s : Src H1 p) (e : Exb p H H1) (nd : H1 d = none) : H d = none := e.fresh (s.ne nd) nd
theorem NB.exb {K : PySem.W.Frag} {C : Addr} {H H1 : Hp} {p t : Addr} {n : Nat} {ths : List (Int × Int)} (hp : Src H p) (e : Exb p H H1) (h : NB K C H t n ths) : NB K C H1 t n ths := by
  obtain ⟨dx, r, s, nrs, h1, h2, h3, h4⟩ := h
  refine ⟨dx, r, s, nrs, e _ _ (fun z => ?_) h1, tt_exb hp e h2, tt_exb hp e h3, h4⟩
  obtain ⟨a, b, hq, _⟩ := hp
  rw [z, hq] at h1
  cases h1

/-! ### rows carried along threads -/
def carr (xs ys : List Int) (row : List Int) (p : Int) : List Int := strk ([xs.getD p.toNat 0] ++ row ++ [ys.getD p.toNat 0])
/-- rows of all places that fit along all threads, first at b -/
def LinkR (xs ys : List Int) (ths : List (Int × Int)) (b : Int) (first : List Int) (R : Int → List Int) : Prop := R b = first ∧ ∀ p c, Adj ths p c → R c = carr xs ys (R p) c
/-- a straight row between the two coats at p -/
def EndsR (xs ys : List Int) (row : List Int) (p : Int) : Prop := Str8 row ∧ row.head? = some (xs.getD p.toNat 0) ∧ row.getLast? = some (ys.getD p.toNat 0)
/-- all places hang together -/
def Conn (n : Nat) (ths : List (Int × Int)) : Prop := ∀ S : Int → Prop, S 0 → (∀ p c, S p → Adj ths p c → S c) → ∀ p : Nat, p < n → S (p : Nat)
theorem conn_tree {n : Nat} {ths : List (Int × Int)} (h : Tree n ths) : Conn n ths := fun S s0 hc p => by
  induction p using Nat.strongRecOn with
  | _ p ih =>
    intro hp
    by_cases h0 : p = 0
    · subst h0
      exact s0
    · obtain ⟨w, hw, hm⟩ := h p (by omega) hp
      exact hc _ _ (ih w hw (by omega)) (.inl hm)
theorem Conn.from_ {n : Nat} {ths : List (Int × Int)} (h : Conn n ths) {b : Nat} (hb : b < n) {S : Int → Prop} (sb : S (b : Nat)) (hc : ∀ p c, S p → Adj ths p c → S c) : ∀ p : Nat, p < n → S (p : Nat) := by
  have s0 : S 0 := h (fun p => S p → S 0) (fun z => z) (fun p c hp ha hs => hp (hc _ _ hs ha.symm)) b hb sb
  exact h S s0 hc
theorem carr_ends {xs ys row : List Int} {p : Int} : EndsR xs ys (carr xs ys row p) p := by
  unfold carr
  refine ⟨strk_str _, ?_, ?_⟩
  · rw [strk_head]
    rfl
  · rw [strk_last, List.getLast?_append]
    rfl
theorem carr_len {xs ys row : List Int} {p : Int} : (carr xs ys row p).length ≤ row.length + 2 := by
  unfold carr
  refine Nat.le_trans (strk_len _) ?_
  rw [List.length_append, List.length_append]
  show 1 + row.length + 1 ≤ _
  omega
theorem red1 {x y : Int} {z : List Int} : Red (x :: y :: x :: z) (x :: z) := ⟨[], x, y, z, rfl, rfl⟩
/-- there and back -/
theorem carr_back {xs ys row : List Int} {p c : Int} (h : EndsR xs ys row p) : carr xs ys (carr xs ys row c) p = row := by
  obtain ⟨h1, h2, h3⟩ := h
  unfold carr
  generalize xs.getD p.toNat 0 = a at *
  generalize ys.getD p.toNat 0 = b at *
  generalize xs.getD c.toNat 0 = a'
  generalize ys.getD c.toNat 0 = b'
  rw [show strk ([a] ++ strk ([a'] ++ row ++ [b']) ++ [b]) = strk ([a] ++ ([a'] ++ row ++ [b']) ++ [b]) by
    rw [strk_app ([a] ++ strk ([a'] ++ row ++ [b'])) [b], ← strk_mid, ← strk_app]]
  cases row with
  | nil => cases h2
  | cons r row =>
    cases Option.some.inj h2
    rw [show strk ([a] ++ ([a'] ++ (a :: row) ++ [b']) ++ [b]) = strk ((a :: row) ++ [b', b]) from by
      have e : [a] ++ ([a'] ++ (a :: row) ++ [b']) ++ [b] = a :: a' :: a :: (row ++ [b', b]) := by simp
      rw [e, strk_red red1]
      rfl]
    obtain ⟨m, hm⟩ : ∃ m, a :: row = m ++ [b] := by
      have hne : a :: row ≠ [] := by simp
      refine ⟨(a :: row).dropLast, ?_⟩
      have := List.dropLast_concat_getLast hne
      rw [List.getLast?_eq_some_getLast hne] at h3
      rw [← Option.some.inj h3]
      exact this.symm
    rw [hm] at h1 ⊢
    have e : m ++ [b] ++ [b', b] = m ++ [b, b', b] ++ [] := by simp
    rw [e, strk_red (b := m ++ [b]) ⟨m, b, b', [], rfl, by simp⟩]
    exact strk_id h1
theorem LinkR.one {xs ys : List Int} {ths : List (Int × Int)} {n b : Nat} {first : List Int} {R R' : Int → List Int} (hc : Conn n ths) (hb : b < n) (h : LinkR xs ys ths (b : Nat) first R) (k : LinkR xs ys ths (b : Nat) first R') : ∀ p : Nat, p < n → R (p : Nat) = R' (p : Nat) :=
  hc.from_ hb (S := fun p => R p = R' p) (h.1.trans k.1.symm) fun p c hp ha => by rw [h.2 p c ha, k.2 p c ha, hp]
/-- R as the order of places carries it, up to its k-th place -/
def TreeR (xs ys : List Int) (ord : List (Int × Int)) (first : List Int) (k : Nat) (R : Int → List Int) : Prop := (∀ e, ord[0]? = some e → 0 < k → R e.1 = first) ∧ ∀ (i : Nat) e, 0 < i → i < k → ord[i]? = some e → R e.1 = carr xs ys (R e.2) e.1
theorem TreeR.ends {xs ys : List Int} {ths ord : List (Int × Int)} {b : Int} {first : List Int} {R : Int → List Int} (o : Ord ths b ord) (h : TreeR xs ys ord first ord.length R) (hf : EndsR xs ys first b) : ∀ e ∈ ord, EndsR xs ys (R e.1) e.1 := fun e he => by
  obtain ⟨i, hi, rfl⟩ := List.getElem_of_mem he
  by_cases h0 : i = 0
  · subst h0
    have e0 := o.fst
    rw [List.getElem?_eq_getElem hi] at e0
    rw [h.1 _ (List.getElem?_eq_getElem hi) hi, Option.some.inj e0]
    exact hf
  · rw [h.2 i _ (by omega) hi (List.getElem?_eq_getElem hi)]
    exact carr_ends
theorem TreeR.eq {xs ys : List Int} {ths ord : List (Int × Int)} {b : Int} {first : List Int} {R R' : Int → List Int} (o : Ord ths b ord) (h : TreeR xs ys ord first ord.length R) (k : LinkR xs ys ths b first R') : ∀ (i : Nat) e, ord[i]? = some e → R e.1 = R' e.1 := by
  intro i
  induction i using Nat.strongRecOn with
  | _ i ih =>
    intro e he
    have hi := (List.getElem?_eq_some_iff.mp he).1
    by_cases h0 : i = 0
    · subst h0
      rw [h.1 e he hi]
      have e0 := o.fst
      rw [he] at e0
      rw [Option.some.inj e0]
      exact k.1.symm
    · obtain ⟨j, f, hj, hf, f1, fa⟩ := o.up i e he (by omega)
      rw [h.2 i e (by omega) hi he, k.2 e.2 e.1 fa]
      have := ih j hj f hf
      rw [f1] at this
      rw [this]
/-- fits one way, so both ways -/
theorem link_of_fit {xs ys : List Int} {ths ord : List (Int × Int)} {n : Nat} {b : Nat} {first : List Int} {R : Int → List Int} (o : Ord ths (b : Nat) ord) (h : TreeR xs ys ord first ord.length R) (hf : EndsR xs ys first (b : Nat)) (hi : InN n ths) (ha : ∀ p : Nat, p < n → ((p : Nat) : Int) ∈ ord.map (·.1)) (hfit : ∀ e ∈ ths, R e.2 = carr xs ys (R e.1) e.2) : LinkR xs ys ths (b : Nat) first R := by
  refine ⟨?_, fun p c hpc => ?_⟩
  · have e0 := o.fst
    have hl := (List.getElem?_eq_some_iff.mp e0).1
    exact h.1 _ e0 hl
  · rcases hpc with hpc | hpc
    · exact hfit _ hpc
    · have hr := hi _ hpc
      dsimp only at hr
      have hc := ha c.toNat (by omega)
      rw [show ((c.toNat : Nat) : Int) = c by omega] at hc
      obtain ⟨e, he, rfl⟩ := List.mem_map.mp hc
      have he2 := h.ends o hf e he
      have := hfit _ hpc
      dsimp only at this
      rw [this]
      exact (carr_back he2).symm
theorem ord_all {n b : Nat} {ths ord : List (Int × Int)} (hc : Conn n ths) (hb : b < n) (o : Ord ths (b : Nat) ord) : ∀ p : Nat, p < n → ((p : Nat) : Int) ∈ ord.map (·.1) :=
  hc.from_ hb (S := fun p => p ∈ ord.map (·.1)) (List.mem_map.mpr ⟨_, List.mem_of_getElem? o.fst, rfl⟩) fun p c hp ha => by
    obtain ⟨e, he, rfl⟩ := List.mem_map.mp hp
    exact o.all e he c ha
theorem getD_some {xs : List Int} {i : Nat} (h : i < xs.length) : xs[i]? = some (xs.getD i 0) := by rw [List.getD_eq_getElem?_getD, List.getElem?_eq_getElem h]; rfl
/-! ### a dict of rows -/
def kvR (es : List (Int × Addr)) : List (Key × V) := es.map fun e => (.inl e.1, .ref e.2)
theorem valR_none {p : Int} : ∀ {es : List (Int × Addr)}, p ∉ es.map (·.1) → valV (kvR es) (.inl p) = none
  | [], _ => rfl
  | e :: es, h => by
    unfold kvR at *
    rw [List.map_cons, valV_neg (fun z => h (by rw [List.map_cons, Sum.inl.inj z]; exact List.mem_cons_self))]
    exact valR_none (es := es) fun z => h (by rw [List.map_cons]; exact List.mem_cons_of_mem _ z)
theorem valR_some {p : Int} : ∀ {es : List (Int × Addr)}, p ∈ es.map (·.1) → ∃ e ∈ es, e.1 = p ∧ valV (kvR es) (.inl p) = some (.ref e.2)
  | e :: es, h => by
    by_cases c : e.1 = p
    · refine ⟨e, List.mem_cons_self, c, ?_⟩
      unfold kvR
      rw [List.map_cons]
      exact valV_pos (by rw [c])
    · rw [List.map_cons] at h
      rcases List.mem_cons.mp h with z | z
      · exact absurd z.symm c
      · obtain ⟨f, hf, f1, f2⟩ := valR_some z
        refine ⟨f, List.mem_cons_of_mem _ hf, f1, ?_⟩
        unfold kvR at *
        rw [List.map_cons, valV_neg (fun z => c (Sum.inl.inj z))]
        exact f2
/-- d holds the rows R at the places ks -/
def DRw (K : PySem.W.Frag) (H : Hp) (d : Addr) (ks : List Int) (R : Int → List Int) : Prop := ∃ es : List (Int × Addr), H d = some (.dK (kvR es)) ∧ es.map (·.1) = ks ∧ ∀ e ∈ es, SqT K H e.2 ((R e.1).map V.int)
theorem DRw.same {K : PySem.W.Frag} {H H1 : Hp} {d : Addr} {ks : List Int} {R : Int → List Int} (e : Same H H1) (h : DRw K H d ks R) : DRw K H1 d ks R := by
  obtain ⟨es, h1, h2, h3⟩ := h
  exact ⟨es, e _ _ h1, h2, fun x hx => e.tup (h3 x hx)⟩
theorem DRw.get {K : PySem.W.Frag} {H : Hp} {d : Addr} {ks : List Int} {R : Int → List Int} {p : Int} (h : DRw K H d ks R) (hp : p ∈ ks) : ∃ kvs c, H d = some (.dK kvs) ∧ valV kvs (.inl p) = some (.ref c) ∧ SqT K H c ((R p).map V.int) := by
  obtain ⟨es, h1, h2, h3⟩ := h
  rw [← h2] at hp
  obtain ⟨e, he, e1, e2⟩ := valR_some hp
  exact ⟨_, _, h1, e2, by rw [← e1]; exact h3 e he⟩
theorem tup_updX {K : PySem.W.Frag} {H : Hp} {a q : Addr} {xs : List V} {o : HO} (h : SqT K H a xs) (h1 : ∀ ys, H q ≠ some (.tup ys)) (h2 : ∀ f ys, H q ≠ some (.frz f (.tup ys))) : SqT K (upd H q o) a xs := by
  rcases h with (h | ⟨f, h⟩) | h
  · exact .inl (.inl (by rw [upd_ne (fun z => h1 _ (z ▸ h))]; exact h))
  · exact .inl (.inr ⟨f, by rw [upd_ne (fun z => h2 _ _ (z ▸ h))]; exact h⟩)
  · exact .inr h
theorem DRw.new {K : PySem.W.Frag} {H : Hp} {d : Addr} {R : Int → List Int} (h : H d = some (.dK [])) : DRw K H d [] R := ⟨[], h, rfl, fun e he => by cases he⟩
theorem DRw.put {K : PySem.W.Frag} {H : Hp} {d c : Addr} {ks : List Int} {R : Int → List Int} {p : Int} {r : List Int} (h : DRw K H d ks R) (hp : p ∉ ks) (hc : SqT K H c (r.map V.int)) : ∃ kvs, H d = some (.dK kvs) ∧ kvs.length = ks.length ∧ valV kvs (.inl p) = none ∧ DRw K (upd H d (.dK (putK kvs (.inl p) (.ref c)))) d (ks ++ [p]) (fun q => if q = p then r else R q) := by
  obtain ⟨es, h1, h2, h3⟩ := h
  have hn := valR_none (es := es) (p := p) (by rw [h2]; exact hp)
  refine ⟨kvR es, h1, by unfold kvR; rw [List.length_map, ← h2, List.length_map], hn, es ++ [(p, c)], ?_, by rw [List.map_append, h2]; rfl, fun e he => ?_⟩
  · rw [upd_same, putK_new _ hn]
    unfold kvR
    rw [List.map_append]
    rfl
  · have t : ∀ {b xs}, SqT K H b xs → SqT K (upd H d (.dK (putK (kvR es) (.inl p) (.ref c)))) b xs := fun z => tup_updX z (fun ys z => by rw [h1] at z; cases z) (fun f ys z => by rw [h1] at z; cases z)
    rcases List.mem_append.mp he with he | he
    · have ne : e.1 ≠ p := fun z => hp (by rw [← h2, ← z]; exact List.mem_map.mpr ⟨e, he, rfl⟩)
      dsimp only
      rw [if_neg ne]
      exact t (h3 e he)
    · rw [List.mem_singleton.mp he]
      dsimp only
      rw [if_pos rfl]
      exact t hc
theorem DRw.upd {K : PySem.W.Frag} {H : Hp} {d q : Addr} {ks : List Int} {R : Int → List Int} {o : HO} (h : DRw K H d ks R) (ne : d ≠ q) (h1 : ∀ ys, H q ≠ some (.tup ys)) (h2 : ∀ f ys, H q ≠ some (.frz f (.tup ys))) : DRw K (upd H q o) d ks R := by
  obtain ⟨es, g1, g2, g3⟩ := h
  exact ⟨es, by rw [upd_ne ne]; exact g1, g2, fun e he => tup_updX (g3 e he) h1 h2⟩
theorem Ord.inj {ths ord : List (Int × Int)} {b : Int} (o : Ord ths b ord) {i j : Nat} {f g : Int × Int} (hf : ord[i]? = some f) (hg : ord[j]? = some g) (z : f.1 = g.1) : i = j := by
  obtain ⟨hi, rfl⟩ := List.getElem?_eq_some_iff.mp hf
  obtain ⟨hj, rfl⟩ := List.getElem?_eq_some_iff.mp hg
  have nd := List.pairwise_iff_getElem.mp o.nd
  rcases Nat.lt_trichotomy i j with h | h | h
  · have := nd i j (by rw [List.length_map]; exact hi) (by rw [List.length_map]; exact hj) h
    rw [List.getElem_map, List.getElem_map] at this
    exact absurd z this
  · exact h
  · have := nd j i (by rw [List.length_map]; exact hj) (by rw [List.length_map]; exact hi) h
    rw [List.getElem_map, List.getElem_map] at this
    exact absurd z.symm this
/-- the next place of the order -/
theorem TreeR.step {xs ys : List Int} {ths ord : List (Int × Int)} {b : Int} {first r : List Int} {k : Nat} {e : Int × Int} {R : Int → List Int} (o : Ord ths b ord) (h : TreeR xs ys ord first k R) (he : ord[k]? = some e) (h0 : k = 0 → r = first) (h1 : 0 < k → r = carr xs ys (R e.2) e.1) : TreeR xs ys ord first (k + 1) (fun q => if q = e.1 then r else R q) := by
  refine ⟨fun f hf _ => ?_, fun i f h0i hik hf => ?_⟩
  · dsimp only
    by_cases c : f.1 = e.1
    · rw [if_pos c]
      exact h0 (o.inj hf he c).symm
    · rw [if_neg c]
      refine h.1 f hf (Nat.pos_of_ne_zero fun z => c ?_)
      subst z
      rw [hf] at he
      rw [Option.some.inj he]
  · obtain ⟨j, g, hj, hg, g1, ga⟩ := o.up i f hf h0i
    have up : f.2 ≠ e.1 := fun z => by
      have := o.inj hg he (g1.trans z)
      omega
    dsimp only
    rw [if_neg up]
    by_cases c : f.1 = e.1
    · have ek := o.inj hf he c
      subst ek
      rw [hf] at he
      cases Option.some.inj he
      rw [if_pos rfl]
      exact h1 h0i
    · rw [if_neg c]
      refine h.2 i f h0i ?_ hf
      by_cases z : i = k
      · subst z
        rw [hf] at he
        exact absurd (by rw [Option.some.inj he]) c
      · omega
theorem ord_lt {n b : Nat} {ths ord : List (Int × Int)} (hi : InN n ths) (hb : b < n) (o : Ord ths (b : Nat) ord) : ∀ e ∈ ord, 0 ≤ e.1 ∧ e.1 < (n : Nat) := fun e he => by
  obtain ⟨i, h, rfl⟩ := List.getElem_of_mem he
  by_cases h0 : i = 0
  · subst h0
    have := o.fst
    rw [List.getElem?_eq_getElem h] at this
    rw [Option.some.inj this]
    dsimp only
    omega
  · obtain ⟨_, _, _, _, _, ha⟩ := o.up i _ (List.getElem?_eq_getElem h) (by omega)
    exact adj_lt hi ha
theorem ord_len {n b : Nat} {ths ord : List (Int × Int)} (hi : InN n ths) (hb : b < n) (o : Ord ths (b : Nat) ord) : ord.length ≤ n := by
  have := nodup_len n (ord.map (·.1)) o.nd fun e he => by
    obtain ⟨f, hf, rfl⟩ := List.mem_map.mp he
    exact ord_lt hi hb o f hf
  rw [List.length_map] at this
  exact this
def Stand (rows : List (List Int)) (n : Nat) (ths : List (Int × Int)) (xs : List Int) : Prop := xs.length = n ∧ ∀ p, p < n → FitP rows ths xs p
def OkFirst (rows : List (List Int)) (first : List Int) (x y : Int) : Prop := first.length ≤ 47 ∧ LinkRow rows first x y
theorem OkFirst.ends {rows : List (List Int)} {xs ys first : List Int} {b : Nat} (h : OkFirst rows first (xs.getD b 0) (ys.getD b 0)) : EndsR xs ys first (b : Nat) :=
  ⟨opn_str h.2.2.2.2.2, by rw [Int.toNat_natCast]; exact h.2.2.1, by rw [Int.toNat_natCast]; exact h.2.2.2.1⟩

/-! ### tables and nets that are drawn -/
theorem bsr_mem {n : Nat} {prs : List (Int × Int)} {p : Nat} {c : Int} : c ∈ bsr n prs p ↔ (0 ≤ c ∧ c < (n : Nat)) ∧ ((((p : Nat) : Int), c) ∈ prs ∨ (c, ((p : Nat) : Int)) ∈ prs) := by
  unfold bsr
  rw [List.mem_filter, decide_eq_true_eq]
  refine and_congr ⟨fun h => ?_, fun h => ?_⟩ Iff.rfl
  · obtain ⟨i, hi, rfl⟩ := List.mem_map.mp h
    have := List.mem_range.mp hi
    show (0 : Int) ≤ (i : Int) ∧ (i : Int) < (n : Nat)
    omega
  · exact List.mem_map.mpr ⟨c.toNat, List.mem_range.mpr (by omega), by show ((c.toNat : Nat) : Int) = c; omega⟩
theorem besd_at {n : Nat} {prs : List (Int × Int)} {p : Nat} {row : List Int} (h : (besd n prs)[p]? = some row) : p < n ∧ row = bsr n prs p := by
  unfold besd at h
  rw [List.getElem?_map] at h
  by_cases hp : p < n
  · rw [List.getElem?_range hp] at h
    exact ⟨hp, (Option.some.inj h).symm⟩
  · rw [List.getElem?_eq_none (by rw [List.length_range]; omega)] at h
    cases h
theorem besd_len {n : Nat} {prs : List (Int × Int)} : (besd n prs).length = n := by
  unfold besd
  rw [List.length_map, List.length_range]
theorem good_besd {n : Nat} {prs : List (Int × Int)} (n1 : 1 ≤ n) (n8 : n ≤ 8) : GoodT (besd n prs) := by
  refine ⟨by rw [besd_len]; exact n1, by rw [besd_len]; exact n8, fun row hr => ?_, fun p row hp s hs => ?_⟩
  · rw [besd_len]
    obtain ⟨p, _, rfl⟩ := List.mem_map.mp hr
    refine asc_ok ?_ ?_ fun c hc => (bsr_mem.mp hc).1
    · unfold bsr
      refine List.Pairwise.filter _ ?_
      rw [List.pairwise_map]
      exact (List.pairwise_le_range).imp fun {a b} h => by show (a : Int) ≤ (b : Int); omega
    · unfold bsr
      refine List.Pairwise.filter _ ?_
      exact List.Pairwise.map _ (fun a b h z => h (by
        have z2 : (a : Int) = (b : Int) := z
        omega)) List.nodup_range
  · obtain ⟨hpn, rfl⟩ := besd_at hp
    obtain ⟨h1, h2⟩ := bsr_mem.mp hs
    refine ⟨bsr n prs s.toNat, ?_, bsr_mem.mpr ⟨by omega, ?_⟩⟩
    · unfold besd
      rw [List.getElem?_map, List.getElem?_range (by omega)]
      rfl
    · rw [show ((s.toNat : Nat) : Int) = s by omega]
      exact h2.symm
/-- some coat has a road -/
def Road (rows : List (List Int)) : Prop := ∃ p s : Int, 0 ≤ p ∧ p < (rows.length : Nat) ∧ 0 ≤ s ∧ s < (rows.length : Nat) ∧ s ∈ rowOf rows p.toNat ∧ p ∈ rowOf rows s.toNat
theorem rowOf_besd {n : Nat} {prs : List (Int × Int)} {p : Nat} (h : p < n) : rowOf (besd n prs) p = bsr n prs p := by
  refine row_of ?_
  unfold besd
  rw [List.getElem?_map, List.getElem?_range h]
  rfl
theorem road_besd {n : Nat} {prs : List (Int × Int)} (hb : ∀ e ∈ prs, 0 ≤ e.1 ∧ e.1 < (n : Nat) ∧ 0 ≤ e.2 ∧ e.2 < (n : Nat)) (hne : prs ≠ []) : Road (besd n prs) := by
  obtain ⟨e, he⟩ := List.exists_mem_of_ne_nil _ hne
  obtain ⟨h1, h2, h3, h4⟩ := hb e he
  obtain ⟨p, s⟩ := e
  dsimp only at *
  refine ⟨p, s, h1, by rw [besd_len]; exact h2, h3, by rw [besd_len]; exact h4, ?_, ?_⟩
  · rw [rowOf_besd (by omega)]
    exact bsr_mem.mpr ⟨⟨h3, h4⟩, .inl (by rw [show ((p.toNat : Nat) : Int) = p by omega]; exact he)⟩
  · rw [rowOf_besd (by omega)]
    exact bsr_mem.mpr ⟨⟨h1, h2⟩, .inr (by rw [show ((s.toNat : Nat) : Int) = s by omega]; exact he)⟩
theorem eqv_nil (ds : List PyData) : PyData.eqv (.list ds) (.list []) = decide (ds = []) := by
  cases ds <;> simp [PyData.eqv, PyData.eqvAll]
theorem TPs.pl {K : PySem.W.Frag} {H : Hp} {d : Addr} {us : List V} {prs : List (Int × Int)} (hd : H d = some (.lst us)) (h : TPs H us prs) : PL K H d prs := .lst (SqL.of hd) h.dp
theorem ints_of_mem {xs : List Int} {v : V} (h : v ∈ xs.map V.int) : ∃ c, v = .int c ∧ c ∈ xs := by
  obtain ⟨c, hc, rfl⟩ := List.mem_map.mp h
  exact ⟨c, rfl, hc⟩
/-- a list of new pairs, a tree -/
structure ThL (H H' : Hp) (p d : Addr) (n : Nat) (us : List V) (prs : List (Int × Int)) : Prop where
  d0 : H d = none
  lst : H' d = some (.lst us)
  tps : TPs H' us prs
  nd : prs.Nodup
  rng : InN n prs
  tree : Tree n prs
  src : Src H' p
  exb : Exb p H H'
theorem ThL.exb' {H H1 H2 : Hp} {p d : Addr} {n : Nat} {us : List V} {prs : List (Int × Int)} (h : ThL H H1 p d n us prs) (hne : d ≠ p) (s2 : Src H2 p) (e : Exb p H1 H2) : ThL H H2 p d n us prs :=
  ⟨h.d0, e.lst hne h.lst, h.tps.exb h.src e, h.nd, h.rng, h.tree, s2, h.exb.trans e⟩
theorem ThL.same {H H1 H2 : Hp} {p d : Addr} {n : Nat} {us : List V} {prs : List (Int × Int)} (h : ThL H H1 p d n us prs) (e : Same H1 H2) : ThL H H2 p d n us prs :=
  ⟨h.d0, e _ _ h.lst, h.tps.same e, h.nd, h.rng, h.tree, e.src h.src, h.exb.trans (Exb.of e)⟩
theorem ThL.add {H H1 : Hp} {p d t : Addr} {n : Nat} {us : List V} {prs : List (Int × Int)} {x y : Int} (h : ThL H H1 p d n us prs) (hne : d ≠ p) (ht : H1 t = some (.tup [.int x, .int y])) (hm : (x, y) ∉ prs) (h0 : 0 ≤ x) (h1 : x < y) (h2 : y < (n : Nat)) : ThL H (upd H1 d (.lst (us ++ [.ref t]))) p d n (us ++ [.ref t]) (prs ++ [(x, y)]) := by
  refine ⟨h.d0, upd_same, (h.tps.snoc ⟨t, rfl, ht⟩).upd h.lst, List.nodup_append.mpr ⟨h.nd, nodup1 _, fun a ha b hb z => ?_⟩, fun e he => ?_, fun v v0 v1 => ?_, h.src.put hne, fun b o hb ho => ?_⟩
  · rw [List.mem_singleton.mp hb] at z
    exact hm (z ▸ ha)
  · rcases List.mem_append.mp he with he | he
    · exact h.rng e he
    · rw [List.mem_singleton.mp he]
      exact ⟨h0, h1, h2⟩
  · obtain ⟨w_, hw, hwm⟩ := h.tree v v0 v1
    exact ⟨w_, hw, List.mem_append_left _ hwm⟩
  · rw [upd_ne (ne_of_none ho h.d0)]
    exact h.exb _ _ hb ho
theorem not_in_line {n : Nat} {prs : List (Int × Int)} (h : ∀ e ∈ prs, e.2 = e.1 + 1) (hn : 2 < n) : ((0 : Int), ((n : Nat) : Int) - 1) ∉ prs := fun z => by
  have := h _ z
  dsimp only at this
  omega
/-! ### standings filled place by place -/
theorem GoodT.symR {rows : List (List Int)} (g : GoodT rows) {c d : Int} (hd : 0 ≤ d ∧ d < (rows.length : Nat)) (h : c ∈ rowOf rows d.toNat) : d ∈ rowOf rows c.toNat := by
  have hr : rows[d.toNat]? = some rows[d.toNat] := List.getElem?_eq_getElem (by omega)
  rw [row_of hr] at h
  obtain ⟨row', h1, h2⟩ := g.sym _ _ hr c h
  rw [row_of h1]
  rw [show ((d.toNat : Nat) : Int) = d by omega] at h2
  exact h2
theorem fit_pre {rows : List (List Int)} {ths : List (Int × Int)} {a b : List Int} {q : Nat} (hq : q < a.length) : FitP rows ths (a ++ b) q ↔ FitP rows ths a q := by
  unfold FitP
  rw [List.getElem?_append_left hq]
  constructor
  · rintro ⟨c, h1, h2, h3, h4⟩
    refine ⟨c, h1, h2, h3, fun o ha ho => ?_⟩
    obtain ⟨d, g1, g2⟩ := h4 o ha ho
    rw [List.getElem?_append_left (by omega)] at g1
    exact ⟨d, g1, g2⟩
  · rintro ⟨c, h1, h2, h3, h4⟩
    refine ⟨c, h1, h2, h3, fun o ha ho => ?_⟩
    obtain ⟨d, g1, g2⟩ := h4 o ha ho
    exact ⟨d, by rw [List.getElem?_append_left (by omega)]; exact g1, g2⟩
/-- the places that speak against a coat -/
def badJ (rows : List (List Int)) (done row : List Int) (c : Int) : List Int := row.filter fun j => decide (j < (done.length : Nat)) && !decide (c ∈ rowOf rows (done.getD j.toNat 0).toNat)
theorem fit_snoc {rows : List (List Int)} {n : Nat} {ths : List (Int × Int)} {done row : List Int} {c : Int} (g : GoodT rows) (hi : InN n ths) (hrow : ∀ o, o ∈ row ↔ Adj ths ((done.length : Nat) : Int) o) (hd : ∀ q, q < done.length → FitP rows ths done q) (hc : 0 ≤ c ∧ c < (rows.length : Nat)) : badJ rows done row c = [] ↔ FitP rows ths (done ++ [c]) done.length := by
  have rng : ∀ o : Int, Adj ths ((done.length : Nat) : Int) o → o < ((done.length : Nat) : Int) → 0 ≤ o ∧ ∃ d, done[o.toNat]? = some d ∧ done.getD o.toNat 0 = d ∧ 0 ≤ d ∧ d < (rows.length : Nat) := fun o ha ho => by
    have h0 := adj_lt hi ha
    obtain ⟨d, h1, h2, h3, _⟩ := hd o.toNat (by omega)
    exact ⟨h0.1, d, h1, by rw [List.getD_eq_getElem?_getD, h1]; rfl, h2, h3⟩
  unfold badJ
  rw [List.filter_eq_nil_iff]
  constructor
  · intro h
    refine ⟨c, by rw [List.getElem?_append_right (Nat.le_refl _), Nat.sub_self]; rfl, hc.1, hc.2, fun o ha ho => ?_⟩
    obtain ⟨h0, d, h1, h2, h3, h4⟩ := rng o ha ho
    refine ⟨d, by rw [List.getElem?_append_left (by omega)]; exact h1, ?_⟩
    have := h o ((hrow o).mpr ha)
    rw [h2, decide_eq_true ho] at this
    have hm : c ∈ rowOf rows d.toNat := by simpa using this
    exact g.symR ⟨h3, h4⟩ hm
  · rintro ⟨c', h1, _, _, h4⟩ o ho
    rw [List.getElem?_append_right (Nat.le_refl _), Nat.sub_self] at h1
    cases Option.some.inj h1
    by_cases hlt : o < ((done.length : Nat) : Int)
    · have ha := (hrow o).mp ho
      obtain ⟨h0, d, g1, g2, g3, g4⟩ := rng o ha hlt
      obtain ⟨d', e1, e2⟩ := h4 o ha hlt
      rw [List.getElem?_append_left (by omega), g1] at e1
      cases Option.some.inj e1
      rw [g2]
      have := g.symR hc e2
      simp [this]
    · simp [hlt]
theorem fit_all {rows : List (List Int)} {ths : List (Int × Int)} {done : List Int} {c : Int} (hd : ∀ q, q < done.length → FitP rows ths done q) (h : FitP rows ths (done ++ [c]) done.length) : ∀ q, q < (done ++ [c]).length → FitP rows ths (done ++ [c]) q := fun q hq => by
  rw [List.length_append] at hq
  by_cases e : q < done.length
  · exact (fit_pre e).mpr (hd q e)
  · have : q = done.length := by
      have : q < done.length + 1 := hq
      omega
    rw [this]
    exact h
theorem mod_hit {b c : Int} {q : Nat} (hc : 0 ≤ c ∧ c < (q : Nat)) : ∃ j : Nat, j < q ∧ (b + (j : Int)) % (q : Nat) = c := by
  have q0 : (0 : Int) < (q : Nat) := by omega
  refine ⟨((c - b) % (q : Nat)).toNat, ?_, ?_⟩
  · have h0 := Int.emod_nonneg (c - b) (show ((q : Nat) : Int) ≠ 0 by omega)
    have h1 := Int.emod_lt_of_pos (c - b) q0
    omega
  · have h0 := Int.emod_nonneg (c - b) (show ((q : Nat) : Int) ≠ 0 by omega)
    rw [show ((((c - b) % (q : Nat)).toNat : Nat) : Int) = (c - b) % (q : Nat) by omega]
    rw [Int.add_emod b, Int.emod_emod, ← Int.add_emod, show b + (c - b) = c by omega]
    exact Int.emod_eq_of_lt hc.1 hc.2

/-! ### a link found by a queue -/
/-- ks: the places with rows, dn: those that are done -/
structure Lk (xs ys : List Int) (ths : List (Int × Int)) (bs n : Nat) (first : List Int) (ks dn : List Int) (R : Int → List Int) : Prop where
  b0 : ((bs : Nat) : Int) ∈ ks
  fst : R (bs : Nat) = first
  nd : ks.Nodup
  sub : ∀ v ∈ dn, v ∈ ks
  rng : ∀ v ∈ ks, 0 ≤ v ∧ v < (n : Nat)
  any : ∀ R', LinkR xs ys ths (bs : Nat) first R' → ∀ v ∈ ks, R' v = R v
  done : ∀ v ∈ dn, ∀ c, Adj ths v c → c ∈ ks ∧ R c = carr xs ys (R v) c
  len : ∀ v ∈ ks, (R v).length ≤ 1000 + 2 * ks.length
section
variable {xs ys : List Int} {ths : List (Int × Int)} {bs n : Nat} {first : List Int} {ks dn : List Int} {R : Int → List Int}
theorem Lk.start (hb : bs < n) (hl : first.length ≤ 1000) : Lk xs ys ths bs n first [((bs : Nat) : Int)] [] (fun _ => first) :=
  ⟨List.mem_singleton_self _, rfl, nodup1 _, fun v hv => (by cases hv), fun v hv => by rw [List.mem_singleton.mp hv]; omega, fun R' h v hv => by rw [List.mem_singleton.mp hv]; exact h.1, fun v hv => (by cases hv), fun v _ => by show first.length ≤ _; omega⟩
theorem Lk.size (h : Lk xs ys ths bs n first ks dn R) : ks.length ≤ n := nodup_len n ks h.nd h.rng
theorem Lk.put (h : Lk xs ys ths bs n first ks dn R) {v j : Int} (hv : v ∈ ks) (hj : j ∉ ks) (ha : Adj ths v j) (hr : 0 ≤ j ∧ j < (n : Nat)) : Lk xs ys ths bs n first (ks ++ [j]) dn (fun q => if q = j then carr xs ys (R v) j else R q) := by
  have ne : ∀ c, c ∈ ks → c ≠ j := fun c hc z => hj (z ▸ hc)
  have at_ : ∀ c, c ∈ ks → (if c = j then carr xs ys (R v) j else R c) = R c := fun c hc => if_neg (ne c hc)
  refine ⟨List.mem_append_left _ h.b0, ?_, ?_, fun c hc => List.mem_append_left _ (h.sub c hc), fun c hc => ?_, fun R' hR c hc => ?_, fun c hc e he => ?_, fun c hc => ?_⟩
  · rw [at_ _ h.b0]; exact h.fst
  · refine List.nodup_append.mpr ⟨h.nd, nodup1 _, fun a ha b hb => ?_⟩
    rw [List.mem_singleton.mp hb]
    exact ne a ha
  · rcases List.mem_append.mp hc with hc | hc
    · exact h.rng c hc
    · rw [List.mem_singleton.mp hc]; exact hr
  · rcases List.mem_append.mp hc with hc | hc
    · try dsimp only
      rw [at_ c hc]
      exact h.any R' hR c hc
    · rw [List.mem_singleton.mp hc]
      try dsimp only
      rw [if_pos rfl, hR.2 v j ha, h.any R' hR v hv]
  · obtain ⟨h1, h2⟩ := h.done c hc e he
    try dsimp only
    rw [at_ e h1, at_ c (h.sub c hc)]
    exact ⟨List.mem_append_left _ h1, h2⟩
  · rw [List.length_append]
    show _ ≤ 1000 + 2 * (ks.length + 1)
    try dsimp only
    rcases List.mem_append.mp hc with hc | hc
    · rw [at_ c hc]
      have := h.len c hc
      omega
    · rw [List.mem_singleton.mp hc, if_pos rfl]
      have := h.len v hv
      have := carr_len (xs := xs) (ys := ys) (row := R v) (p := j)
      omega
theorem Lk.next (h : Lk xs ys ths bs n first ks dn R) {v : Int} (hv : v ∈ ks) (hd : ∀ c, Adj ths v c → c ∈ ks ∧ R c = carr xs ys (R v) c) : Lk xs ys ths bs n first ks (dn ++ [v]) R := by
  refine ⟨h.b0, h.fst, h.nd, fun c hc => ?_, h.rng, h.any, fun c hc e he => ?_, h.len⟩
  · rcases List.mem_append.mp hc with hc | hc
    · exact h.sub c hc
    · rw [List.mem_singleton.mp hc]; exact hv
  · rcases List.mem_append.mp hc with hc | hc
    · exact h.done c hc e he
    · rw [List.mem_singleton.mp hc] at he ⊢
      exact hd e he
theorem Lk.none (h : Lk xs ys ths bs n first ks dn R) {v j : Int} (hv : v ∈ ks) (hj : j ∈ ks) (ha : Adj ths v j) (hne : R j ≠ carr xs ys (R v) j) : ∀ R', ¬ LinkR xs ys ths (bs : Nat) first R' := fun R' hR => hne (by
  rw [← h.any R' hR v hv, ← hR.2 v j ha]
  exact (h.any R' hR j hj).symm)
theorem Lk.all (h : Lk xs ys ths bs n first ks ks R) (hc : Conn n ths) (hb : bs < n) : ∀ p : Nat, p < n → ((p : Nat) : Int) ∈ ks :=
  hc.from_ hb (S := fun p => p ∈ ks) h.b0 fun p c hp ha => (h.done p hp c ha).1
theorem Lk.fin (h : Lk xs ys ths bs n first ks ks R) (hi : InN n ths) (hc : Conn n ths) (hb : bs < n) : LinkR xs ys ths (bs : Nat) first R := by
  refine ⟨h.fst, fun p c ha => ?_⟩
  have hp := adj_lt hi (p := c) (c := p) ha.symm
  have := h.all hc hb p.toNat (by omega)
  rw [show ((p.toNat : Nat) : Int) = p by omega] at this
  exact (h.done p this c ha).2
end

/-! ### tables that are compared -/
theorem canRows : ∀ rows : List (List Int), PyData.canLayAll0 (rows.map rowD) = true
  | [] => rfl
  | r :: rows => by
    rw [List.map_cons, PyData.canLayAll0, canRows rows]
    show (PyData.canLay0 (.tuple (r.map .int)) && true) = true
    rw [PyData.canLay0, shAll]
    rfl
theorem depRows : ∀ rows : List (List Int), PyData.depthAll (rows.map rowD) ≤ 1
  | [] => Nat.zero_le _
  | r :: rows => by
    have := depRows rows
    rw [List.map_cons, PyData.depthAll]
    show max (PyData.depth (.tuple (r.map .int))) _ ≤ 1
    rw [PyData.depth, dpAll0]
    omega
theorem shRows (rows : List (List Int)) : SeqAt.shaped (.tuple (rows.map rowD)) = true := by
  have := depRows rows
  unfold SeqAt.shaped
  rw [PyData.canLay0, canRows, PyData.depth, decide_eq_true (by omega)]
  rfl
theorem eqvRows : ∀ a b : List (List Int), PyData.eqvAll (a.map rowD) (b.map rowD) = decide (a = b)
  | [], [] => by simp [PyData.eqvAll]
  | [], _ :: _ => by simp [PyData.eqvAll]
  | _ :: _, [] => by simp [PyData.eqvAll]
  | x :: xs, y :: ys => by
    rw [List.map_cons, List.map_cons, PyData.eqvAll, eqvRows xs ys]
    show (PyData.eqv (.tuple (x.map .int)) (.tuple (y.map .int)) && _) = _
    rw [PyData.eqv, eqvI, ← Bool.decide_and]
    exact decide_eq_decide.mpr (by rw [List.cons.injEq])
theorem eqTT {K : PySem.W.Frag} {H : Hp} {a b : Addr} {r1 r2 : List (List Int)} {Q : VK} (ha : Bw.TT K H a r1) (hb : Bw.TT K H b r2) (q : Q (.bl (decide (r1 = r2))) H) : rEqD K (.ref a) (.ref b) H Q :=
  ⟨_, _, ha, hb, shRows _, shRows _, by rw [PyData.eqv, eqvRows]; exact q⟩
def three1 : List (List Int) := [[1, 2], [0, 2], [0, 1]]
def three2 : List (List Int) := [[0, 1, 2], [0, 2], [0, 1]]
theorem good3 : GoodT three2 := by
  refine ⟨by decide, by decide, fun row hr => ?_, fun p row hp s hs => ?_⟩
  · simp [three2] at hr
    rcases hr with rfl | rfl | rfl
    · exact asc_ok (by decide) (by decide) (by decide)
    · exact asc_ok (by decide) (by decide) (by decide)
    · exact asc_ok (by decide) (by decide) (by decide)
  · have hp3 := (List.getElem?_eq_some_iff.mp hp).1
    have hp3 : p < 3 := hp3
    obtain rfl | rfl | rfl : p = 0 ∨ p = 1 ∨ p = 2 := by omega
    · cases Option.some.inj hp
      simp at hs
      rcases hs with rfl | rfl | rfl
      · exact ⟨[0, 1, 2], rfl, by decide⟩
      · exact ⟨[0, 2], rfl, by decide⟩
      · exact ⟨[0, 1], rfl, by decide⟩
    · cases Option.some.inj hp
      simp at hs
      rcases hs with rfl | rfl
      · exact ⟨[0, 1, 2], rfl, by decide⟩
      · exact ⟨[0, 1], rfl, by decide⟩
    · cases Option.some.inj hp
      simp at hs
      rcases hs with rfl | rfl
      · exact ⟨[0, 1, 2], rfl, by decide⟩
      · exact ⟨[0, 2], rfl, by decide⟩
theorem road3 : Road three2 := ⟨0, 1, by decide, by decide, by decide, by decide, by decide, by decide⟩
/-! ### the line -/
def lineL (k : Nat) : List (Int × Int) := (List.range k).map fun (i : Nat) => ((i : Int), (i : Int) + 1)
theorem lineL_snoc (k : Nat) : lineL (k + 1) = lineL k ++ [((k : Int), (k : Int) + 1)] := by
  unfold lineL
  rw [List.range_succ, List.map_append]
  rfl
theorem lineL_len (k : Nat) : (lineL k).length = k := by
  unfold lineL
  rw [List.length_map, List.length_range]
theorem lineL_at {k i : Nat} {e : Int × Int} (h : (lineL k)[i]? = some e) : i < k ∧ e = ((i : Int), (i : Int) + 1) := by
  have hi := (List.getElem?_eq_some_iff.mp h).1
  rw [lineL_len] at hi
  unfold lineL at h
  rw [List.getElem?_map, List.getElem?_range hi] at h
  exact ⟨hi, (Option.some.inj h).symm⟩
theorem lineL_tree {n : Nat} (hn : 1 ≤ n) : TreeK n (lineL (n - 1)) := ⟨by rw [lineL_len]; omega, fun i e he => by
  obtain ⟨_, rfl⟩ := lineL_at he
  dsimp only
  omega⟩
theorem lineL_good {n : Nat} (n1 : 1 ≤ n) (n24 : n ≤ 24) : GoodN n (lineL (n - 1)) := by
  have t := lineL_tree n1
  refine goodN_of n1 n24 (List.Perm.refl _) ?_ t.nodup t.inN t.tree (by rw [lineL_len]; omega)
  refine List.pairwise_iff_getElem.mpr fun i j hi hj hij => ?_
  obtain ⟨_, e1⟩ := lineL_at (List.getElem?_eq_getElem hi)
  obtain ⟨_, e2⟩ := lineL_at (List.getElem?_eq_getElem hj)
  rw [e1, e2]
  left
  dsimp only
  omega
theorem line_stand {rows : List (List Int)} {n : Nat} (h : Road rows) : ∃ st, Stand rows n (lineL (n - 1)) st := by
  obtain ⟨p, s, p0, p1, s0, s1, h1, h2⟩ := h
  refine ⟨(List.range n).map fun i => if i % 2 = 0 then p else s, by rw [List.length_map, List.length_range], fun q hq => ?_⟩
  have at_ : ∀ i, i < n → ((List.range n).map fun i => if i % 2 = 0 then p else s)[i]? = some (if i % 2 = 0 then p else s) := fun i hi => by
    rw [List.getElem?_map, List.getElem?_range hi]
    rfl
  refine ⟨_, at_ q hq, by split <;> assumption, by split <;> assumption, fun o ha ho => ?_⟩
  have adj : o = (q : Int) - 1 ∧ 0 < q := by
    rcases ha with ha | ha
    · obtain ⟨i, hi, e⟩ := List.getElem_of_mem ha
      obtain ⟨_, e2⟩ := lineL_at (List.getElem?_eq_getElem hi)
      rw [e] at e2
      cases e2
      omega
    · obtain ⟨i, hi, e⟩ := List.getElem_of_mem ha
      obtain ⟨_, e2⟩ := lineL_at (List.getElem?_eq_getElem hi)
      rw [e] at e2
      have z1 := congrArg Prod.fst e2
      have z2 := congrArg Prod.snd e2
      dsimp only at z1 z2
      omega
  obtain ⟨rfl, hq0⟩ := adj
  have et : ((q : Int) - 1).toNat = q - 1 := by omega
  rw [et]
  refine ⟨_, at_ (q - 1) (by omega), ?_⟩
  by_cases c : q % 2 = 0
  · rw [if_pos c, if_neg (by omega)]
    exact h1
  · rw [if_neg c, if_pos (by omega)]
    exact h2
/-! ### straight rows that are drawn -/
theorem str_snoc {l : List Int} {c : Int} (h : Str8 l) (h2 : ∀ d, 2 ≤ l.length → l[l.length - 2]? = some d → d ≠ c) : Str8 (l ++ [c]) := str_ix.mpr fun i hi => by
  rw [List.length_append] at hi
  have hi : i + 2 < l.length + 1 := hi
  by_cases e : i + 2 < l.length
  · rw [List.getElem?_append_left (by omega), List.getElem?_append_left e]
    exact str_ix.mp h i e
  · have e2 : i + 2 = l.length := by omega
    rw [List.getElem?_append_left (by omega), e2, List.getElem?_append_right (Nat.le_refl _), Nat.sub_self]
    intro z
    refine h2 c (by omega) ?_ rfl
    rw [show l.length - 2 = i by omega, z]
    rfl
theorem rowAt_snoc {rows : List (List Int)} {l : List Int} {c d : Int} (h : ∀ i, rowAt rows l i) (hc : 0 ≤ c ∧ c < (rows.length : Nat)) (hd : l.getLast? = some d) (hm : c ∈ rowOf rows d.toNat) : ∀ i, rowAt rows (l ++ [c]) i := fun i x hx => by
  by_cases e : i < l.length
  · rw [List.getElem?_append_left e] at hx
    refine ⟨(h i x hx).1, fun d' h0 hd' => ?_⟩
    rw [List.getElem?_append_left (by omega)] at hd'
    exact (h i x hx).2 d' h0 hd'
  · have hi := (List.getElem?_eq_some_iff.mp hx).1
    rw [List.length_append] at hi
    have ei : i = l.length := by
      have : i < l.length + 1 := hi
      omega
    subst ei
    rw [List.getElem?_append_right (Nat.le_refl _), Nat.sub_self] at hx
    cases Option.some.inj hx
    refine ⟨hc, fun d' h0 hd' => ?_⟩
    rw [List.getElem?_append_left (by omega)] at hd'
    rw [List.getLast?_eq_getElem?] at hd
    rw [hd] at hd'
    cases Option.some.inj hd'
    exact hm
theorem rowAt_pre {rows : List (List Int)} {l m : List Int} (h : ∀ i, rowAt rows (l ++ m) i) : ∀ i, rowAt rows l i := fun i x hx => by
  have hi := (List.getElem?_eq_some_iff.mp hx).1
  obtain ⟨h1, h2⟩ := h i x (by rw [List.getElem?_append_left hi]; exact hx)
  exact ⟨h1, fun d h0 hd => h2 d h0 (by rw [List.getElem?_append_left (by omega)]; exact hd)⟩
/-- a straight row of the table that begins with c -/
structure SRow (rows : List (List Int)) (c : Int) (row : List Int) : Prop where
  hd : row.head? = some c
  at_ : ∀ i, rowAt rows row i
  st : Str8 row
theorem SRow.pos {rows : List (List Int)} {c : Int} {row : List Int} (h : SRow rows c row) : 0 < row.length := by
  have := h.hd
  cases row with
  | nil => cases this
  | cons x r => simp
theorem SRow.last {rows : List (List Int)} {c : Int} {row : List Int} (h : SRow rows c row) : ∃ d, row.getLast? = some d ∧ 0 ≤ d ∧ d < (rows.length : Nat) := by
  have hp := h.pos
  refine ⟨row[row.length - 1]'(by omega), by rw [List.getLast?_eq_getElem?]; exact List.getElem?_eq_getElem _, ?_⟩
  exact (h.at_ (row.length - 1) _ (List.getElem?_eq_getElem _)).1
theorem SRow.one {rows : List (List Int)} {c : Int} (h : 0 ≤ c ∧ c < (rows.length : Nat)) : SRow rows c [c] := by
  refine ⟨rfl, fun i x hx => ?_, str_ix.mpr fun i hi => absurd hi (by show ¬ i + 2 < 1; omega)⟩
  have hi := (List.getElem?_eq_some_iff.mp hx).1
  have hi : i < 1 := hi
  have : i = 0 := by omega
  subst this
  cases Option.some.inj hx
  exact ⟨h, fun d h0 => absurd h0 (by omega)⟩
theorem SRow.init {rows : List (List Int)} {c : Int} {row : List Int} (h : SRow rows c row) (hl : 2 ≤ row.length) : SRow rows c row.dropLast := by
  have e : row = row.dropLast ++ [row.getLast (by intro z; rw [z] at hl; simp at hl)] := (List.dropLast_concat_getLast _).symm
  refine ⟨?_, rowAt_pre (m := [row.getLast (by intro z; rw [z] at hl; simp at hl)]) (by rw [← e]; exact h.at_), Str8.pre (m := [row.getLast (by intro z; rw [z] at hl; simp at hl)]) (by rw [← e]; exact h.st)⟩
  have h1 := h.hd
  cases row with
  | nil => cases h1
  | cons x r =>
    cases r with
    | nil => simp at hl
    | cons y r => exact h1
theorem SRow.ok {rows : List (List Int)} {c d : Int} {row : List Int} (h : SRow rows c row) (ho : row.length % 2 = 1) (hl : row.length ≤ 47) (hd : row.getLast? = some d) : OkFirst rows row c d :=
  ⟨hl, ho, h.hd, hd, h.at_, str_opn h.st⟩
theorem cutV_init {xs : List V} (h : 0 < xs.length) : cutV xs none (some (-1)) = xs.dropLast := by
  unfold cutV
  rw [HT.sIx_none]
  have e : HT.sIx xs.length xs.length (some (-1)) = xs.length - 1 := by
    show (if (-1 : Int) < 0 then (-1 + (xs.length : Int)).toNat else min (-1 : Int).toNat xs.length) = xs.length - 1
    rw [if_pos (by decide)]
    omega
  rw [e, List.drop_zero, Nat.sub_zero, List.dropLast_eq_take]
theorem cutV_ints (ns : List Int) (lo hi : Option Int) : ∃ ms : List Int, cutV (ns.map V.int) lo hi = ms.map V.int ∧ ms.length ≤ ns.length := by
  unfold cutV
  rw [← List.map_drop, ← List.map_take]
  refine ⟨_, rfl, ?_⟩
  rw [List.length_take, List.length_drop]
  omega
/-! ### rows of whole numbers, somewhere -/
def Rw1 (K : PySem.W.Frag) (H : Hp) (u : V) : Prop := ∃ (b : Addr) (row : List Int), u = .ref b ∧ SqT K H b (row.map V.int) ∧ row.length ≤ 1000
theorem Rw1.same {K : PySem.W.Frag} {H H1 : Hp} {u : V} (s : Same H H1) (h : Rw1 K H u) : Rw1 K H1 u := by
  obtain ⟨b, row, rfl, hb, hl⟩ := h
  exact ⟨b, row, rfl, s.tup hb, hl⟩
theorem Rw1.exb {K : PySem.W.Frag} {H H1 : Hp} {p : Addr} {u : V} (hp : Src H p) (e : Exb p H H1) (h : Rw1 K H u) : Rw1 K H1 u := by
  obtain ⟨b, row, rfl, hb, hl⟩ := h
  exact ⟨b, row, rfl, e.tup hp hb, hl⟩
theorem Rw1.upd {K : PySem.W.Frag} {H : Hp} {q : Addr} {ys : List V} {o : HO} {u : V} (hq : H q = some (.lst ys)) (h : Rw1 K H u) : Rw1 K (upd H q o) u := by
  obtain ⟨b, row, rfl, hb, hl⟩ := h
  exact ⟨b, row, rfl, tup_upd hb hq, hl⟩
/-! ### what linked_from is told to answer -/
open Classical in
noncomputable def linkD (xs ys : List Int) (ths : List (Int × Int)) (n b : Nat) (first : List Int) : PyData :=
  if h : ∃ R, LinkR xs ys ths (b : Nat) first R then .tuple (((List.range n).map fun p => h.choose ((p : Nat) : Int)).map rowD) else .none
theorem linkD_some {xs ys : List Int} {ths : List (Int × Int)} {n b : Nat} {first : List Int} {R : Int → List Int} (hc : Conn n ths) (hb : b < n) (h : LinkR xs ys ths (b : Nat) first R) : linkD xs ys ths n b first = .tuple (((List.range n).map fun p => R ((p : Nat) : Int)).map rowD) := by
  unfold linkD
  rw [dif_pos ⟨R, h⟩]
  have e : ∀ p ∈ List.range n, (Exists.choose (⟨R, h⟩ : ∃ R, LinkR xs ys ths (b : Nat) first R)) ((p : Nat) : Int) = R ((p : Nat) : Int) := fun p hp => LinkR.one hc hb (Exists.choose_spec (⟨R, h⟩ : ∃ R, LinkR xs ys ths (b : Nat) first R)) h p (List.mem_range.mp hp)
  rw [List.map_congr_left e]
theorem linkD_none {xs ys : List Int} {ths : List (Int × Int)} {n b : Nat} {first : List Int} (h : ∀ R, ¬ LinkR xs ys ths (b : Nat) first R) : linkD xs ys ths n b first = .none := by
  unfold linkD
  rw [dif_neg (fun ⟨R, hR⟩ => h R hR)]
theorem linkD_sh (xs ys : List Int) (ths : List (Int × Int)) (n b : Nat) (first : List Int) : (linkD xs ys ths n b first).canLay0 = true ∧ (linkD xs ys ths n b first).depth ≤ 2 := by
  unfold linkD
  split
  · rename_i h
    have := depRows ((List.range n).map fun p => h.choose ((p : Nat) : Int))
    exact ⟨by rw [PyData.canLay0, canRows], by rw [PyData.depth]; omega⟩
  · exact ⟨rfl, by show 0 ≤ 2; omega⟩
def pairD (s : Str) (d : PyData) : PyData := .tuple [.str s, d]
theorem pairD_sh {s : Str} {d : PyData} (hs : PyData.canLay0 (.str s) = true) (h1 : d.canLay0 = true) (h2 : d.depth ≤ 10) : SeqAt.shaped (pairD s d) = true := by
  unfold pairD SeqAt.shaped
  rw [PyData.canLay0, PyData.canLayAll0, PyData.canLayAll0, PyData.canLayAll0, h1, hs, PyData.depth, PyData.depthAll, PyData.depthAll, PyData.depthAll, decide_eq_true (by
    have : PyData.depth (.str s) = 0 := rfl
    omega)]
  rfl
open Classical in
/-- what _law_told gives -/
noncomputable def lkD (rows : List (List Int)) (n : Nat) (ths : List (Int × Int)) (xs ys first : List Int) (b : Nat) : PyData :=
  if xs.length ≠ n then pairD "size" (.int (xs.length : Nat)) else if ys.length ≠ n then pairD "size" (.int (ys.length : Nat))
  else if OkFirst rows first (xs.getD b 0) (ys.getD b 0) then pairD "link" (linkD xs ys ths n b first) else pairD "first" (.int 0)
theorem LLp.ll {p : Addr} {H : Hp} {l : Addr} {rows : List (List Int)} (h : LLp p H l rows) : LL H l rows := by
  obtain ⟨_, bs, h1, h2, h3, _⟩ := h
  exact ⟨bs, h1, h2, h3⟩
theorem wb_exb {K : PySem.W.Frag} {CT CN CW w p : Addr} {H H1 : Hp} {rows : List (List Int)} {n : Nat} {ths : List (Int × Int)} {ps : List Int} (hp : Src H p) (e : Exb p H H1) (h : WB K CT CN CW H w rows n ths ps) : WB K CT CN CW H1 w rows n ths ps := by
  obtain ⟨dx, t, m, pg, h1, ⟨dt, r, h2, h3⟩, h4, h5⟩ := h
  have ne : ∀ {b : Addr} {C d : Addr} {fs}, H b = some (.ins C d fs) → b ≠ p := fun {b C d fs} hb z => by
    obtain ⟨x, y, hq, _⟩ := hp
    rw [z, hq] at hb
    cases hb
  exact ⟨dx, t, m, pg, e _ _ (ne h1) h1, ⟨dt, r, e _ _ (ne h2) h2, tt_exb hp e h3⟩, NB.exb hp e h4, e.tup hp h5⟩
theorem shRowsL (rows : List (List Int)) : SeqAt.shaped (.list (rows.map rowD)) = true := by
  have := depRows rows
  unfold SeqAt.shaped
  rw [PyData.canLay0, canRows, PyData.depth, decide_eq_true (by omega)]
  rfl

/-! ### frozen places -/
def HeldS (ths : List (Int × Int)) (ps xs : List Int) (S : Int → Prop) (p : Int) : Prop := p ∈ ps ∨ (∀ c, ¬ Adj ths p c) ∨ ∃ c d, Adj ths p c ∧ Adj ths p d ∧ S c ∧ S d ∧ xs.getD c.toNat 0 ≠ xs.getD d.toNat 0
def Frz (n : Nat) (ths : List (Int × Int)) (ps xs : List Int) (p : Int) : Prop := ∃ S : Int → Prop, S p ∧ ∀ q, S q → (0 ≤ q ∧ q < (n : Nat)) ∧ HeldS ths ps xs S q
section
variable {n : Nat} {ths : List (Int × Int)} {ps xs : List Int} {S T : Int → Prop} {p : Int}
theorem HeldS.mono (h : ∀ c, Adj ths p c → S c → T c) (k : HeldS ths ps xs S p) : HeldS ths ps xs T p := by
  rcases k with k | k | ⟨c, d, h1, h2, h3, h4, h5⟩
  · exact .inl k
  · exact .inr (.inl k)
  · exact .inr (.inr ⟨c, d, h1, h2, h c h1 h3, h d h2 h4, h5⟩)
theorem Frz.held (h : Frz n ths ps xs p) : (0 ≤ p ∧ p < (n : Nat)) ∧ HeldS ths ps xs (Frz n ths ps xs) p := by
  obtain ⟨S, hp, hS⟩ := h
  exact ⟨(hS p hp).1, (hS p hp).2.mono fun c _ hc => ⟨S, hc, hS⟩⟩
theorem Frz.of (hS : ∀ q, S q → (0 ≤ q ∧ q < (n : Nat)) ∧ HeldS ths ps xs S q) (h : S p) : Frz n ths ps xs p := ⟨S, h, hS⟩
open Classical in
noncomputable def frzL (n : Nat) (ths : List (Int × Int)) (ps xs : List Int) : List Int := ((List.range n).map Int.ofNat).filter fun p => decide (Frz n ths ps xs p)
open Classical in
theorem mem_frzL : p ∈ frzL n ths ps xs ↔ Frz n ths ps xs p := by
  unfold frzL
  rw [List.mem_filter, decide_eq_true_eq]
  refine ⟨fun h => h.2, fun h => ⟨?_, h⟩⟩
  have := h.held.1
  exact List.mem_map.mpr ⟨p.toNat, List.mem_range.mpr (by omega), by show ((p.toNat : Nat) : Int) = p; omega⟩
theorem frzL_len : (frzL n ths ps xs).length ≤ n := by
  unfold frzL
  refine Nat.le_trans (List.length_filter_le _ _) ?_
  rw [List.length_map, List.length_range]
  exact Nat.le_refl _
open Classical in
/-- a list that tells just the frozen places tells them -/
theorem frzL_of {f : Int → Bool} (h : ∀ q : Nat, q < n → (f (q : Nat) = true ↔ Frz n ths ps xs (q : Nat))) : ((List.range n).map Int.ofNat).filter f = frzL n ths ps xs := by
  unfold frzL
  refine List.filter_congr fun c hc => ?_
  obtain ⟨i, hi, rfl⟩ := List.mem_map.mp hc
  have := h i (List.mem_range.mp hi)
  show f ((i : Nat) : Int) = decide (Frz n ths ps xs ((i : Nat) : Int))
  rw [Bool.eq_iff_iff, decide_eq_true_eq]
  exact this
end
theorem count_set_false : ∀ {bs : List Bool} {p : Nat}, bs[p]? = some true → (bs.set p false).count true + 1 = bs.count true
  | [], p, h => by simp at h
  | b :: bs, 0, h => by
    cases Option.some.inj h
    simp
  | b :: bs, p + 1, h => by
    have := count_set_false (bs := bs) (p := p) (by simpa using h)
    rw [List.set_cons_succ, List.count_cons, List.count_cons]
    omega
theorem reps_bl (n : Nat) (b : Bool) : (List.replicate n [V.bl b]).flatten = (List.replicate n b).map V.bl := by
  induction n with
  | zero => rfl
  | succ n ih => rw [List.replicate_succ, List.flatten_cons, ih, List.replicate_succ]; rfl
/-! ### deeds -/
/-- the coat c at v is let at xs -/
def LetP (rows : List (List Int)) (ths : List (Int × Int)) (ps xs : List Int) (v c : Int) : Prop := v ∉ ps ∧ c ≠ xs.getD v.toNat 0 ∧ ∃ q : Int, (∃ o, Adj ths v o) ∧ (∀ o, Adj ths v o → xs.getD o.toNat 0 = q) ∧ c ∈ rowOf rows q.toNat
/-- by deeds -/
inductive Led (rows : List (List Int)) (n : Nat) (ths : List (Int × Int)) (ps : List Int) : List Int → List Int → Prop
  | refl {xs : List Int} : Led rows n ths ps xs xs
  | step {xs ys : List Int} {v : Nat} {c : Int} (h : Led rows n ths ps xs ys) (hv : v < n) (hl : LetP rows ths ps ys (v : Nat) c) : Led rows n ths ps xs (ys.set v c)
section
variable {rows : List (List Int)} {n : Nat} {ths : List (Int × Int)} {ps xs ys : List Int}
theorem Led.trans {zs : List Int} (h : Led rows n ths ps xs ys) (k : Led rows n ths ps ys zs) : Led rows n ths ps xs zs := by
  induction k with
  | refl => exact h
  | step _ hv hl ih => exact ih.step hv hl
/-- threads tie places with coats beside one another -/
theorem Stand.adj (g : GoodT rows) (hi : InN n ths) (h : Stand rows n ths xs) {p o : Int} (ha : Adj ths p o) : xs.getD o.toNat 0 ∈ rowOf rows (xs.getD p.toNat 0).toNat := by
  have key : ∀ p o : Int, Adj ths p o → o < p → xs.getD o.toNat 0 ∈ rowOf rows (xs.getD p.toNat 0).toNat := fun p o ha hlt => by
    have hp := adj_lt hi ha.symm
    obtain ⟨c, hc, _, _, h4⟩ := h.2 p.toNat (by omega)
    obtain ⟨d, hd, hm⟩ := h4 o (by rw [show ((p.toNat : Nat) : Int) = p by omega]; exact ha) (by omega)
    rw [List.getD_eq_getElem?_getD, List.getD_eq_getElem?_getD, hd, hc]
    exact hm
  have hp := adj_lt hi ha.symm
  have ho := adj_lt hi ha
  obtain ⟨c, hc, c0, c1, _⟩ := h.2 p.toNat (by omega)
  rcases Int.lt_trichotomy o p with hlt | heq | hgt
  · exact key p o ha hlt
  · subst heq
    rcases ha with ha | ha
    · have := hi _ ha; dsimp only at this; omega
    · have := hi _ ha; dsimp only at this; omega
  · have := key o p ha.symm hgt
    have e : xs.getD p.toNat 0 = c := by rw [List.getD_eq_getElem?_getD, hc]; rfl
    obtain ⟨d, hd, d0, d1, _⟩ := h.2 o.toNat (by omega)
    have e2 : xs.getD o.toNat 0 = d := by rw [List.getD_eq_getElem?_getD, hd]; rfl
    rw [e, e2] at this ⊢
    exact g.symR ⟨d0, d1⟩ this
theorem Stand.coat (h : Stand rows n ths xs) {p : Nat} (hp : p < n) : 0 ≤ xs.getD p 0 ∧ xs.getD p 0 < (rows.length : Nat) := by
  obtain ⟨c, hc, c0, c1, _⟩ := h.2 p hp
  rw [List.getD_eq_getElem?_getD, hc]
  exact ⟨c0, c1⟩
theorem Stand.of_adj (hi : InN n ths) (hl : xs.length = n) (hc : ∀ p : Nat, p < n → 0 ≤ xs.getD p 0 ∧ xs.getD p 0 < (rows.length : Nat)) (h : ∀ p o, Adj ths p o → xs.getD o.toNat 0 ∈ rowOf rows (xs.getD p.toNat 0).toNat) : Stand rows n ths xs := by
  refine ⟨hl, fun p hp => ?_⟩
  obtain ⟨c0, c1⟩ := hc p hp
  refine ⟨_, getD_some (by omega), c0, c1, fun o ha ho => ?_⟩
  have := adj_lt hi ha
  refine ⟨_, getD_some (by omega), ?_⟩
  have := h _ _ ha
  rw [Int.toNat_natCast] at this
  exact this
theorem getD_set {v w : Nat} {c : Int} (hv : v < xs.length) : (xs.set v c).getD w 0 = if w = v then c else xs.getD w 0 := by
  rw [List.getD_eq_getElem?_getD, List.getD_eq_getElem?_getD, List.getElem?_set]
  by_cases e : v = w
  · subst e
    simp [hv]
  · rw [if_neg e, if_neg (Ne.symm e)]
theorem no_self (hi : InN n ths) {p : Int} : ¬ Adj ths p p := fun ha => by
  rcases ha with ha | ha
  · have := hi _ ha; dsimp only at this; omega
  · have := hi _ ha; dsimp only at this; omega
theorem Stand.let (g : GoodT rows) (hi : InN n ths) (h : Stand rows n ths xs) {v : Nat} {c : Int} (hv : v < n) (hl : LetP rows ths ps xs (v : Nat) c) : Stand rows n ths (xs.set v c) := by
  obtain ⟨_, _, q, ⟨o0, ho0⟩, hq, hcq⟩ := hl
  have hxl := h.1
  have ho := adj_lt hi ho0
  have hqr : 0 ≤ q ∧ q < (rows.length : Nat) := by
    rw [← hq o0 ho0]
    exact h.coat (by omega)
  have hrow : rows[q.toNat]? = some (rows[q.toNat]'(by omega)) := List.getElem?_eq_getElem (by omega)
  have hcr : 0 ≤ c ∧ c < (rows.length : Nat) := by
    rw [row_of hrow] at hcq
    exact g.lt (List.getElem_mem _) hcq
  have at_ : ∀ w : Int, 0 ≤ w → (xs.set v c).getD w.toNat 0 = if w = (v : Nat) then c else xs.getD w.toNat 0 := fun w hw => by
    rw [getD_set (by omega)]
    by_cases e : w = (v : Nat)
    · rw [if_pos e, if_pos (by omega)]
    · rw [if_neg e, if_neg (by omega)]
  refine Stand.of_adj hi (by rw [List.length_set]; exact hxl) (fun p hp => ?_) fun p o ha => ?_
  · rw [getD_set (by omega)]
    split
    · exact hcr
    · exact h.coat hp
  · have hp := adj_lt hi ha.symm
    have ho := adj_lt hi ha
    rw [at_ p hp.1, at_ o ho.1]
    by_cases e1 : p = (v : Nat)
    · have e2 : o ≠ (v : Nat) := fun z => no_self hi (p := p) (by rw [z, ← e1] at ha; exact ha)
      rw [if_pos e1, if_neg e2, hq o (e1 ▸ ha)]
      exact g.symR hqr hcq
    · rw [if_neg e1]
      by_cases e2 : o = (v : Nat)
      · rw [if_pos e2, hq p (e2 ▸ ha.symm)]
        exact hcq
      · rw [if_neg e2]
        exact h.adj g hi ha
theorem frz_let (hi : InN n ths) {v : Nat} {c : Int} (hv : v < xs.length) (hl : LetP rows ths ps xs (v : Nat) c) : ¬ Frz n ths ps xs (v : Nat) ∧ ∀ p, Frz n ths ps xs p → Frz n ths ps (xs.set v c) p ∧ (xs.set v c).getD p.toNat 0 = xs.getD p.toNat 0 := by
  obtain ⟨h1, _, q, ⟨o0, ho0⟩, hq, _⟩ := hl
  have nv : ¬ Frz n ths ps xs (v : Nat) := fun z => by
    rcases z.held.2 with k | k | ⟨a, b, ha, hb, _, _, hne⟩
    · exact h1 k
    · exact k o0 ho0
    · exact hne (by rw [hq a ha, hq b hb])
  have at_ : ∀ w, Frz n ths ps xs w → (xs.set v c).getD w.toNat 0 = xs.getD w.toNat 0 := fun w hw => by
    have := hw.held.1
    rw [getD_set hv, if_neg (fun z => nv (by rw [show ((v : Nat) : Int) = w by omega]; exact hw))]
  refine ⟨nv, fun p hp => ⟨Frz.of (S := Frz n ths ps xs) (fun q hq => ⟨hq.held.1, ?_⟩) hp, at_ p hp⟩⟩
  rcases hq.held.2 with k | k | ⟨a, b, ha, hb, fa, fb, hne⟩
  · exact .inl k
  · exact .inr (.inl k)
  · exact .inr (.inr ⟨a, b, ha, hb, fa, fb, by rw [at_ a fa, at_ b fb]; exact hne⟩)
/-- what deeds keep -/
structure Kept (rows : List (List Int)) (n : Nat) (ths : List (Int × Int)) (ps xs ys : List Int) : Prop where
  st : Stand rows n ths ys
  frz : ∀ p, Frz n ths ps ys p ↔ Frz n ths ps xs p
  same : ∀ p, Frz n ths ps xs p → ys.getD p.toNat 0 = xs.getD p.toNat 0
theorem LetP.after (hi : InN n ths) {v : Nat} {c : Int} (hv : v < xs.length) (hl : LetP rows ths ps xs (v : Nat) c) (hx : (∃ q : Int, 0 ≤ q) → True) : ∀ o, Adj ths (v : Nat) o → (xs.set v c).getD o.toNat 0 = xs.getD o.toNat 0 := fun o ho => by
  have := adj_lt hi ho
  rw [getD_set hv, if_neg (fun z => no_self hi (p := ((v : Nat) : Int)) (by rw [show o = ((v : Nat) : Int) by omega] at ho; exact ho))]
theorem frz_back (hi : InN n ths) {v : Nat} {c : Int} (hv : v < xs.length) (hl : LetP rows ths ps xs (v : Nat) c) : ∀ p, Frz n ths ps (xs.set v c) p → Frz n ths ps xs p := by
  obtain ⟨h1, _, q, ⟨o0, ho0⟩, hq, _⟩ := id hl
  have aft := hl.after hi hv (fun _ => trivial)
  have nv : ¬ Frz n ths ps (xs.set v c) (v : Nat) := fun z => by
    rcases z.held.2 with k | k | ⟨a, b, ha, hb, _, _, hne⟩
    · exact h1 k
    · exact k o0 ho0
    · exact hne (by rw [aft a ha, aft b hb, hq a ha, hq b hb])
  have at_ : ∀ w, Frz n ths ps (xs.set v c) w → (xs.set v c).getD w.toNat 0 = xs.getD w.toNat 0 := fun w hw => by
    have := hw.held.1
    rw [getD_set hv, if_neg (fun z => nv (by rw [show ((v : Nat) : Int) = w by omega]; exact hw))]
  intro p hp
  refine Frz.of (S := Frz n ths ps (xs.set v c)) (fun q hq => ⟨hq.held.1, ?_⟩) hp
  rcases hq.held.2 with k | k | ⟨a, b, ha, hb, fa, fb, hne⟩
  · exact .inl k
  · exact .inr (.inl k)
  · exact .inr (.inr ⟨a, b, ha, hb, fa, fb, by rw [← at_ a fa, ← at_ b fb]; exact hne⟩)
theorem Led.kept (g : GoodT rows) (hi : InN n ths) (hs : Stand rows n ths xs) (h : Led rows n ths ps xs ys) : Kept rows n ths ps xs ys := by
  induction h with
  | refl => exact ⟨hs, fun _ => Iff.rfl, fun _ _ => rfl⟩
  | @step ys v c h hv hl ih =>
    obtain ⟨i1, i2, i3⟩ := ih
    have hvl : v < ys.length := by rw [i1.1]; exact hv
    obtain ⟨_, f2⟩ := frz_let hi hvl hl
    refine ⟨i1.let g hi hv hl, fun p => ⟨fun z => (i2 p).mp (frz_back hi hvl hl p z), fun z => (f2 p ((i2 p).mpr z)).1⟩, fun p hp => ?_⟩
    rw [(f2 p ((i2 p).mpr hp)).2, i3 p hp]
end
/-! ### a dict whose keys are drawn -/
theorem putK_keys {κ : Type} [DecidableEq κ] (kvs : List (κ × V)) (k : κ) (v : V) : (k ∈ kvs.map (·.1) ∧ (putK kvs k v).map (·.1) = kvs.map (·.1)) ∨ (k ∉ kvs.map (·.1) ∧ (putK kvs k v).map (·.1) = kvs.map (·.1) ++ [k]) := by
  unfold putK
  by_cases h : (kvs.any fun kv => decide (kv.1 = k)) = true
  · left
    rw [if_pos h]
    refine ⟨?_, ?_⟩
    · obtain ⟨e, he, h2⟩ := List.any_eq_true.mp h
      exact List.mem_map.mpr ⟨e, he, of_decide_eq_true h2⟩
    · rw [List.map_map]
      refine List.map_congr_left fun e _ => ?_
      show (if e.1 = k then (e.1, v) else e).1 = e.1
      split <;> rfl
  · right
    rw [if_neg h, List.map_append]
    refine ⟨fun z => h ?_, rfl⟩
    obtain ⟨e, he, rfl⟩ := List.mem_map.mp z
    exact List.any_eq_true.mpr ⟨e, he, decide_eq_true rfl⟩
theorem sorted_ok {ks ys : List Int} {m : Int} (hp : ys.Perm ks) (hs : ys.Pairwise (· ≤ ·)) (nd : ks.Nodup) (hr : ∀ k ∈ ks, 0 ≤ k ∧ k < m) : ∀ i, okAt ys m i :=
  asc_ok hs (hp.nodup_iff.mpr nd) fun c hc => hr c (hp.mem_iff.mp hc)
theorem TPs.app {H : Hp} : ∀ {vs ws : List V} {prs qrs : List (Int × Int)}, TPs H vs prs → TPs H ws qrs → TPs H (vs ++ ws) (prs ++ qrs)
  | vs, ws, prs, qrs, h, k => by
    refine ⟨by rw [List.length_append, List.length_append, h.1, k.1], fun i w e a b => ?_⟩
    by_cases hi : i < vs.length
    · rw [List.getElem?_append_left hi] at a
      rw [List.getElem?_append_left (by rw [← h.1]; exact hi)] at b
      exact h.2 i w e a b
    · rw [List.getElem?_append_right (by omega)] at a
      rw [List.getElem?_append_right (by rw [← h.1]; omega), ← h.1] at b
      exact k.2 _ w e a b
/-! ### the deeds that are let -/
open Classical in
/-- the coat of all neighbours -/
noncomputable def aroundP (ths : List (Int × Int)) (xs : List Int) (v : Int) : Option Int :=
  if h : ∃ q, (∃ o, Adj ths v o) ∧ ∀ o, Adj ths v o → xs.getD o.toNat 0 = q then some h.choose else none
section
variable {rows : List (List Int)} {n : Nat} {ths : List (Int × Int)} {ps xs : List Int} {v q : Int}
theorem around_some (h : ∃ o, Adj ths v o) (k : ∀ o, Adj ths v o → xs.getD o.toNat 0 = q) : aroundP ths xs v = some q := by
  unfold aroundP
  have hh : ∃ q, (∃ o, Adj ths v o) ∧ ∀ o, Adj ths v o → xs.getD o.toNat 0 = q := ⟨q, h, k⟩
  rw [dif_pos hh]
  obtain ⟨o, ho⟩ := h
  have := hh.choose_spec.2 o ho
  rw [← this, k o ho]
theorem around_none (h : ¬ ∃ q, (∃ o, Adj ths v o) ∧ ∀ o, Adj ths v o → xs.getD o.toNat 0 = q) : aroundP ths xs v = none := by
  unfold aroundP
  rw [dif_neg h]
theorem around_at (h : aroundP ths xs v = some q) : (∃ o, Adj ths v o) ∧ ∀ o, Adj ths v o → xs.getD o.toNat 0 = q := by
  unfold aroundP at h
  split at h
  · rename_i hh
    cases Option.some.inj h
    exact hh.choose_spec
  · cases h
/-- the coats that may be put at v -/
noncomputable def coatsL (rows : List (List Int)) (ths : List (Int × Int)) (ps xs : List Int) (v : Int) : List Int :=
  if v ∈ ps then [] else match aroundP ths xs v with
    | none => []
    | some q => (rowOf rows q.toNat).filter fun c => decide (c ≠ xs.getD v.toNat 0)
theorem mem_coatsL {c : Int} : c ∈ coatsL rows ths ps xs v ↔ LetP rows ths ps xs v c := by
  unfold coatsL LetP
  by_cases h : v ∈ ps
  · rw [if_pos h]
    exact ⟨fun z => (by cases z), fun z => absurd h z.1⟩
  rw [if_neg h]
  cases e : aroundP ths xs v with
  | none =>
    refine ⟨fun z => (by cases z), fun ⟨_, _, q, h1, h2, _⟩ => ?_⟩
    rw [around_some h1 h2] at e
    cases e
  | some q =>
    obtain ⟨h1, h2⟩ := around_at e
    show c ∈ (rowOf rows q.toNat).filter _ ↔ _
    rw [List.mem_filter, decide_eq_true_eq]
    constructor
    · rintro ⟨h3, h4⟩
      exact ⟨h, h4, q, h1, h2, h3⟩
    · rintro ⟨_, h4, q', h1', h2', h3⟩
      have := around_some h1' h2'
      rw [e] at this
      cases Option.some.inj this
      exact ⟨h3, h4⟩
/-- the deeds at the first k places -/
noncomputable def letsL (rows : List (List Int)) (ths : List (Int × Int)) (ps xs : List Int) (k : Nat) : List (Int × Int) :=
  (List.range k).flatMap fun v => (coatsL rows ths ps xs (v : Nat)).map fun c => ((v : Int), c)
theorem letsL_succ (k : Nat) : letsL rows ths ps xs (k + 1) = letsL rows ths ps xs k ++ (coatsL rows ths ps xs (k : Nat)).map fun c => ((k : Int), c) := by
  unfold letsL
  rw [List.range_succ, List.flatMap_append]
  simp
theorem mem_letsL {k : Nat} {e : Int × Int} : e ∈ letsL rows ths ps xs k ↔ 0 ≤ e.1 ∧ e.1 < (k : Nat) ∧ LetP rows ths ps xs e.1 e.2 := by
  unfold letsL
  rw [List.mem_flatMap]
  constructor
  · rintro ⟨v, hv, he⟩
    obtain ⟨c, hc, rfl⟩ := List.mem_map.mp he
    have := List.mem_range.mp hv
    exact ⟨by show (0 : Int) ≤ (v : Int); omega, by show (v : Int) < (k : Nat); omega, mem_coatsL.mp hc⟩
  · rintro ⟨h0, h1, h2⟩
    refine ⟨e.1.toNat, List.mem_range.mpr (by omega), List.mem_map.mpr ⟨e.2, ?_, ?_⟩⟩
    · rw [show ((e.1.toNat : Nat) : Int) = e.1 by omega]
      exact mem_coatsL.mpr h2
    · rw [show ((e.1.toNat : Nat) : Int) = e.1 by omega]
theorem coatsL_len (g : GoodT rows) : (coatsL rows ths ps xs v).length ≤ 8 := by
  unfold coatsL
  split
  · exact Nat.zero_le _
  · split
    · exact Nat.zero_le _
    · refine Nat.le_trans (List.length_filter_le _ _) ?_
      unfold rowOf
      rw [List.getD_eq_getElem?_getD]
      rename_i q _
      cases e : rows[q.toNat]? with
      | none => exact Nat.zero_le _
      | some r => exact asc_len g (List.mem_of_getElem? e)
theorem letsL_len (g : GoodT rows) : ∀ k, (letsL rows ths ps xs k).length ≤ 8 * k
  | 0 => Nat.zero_le _
  | k + 1 => by
    rw [letsL_succ, List.length_append, List.length_map]
    have := letsL_len g k
    have := coatsL_len (rows := rows) (ths := ths) (ps := ps) (xs := xs) (v := ((k : Nat) : Int)) g
    omega
end
/-! ### what is drawn -/
/-- a table, a net, pegs and a standing -/
structure WD (K : PySem.W.Frag) (H : Hp) (t r pg s : Addr) (rows : List (List Int)) (n : Nat) (ths : List (Int × Int)) (ps xs : List Int) : Prop where
  tt : Bw.TT K H t rows
  gT : GoodT rows
  tr : Bw.TT K H r (thR ths)
  gN : GoodN n ths
  hC : Conn n ths
  hp : SqT K H pg (ps.map V.int)
  okp : ∀ i, okAt ps (n : Nat) i
  hs : SqT K H s (xs.map V.int)
  st : Stand rows n ths xs
section
variable {K : PySem.W.Frag} {H H1 : Hp} {t r pg s p : Addr} {rows : List (List Int)} {n : Nat} {ths : List (Int × Int)} {ps xs : List Int}
theorem WD.same (e : Same H H1) (h : WD K H t r pg s rows n ths ps xs) : WD K H1 t r pg s rows n ths ps xs :=
  ⟨h.tt.same e, h.gT, h.tr.same e, h.gN, h.hC, e.tup h.hp, h.okp, e.tup h.hs, h.st⟩
theorem WD.exb (hp : Src H p) (e : Exb p H H1) (h : WD K H t r pg s rows n ths ps xs) : WD K H1 t r pg s rows n ths ps xs :=
  ⟨tt_exb hp e h.tt, h.gT, tt_exb hp e h.tr, h.gN, h.hC, e.tup hp h.hp, h.okp, e.tup hp h.hs, h.st⟩
end
/-! ### straight rings -/
def okNext (row : List Int) (c : Int) : Bool := decide (row.length < 2) || decide (row.getD (row.length - 2) 0 ≠ c)
def extR (rows : List (List Int)) (row : List Int) : List (List Int) := ((rowOf rows (row.getD (row.length - 1) 0).toNat).filter (okNext row)).map fun c => row ++ [c]
def strL (rows : List (List Int)) : Nat → List (List Int)
  | 0 => (List.range rows.length).map fun (p : Nat) => [(p : Int)]
  | k + 1 => (strL rows k).flatMap (extR rows)
def isRing (rows : List (List Int)) (row : List Int) : Bool := decide (row.getD 0 0 ∈ rowOf rows (row.getD (row.length - 1) 0).toNat) && (decide (row.getD (row.length - 2) 0 ≠ row.getD 0 0) && decide (row.getD (row.length - 1) 0 ≠ row.getD 1 0))
def ringsL (rows : List (List Int)) (n : Nat) : List (List Int) := (strL rows (n - 1)).filter (isRing rows)
/-- a row of the table with k steps -/
def RowT (rows : List (List Int)) (k : Nat) (row : List Int) : Prop := row.length = k + 1 ∧ (∀ i, i < row.length → 0 ≤ row.getD i 0 ∧ row.getD i 0 < (rows.length : Nat)) ∧ ∀ i, i + 1 < row.length → row.getD (i + 1) 0 ∈ rowOf rows (row.getD i 0).toNat
theorem getD_app {l : List Int} {c : Int} {i : Nat} : (l ++ [c]).getD i 0 = if i < l.length then l.getD i 0 else if i = l.length then c else 0 := by
  rw [List.getD_eq_getElem?_getD, List.getD_eq_getElem?_getD]
  by_cases h : i < l.length
  · rw [if_pos h, List.getElem?_append_left h]
  · rw [if_neg h, List.getElem?_append_right (by omega)]
    by_cases e : i = l.length
    · rw [if_pos e, e, Nat.sub_self]
      rfl
    · rw [if_neg e, List.getElem?_eq_none (by show 1 ≤ _; omega)]
      rfl
theorem strL_row {rows : List (List Int)} (g : GoodT rows) : ∀ (k : Nat), ∀ row ∈ strL rows k, RowT rows k row
  | 0, row, h => by
    obtain ⟨p, hp, rfl⟩ := List.mem_map.mp h
    have := List.mem_range.mp hp
    refine ⟨rfl, fun i hi => ?_, fun i hi => absurd hi (by show ¬ i + 1 < 1; omega)⟩
    have hi : i < 1 := hi
    obtain rfl : i = 0 := by omega
    show (0 : Int) ≤ (p : Int) ∧ (p : Int) < _
    omega
  | k + 1, row, h => by
    obtain ⟨r0, h0, h1⟩ := List.mem_flatMap.mp h
    obtain ⟨l, hr, ha⟩ := strL_row g k r0 h0
    obtain ⟨c, hc, rfl⟩ := List.mem_map.mp h1
    have hc := (List.mem_filter.mp hc).1
    have hlast := hr (r0.length - 1) (by omega)
    have hrow : rows[(r0.getD (r0.length - 1) 0).toNat]? = some (rows[(r0.getD (r0.length - 1) 0).toNat]'(by omega)) := List.getElem?_eq_getElem (by omega)
    have hcr : 0 ≤ c ∧ c < (rows.length : Nat) := by
      rw [row_of hrow] at hc
      exact g.lt (List.getElem_mem _) hc
    refine ⟨by rw [List.length_append, l]; rfl, fun i hi => ?_, fun i hi => ?_⟩
    · rw [List.length_append] at hi
      have hi : i < r0.length + 1 := hi
      rw [getD_app]
      by_cases e : i < r0.length
      · rw [if_pos e]
        exact hr i e
      · rw [if_neg e, if_pos (by omega)]
        exact hcr
    · rw [List.length_append] at hi
      have hi : i + 1 < r0.length + 1 := hi
      rw [getD_app, getD_app, if_pos (show i < r0.length by omega)]
      by_cases e : i + 1 < r0.length
      · rw [if_pos e]
        exact ha i e
      · rw [if_neg e, if_pos (by omega), show i = r0.length - 1 by omega]
        exact hc
theorem strL_len {rows : List (List Int)} (g : GoodT rows) : ∀ k : Nat, (strL rows k).length ≤ 8 ^ (k + 1)
  | 0 => by
    show ((List.range rows.length).map _).length ≤ 8
    rw [List.length_map, List.length_range]
    exact g.n8
  | k + 1 => by
    have ih := strL_len g k
    show ((strL rows k).flatMap (extR rows)).length ≤ 8 ^ (k + 1) * 8
    have key : ∀ L : List (List Int), (L.flatMap (extR rows)).length ≤ L.length * 8 := fun L => by
      induction L with
      | nil => exact Nat.le_refl _
      | cons r L ihL =>
        rw [List.flatMap_cons, List.length_append, List.length_cons, Nat.add_mul]
        have : (extR rows r).length ≤ 8 := by
          unfold extR
          rw [List.length_map]
          refine Nat.le_trans (List.length_filter_le _ _) ?_
          unfold rowOf
          rw [List.getD_eq_getElem?_getD (l := rows)]
          cases e : rows[(r.getD (r.length - 1) 0).toNat]? with
          | none => exact Nat.zero_le _
          | some r => exact asc_len g (List.mem_of_getElem? e)
        omega
    exact Nat.le_trans (key _) (Nat.mul_le_mul_right _ ih)
theorem ext_len {rows : List (List Int)} (g : GoodT rows) (r : List Int) : (extR rows r).length ≤ 8 := by
  unfold extR
  rw [List.length_map]
  refine Nat.le_trans (List.length_filter_le _ _) ?_
  unfold rowOf
  rw [List.getD_eq_getElem?_getD (l := rows)]
  cases e : rows[(r.getD (r.length - 1) 0).toNat]? with
  | none => exact Nat.zero_le _
  | some r => exact asc_len g (List.mem_of_getElem? e)
theorem exts_len {rows : List (List Int)} (g : GoodT rows) (L : List (List Int)) : (L.flatMap (extR rows)).length ≤ L.length * 8 := by
  induction L with
  | nil => exact Nat.le_refl _
  | cons r L ihL =>
    rw [List.flatMap_cons, List.length_append, List.length_cons, Nat.add_mul]
    have := ext_len g r
    omega
/-- what a straight ring of n stones is -/
structure RingP (rows : List (List Int)) (n : Nat) (row : List Int) : Prop where
  len : row.length = n
  rng : ∀ i, i < n → 0 ≤ row.getD i 0 ∧ row.getD i 0 < (rows.length : Nat)
  adj : ∀ i, i + 1 < n → row.getD (i + 1) 0 ∈ rowOf rows (row.getD i 0).toNat
  cls : row.getD 0 0 ∈ rowOf rows (row.getD (n - 1) 0).toNat
theorem ringsL_ring {rows : List (List Int)} (g : GoodT rows) {n : Nat} (hn : 1 ≤ n) {row : List Int} (h : row ∈ ringsL rows n) : RingP rows n row := by
  obtain ⟨h1, h2⟩ := List.mem_filter.mp h
  obtain ⟨l, hr, ha⟩ := strL_row g _ row h1
  have l : row.length = n := by omega
  unfold isRing at h2
  rw [Bool.and_eq_true, Bool.and_eq_true] at h2
  have h3 := of_decide_eq_true h2.1
  rw [l] at h3 hr ha
  exact ⟨l, hr, ha, h3⟩
/-- the ring's net, with one more place -/
def tailN (n : Nat) : List (Int × Int) := lineL (n - 1) ++ [((0 : Int), (n : Int) - 1), ((0 : Int), (n : Int))]
theorem mem_lineL {k : Nat} {e : Int × Int} : e ∈ lineL k ↔ ∃ i : Nat, i < k ∧ e = ((i : Int), (i : Int) + 1) := by
  constructor
  · intro h
    obtain ⟨i, hi, rfl⟩ := List.getElem_of_mem h
    obtain ⟨h1, h2⟩ := lineL_at (List.getElem?_eq_getElem hi)
    exact ⟨i, h1, h2⟩
  · rintro ⟨i, hi, rfl⟩
    unfold lineL
    exact List.mem_map.mpr ⟨i, List.mem_range.mpr hi, rfl⟩
theorem tailN_in {n : Nat} (hn : 3 ≤ n) : InN (n + 1) (tailN n) := fun e he => by
  unfold tailN at he
  rcases List.mem_append.mp he with he | he
  · obtain ⟨i, hi, rfl⟩ := mem_lineL.mp he
    dsimp only
    omega
  · simp only [List.mem_cons, List.not_mem_nil, or_false] at he
    rcases he with rfl | rfl
    · dsimp only; omega
    · dsimp only; omega
theorem tailN_nd {n : Nat} (hn : 3 ≤ n) : (tailN n).Nodup := by
  unfold tailN
  refine List.nodup_append.mpr ⟨(lineL_tree (n := n) (by omega)).nodup, ?_, fun a ha b hb => ?_⟩
  · simp
    omega
  · obtain ⟨i, hi, rfl⟩ := mem_lineL.mp ha
    simp only [List.mem_cons, List.not_mem_nil, or_false] at hb
    rcases hb with rfl | rfl
    · intro z
      have z1 := congrArg Prod.fst z
      have z2 := congrArg Prod.snd z
      dsimp only at z1 z2
      omega
    · intro z
      have z2 := congrArg Prod.snd z
      dsimp only at z2
      omega
theorem tailN_tree {n : Nat} (hn : 3 ≤ n) : Tree (n + 1) (tailN n) := fun v h0 hv => by
  unfold tailN
  by_cases e : v = n
  · subst e
    exact ⟨0, h0, List.mem_append_right _ (by simp)⟩
  · refine ⟨v - 1, by omega, List.mem_append_left _ (mem_lineL.mpr ⟨v - 1, by omega, ?_⟩)⟩
    rw [show ((v - 1 : Nat) : Int) + 1 = (v : Int) by omega]
theorem tailN_stand {rows : List (List Int)} {n : Nat} (g : GoodT rows) (hn : 3 ≤ n) {ths : List (Int × Int)} (hp : ths.Perm (tailN n)) {row : List Int} {c : Int} (h : RingP rows n row) (hc : 0 ≤ c ∧ c < (rows.length : Nat)) (hc0 : row.getD 0 0 ∈ rowOf rows c.toNat) : Stand rows (n + 1) ths (row ++ [c]) := by
  have hl := h.len
  refine ⟨by rw [List.length_append, hl]; rfl, fun p hp' => ?_⟩
  have at_ : ∀ i, i < n → (row ++ [c])[i]? = some (row.getD i 0) := fun i hi => by
    rw [List.getElem?_append_left (by omega)]
    exact getD_some (by omega)
  have adj : ∀ o : Int, Adj ths (p : Nat) o → o < (p : Nat) → (∃ i : Nat, o = (i : Int) ∧ p = i + 1 ∧ i + 1 < n) ∨ (o = 0 ∧ p = n - 1) ∨ (o = 0 ∧ p = n) := fun o ha ho => by
    rcases ha with ha | ha
    · have := tailN_in hn _ (hp.mem_iff.mp ha)
      dsimp only at this
      omega
    · have ha := hp.mem_iff.mp ha
      unfold tailN at ha
      rcases List.mem_append.mp ha with ha | ha
      · obtain ⟨i, hi, e⟩ := mem_lineL.mp ha
        have z1 := congrArg Prod.fst e
        have z2 := congrArg Prod.snd e
        dsimp only at z1 z2
        exact .inl ⟨i, z1, by omega, by omega⟩
      · simp only [List.mem_cons, List.not_mem_nil, or_false, Prod.mk.injEq] at ha
        rcases ha with ⟨rfl, z⟩ | ⟨rfl, z⟩
        · exact .inr (.inl ⟨rfl, by omega⟩)
        · exact .inr (.inr ⟨rfl, by omega⟩)
  by_cases e : p = n
  · subst e
    refine ⟨c, by rw [List.getElem?_append_right (by omega), hl, Nat.sub_self]; rfl, hc.1, hc.2, fun o ha ho => ?_⟩
    rcases adj o ha ho with ⟨i, rfl, z, hi⟩ | ⟨rfl, z⟩ | ⟨rfl, _⟩
    · omega
    · omega
    · exact ⟨_, at_ 0 (by omega), hc0⟩
  · have hpn : p < n := by omega
    refine ⟨_, at_ p hpn, (h.rng p hpn).1, (h.rng p hpn).2, fun o ha ho => ?_⟩
    rcases adj o ha ho with ⟨i, rfl, rfl, hi⟩ | ⟨rfl, rfl⟩ | ⟨rfl, z⟩
    · refine ⟨_, at_ i (by omega), ?_⟩
      exact g.symR (h.rng i (by omega)) (h.adj i hi)
    · exact ⟨_, at_ 0 (by omega), h.cls⟩
    · omega
/-- a ring turned by two places -/
theorem RingP.turn {rows : List (List Int)} {n : Nat} {row : List Int} (hn : 3 ≤ n) (h : RingP rows n row) : RingP rows n (row.drop 2 ++ row.take 2) := by
  have hl := h.len
  have at_ : ∀ i, i < n → (row.drop 2 ++ row.take 2).getD i 0 = if i + 2 < n then row.getD (i + 2) 0 else row.getD (i + 2 - n) 0 := fun i hi => by
    rw [List.getD_eq_getElem?_getD, List.getD_eq_getElem?_getD, List.getD_eq_getElem?_getD]
    by_cases e : i + 2 < n
    · rw [if_pos e, List.getElem?_append_left (by rw [List.length_drop]; omega), List.getElem?_drop, Nat.add_comm]
    · rw [if_neg e, List.getElem?_append_right (by rw [List.length_drop]; omega), List.length_drop, List.getElem?_take_of_lt (by omega), hl, show i - (n - 2) = i + 2 - n by omega]
  refine ⟨by rw [List.length_append, List.length_drop, List.length_take]; omega, fun i hi => ?_, fun i hi => ?_, ?_⟩
  · rw [at_ i hi]
    split
    · exact h.rng _ (by omega)
    · exact h.rng _ (by omega)
  · rw [at_ i (by omega), at_ (i + 1) hi]
    by_cases e : i + 3 < n
    · rw [if_pos (by omega), if_pos (by omega)]
      exact h.adj (i + 2) (by omega)
    · by_cases e2 : i + 2 < n
      · rw [if_pos e2, if_neg (by omega), show i + 1 + 2 - n = 0 by omega, show i + 2 = n - 1 by omega]
        exact h.cls
      · rw [if_neg e2, if_neg (by omega), show i + 1 + 2 - n = i + 2 - n + 1 by omega]
        exact h.adj _ (by omega)
  · rw [at_ 0 (by omega), at_ (n - 1) (by omega), if_neg (by omega), show n - 1 + 2 - n = 1 by omega]
    by_cases e : 0 + 2 < n
    · rw [if_pos e]
      exact h.adj 1 (by omega)
    · omega
theorem reps_int (n : Nat) (c : Int) : (List.replicate n [V.int c]).flatten = (List.replicate n c).map V.int := by
  induction n with
  | zero => rfl
  | succ n ih => rw [List.replicate_succ, List.flatten_cons, ih, List.replicate_succ]; rfl
theorem Rws.upd {K : PySem.W.Frag} {H : Hp} {q : Addr} {ys : List V} {o : HO} (hq : H q = some (.lst ys)) : ∀ {us : List V} {rs : List (List Int)}, Rws K H us rs → Rws K (upd H q o) us rs
  | [], [], _ => DpAll.nil
  | [], _ :: _, h => by cases h
  | _ :: _, [], h => by cases h
  | v :: us, r :: rs, h => by
    cases h with
    | cons x y =>
      obtain ⟨b, rfl, hb⟩ := dp_row x
      exact DpAll.cons (row_dp (tup_upd hb hq)) (Rws.upd hq y)
theorem Rws.app {K : PySem.W.Frag} {H : Hp} {us vs : List V} {rs qs : List (List Int)} (h : Rws K H us rs) (k : Rws K H vs qs) : Rws K H (us ++ vs) (rs ++ qs) := by
  unfold Rws at *
  rw [List.map_append]
  exact dpAll_app h k
theorem Rws.one {K : PySem.W.Frag} {H : Hp} {b : Addr} {r : List Int} (h : SqT K H b (r.map V.int)) : Rws K H [.ref b] [r] := DpAll.cons (row_dp h) .nil
theorem getD_last {l : List Int} (h : 0 < l.length) : l.getLast? = some (l.getD (l.length - 1) 0) := by
  rw [List.getLast?_eq_getElem?, getD_some (by omega)]

/-! ### ways along threads, and the rests along them -/
inductive Way (ths : List (Int × Int)) (b : Int) : Int → List Int → Prop
  | one : Way ths b b [b]
  | step {v j : Int} {w : List Int} : Way ths b v w → Adj ths v j → Way ths b j (w ++ [j])
def alg (xs : List Int) (w : List Int) : List Int := w.map fun p => xs.getD p.toNat 0
def rid (xs ys w : List Int) : List Int := strk ((alg xs w).reverse ++ (alg ys w).tail)
theorem alg_app (xs v w : List Int) : alg xs (v ++ w) = alg xs v ++ alg xs w := List.map_append
theorem alg_rev (xs w : List Int) : alg xs w.reverse = (alg xs w).reverse := List.map_reverse
theorem alg_len (xs w : List Int) : (alg xs w).length = w.length := List.length_map _
section
variable {ths : List (Int × Int)} {b v : Int} {w : List Int}
theorem Way.head (h : Way ths b v w) : w.head? = some b := by
  induction h with
  | one => rfl
  | step h ha ih =>
    rename_i w2
    cases w2 with
    | nil => cases ih
    | cons x r => exact ih
theorem Way.last (h : Way ths b v w) : w.getLast? = some v := by
  cases h with
  | one => rfl
  | step h _ => rw [List.getLast?_append]; rfl
theorem Way.ne (h : Way ths b v w) : w ≠ [] := fun z => by
  have := h.head
  rw [z] at this
  cases this
theorem Way.rng {n : Nat} (h : Way ths b v w) (hi : InN n ths) (hb : 0 ≤ b ∧ b < (n : Nat)) : ∀ c ∈ w, 0 ≤ c ∧ c < (n : Nat) := by
  induction h with
  | one => intro c hc; rw [List.mem_singleton.mp hc]; exact hb
  | step _ ha ih =>
    intro c hc
    rcases List.mem_append.mp hc with hc | hc
    · exact ih c hc
    · rw [List.mem_singleton.mp hc]; exact adj_lt hi ha
theorem alg_head {xs : List Int} (h : w.head? = some b) : (alg xs w).head? = some (xs.getD b.toNat 0) := by
  unfold alg
  rw [List.head?_map, h]
  rfl
theorem alg_last {xs : List Int} (h : w.getLast? = some v) : (alg xs w).getLast? = some (xs.getD v.toNat 0) := by
  unfold alg
  rw [List.getLast?_map, h]
  rfl
end
theorem rid_len (xs ys w : List Int) : (rid xs ys w).length ≤ 2 * w.length := by
  unfold rid
  refine Nat.le_trans (strk_len _) ?_
  rw [List.length_append, List.length_reverse, List.length_tail, alg_len, alg_len]
  omega
theorem rid_step {xs ys w : List Int} {j : Int} (h : w ≠ []) : rid xs ys (w ++ [j]) = carr xs ys (rid xs ys w) j := by
  have e : (alg ys (w ++ [j])).tail = (alg ys w).tail ++ [ys.getD j.toNat 0] := by
    rw [alg_app]
    cases w with
    | nil => exact absurd rfl h
    | cons x r => rfl
  unfold rid carr
  rw [e, alg_app, List.reverse_append]
  show strk ([xs.getD j.toNat 0] ++ (alg xs w).reverse ++ ((alg ys w).tail ++ [ys.getD j.toNat 0])) = _
  rw [← List.append_assoc, List.append_assoc [xs.getD j.toNat 0], strk_app, strk_mid [xs.getD j.toNat 0], ← strk_app]
theorem rid_of_link {xs ys : List Int} {ths : List (Int × Int)} {b v : Int} {w : List Int} {R : Int → List Int} (h : LinkR xs ys ths b [xs.getD b.toNat 0] R) (hw : Way ths b v w) : R v = rid xs ys w := by
  induction hw with
  | one => rw [h.1]; rfl
  | step hw ha ih => rw [h.2 _ _ ha, ih, rid_step hw.ne]
theorem joins_iff {A B C D : List Int} {c e f : Int} (a0 : A.head? = some c) (b0 : B.head? = some c) (c0 : C.head? = some c) (d0 : D.head? = some c) (a1 : A.getLast? = some e) (b1 : B.getLast? = some f) (c1 : C.getLast? = some e) (d1 : D.getLast? = some f) :
    strk (A.reverse ++ B.tail) = strk (C.reverse ++ D.tail) ↔ strk (A ++ C.reverse.tail) = strk (B ++ D.reverse.tail) := by
  have rh : ∀ {L : List Int} {x : Int}, L.getLast? = some x → L.reverse.head? = some x := fun h => by rw [List.head?_reverse]; exact h
  have rl : ∀ {L : List Int} {x : Int}, L.head? = some x → L.reverse.getLast? = some x := fun h => by rw [List.getLast?_reverse]; exact h
  have hBc : B = c :: B.tail := by cases B with | nil => cases b0 | cons x r => cases b0; rfl
  have hA1 : A.take 1 = [c] := by cases A with | nil => cases a0 | cons x r => cases a0; rfl
  have h1 : strk (A ++ (strk (A.reverse ++ B.tail)).tail) = strk B := by
    rw [join3r a1 (rh a1) (rl a0) b0, strk_app, join_back a0, hA1]
    show strk (c :: B.tail) = _
    rw [← hBc]
  have h2 : strk (A ++ (strk (C.reverse ++ D.tail)).tail) = strk (A ++ C.reverse.tail ++ D.tail) := join3r a1 (rh c1) (rl c0) d0
  have h3 : strk (B ++ D.reverse.tail ++ D.tail) = strk B := by
    rw [← join3r b1 (rh d1) (rl d0) d0, there_back D f d1]
    show strk (B ++ []) = _
    rw [List.append_nil]
  constructor
  · intro h
    have h4 : strk (A ++ C.reverse.tail ++ D.tail) = strk B := by rw [← h2, ← h, h1]
    have hl : (A ++ C.reverse.tail).getLast? = some c := by
      rw [glue a1 (rh c1), List.getLast?_append, rl c0]
      rfl
    have h5 : strk ((A ++ C.reverse.tail) ++ (strk (D ++ D.reverse.tail)).tail) = strk (A ++ C.reverse.tail ++ D.tail ++ D.reverse.tail) := join3r hl d0 d1 (rh d1)
    have hD1 : (D.take 1).tail = [] := by cases D with | nil => cases d0 | cons x r => rfl
    rw [join_back d0, hD1, List.append_nil, strk_app (A ++ C.reverse.tail ++ D.tail), h4, ← strk_app] at h5
    exact h5
  · intro h
    have h4 : strk (A ++ (strk (C.reverse ++ D.tail)).tail) = strk B := by rw [h2, strk_app, h, ← strk_app, h3]
    have hh : ∀ {L M : List Int}, L.getLast? = some e → (strk (L.reverse ++ M)).head? = some e := fun {L M} hL => by
      rw [strk_head, List.head?_append, rh hL]
      rfl
    have k1 := join_off (b := strk (A.reverse ++ B.tail)) a1 (hh a1) a0
    have k2 := join_off (b := strk (C.reverse ++ D.tail)) a1 (hh c1) a0
    rw [h1, strk_idem] at k1
    rw [h4, strk_idem] at k2
    rw [← k1, ← k2]
section
variable {xs ys : List Int} {ths : List (Int × Int)} {b v : Int} {n : Nat}
theorem closed_iff (e : xs.getD b.toNat 0 = ys.getD b.toNat 0) {x y : Int} {wx wy : List Int} (hx : Way ths b x wx) (hy : Way ths b y wy) (ha : Adj ths x y) : rid xs ys wy = carr xs ys (rid xs ys wx) y ↔ strk (alg xs (wx ++ wy.reverse)) = strk (alg ys (wx ++ wy.reverse)) := by
  have hs := hx.step ha
  have k := joins_iff (A := alg xs (wx ++ [y])) (B := alg ys (wx ++ [y])) (C := alg xs wy) (D := alg ys wy) (alg_head hs.head) (by rw [e]; exact alg_head hs.head) (alg_head hy.head) (by rw [e]; exact alg_head hy.head) (alg_last hs.last) (alg_last hs.last) (alg_last hy.last) (alg_last hy.last)
  have ep : ∀ zs : List Int, alg zs (wx ++ [y]) ++ (alg zs wy).reverse.tail = alg zs (wx ++ wy.reverse) := fun zs => by
    rw [alg_app, alg_app, alg_rev, List.append_assoc]
    congr 1
    have := alg_last (xs := zs) hy.last
    rw [← List.head?_reverse] at this
    cases hr : (alg zs wy).reverse with
    | nil => rw [hr] at this; cases this
    | cons p r => rw [hr] at this; cases this; rfl
  rw [ep, ep] at k
  rw [← k, ← rid_step hx.ne]
  exact ⟨fun h => h.symm, fun h => h.symm⟩
theorem rid_ends (e : xs.getD b.toNat 0 = ys.getD b.toNat 0) {w : List Int} (h : Way ths b v w) : EndsR xs ys (rid xs ys w) v := by
  have h1 := alg_last (xs := xs) h.last
  have h2 := alg_head (xs := xs) h.head
  have h3 := alg_head (xs := ys) h.head
  refine ⟨strk_str _, ?_, ?_⟩
  · unfold rid
    rw [strk_head, List.head?_append, List.head?_reverse, h1]
    rfl
  · unfold rid
    rw [strk_last, glue (c := xs.getD b.toNat 0) (by rw [List.getLast?_reverse]; exact h2) (by rw [e]; exact h3), List.getLast?_append, alg_last h.last]
    rfl
/-- along each thread the ways closed by it -/
def Clos (ths : List (Int × Int)) (W : Int → List Int) (xs ys : List Int) : Prop := ∀ t ∈ ths, strk (alg xs (W t.1 ++ (W t.2).reverse)) = strk (alg ys (W t.1 ++ (W t.2).reverse))
theorem link_clos {W : Int → List Int} (hi : InN n ths) (hw : ∀ p : Nat, p < n → Way ths b (p : Nat) (W (p : Nat))) (e : xs.getD b.toNat 0 = ys.getD b.toNat 0) {R : Int → List Int} (h : LinkR xs ys ths b [xs.getD b.toNat 0] R) : Clos ths W xs ys := fun t ht => by
  obtain ⟨t0, t1, t2⟩ := hi t ht
  have h1 := hw t.1.toNat (by omega)
  have h2 := hw t.2.toNat (by omega)
  rw [show ((t.1.toNat : Nat) : Int) = t.1 by omega] at h1
  rw [show ((t.2.toNat : Nat) : Int) = t.2 by omega] at h2
  rw [← closed_iff e h1 h2 (.inl ht), ← rid_of_link h h2, ← rid_of_link h h1]
  exact h.2 _ _ (.inl ht)
theorem clos_link {W : Int → List Int} (hi : InN n ths) (hw : ∀ p : Nat, p < n → Way ths b (p : Nat) (W (p : Nat))) (e : xs.getD b.toNat 0 = ys.getD b.toNat 0) (hb : W b = [b]) (h : Clos ths W xs ys) : LinkR xs ys ths b [xs.getD b.toNat 0] fun p => rid xs ys (W p) := by
  refine ⟨by show rid xs ys (W b) = _; rw [hb]; rfl, fun p c ha => ?_⟩
  rcases ha with ha | ha
  · obtain ⟨t0, t1, t2⟩ := hi _ ha
    have h1 := hw p.toNat (by omega)
    have h2 := hw c.toNat (by omega)
    rw [show ((p.toNat : Nat) : Int) = p by omega] at h1
    rw [show ((c.toNat : Nat) : Int) = c by omega] at h2
    exact (closed_iff e h1 h2 (.inl ha)).mpr (h _ ha)
  · obtain ⟨t0, t1, t2⟩ := hi _ ha
    have h1 := hw c.toNat (by omega)
    have h2 := hw p.toNat (by omega)
    rw [show ((c.toNat : Nat) : Int) = c by omega] at h1
    rw [show ((p.toNat : Nat) : Int) = p by omega] at h2
    have := (closed_iff e h1 h2 (.inl ha)).mpr (h _ ha)
    show rid xs ys (W c) = carr xs ys (rid xs ys (W p)) c
    rw [this, carr_back (rid_ends e h1)]
theorem clos_rev {W : Int → List Int} (h : Clos ths W xs ys) : Clos ths W ys xs := fun t ht => (h t ht).symm
theorem carr_rev {row : List Int} {p : Int} : carr ys xs row.reverse p = (carr xs ys row p).reverse := by
  unfold carr
  rw [← strk_rev, List.reverse_append, List.reverse_append, List.append_assoc]
  rfl
theorem LinkR.back {first : List Int} {R : Int → List Int} (h : LinkR xs ys ths b first R) : LinkR ys xs ths b first.reverse fun p => (R p).reverse :=
  ⟨by show (R b).reverse = _; rw [h.1], fun p c ha => by show (R c).reverse = _; rw [h.2 p c ha, carr_rev]⟩
end
/-! ### the rows of a link are straight rows of the table, of even steps -/
theorem rowAt_suf {rows : List (List Int)} {l m : List Int} (h : ∀ i, rowAt rows (l ++ m) i) : ∀ i, rowAt rows m i := fun i x hx => by
  have e : ∀ k, (l ++ m)[l.length + k]? = m[k]? := fun k => by rw [List.getElem?_append_right (by omega)]; congr 1; omega
  obtain ⟨h1, h2⟩ := h (l.length + i) x (by rw [e]; exact hx)
  exact ⟨h1, fun d h0 hd => h2 d (by omega) (by rw [show l.length + i - 1 = l.length + (i - 1) by omega, e]; exact hd)⟩
theorem rowAt_app {rows : List (List Int)} {l m : List Int} {t : Int} (h1 : ∀ i, rowAt rows (l ++ [t]) i) (h2 : ∀ i, rowAt rows ([t] ++ m) i) : ∀ i, rowAt rows (l ++ [t] ++ m) i := fun i x hx => by
  by_cases c : i < l.length + 1
  · have hc : i < (l ++ [t]).length := by rw [List.length_append]; exact c
    rw [List.getElem?_append_left hc] at hx
    refine ⟨(h1 i x hx).1, fun d h0 hd => (h1 i x hx).2 d h0 ?_⟩
    rw [List.getElem?_append_left (by omega)] at hd
    exact hd
  · have e : ∀ k, (l ++ [t] ++ m)[l.length + k]? = ([t] ++ m)[k]? := fun k => by rw [List.append_assoc, List.getElem?_append_right (by omega)]; congr 1; omega
    rw [show i = l.length + (i - l.length) by omega, e] at hx
    refine ⟨(h2 _ x hx).1, fun d h0 hd => (h2 _ x hx).2 d (by omega) ?_⟩
    rw [show i - 1 = l.length + (i - l.length - 1) by omega, e] at hd
    exact hd
theorem strk_at {rows : List (List Int)} : ∀ (ns l : List Int), (∀ i, rowAt rows (l ++ ns) i) → ∀ i, rowAt rows (ns.foldl stp l) i
  | [], l, h => by rw [List.append_nil] at h; exact h
  | c :: ns, l, h => by
    rw [List.foldl_cons]
    refine strk_at ns _ ?_
    rcases stp_cases l c with ⟨m, x, rfl, e⟩ | ⟨e, _⟩
    · rw [e]
      refine rowAt_app (rowAt_pre (m := [x] ++ c :: ns) ?_) (rowAt_suf (l := m ++ [c, x]) h)
      have e2 : m ++ [c] ++ ([x] ++ c :: ns) = m ++ [c, x] ++ c :: ns := by simp
      rw [e2]
      exact h
    · rw [e, List.append_assoc]
      exact h
theorem strk_par : ∀ (ns l : List Int), (ns.foldl stp l).length % 2 = (l.length + ns.length) % 2
  | [], l => by rfl
  | c :: ns, l => by
    rw [List.foldl_cons, strk_par ns, List.length_cons]
    rcases stp_cases l c with ⟨m, x, rfl, e⟩ | ⟨e, _⟩
    · rw [e, List.length_append, List.length_append]
      show (m.length + 1 + ns.length) % 2 = (m.length + 2 + (ns.length + 1)) % 2
      omega
    · rw [e, List.length_append]
      show (l.length + 1 + ns.length) % 2 = _
      omega
theorem rowAt_cons {rows : List (List Int)} {l : List Int} {c d : Int} (h : ∀ i, rowAt rows l i) (hc : 0 ≤ c ∧ c < (rows.length : Nat)) (hd : l.head? = some d) (hm : d ∈ rowOf rows c.toNat) : ∀ i, rowAt rows ([c] ++ l) i := fun i x hx => by
  cases i with
  | zero =>
    cases Option.some.inj hx
    exact ⟨hc, fun d h0 => absurd h0 (by omega)⟩
  | succ i =>
    have hx : l[i]? = some x := hx
    refine ⟨(h i x hx).1, fun e h0 he => ?_⟩
    cases i with
    | zero =>
      cases Option.some.inj he
      rw [List.head?_eq_getElem?, hx] at hd
      cases Option.some.inj hd
      exact hm
    | succ i => exact (h (i + 1) x hx).2 e (by omega) he
/-- what a link's row at p is -/
structure LkRow (rows : List (List Int)) (xs ys row : List Int) (p : Int) : Prop where
  ends : EndsR xs ys row p
  odd : row.length % 2 = 1
  at_ : ∀ i, rowAt rows row i
section
variable {rows : List (List Int)} {n : Nat} {ths : List (Int × Int)} {xs ys row : List Int}
theorem LkRow.carr (g : GoodT rows) (hi : InN n ths) (hx : Stand rows n ths xs) (hy : Stand rows n ths ys) {p c : Int} (h : LkRow rows xs ys row p) (ha : Adj ths p c) : LkRow rows xs ys (K.carr xs ys row c) c := by
  obtain ⟨⟨h1, h2, h3⟩, h4, h5⟩ := h
  have hc := adj_lt hi ha
  have c1 := hx.coat (p := c.toNat) (by omega)
  have c2 := hy.coat (p := c.toNat) (by omega)
  refine ⟨carr_ends, ?_, fun i => ?_⟩
  · have := strk_par ([xs.getD c.toNat 0] ++ row ++ [ys.getD c.toNat 0]) []
    unfold K.carr strk
    rw [this, List.length_append, List.length_append]
    show (0 + (1 + row.length + 1)) % 2 = 1
    omega
  · refine strk_at _ [] ?_ i
    refine rowAt_snoc (d := ys.getD p.toNat 0) (rowAt_cons h5 c1 h2 (hx.adj g hi ha.symm)) c2 ?_ (hy.adj g hi ha)
    rw [List.getLast?_append, h3]
    rfl
theorem LkRow.of (g : GoodT rows) (hi : InN n ths) (hC : Conn n ths) (hx : Stand rows n ths xs) (hy : Stand rows n ths ys) {b : Nat} (hb : b < n) (e : xs.getD b 0 = ys.getD b 0) {R : Int → List Int} (h : LinkR xs ys ths (b : Nat) [xs.getD b 0] R) : ∀ p : Nat, p < n → LkRow rows xs ys (R (p : Nat)) (p : Nat) :=
  hC.from_ hb (S := fun p => LkRow rows xs ys (R p) p) (by
    rw [h.1]
    refine ⟨⟨str_ix.mpr fun i hi => absurd hi (by show ¬ i + 2 < 1; omega), rfl, by rw [Int.toNat_natCast, e]; rfl⟩, rfl, (SRow.one (hx.coat hb)).at_⟩) fun p c hp ha => by
    rw [h.2 p c ha]
    exact hp.carr g hi hx hy ha
end
/-! ### ways found by a queue, in any order -/
structure Wk (ths : List (Int × Int)) (bs n : Nat) (ks qs : List Int) (W : Int → List Int) : Prop where
  b0 : ((bs : Nat) : Int) ∈ ks
  wb : W (bs : Nat) = [((bs : Nat) : Int)]
  nd : ks.Nodup
  rng : ∀ v ∈ ks, 0 ≤ v ∧ v < (n : Nat)
  way : ∀ v ∈ ks, Way ths (bs : Nat) v (W v) ∧ (W v).length ≤ ks.length
  sub : ∀ v ∈ qs, v ∈ ks
section
variable {ths : List (Int × Int)} {bs n : Nat} {ks qs : List Int} {W : Int → List Int}
theorem Wk.start (hb : bs < n) : Wk ths bs n [((bs : Nat) : Int)] [((bs : Nat) : Int)] (fun _ => [((bs : Nat) : Int)]) :=
  ⟨List.mem_singleton_self _, rfl, nodup1 _, fun v hv => by rw [List.mem_singleton.mp hv]; omega, fun v hv => by rw [List.mem_singleton.mp hv]; exact ⟨.one, Nat.le_refl _⟩, fun v hv => hv⟩
theorem Wk.size (h : Wk ths bs n ks qs W) : ks.length ≤ n := nodup_len n ks h.nd h.rng
theorem Wk.put (h : Wk ths bs n ks qs W) {v j : Int} (hv : v ∈ ks) (hj : j ∉ ks) (ha : Adj ths v j) (hr : 0 ≤ j ∧ j < (n : Nat)) : Wk ths bs n (ks ++ [j]) (qs ++ [j]) (fun q => if q = j then W v ++ [j] else W q) := by
  have ne : ∀ c, c ∈ ks → c ≠ j := fun c hc z => hj (z ▸ hc)
  refine ⟨List.mem_append_left _ h.b0, ?_, ?_, fun c hc => ?_, fun c hc => ?_, fun c hc => ?_⟩
  · rw [if_neg (ne _ h.b0)]; exact h.wb
  · refine List.nodup_append.mpr ⟨h.nd, nodup1 _, fun a ha b hb => ?_⟩
    rw [List.mem_singleton.mp hb]
    exact ne a ha
  · rcases List.mem_append.mp hc with hc | hc
    · exact h.rng c hc
    · rw [List.mem_singleton.mp hc]; exact hr
  · rw [List.length_append]
    show Way _ _ _ (if c = j then W v ++ [j] else W c) ∧ (if c = j then W v ++ [j] else W c).length ≤ ks.length + 1
    rcases List.mem_append.mp hc with hc | hc
    · rw [if_neg (ne c hc)]
      exact ⟨(h.way c hc).1, Nat.le_succ_of_le (h.way c hc).2⟩
    · rw [if_pos (List.mem_singleton.mp hc), List.mem_singleton.mp hc, List.length_append]
      exact ⟨(h.way v hv).1.step ha, Nat.succ_le_succ (h.way v hv).2⟩
  · rcases List.mem_append.mp hc with hc | hc
    · exact List.mem_append_left _ (h.sub c hc)
    · exact List.mem_append_right _ hc
theorem Wk.less (h : Wk ths bs n ks qs W) {qs' : List Int} (hq : ∀ v ∈ qs', v ∈ qs) : Wk ths bs n ks qs' W := ⟨h.b0, h.wb, h.nd, h.rng, h.way, fun v hv => h.sub v (hq v hv)⟩
end
theorem DRw.exb {K : PySem.W.Frag} {H H1 : Hp} {p d : Addr} {ks : List Int} {R : Int → List Int} (hp : Src H p) (e : Exb p H H1) (h : DRw K H d ks R) : DRw K H1 d ks R := by
  obtain ⟨es, h1, h2, h3⟩ := h
  refine ⟨es, e _ _ (fun z => ?_) h1, h2, fun f hf => e.tup hp (h3 f hf)⟩
  obtain ⟨x, y, hq, _⟩ := hp
  rw [z, hq] at h1
  cases h1
theorem erase_mem {qs : List Int} {i : Nat} {c v : Int} (hi : qs[i]? = some v) (h : c ∉ qs.eraseIdx i) : c = v ∨ c ∉ qs := by
  by_cases z : c ∈ qs
  · left
    obtain ⟨k, hk, rfl⟩ := List.getElem_of_mem z
    by_cases e : k = i
    · subst e
      rw [List.getElem?_eq_getElem hk] at hi
      exact Option.some.inj hi
    · exact absurd (List.mem_eraseIdx_iff_getElem.mpr ⟨k, hk, e, rfl⟩) h
  · exact .inr z
theorem map_erase : ∀ (l : List Int) (k : Nat), (l.map V.int).eraseIdx k = (l.eraseIdx k).map V.int
  | [], _ => rfl
  | _ :: _, 0 => rfl
  | x :: l, k + 1 => by
    show V.int x :: (l.map V.int).eraseIdx k = V.int x :: (l.eraseIdx k).map V.int
    rw [map_erase]
theorem seqIx {r : Int} {k : Nat} (h0 : 0 ≤ r) (h1 : r < (k : Nat)) : seqIndex? r k = some r.toNat := by
  unfold seqIndex?
  have e1 : (if r < 0 then r + (k : Int) else r) = r := if_neg (by omega)
  dsimp only
  rw [e1, if_pos (by rw [Bool.and_eq_true]; exact ⟨decide_eq_true h0, decide_eq_true h1⟩)]
def closL (ths : List (Int × Int)) (W : Int → List Int) (xs : List Int) : List (List Int) := ths.map fun t => strk (alg xs (W t.1 ++ (W t.2).reverse))
theorem closL_iff {ths : List (Int × Int)} {W : Int → List Int} {xs ys : List Int} : closL ths W xs = closL ths W ys ↔ Clos ths W xs ys := by
  unfold closL Clos
  exact List.map_inj_left
theorem yRngO {n : Nat} : ∀ (i : Nat) (H : Hp) (x : V) (H' : Hp), YFn (fun i => V.int (1 + (i : Int))) i H x H' → i < n → H' = H ∧ x = .int (((List.range n).map fun (i : Nat) => (1 + (i : Int))).getD i 0) := by
  rintro i H x H' ⟨h1, rfl⟩ hi
  refine ⟨h1, ?_⟩
  show V.int (1 + (i : Int)) = _
  rw [List.getD_eq_getElem?_getD, List.getElem?_map, List.getElem?_range hi]
  rfl
theorem tyT {K : PySem.W.Frag} {H : Hp} {a : Addr} {xs : List V} (h : SqT K H a xs) : TyX K H (.ref a) (.type "tuple") := by
  rcases h with (h | ⟨o, h⟩) | ⟨o, its, n, h1, h2, _⟩
  · exact .base (.tup h)
  · exact .fTuple h
  · exact .kTuple h1 h2

/-! ### deeds, and the link to a standing that is led to -/
theorem set_ne {xs : List Int} {v : Nat} {c p : Int} (h0 : 0 ≤ p) (h : p ≠ (v : Nat)) : (xs.set v c).getD p.toNat 0 = xs.getD p.toNat 0 := by
  rw [List.getD_eq_getElem?_getD, List.getD_eq_getElem?_getD, List.getElem?_set_ne (by omega)]
theorem set_at {xs : List Int} {v : Nat} {c : Int} (h : v < xs.length) : (xs.set v c).getD v 0 = c := by
  rw [List.getD_eq_getElem?_getD, List.getElem?_set_self h]
  rfl
theorem strk1 (a : Int) : strk [a] = [a] := rfl
theorem strk_aba (a b : Int) : strk [a, b, a] = [a] := by
  exact strk_red (red1 (z := []))
theorem strk_abc {a b c : Int} (h : a ≠ c) : strk [a, b, c] = [a, b, c] := strk_id (str_ix.mpr fun i hi => by
  have hi : i + 2 < 3 := hi
  obtain rfl : i = 0 := by omega
  exact fun z => h (Option.some.inj z))
theorem not_adj {n : Nat} {ths : List (Int × Int)} (hi : InN n ths) {v : Int} : ¬ Adj ths v v := fun h => by
  rcases h with h | h <;> (have := hi _ h; dsimp only at this; omega)
section
variable {rows : List (List Int)} {n : Nat} {ths : List (Int × Int)} {ps xs ys zs : List Int}
theorem stay_link (b : Nat) : LinkR xs xs ths (b : Nat) [xs.getD b 0] fun p => [xs.getD p.toNat 0] :=
  ⟨by show [xs.getD ((b : Nat) : Int).toNat 0] = _; rw [Int.toNat_natCast], fun p c _ => (strk_aba _ _).symm⟩
theorem deed_link (hi : InN n ths) {v : Nat} {c : Int} (hv : v < xs.length) (hl : LetP rows ths ps xs (v : Nat) c) {b : Nat} (hb : ((b : Nat) : Int) ∈ ps) : ∃ R : Int → List Int, LinkR xs (xs.set v c) ths (b : Nat) [xs.getD b 0] R ∧ ∀ p : Int, p ≠ (v : Nat) → R p = [xs.getD p.toNat 0] := by
  obtain ⟨hvp, hne, q, ⟨o0, ho0⟩, hq, hcq⟩ := hl
  rw [Int.toNat_natCast] at hne
  refine ⟨fun p => if p = ((v : Nat) : Int) then [xs.getD v 0, q, c] else [xs.getD p.toNat 0], ⟨?_, fun p d ha => ?_⟩, fun p hp => if_neg hp⟩
  · show (if ((b : Nat) : Int) = ((v : Nat) : Int) then _ else _) = _
    have nz : ¬ (((b : Nat) : Int) = ((v : Nat) : Int)) := fun z => hvp (z ▸ hb)
    rw [if_neg nz, Int.toNat_natCast]
  · have hp := adj_lt hi ha.symm
    have hd := adj_lt hi ha
    show (if d = ((v : Nat) : Int) then _ else _) = carr _ _ (if p = ((v : Nat) : Int) then _ else _) d
    unfold carr
    by_cases cd : d = ((v : Nat) : Int)
    · subst cd
      have cp : p ≠ ((v : Nat) : Int) := fun z => not_adj hi (z ▸ ha)
      rw [if_pos rfl, if_neg cp, hq p ha.symm, Int.toNat_natCast, set_at hv]
      exact (strk_abc (fun z => hne z.symm)).symm
    · rw [if_neg cd, set_ne hd.1 cd]
      by_cases cp : p = ((v : Nat) : Int)
      · subst cp
        rw [if_pos rfl, hq d ha]
        show [q] = strk [q, xs.getD v 0, q, c, q]
        exact ((strk_red (red1 (x := q) (y := xs.getD v 0) (z := [c, q]))).trans (strk_aba q c)).symm
      · rw [if_neg cp]
        exact (strk_aba _ _).symm
theorem link_comp (hi : InN n ths) {b : Int} {f1 f2 : List Int} {R S : Int → List Int} (h : LinkR xs ys ths b f1 R) (k : LinkR ys zs ths b f2 S) (e1 : ∀ p : Nat, p < n → EndsR xs ys (R (p : Nat)) (p : Nat)) (e2 : ∀ p : Nat, p < n → EndsR ys zs (S (p : Nat)) (p : Nat)) : LinkR xs zs ths b (strk (f1 ++ f2.tail)) fun p => strk (R p ++ (S p).tail) := by
  refine ⟨by show strk (R b ++ (S b).tail) = _; rw [h.1, k.1], fun p c ha => ?_⟩
  have hp := adj_lt hi ha.symm
  obtain ⟨_, _, a1⟩ := e1 p.toNat (by omega)
  obtain ⟨_, a2, _⟩ := e2 p.toNat (by omega)
  rw [show ((p.toNat : Nat) : Int) = p by omega] at a1 a2
  show strk (R c ++ (S c).tail) = carr xs zs (strk (R p ++ (S p).tail)) c
  rw [h.2 p c ha, k.2 p c ha]
  generalize R p = r at *
  generalize S p = s at *
  unfold carr
  rw [rests_join (c := ys.getD c.toNat 0) (by rw [List.getLast?_append]; rfl) rfl]
  have e : r = r.dropLast ++ [ys.getD p.toNat 0] := by
    have hne : r ≠ [] := fun z => by rw [z] at a1; cases a1
    rw [List.getLast?_eq_some_getLast hne] at a1
    rw [← Option.some.inj a1, List.dropLast_concat_getLast]
  have e2 : s = ys.getD p.toNat 0 :: s.tail := by
    cases s with
    | nil => cases a2
    | cons x t => cases Option.some.inj a2; rfl
  rw [strk_app ([xs.getD c.toNat 0] ++ strk (r ++ s.tail)), ← strk_mid [xs.getD c.toNat 0], ← strk_app]
  refine strk_red ⟨[xs.getD c.toNat 0] ++ r.dropLast, ys.getD p.toNat 0, ys.getD c.toNat 0, s.tail ++ [zs.getD c.toNat 0], ?_, ?_⟩
  · show [xs.getD c.toNat 0] ++ r ++ [ys.getD c.toNat 0] ++ (s ++ [zs.getD c.toNat 0]) = _
    rw [e2]
    generalize s.tail = t
    rw [e]
    simp
  · rw [e]
    simp
theorem peg_frz {b : Nat} (hb : ((b : Nat) : Int) ∈ ps) (hbn : b < n) : Frz n ths ps xs (b : Nat) :=
  Frz.of (S := fun q => q = ((b : Nat) : Int)) (fun q hq => by rw [hq]; exact ⟨by omega, .inl hb⟩) rfl
theorem Led.link (g : GoodT rows) (hi : InN n ths) (hC : Conn n ths) (hs : Stand rows n ths xs) {b : Nat} (hb : ((b : Nat) : Int) ∈ ps) (hbn : b < n) (h : Led rows n ths ps xs ys) : xs.getD b 0 = ys.getD b 0 ∧ ∃ R : Int → List Int, LinkR xs ys ths (b : Nat) [xs.getD b 0] R ∧ ∀ p, Frz n ths ps xs p → (R p).length = 1 := by
  have at_ : ∀ {zs}, Led rows n ths ps xs zs → xs.getD b 0 = zs.getD b 0 := fun k => by
    have := (k.kept g hi hs).same _ (peg_frz hb hbn)
    rw [Int.toNat_natCast] at this
    exact this.symm
  refine ⟨at_ h, ?_⟩
  induction h with
  | refl => exact ⟨_, stay_link b, fun p _ => rfl⟩
  | @step ys v c h hv hl ih =>
    obtain ⟨R, hR, hF⟩ := ih
    have hk := h.kept g hi hs
    have hy := hk.st
    obtain ⟨S, hS, hSn⟩ := deed_link hi (by rw [hy.1]; exact hv) hl hb
    have hy2 := hy.let g hi hv hl
    have eb := at_ h
    have eb2 := at_ (h.step hv hl)
    have r1 := LkRow.of g hi hC hs hy hbn eb hR
    have r2 := LkRow.of g hi hC hy hy2 hbn (eb.symm.trans eb2) hS
    have k := link_comp hi hR hS (fun p hp => (r1 p hp).ends) (fun p hp => (r2 p hp).ends)
    refine ⟨_, k, fun p hp => ?_⟩
    have hpv : p ≠ ((v : Nat) : Int) := fun z => (frz_let hi (by rw [hy.1]; exact hv) hl).1 (z ▸ (hk.frz p).mpr hp)
    have h1 := hF p hp
    show (strk (R p ++ (S p).tail)).length = 1
    rw [hSn p hpv]
    obtain ⟨a, ha⟩ := List.length_eq_one_iff.mp h1
    rw [ha]
    rfl
end
/-! ### images -/
def img (f row : List Int) : List Int := row.map fun c => f.getD c.toNat 0
theorem img_len (f row : List Int) : (img f row).length = row.length := List.length_map _
theorem img_app (f a b : List Int) : img f (a ++ b) = img f a ++ img f b := List.map_append
theorem strk_img (f l : List Int) : strk (img f l) = strk (img f (strk l)) :=
  red_inv (f := fun l => strk (img f l)) (fun a b ⟨m, t, q, p, e1, e2⟩ => by
    rw [e1, e2]
    refine strk_red ⟨img f m, f.getD t.toNat 0, f.getD q.toNat 0, img f p, ?_, ?_⟩
    · rw [img_app, img_app]; rfl
    · rw [img_app, img_app]; rfl) l []
theorem img_at {f xs : List Int} {p : Nat} (h : p < xs.length) : (img f xs).getD p 0 = f.getD (xs.getD p 0).toNat 0 := by
  unfold img
  rw [List.getD_eq_getElem?_getD, List.getElem?_map, getD_some h]
  rfl
theorem img_link {ths : List (Int × Int)} {n : Nat} {xs ys f : List Int} (hi : InN n ths) (hx : xs.length = n) (hy : ys.length = n) {b : Int} {first : List Int} {R : Int → List Int} (h : LinkR xs ys ths b first R) : LinkR (img f xs) (img f ys) ths b (strk (img f first)) fun p => strk (img f (R p)) := by
  refine ⟨by show strk (img f (R b)) = _; rw [h.1], fun p c ha => ?_⟩
  have hc := adj_lt hi ha
  show strk (img f (R c)) = carr (img f xs) (img f ys) (strk (img f (R p))) c
  rw [h.2 p c ha]
  unfold carr
  rw [← strk_img, img_at (by omega), img_at (by omega), strk_app ([_] ++ _), ← strk_mid, ← strk_app, img_app, img_app]
  rfl
/-- a map of tables: each coat's neighbours are mapped to neighbours -/
structure MapT (rows other : List (List Int)) (f : List Int) : Prop where
  len : f.length = rows.length
  rng : ∀ p : Nat, p < rows.length → 0 ≤ f.getD p 0 ∧ f.getD p 0 < (other.length : Nat)
  adj : ∀ p s : Int, 0 ≤ p → p < (rows.length : Nat) → 0 ≤ s → s < (rows.length : Nat) → s ∈ rowOf rows p.toNat → f.getD s.toNat 0 ∈ rowOf other (f.getD p.toNat 0).toNat
section
variable {rows other : List (List Int)} {n : Nat} {ths : List (Int × Int)} {ps xs ys f : List Int}
theorem MapT.stand (m : MapT rows other f) (g : GoodT rows) (hi : InN n ths) (h : Stand rows n ths xs) : Stand other n ths (img f xs) := by
  refine Stand.of_adj hi (by rw [img_len, h.1]) (fun p hp => ?_) fun p o ha => ?_
  · have hc := h.coat hp
    rw [img_at (by rw [h.1]; exact hp)]
    exact m.rng _ (by omega)
  · have hp := adj_lt hi ha.symm
    have ho := adj_lt hi ha
    have c1 := h.coat (p := p.toNat) (by omega)
    have c2 := h.coat (p := o.toNat) (by omega)
    rw [img_at (by rw [h.1]; omega), img_at (by rw [h.1]; omega)]
    exact m.adj _ _ c1.1 c1.2 c2.1 c2.2 (h.adj g hi ha)
theorem MapT.led (m : MapT rows other f) (g : GoodT rows) (hi : InN n ths) (hs : Stand rows n ths xs) (h : Led rows n ths ps xs ys) : Led other n ths ps (img f xs) (img f ys) := by
  induction h with
  | refl => exact .refl
  | @step ys v c h hv hl ih =>
    have hy := (h.kept g hi hs).st
    have e : img f (ys.set v c) = (img f ys).set v (f.getD c.toNat 0) := by unfold img; rw [List.map_set]
    rw [e]
    obtain ⟨hvp, hne, q, ⟨o0, ho0⟩, hq, hcq⟩ := hl
    by_cases z : f.getD c.toNat 0 = (img f ys).getD v 0
    · have : (img f ys).set v (f.getD c.toNat 0) = img f ys := by
        rw [z]
        refine List.ext_getElem? fun i => ?_
        by_cases ci : v = i
        · subst ci
          rw [List.getElem?_set_self (by rw [img_len, hy.1]; exact hv), getD_some (by rw [img_len, hy.1]; exact hv)]
        · rw [List.getElem?_set_ne ci]
      rw [this]
      exact ih
    · have h0 := adj_lt hi ho0
      have hq0 := hy.coat (p := o0.toNat) (by omega)
      rw [hq o0 ho0] at hq0
      have hcr : 0 ≤ c ∧ c < (rows.length : Nat) := by
        refine g.lt (row := rowOf rows q.toNat) ?_ hcq
        unfold rowOf
        rw [List.getD_eq_getElem?_getD, List.getElem?_eq_getElem (by omega)]
        exact List.getElem_mem _
      refine ih.step hv ⟨hvp, by rw [Int.toNat_natCast]; exact z, f.getD q.toNat 0, ⟨o0, ho0⟩, fun o ho => ?_, m.adj q c hq0.1 hq0.2 hcr.1 hcr.2 hcq⟩
      have := adj_lt hi ho
      rw [img_at (by rw [hy.1]; omega), hq o ho]
end
/-- by R the standing ys comes of xs -/
structure Comes (n : Nat) (ths : List (Int × Int)) (ps xs ys : List Int) (bs : Nat) (R : Int → List Int) : Prop where
  base : xs.getD bs 0 = ys.getD bs 0
  link : LinkR xs ys ths (bs : Nat) [xs.getD bs 0] R
  held : ∀ p, Frz n ths ps xs p → (R p).length ≤ 1
/-! ### drawn numbers with a property -/
theorem lc_drawP (P : Int → Prop) {n j : Nat} {vs : List Nat} {σ : L2.St} {H1 : Hp} {D : Addr} {te : TE} {Qd : Hp → Prop} (p : Addr) (hD : H1 D = none) (s : Src H1 p) (hn : n < 100000) (hw : ∀ x, wipe ((wipe σ vs).set j (some x)) vs = wipe σ vs)
    (hd : ∀ (i : Nat) (H : Hp) (Q : VK), i < n → Src H p → Exb p H1 H → (∀ (r : Int) H', P r → Src H' p → Exb p H H' → Q (.int r) H') → te ((wipe σ vs).set j (some (.int (0 + (i : Int))))) H Q)
    (fin : ∀ (ns : List Int) H', ns.length = n → (∀ c ∈ ns, P c) → D ≠ p → H' D = some (.lst (ns.map V.int)) → Src H' p → Exb p H1 H' → Qd H') :
    ∃ W : Nat → Nat → Hp → Prop, (∃ m, W 0 m (upd H1 D (.lst []))) ∧ ∀ i m H, W i m H →
      ((Itr 0 n).stop i H ∧ Qd H) ∨ ((Itr 0 n).go i H ∧ ∃ Nx : Hp → Prop, (∀ H', Nx H' → ∃ m', m' < m ∧ W (i + 1) m' H') ∧ ∀ x H', (Itr 0 n).yld i H x H' → gName j x (wipe σ vs) H' fun σ2 H2 => wipe σ2 vs = wipe σ vs ∧ tYes σ2 H2 fun b H3 =>
        if b = true then te σ2 H3 fun y H4 => ∃ acc, H4 D = some (.lst acc) ∧ acc.length < sizeLine ∧ Nx (upd H4 D (.lst (acc ++ [y]))) else Nx H3) := by
  have nDp := s.ne hD
  refine lc_it walk_range (fun i H' => ∃ ns : List Int, H' D = some (.lst (ns.map V.int)) ∧ ns.length = i ∧ (∀ c ∈ ns, P c) ∧ Src H' p ∧ Exb p H1 H') ⟨[], upd_same, rfl, fun c hc => (by cases hc), s.put nDp, Exb.new hD⟩ (fun _ _ _ _ => trivial) (fun i x H2 H3 hi h y => ?_) (fun H' h => ?_)
  · obtain ⟨ns, h1, h2, hP, h4, h5⟩ := h
    obtain ⟨rfl, rfl⟩ := y
    refine ⟨hw _, ?_⟩
    refine tYes_i ?_
    refine iteT ?_
    refine hd i H3 _ hi h4 h5 fun r H4 hr s4 e4 => ⟨_, e4.lst nDp h1, smallLt (by rw [List.length_map]; omega), ns ++ [r], by rw [upd_same, List.map_append]; rfl, by rw [List.length_append, h2]; rfl, fun c hc => (by rcases List.mem_append.mp hc with hc | hc; exact hP c hc; rw [List.mem_singleton.mp hc]; exact hr), s4.put nDp, (h5.trans e4).mut hD⟩
  · obtain ⟨ns, h1, h2, hP, h4, h5⟩ := h
    exact fin ns H' h2 hP nDp h1 h4 h5
/-! ### the rows of a link are short -/
theorem Wk.full {ths : List (Int × Int)} {bs n : Nat} (hi : InN n ths) (hC : Conn n ths) (hb : bs < n) : ∀ (m : Nat) (ks : List Int) (W : Int → List Int), n - ks.length ≤ m → Wk ths bs n ks [] W → ∃ ks W, Wk ths bs n ks [] W ∧ ∀ p : Nat, p < n → ((p : Nat) : Int) ∈ ks
  | m, ks, W, hm, h => by
    by_cases c : ∀ v ∈ ks, ∀ o, Adj ths v o → o ∈ ks
    · exact ⟨ks, W, h, hC.from_ hb (S := fun p => p ∈ ks) h.b0 fun p o hp ha => c p hp o ha⟩
    · have ⟨v, h1⟩ := Classical.not_forall.mp c
      have ⟨hv, h2⟩ := Classical.not_forall.mp h1
      have ⟨o, h3⟩ := Classical.not_forall.mp h2
      have ⟨ha, ho⟩ := Classical.not_forall.mp h3
      have k := (h.put hv ho ha (adj_lt hi ha)).less (qs' := []) fun v hv => by cases hv
      have hs := k.size
      rw [List.length_append] at hs
      have hs : ks.length + 1 ≤ n := hs
      match m with
      | 0 => omega
      | m + 1 => exact Wk.full hi hC hb m _ _ (by rw [List.length_append]; show n - (ks.length + 1) ≤ m; omega) k
theorem LinkR.len {ths : List (Int × Int)} {bs n : Nat} {xs ys : List Int} {R : Int → List Int} (hi : InN n ths) (hC : Conn n ths) (hb : bs < n) (h : LinkR xs ys ths (bs : Nat) [xs.getD bs 0] R) : ∀ p : Nat, p < n → (R (p : Nat)).length ≤ 2 * n := fun p hp => by
  obtain ⟨ks, W, hK, hall⟩ := Wk.full hi hC hb n _ _ (Nat.sub_le _ _) ((Wk.start (ths := ths) hb).less (qs' := []) fun v hv => by cases hv)
  obtain ⟨hw, hl⟩ := hK.way _ (hall p hp)
  rw [rid_of_link (b := ((bs : Nat) : Int)) h hw]
  have := rid_len xs ys (W (p : Nat))
  have := hK.size
  omega

/-! ### a link with a row that isn't single has a lessening deed -/
theorem seq_again {n : Nat} (f : Nat → Int) (h : ∀ k, 0 ≤ f k ∧ f k < (n : Nat)) : ∃ i j : Nat, i < j ∧ f i = f j := by
  refine Classical.byContradiction fun no => ?_
  have nd : ((List.range (n + 1)).map f).Nodup := by
    refine List.pairwise_iff_getElem.mpr fun i j hi hj hij => ?_
    rw [List.getElem_map, List.getElem_map, List.getElem_range, List.getElem_range]
    exact fun z => no ⟨i, j, hij, z⟩
  have := nodup_len n _ nd fun e he => by
    obtain ⟨k, _, rfl⟩ := List.mem_map.mp he
    exact h k
  rw [List.length_map, List.length_range] at this
  omega
open Classical in
/-- from a moving thing to a moving thing, for ever: a set that each of its things has one ahead and one behind in -/
theorem ring_of {n : Nat} {M : Int → Prop} {A : Int → Int → Prop} (hM : ∀ v, M v → 0 ≤ v ∧ v < (n : Nat)) (hA : ∀ v, M v → ∃ u, M u ∧ A v u) {v0 : Int} (h0 : M v0) : ∃ S : Int → Prop, (∃ v, S v) ∧ (∀ v, S v → M v) ∧ ∀ v, S v → (∃ u, S u ∧ A v u) ∧ ∃ u, S u ∧ A u v := by
  obtain ⟨g, hg⟩ : ∃ g : Int → Int, ∀ v, M v → M (g v) ∧ A v (g v) := by
    refine ⟨fun v => if h : ∃ u, M u ∧ A v u then Classical.choose h else v, fun v hv => ?_⟩
    have h := hA v hv
    dsimp only
    rw [dif_pos h]
    exact Classical.choose_spec h
  let it : Nat → Int := fun k => Nat.rec v0 (fun _ x => g x) k
  have hit : ∀ k, M (it k) := fun k => by
    induction k with
    | zero => exact h0
    | succ k ih => exact (hg _ ih).1
  have hnx : ∀ k, it (k + 1) = g (it k) := fun k => rfl
  obtain ⟨i, j, hij, e⟩ := seq_again it fun k => hM _ (hit k)
  refine ⟨fun v => ∃ k, i ≤ k ∧ v = it k, ⟨it i, i, Nat.le_refl _, rfl⟩, fun v ⟨k, _, e⟩ => e ▸ hit k, fun v ⟨k, hk, ev⟩ => ?_⟩
  subst ev
  refine ⟨⟨it (k + 1), ⟨k + 1, by omega, rfl⟩, hnx k ▸ (hg _ (hit k)).2⟩, ?_⟩
  rcases Nat.lt_or_eq_of_le hk with h | h
  · refine ⟨it (k - 1), ⟨k - 1, by omega, rfl⟩, ?_⟩
    have := (hg _ (hit (k - 1))).2
    rw [← hnx, show k - 1 + 1 = k by omega] at this
    exact this
  · subst h
    refine ⟨it (j - 1), ⟨j - 1, by omega, rfl⟩, ?_⟩
    have := (hg _ (hit (j - 1))).2
    rw [← hnx, show j - 1 + 1 = j by omega, ← e] at this
    exact this
section
variable {rows : List (List Int)} {n : Nat} {ths : List (Int × Int)} {ps xs ys : List Int} {R : Int → List Int}
/-- a row that begins so -/
theorem row3 {r : List Int} {a b : Int} (he : Str8 r ∧ r.head? = some a ∧ r.getLast? = some b) (ho : r.length % 2 = 1) (h1 : 1 < r.length) : ∃ q c t, r = a :: q :: c :: t ∧ c ≠ a := by
  match r, he, ho, h1 with
  | [x], _, _, h1 => exact absurd h1 (by show ¬ 1 < 1; decide)
  | [x, y], _, ho, _ => exact absurd ho (by show ¬ 2 % 2 = 1; decide)
  | x :: q :: c :: t, he, _, _ =>
    cases Option.some.inj he.2.1
    exact ⟨q, c, t, rfl, fun z => he.1 [] a q t (by rw [z]; rfl)⟩
theorem str_front {r : List Int} {x : Int} (h : Str8 r) (hx : r[1]? ≠ some x) : Str8 (x :: r) := str_ix.mpr fun i hi => by
  cases i with
  | zero => exact fun z => hx z.symm
  | succ i => exact str_ix.mp h i (by rw [List.length_cons] at hi; omega)
/-- the row of one near, where that near doesn't stand on the first road -/
theorem carr_front {v u : Int} {q c : Int} {t : List Int} (hr : R v = xs.getD v.toNat 0 :: q :: c :: t) (hs : Str8 (R v)) (hne : xs.getD u.toNat 0 ≠ q) : ∃ t', carr xs ys (R v) u = xs.getD u.toNat 0 :: xs.getD v.toNat 0 :: t' ∧ 1 < (carr xs ys (R v) u).length := by
  have h1 : Str8 (xs.getD u.toNat 0 :: R v) := str_front hs (by rw [hr]; exact fun z => hne (Option.some.inj z).symm)
  have e : carr xs ys (R v) u = stp (xs.getD u.toNat 0 :: R v) (ys.getD u.toNat 0) := by
    unfold carr strk
    rw [List.foldl_append, show [xs.getD u.toNat 0] ++ R v = xs.getD u.toNat 0 :: R v from rfl]
    show stp (strk (xs.getD u.toNat 0 :: R v)) _ = _
    rw [strk_id h1]
  rw [e, hr]
  unfold stp
  split
  · exact ⟨q :: (c :: t).dropLast, rfl, by rw [List.length_dropLast, List.length_cons, List.length_cons, List.length_cons]; omega⟩
  · exact ⟨q :: c :: t ++ [ys.getD u.toNat 0], rfl, by rw [List.length_append, List.length_cons, List.length_cons]; omega⟩
/-- all nears stand on the first road of v's row -/
def Less (ths : List (Int × Int)) (xs : List Int) (R : Int → List Int) (v : Int) : Prop := 1 < (R v).length ∧ ∀ u, Adj ths v u → (R v)[1]? = some (xs.getD u.toNat 0)
theorem less_there (hi : InN n ths) (hl : ∀ p c, Adj ths p c → R c = carr xs ys (R p) c) (hk : ∀ p : Int, 0 ≤ p ∧ p < (n : Nat) → LkRow rows xs ys (R p) p) (hf : ∀ p, Frz n ths ps xs p → (R p).length = 1) {v0 : Int} (h0 : 0 ≤ v0 ∧ v0 < (n : Nat)) (hm : 1 < (R v0).length) : ∃ v : Int, (0 ≤ v ∧ v < (n : Nat)) ∧ Less ths xs R v := by
  refine Classical.byContradiction fun no => ?_
  have step : ∀ v : Int, ((0 ≤ v ∧ v < (n : Nat)) ∧ 1 < (R v).length) → ∃ u : Int, ((0 ≤ u ∧ u < (n : Nat)) ∧ 1 < (R u).length) ∧ (Adj ths v u ∧ (R v)[1]? ≠ some (xs.getD u.toNat 0) ∧ (R u)[1]? = some (xs.getD v.toNat 0)) := fun v ⟨hv, hv1⟩ => by
    have : ¬ ∀ u, Adj ths v u → (R v)[1]? = some (xs.getD u.toNat 0) := fun z => no ⟨v, hv, hv1, z⟩
    obtain ⟨u, hu⟩ := Classical.not_forall.mp this
    obtain ⟨ha, hne⟩ := Classical.not_imp.mp hu
    obtain ⟨q, c, t, er, _⟩ := row3 (hk v hv).ends (hk v hv).odd hv1
    have hq : xs.getD u.toNat 0 ≠ q := fun z => hne (by rw [er, z]; rfl)
    obtain ⟨t', e1, e2⟩ := carr_front (ys := ys) er (hk v hv).ends.1 hq
    rw [← hl v u ha] at e1 e2
    exact ⟨u, ⟨adj_lt hi ha, e2⟩, ha, hne, by rw [e1]; rfl⟩
  obtain ⟨S, ⟨v, hv⟩, hM, hS⟩ := ring_of (n := n) (M := fun v : Int => (0 ≤ v ∧ v < (n : Nat)) ∧ 1 < (R v).length) (A := fun v u : Int => Adj ths v u ∧ (R v)[1]? ≠ some (xs.getD u.toNat 0) ∧ (R u)[1]? = some (xs.getD v.toNat 0)) (fun v h => h.1) step (v0 := v0) ⟨h0, hm⟩
  have hfr : Frz n ths ps xs v := ⟨S, hv, fun w hw => ⟨(hM w hw).1, .inr (.inr (by
    obtain ⟨⟨u, hu, a1, a2, a3⟩, u', hu', b1, b2, b3⟩ := hS w hw
    exact ⟨u', u, b1.symm, a1, hu', hu, fun z => a2 (by rw [b3, z])⟩))⟩⟩
  have := hf v hfr
  have := (hM v hv).2
  omega
/-- the deed -/
theorem less_let (hi : InN n ths) (hk : ∀ p : Int, 0 ≤ p ∧ p < (n : Nat) → LkRow rows xs ys (R p) p) (hf : ∀ p, Frz n ths ps xs p → (R p).length = 1) {v : Int} (hv : 0 ≤ v ∧ v < (n : Nat)) (h : Less ths xs R v) : ∃ q c t, R v = xs.getD v.toNat 0 :: q :: c :: t ∧ LetP rows ths ps xs v c := by
  obtain ⟨q, c, t, er, hca⟩ := row3 (hk v hv).ends (hk v hv).odd h.1
  have nf : ¬ Frz n ths ps xs v := fun z => by have := hf v z; have := h.1; omega
  refine ⟨q, c, t, er, fun z => nf ?_, hca, q, ?_, fun o ho => ?_, ?_⟩
  · exact Frz.of (S := fun x => x = v) (fun x hx => ⟨hx ▸ hv, .inl (hx ▸ z)⟩) rfl
  · refine Classical.byContradiction fun no => nf ?_
    exact Frz.of (S := fun x => x = v) (fun x hx => ⟨hx ▸ hv, .inr (.inl fun c hc => no ⟨c, hx ▸ hc⟩)⟩) rfl
  · have := h.2 o ho
    rw [er] at this
    exact (Option.some.inj this).symm
  · have := ((hk v hv).at_ 2 c (by rw [er]; rfl)).2 q (by omega) (by rw [er]; rfl)
    exact this
theorem strk_open (q a : Int) (l : List Int) : strk (q :: a :: q :: l) = strk (q :: l) := by
  have e := strk_app [q, a, q] l
  rw [strk_aba q a] at e
  exact e
theorem adj_ne (hi : InN n ths) {p c : Int} (h : Adj ths p c) : p ≠ c := by
  rcases h with h | h
  · have := hi _ h; intro z; simp only at this; omega
  · have := hi _ h; intro z; simp only at this; omega
/-- the rows behind a lessening deed -/
def aft (R : Int → List Int) (v : Int) (r : List Int) : Int → List Int := fun p => if p = v then r else R p
theorem set_atV {xs : List Int} {v : Int} {c : Int} (hv : 0 ≤ v ∧ v < (xs.length : Nat)) : (xs.set v.toNat c).getD v.toNat 0 = c := by
  rw [List.getD_eq_getElem?_getD, List.getElem?_set_self (by omega)]
  rfl
theorem set_off {xs : List Int} {v p : Int} {c : Int} (h0 : 0 ≤ v) (hp : 0 ≤ p) (h : p ≠ v) : (xs.set v.toNat c).getD p.toNat 0 = xs.getD p.toNat 0 := by
  rw [List.getD_eq_getElem?_getD, List.getD_eq_getElem?_getD, List.getElem?_set_ne (by omega)]
theorem less_link (hi : InN n ths) (hxl : xs.length = n) (hl : ∀ p c, Adj ths p c → R c = carr xs ys (R p) c) (hk : ∀ p : Int, 0 ≤ p ∧ p < (n : Nat) → LkRow rows xs ys (R p) p) {v : Int} (hv : 0 ≤ v ∧ v < (n : Nat)) {q c : Int} {t : List Int} (er : R v = xs.getD v.toNat 0 :: q :: c :: t) (hq : ∀ o, Adj ths v o → xs.getD o.toNat 0 = q) :
    (∀ p u, Adj ths p u → aft R v (c :: t) u = carr (xs.set v.toNat c) ys (aft R v (c :: t) p) u) ∧ ∀ p : Int, 0 ≤ p ∧ p < (n : Nat) → LkRow rows (xs.set v.toNat c) ys (aft R v (c :: t) p) p := by
  have hv2 : 0 ≤ v ∧ v < (xs.length : Nat) := by omega
  have hkv := hk v hv
  have hend : EndsR (xs.set v.toNat c) ys (c :: t) v := by
    refine ⟨fun m x y p z => hkv.ends.1 (xs.getD v.toNat 0 :: q :: m) x y p (by rw [er, z]; rfl), by rw [set_atV hv2]; rfl, ?_⟩
    have := hkv.ends.2.2
    rw [er] at this
    rw [← this]
    rfl
  have from_v : ∀ u, Adj ths v u → R u = carr (xs.set v.toNat c) ys (c :: t) u := fun u ha => by
    have hu := adj_lt hi ha
    rw [hl v u ha, er]
    unfold carr
    rw [set_off hv.1 hu.1 (fun z => adj_ne hi ha z.symm), hq u ha]
    exact strk_open q _ _
  refine ⟨fun p u ha => ?_, fun p hp => ?_⟩
  · have hp := adj_lt hi ha.symm
    have hu := adj_lt hi ha
    by_cases e1 : p = v
    · subst e1
      unfold aft
      rw [if_neg (fun z => adj_ne hi ha z.symm), if_pos rfl]
      exact from_v u ha
    · by_cases e2 : u = v
      · subst e2
        unfold aft
        rw [if_pos rfl, if_neg e1, from_v p ha.symm]
        exact (carr_back hend).symm
      · unfold aft
        rw [if_neg e1, if_neg e2, hl p u ha]
        unfold carr
        rw [set_off hv.1 hu.1 e2]
  · by_cases e1 : p = v
    · subst e1
      unfold aft
      rw [if_pos rfl]
      refine ⟨hend, ?_, fun i d hd => ?_⟩
      · have := hkv.odd
        rw [er] at this
        simp only [List.length_cons] at this ⊢
        omega
      · obtain ⟨z1, z2⟩ := hkv.at_ (i + 2) d (by rw [er]; exact hd)
        exact ⟨z1, fun x h0 hx => z2 x (by omega) (by rw [er, show i + 2 - 1 = (i - 1) + 2 by omega]; exact hx)⟩
    · unfold aft
      rw [if_neg e1]
      have h := hk p hp
      exact ⟨⟨h.ends.1, by rw [set_off hv.1 hp.1 e1]; exact h.ends.2.1, h.ends.2.2⟩, h.odd, h.at_⟩
def sumR (n : Nat) (R : Int → List Int) : Nat := ((List.range n).map fun p : Nat => (R (p : Int)).length).sum
theorem sum_lt : ∀ (l : List Nat) (f g : Nat → Nat), (∀ p ∈ l, f p ≤ g p) → (∃ p ∈ l, f p < g p) → (l.map f).sum < (l.map g).sum
  | [], f, g, _, h => by obtain ⟨p, hp, _⟩ := h; cases hp
  | a :: l, f, g, h1, h2 => by
    rw [List.map_cons, List.map_cons, List.sum_cons, List.sum_cons]
    have ha := h1 a List.mem_cons_self
    have hle : ∀ l : List Nat, (∀ p ∈ l, f p ≤ g p) → (l.map f).sum ≤ (l.map g).sum := fun l => by
      induction l with
      | nil => exact fun _ => Nat.le_refl _
      | cons b l ih =>
        intro h
        rw [List.map_cons, List.map_cons, List.sum_cons, List.sum_cons]
        have := h b List.mem_cons_self
        have := ih fun p hp => h p (List.mem_cons_of_mem _ hp)
        omega
    obtain ⟨p, hp, hlt⟩ := h2
    rcases List.mem_cons.mp hp with rfl | hp
    · have := hle l fun p hp => h1 p (List.mem_cons_of_mem _ hp)
      omega
    · have := sum_lt l f g (fun p hp => h1 p (List.mem_cons_of_mem _ hp)) ⟨p, hp, hlt⟩
      omega
/-- a right link leads by deeds -/
theorem link_led (g : GoodT rows) (hi : InN n ths) (hyl : ys.length = n) : ∀ (N : Nat) (xs : List Int) (R : Int → List Int), sumR n R ≤ N → Stand rows n ths xs → (∀ p c, Adj ths p c → R c = carr xs ys (R p) c) → (∀ p : Int, 0 ≤ p ∧ p < (n : Nat) → LkRow rows xs ys (R p) p) → (∀ p, Frz n ths ps xs p → (R p).length = 1) → Led rows n ths ps xs ys := by
  intro N
  induction N with
  | zero =>
    intro xs R hs hst hl hk hf
    have : n = 0 := by
      refine Classical.byContradiction fun z => ?_
      have h0 := (hk 0 ⟨Int.le_refl _, by omega⟩).odd
      have : 0 < sumR n R := by
        have := sum_lt (List.range n) (fun _ => 0) (fun p : Nat => (R (p : Int)).length) (fun _ _ => Nat.zero_le _) ⟨0, List.mem_range.mpr (by omega), by show 0 < (R ((0 : Nat) : Int)).length; exact Nat.pos_of_ne_zero fun y => by rw [show ((0 : Nat) : Int) = 0 from rfl] at y; omega⟩
        exact Nat.lt_of_le_of_lt (Nat.zero_le _) this
      omega
    have e : xs = ys := by
      have h1 := hst.1
      rw [List.length_eq_zero_iff.mp (by omega : xs.length = 0), List.length_eq_zero_iff.mp (by omega : ys.length = 0)]
    rw [e]
    exact .refl
  | succ N ih =>
    intro xs R hs hst hl hk hf
    by_cases hm : ∃ v : Int, (0 ≤ v ∧ v < (n : Nat)) ∧ 1 < (R v).length
    · obtain ⟨v0, h0, hm⟩ := hm
      obtain ⟨v, hv, hle⟩ := less_there hi hl hk hf h0 hm
      obtain ⟨q, c, t, er, hlet⟩ := less_let hi hk hf hv hle
      obtain ⟨vn, rfl⟩ : ∃ m : Nat, v = (m : Nat) := ⟨v.toNat, by omega⟩
      have hq : ∀ o, Adj ths (vn : Int) o → xs.getD o.toNat 0 = q := fun o ho => by
        have := hle.2 o ho
        rw [er] at this
        exact (Option.some.inj this).symm
      obtain ⟨l1, l2⟩ := less_link hi hst.1 hl hk hv er hq
      rw [Int.toNat_natCast] at l1 l2
      have hvn : vn < n := by omega
      have st2 := hst.let g hi hvn hlet
      have hsum : sumR n (aft R (vn : Int) (c :: t)) < sumR n R := by
        refine sum_lt _ _ _ (fun p _ => ?_) ⟨vn, List.mem_range.mpr hvn, ?_⟩
        · show (aft R (vn : Int) (c :: t) (p : Int)).length ≤ _
          unfold aft
          by_cases e : (p : Int) = (vn : Int)
          · rw [if_pos e, e, er]
            simp only [List.length_cons]
            omega
          · rw [if_neg e]
            exact Nat.le_refl _
        · show (aft R (vn : Int) (c :: t) (vn : Int)).length < _
          unfold aft
          rw [if_pos rfl, er]
          simp only [List.length_cons]
          omega
      have hf2 : ∀ p, Frz n ths ps (xs.set vn c) p → (aft R (vn : Int) (c :: t) p).length = 1 := fun p hp => by
        have h1 := hf p (frz_back hi (by rw [hst.1]; exact hvn) hlet p hp)
        unfold aft
        by_cases e : p = (vn : Int)
        · rw [e, er] at h1
          simp only [List.length_cons] at h1
          omega
        · rw [if_neg e]
          exact h1
      have led2 := ih (xs.set vn c) _ (by omega) st2 l1 l2 hf2
      exact (Led.step .refl hvn hlet).trans led2
    · have e : xs = ys := by
        refine List.ext_getElem (by rw [hst.1, hyl]) fun i h1 h2 => ?_
        have hin : 0 ≤ (i : Int) ∧ (i : Int) < (n : Nat) := by have := hst.1; omega
        have hki := hk i hin
        have hlen : (R (i : Int)).length = 1 := by
          have := hki.odd
          have : ¬ 1 < (R (i : Int)).length := fun z => hm ⟨_, hin, z⟩
          omega
        have e1 := hki.ends.2.1
        have e2 := hki.ends.2.2
        match h : R (i : Int), hlen, e1, e2 with
        | [x], _, e1, e2 =>
          have a1 : x = xs.getD i 0 := by have := Option.some.inj e1; rwa [Int.toNat_natCast] at this
          have a2 : x = ys.getD i 0 := by have := Option.some.inj e2; rwa [Int.toNat_natCast] at this
          rw [List.getD_eq_getElem?_getD, List.getElem?_eq_getElem h1] at a1
          rw [List.getD_eq_getElem?_getD, List.getElem?_eq_getElem h2] at a2
          exact (show x = xs[i] from a1).symm.trans a2
      rw [e]
      exact .refl
end

/-! ### rounds: all lessening deeds at once -/
/-- a link that is right: standing, rows, single at what never moves -/
structure LSt (rows : List (List Int)) (n : Nat) (ths : List (Int × Int)) (ps xs ys : List Int) (R : Int → List Int) : Prop where
  len : xs.length = n
  lk : ∀ p c, Adj ths p c → R c = carr xs ys (R p) c
  row : ∀ p : Int, 0 ≤ p ∧ p < (n : Nat) → LkRow rows xs ys (R p) p
  fz : ∀ p, Frz n ths ps xs p → (R p).length = 1
section
variable {rows : List (List Int)} {n : Nat} {ths : List (Int × Int)} {ps xs ys : List Int} {R : Int → List Int}
theorem LSt.parts (h : LSt rows n ths ps xs ys R) (hi : InN n ths) {v : Int} (hv : 0 ≤ v ∧ v < (n : Nat)) (hle : Less ths xs R v) : ∃ q c t, R v = xs.getD v.toNat 0 :: q :: c :: t ∧ c ≠ xs.getD v.toNat 0 ∧ (∀ o, Adj ths v o → xs.getD o.toNat 0 = q) ∧ LetP rows ths ps xs v c := by
  obtain ⟨q, c, t, er, hl⟩ := less_let hi h.row h.fz hv hle
  refine ⟨q, c, t, er, hl.2.1, fun o ho => ?_, hl⟩
  have := hle.2 o ho
  rw [er] at this
  exact (Option.some.inj this).symm
/-- one deed -/
theorem LSt.one (h : LSt rows n ths ps xs ys R) (hi : InN n ths) {v : Int} (hv : 0 ≤ v ∧ v < (n : Nat)) (hle : Less ths xs R v) : ∃ c, LSt rows n ths ps (xs.set v.toNat c) ys (aft R v ((R v).drop 2)) := by
  obtain ⟨q, c, t, er, _, hq, hlet⟩ := h.parts hi hv hle
  obtain ⟨l1, l2⟩ := less_link hi h.len h.lk h.row hv er hq
  have ed : (R v).drop 2 = c :: t := by rw [er]; rfl
  refine ⟨c, by rw [List.length_set, h.len], by rw [ed]; exact l1, by rw [ed]; exact l2, fun p hp => ?_⟩
  obtain ⟨vn, rfl⟩ : ∃ m : Nat, v = (m : Nat) := ⟨v.toNat, by omega⟩
  rw [Int.toNat_natCast] at hp
  have h1 := h.fz p (frz_back hi (by have := h.len; omega) hlet p hp)
  unfold aft
  by_cases e : p = (vn : Int)
  · rw [e, er] at h1
    simp only [List.length_cons] at h1
    omega
  · rw [if_neg e]
    exact h1
/-- two that lessen aren't neighbours -/
theorem LSt.apart (h : LSt rows n ths ps xs ys R) (hi : InN n ths) {v w : Int} (hv : 0 ≤ v ∧ v < (n : Nat)) (hle : Less ths xs R v) (hlw : Less ths xs R w) : ¬ Adj ths v w := fun ha => by
  obtain ⟨q, c, t, er, hc, hq, _⟩ := h.parts hi hv hle
  have hstr := (h.row v hv).ends.1
  have e : R w = stp (q :: c :: t) (ys.getD w.toNat 0) := by
    rw [h.lk v w ha, er]
    unfold carr
    rw [hq w ha, show [q] ++ (xs.getD v.toNat 0 :: q :: c :: t) ++ [ys.getD w.toNat 0] = q :: xs.getD v.toNat 0 :: q :: (c :: t ++ [ys.getD w.toNat 0]) from rfl, strk_open]
    show strk (q :: c :: t ++ [ys.getD w.toNat 0]) = _
    unfold strk
    rw [List.foldl_append]
    show stp (strk (q :: c :: t)) _ = _
    rw [strk_id]
    intro m x y p z
    exact hstr (xs.getD v.toNat 0 :: m) x y p (by rw [er, z]; rfl)
  have h1 := hlw.1
  have h2 := hlw.2 v ha.symm
  rw [e] at h1 h2
  unfold stp at h1 h2
  split at h1
  · rename_i hs
    rw [if_pos hs] at h2
    cases t with
    | nil => exact absurd h1 (by show ¬ 1 < 1; decide)
    | cons d t => exact hc (Option.some.inj h2)
  · rename_i hs
    rw [if_neg hs] at h2
    exact hc (Option.some.inj h2)
/-- some deeds at once -/
def cut (R : Int → List Int) (l : List Int) : Int → List Int := fun p => if p ∈ l then (R p).drop 2 else R p
theorem LSt.many (hi : InN n ths) : ∀ (l : List Int) (xs : List Int) (R : Int → List Int), LSt rows n ths ps xs ys R → l.Nodup → (∀ v ∈ l, (0 ≤ v ∧ v < (n : Nat)) ∧ Less ths xs R v) → ∃ zs, LSt rows n ths ps zs ys (cut R l)
  | [], xs, R, h, _, _ => ⟨xs, h⟩
  | v :: l, xs, R, h, nd, hl => by
    obtain ⟨hv, hle⟩ := hl v List.mem_cons_self
    obtain ⟨nv, nd⟩ := List.nodup_cons.mp nd
    obtain ⟨c, h2⟩ := h.one hi hv hle
    obtain ⟨zs, h3⟩ := LSt.many hi l _ _ h2 nd fun w hw => by
      obtain ⟨hw0, hlw⟩ := hl w (List.mem_cons_of_mem _ hw)
      have hne : w ≠ v := fun z => nv (z ▸ hw)
      refine ⟨hw0, ?_, fun u hu => ?_⟩
      · unfold aft
        rw [if_neg hne]
        exact hlw.1
      · have hu0 := adj_lt hi hu
        have huv : u ≠ v := fun z => h.apart hi hv hle hlw (z ▸ hu).symm
        unfold aft
        rw [if_neg hne, set_off hv.1 hu0.1 huv]
        exact hlw.2 u hu
    refine ⟨zs, ?_⟩
    have e : cut (aft R v ((R v).drop 2)) l = cut R (v :: l) := by
      funext p
      unfold cut aft
      by_cases e1 : p = v
      · subst e1
        rw [if_neg nv, if_pos rfl, if_pos List.mem_cons_self]
      · by_cases e2 : p ∈ l
        · rw [if_pos e2, if_neg e1, if_pos (List.mem_cons_of_mem _ e2)]
        · rw [if_neg e2, if_neg e1, if_neg (fun z => (List.mem_cons.mp z).elim e1 e2)]
    rw [← e]
    exact h3
end

/-! ### rounds upstairs and downstairs -/
section
variable {rows : List (List Int)} {n m : Nat} {ths over : List (Int × Int)} {ps as xs ys us ws : List Int} {R U : Int → List Int} {f : Int → Int}
/-- read off the rows alone -/
def LessR (ths : List (Int × Int)) (R : Int → List Int) (v : Int) : Prop := 1 < (R v).length ∧ ∀ u, Adj ths v u → (R v)[1]? = (R u).head?
theorem LSt.less (h : LSt rows n ths ps xs ys R) (hi : InN n ths) {v : Int} : Less ths xs R v ↔ LessR ths R v := by
  refine ⟨fun k => ⟨k.1, fun u hu => ?_⟩, fun k => ⟨k.1, fun u hu => ?_⟩⟩
  · rw [(h.row u (adj_lt hi hu)).ends.2.1]; exact k.2 u hu
  · rw [← (h.row u (adj_lt hi hu)).ends.2.1]; exact k.2 u hu
/-- all that lessen -/
def RL (n : Nat) (ths : List (Int × Int)) (R : Int → List Int) (l : List Int) : Prop := l.Nodup ∧ ∀ v, v ∈ l ↔ (0 ≤ v ∧ v < (n : Nat)) ∧ LessR ths R v
inductive Rds (n : Nat) (ths : List (Int × Int)) : (Int → List Int) → Nat → Prop
  | done {R : Int → List Int} (h : RL n ths R []) : Rds n ths R 0
  | step {R : Int → List Int} {l : List Int} {k : Nat} (h : RL n ths R l) (hne : l ≠ []) (hk : Rds n ths (cut R l) k) : Rds n ths R (k + 1)
theorem LSt.all (h : LSt rows n ths ps xs ys R) (hi : InN n ths) {l : List Int} (hl : RL n ths R l) : ∃ zs, LSt rows n ths ps zs ys (cut R l) :=
  LSt.many hi l xs R h hl.1 fun v hv => ⟨((hl.2 v).mp hv).1, (h.less hi).mpr ((hl.2 v).mp hv).2⟩
theorem LSt.single (h : LSt rows n ths ps xs ys R) (hi : InN n ths) (hl : RL n ths R []) : ∀ v : Int, 0 ≤ v ∧ v < (n : Nat) → (R v).length ≤ 1 := fun v hv => by
  refine Classical.byContradiction fun z => ?_
  obtain ⟨w, hw, hle⟩ := less_there hi h.lk h.row h.fz hv (by omega)
  cases (hl.2 w).mpr ⟨hw, (h.less hi).mp hle⟩
theorem stp_lenE (l : List Int) (y : Int) : (stp l y).length = if l.length > 1 ∧ l[l.length - 2]? = some y then l.length - 1 else l.length + 1 := by
  unfold stp
  split
  · rw [List.length_dropLast]
  · rw [List.length_append]; rfl
theorem stp_two (a b q c : Int) (t : List Int) (y : Int) : (stp (a :: b :: q :: c :: t) y).length = (stp (q :: c :: t) y).length + 2 := by
  rw [stp_lenE, stp_lenE]
  have e : (a :: b :: q :: c :: t)[(a :: b :: q :: c :: t).length - 2]? = (q :: c :: t)[(q :: c :: t).length - 2]? := by
    simp only [List.length_cons]
    rw [show t.length + 1 + 1 + 1 + 1 - 2 = t.length + 2 by omega, show t.length + 1 + 1 - 2 = t.length by omega]
    rfl
  rw [e]
  have k1 : (a :: b :: q :: c :: t).length > 1 := by simp only [List.length_cons]; omega
  have k2 : (q :: c :: t).length > 1 := by simp only [List.length_cons]; omega
  by_cases z : (q :: c :: t)[(q :: c :: t).length - 2]? = some y
  · rw [if_pos ⟨k1, z⟩, if_pos ⟨k2, z⟩]; simp only [List.length_cons]; omega
  · rw [if_neg (fun w => z w.2), if_neg (fun w => z w.2)]; simp only [List.length_cons]
/-- what lessens below lessens above, where the rows are alike -/
theorem less_up (hi : InN n ths) (hm : InN m over) (h : LSt rows n ths ps xs ys R) (hu : LSt rows m over as us ws U) (hf : ∀ p : Int, 0 ≤ p ∧ p < (m : Nat) → 0 ≤ f p ∧ f p < (n : Nat)) (hadj : ∀ p c, Adj over p c → Adj ths (f p) (f c)) (hs : ∀ p : Int, 0 ≤ p ∧ p < (m : Nat) → U p <:+ R (f p)) {p : Int} (hp : 0 ≤ p ∧ p < (m : Nat)) (e : U p = R (f p)) (hle : LessR ths R (f p)) : LessR over U p := by
  refine ⟨e ▸ hle.1, fun u hpu => ?_⟩
  have hl2 := (h.less hi).mpr hle
  obtain ⟨q, c, t, er, hc, hq, _⟩ := h.parts hi (hf p hp) hl2
  have hu0 := adj_lt hm hpu
  have hup := hu.row p hp
  have huu := hu.row u hu0
  rw [huu.ends.2.1, e, er]
  refine Classical.byContradiction fun no => ?_
  have hne : us.getD u.toNat 0 ≠ q := fun z => no (by rw [z]; rfl)
  have ep : us.getD p.toNat 0 = xs.getD (f p).toNat 0 := by
    have := hup.ends.2.1
    rw [e, er] at this
    exact (Option.some.inj this).symm
  have e1 : U u = stp (us.getD u.toNat 0 :: xs.getD (f p).toNat 0 :: q :: c :: t) (ws.getD u.toNat 0) := by
    rw [hu.lk p u hpu, e, er]
    unfold carr
    have h1 : Str8 (us.getD u.toNat 0 :: R (f p)) := str_front (h.row (f p) (hf p hp)).ends.1 (by rw [er]; exact fun z => hne (Option.some.inj z).symm)
    rw [er] at h1
    unfold strk
    rw [List.foldl_append]
    show stp (strk (us.getD u.toNat 0 :: xs.getD (f p).toNat 0 :: q :: c :: t)) _ = _
    rw [strk_id h1]
  have e2 : R (f u) = stp (q :: c :: t) (ys.getD (f u).toNat 0) := by
    rw [h.lk (f p) (f u) (hadj p u hpu), er]
    unfold carr
    rw [hq (f u) (hadj p u hpu), show [q] ++ (xs.getD (f p).toNat 0 :: q :: c :: t) ++ [ys.getD (f u).toNat 0] = q :: xs.getD (f p).toNat 0 :: q :: (c :: t ++ [ys.getD (f u).toNat 0]) from rfl, strk_open]
    show strk (q :: c :: t ++ [ys.getD (f u).toNat 0]) = _
    unfold strk
    rw [List.foldl_append]
    show stp (strk (q :: c :: t)) _ = _
    rw [strk_id]
    intro a x y b z
    exact (h.row (f p) (hf p hp)).ends.1 (xs.getD (f p).toNat 0 :: a) x y b (by rw [er, z]; rfl)
  have ey : ws.getD u.toNat 0 = ys.getD (f u).toNat 0 := by
    obtain ⟨pre, hpre⟩ := hs u hu0
    have h1 := huu.ends.2.2
    have h2 := (h.row (f u) (hf u hu0)).ends.2.2
    rw [← hpre, List.getLast?_append, h1] at h2
    exact Option.some.inj h2
  have h3 := (hs u hu0).length_le
  rw [e1, e2, ey, stp_two] at h3
  omega
theorem suf_two {a b : List Int} (h : a <:+ b) (ha : a.length % 2 = 1) (hb : b.length % 2 = 1) : a = b ∨ a <:+ b.drop 2 := by
  rcases Nat.lt_or_eq_of_le h.length_le with k | k
  · obtain ⟨pre, rfl⟩ := h
    refine .inr ?_
    rw [List.length_append] at k hb
    match pre, k, hb with
    | [], k, _ => exact absurd k (by show ¬ a.length < 0 + a.length; omega)
    | [x], _, hb => simp only [List.length_cons, List.length_nil] at hb; omega
    | x :: y :: pre, _, _ => exact ⟨pre, rfl⟩
  · exact .inl (h.eq_of_length k)
theorem rds_le (hi : InN n ths) (hm : InN m over) (hf : ∀ p : Int, 0 ≤ p ∧ p < (m : Nat) → 0 ≤ f p ∧ f p < (n : Nat)) (hadj : ∀ p c, Adj over p c → Adj ths (f p) (f c)) {k : Nat} (hk : Rds n ths R k) : ∀ {xs us : List Int} {U : Int → List Int} {j : Nat}, LSt rows n ths ps xs ys R → LSt rows m over as us ws U → (∀ p : Int, 0 ≤ p ∧ p < (m : Nat) → U p <:+ R (f p)) → Rds m over U j → j ≤ k := by
  induction hk with
  | done h0 =>
    intro xs us U j h hu hs hj
    cases hj with
    | done _ => exact Nat.le_refl _
    | step h1 hne _ =>
      rename_i l _ _
      match l, hne, h1 with
      | v :: l, _, h1 =>
        obtain ⟨hv, hle⟩ := (h1.2 v).mp List.mem_cons_self
        have := (hs v hv).length_le
        have := h.single hi h0 _ (hf v hv)
        have := hle.1
        omega
  | step h0 hne _ ih =>
    rename_i R l k _
    intro xs us U j h hu hs hj
    cases hj with
    | done _ => exact Nat.zero_le _
    | step h1 hne1 hj =>
      rename_i l1 j
      obtain ⟨zs, h2⟩ := h.all hi h0
      obtain ⟨zu, hu2⟩ := hu.all hm h1
      refine Nat.succ_le_succ (ih h2 hu2 (fun p hp => ?_) hj)
      have c1 : cut U l1 p <:+ U p := by
        unfold cut
        split
        · exact List.drop_suffix _ _
        · exact List.suffix_refl _
      rcases suf_two (hs p hp) (hu.row p hp).odd (h.row _ (hf p hp)).odd with e | e
      · by_cases hm2 : f p ∈ l
        · have hup := less_up hi hm h hu hf hadj hs hp e ((h0.2 _).mp hm2).2
          unfold cut
          rw [if_pos hm2, if_pos ((h1.2 p).mpr ⟨hp, hup⟩), e]
          exact List.suffix_refl _
        · have : cut R l (f p) = R (f p) := if_neg hm2
          rw [this, ← e]
          exact c1
      · by_cases hm2 : f p ∈ l
        · have : cut R l (f p) = (R (f p)).drop 2 := if_pos hm2
          rw [this]
          exact c1.trans e
        · have : cut R l (f p) = R (f p) := if_neg hm2
          rw [this]
          exact c1.trans (hs p hp)
end

/-! ### who comes has a right link -/
theorem Comes.lst {rows : List (List Int)} {n : Nat} {ths : List (Int × Int)} {ps xs ys : List Int} {bs : Nat} {R : Int → List Int} (g : GoodT rows) (hi : InN n ths) (hC : Conn n ths) (hx : Stand rows n ths xs) (hy : Stand rows n ths ys) (hb : bs < n) (h : Comes n ths ps xs ys bs R) : LSt rows n ths ps xs ys R := by
  have hlk := LkRow.of g hi hC hx hy hb h.base h.link
  have hrow : ∀ p : Int, 0 ≤ p ∧ p < (n : Nat) → LkRow rows xs ys (R p) p := fun p hp => by
    obtain ⟨k, rfl⟩ : ∃ k : Nat, p = (k : Int) := ⟨p.toNat, by omega⟩
    exact hlk k (by omega)
  refine ⟨hx.1, h.link.2, hrow, fun p hp => ?_⟩
  have h1 := h.held p hp
  have h2 := (hrow p hp.held.1).odd
  omega

/-! ### dicts whose keys are pairs -/
def ky2 (e : Int × Int) : List L2.Key := [.inl e.1, .inl e.2]
def unK (k : List L2.Key) : List Int := k.map fun x => x.elim id fun _ => 0
theorem lex2 {a b c d : Int} (h : HT.lexLt [c, d] [a, b] = false) : PLe (a, b) (c, d) := by
  rw [HT.lexLt_cons] at h
  by_cases e1 : c = a
  · rw [if_pos e1, HT.lexLt_cons] at h
    by_cases e2 : d = b
    · exact .inr ⟨e1.symm, by show b ≤ d; omega⟩
    · rw [if_neg e2] at h
      have := of_decide_eq_false h
      exact .inr ⟨e1.symm, by show b ≤ d; omega⟩
  · rw [if_neg e1] at h
    have := of_decide_eq_false h
    exact .inl (by show a < c; omega)
theorem sortDT_pairs {Q : VK} {H : Hp} {d : Addr} {kvs : List (List L2.Key × V)} {prs : List (Int × Int)} (hd : H d = some (.dT kvs)) (hk : kvs.map (·.1) = prs.map ky2) (q : ∀ ys qrs p, H p = none → qrs.Perm prs → qrs.Pairwise PLe → TPs H ys qrs → Q (.ref p) (upd H p (.lst ys))) : rSortedDT [.ref d] H Q := by
  refine ⟨d, kvs, unK, rfl, .inl hd, fun p hp => ?_, fun bs ks p np perm pw hl hb => ?_⟩
  · have := List.mem_map_of_mem (f := (·.1)) hp
    rw [hk] at this
    obtain ⟨e, _, he⟩ := List.mem_map.mp this
    rw [← he]
    exact ⟨rfl, by simp [unK, ky2]⟩
  · have e1 : (kvs.map fun q => unK q.1) = prs.map fun e => [e.1, e.2] := by
      rw [show (kvs.map fun q => unK q.1) = (kvs.map (·.1)).map unK by rw [List.map_map]; rfl, hk, List.map_map]
      rfl
    rw [e1] at perm
    have hks : ks = (ks.map fun l => (l.getD 0 0, l.getD 1 0)).map fun e : Int × Int => [e.1, e.2] := by
      rw [List.map_map]
      refine (List.map_id ks).symm.trans (List.map_congr_left fun l hl => ?_)
      obtain ⟨e, _, rfl⟩ := List.mem_map.mp (perm.mem_iff.mp hl)
      rfl
    have hperm : (ks.map fun l => (l.getD 0 0, l.getD 1 0)).Perm prs := by
      have := perm.map fun l : List Int => (l.getD 0 0, l.getD 1 0)
      rw [List.map_map] at this
      have e2 : (fun l : List Int => (l.getD 0 0, l.getD 1 0)) ∘ (fun e : Int × Int => [e.1, e.2]) = id := rfl
      rw [e2, List.map_id] at this
      exact this
    generalize (ks.map fun l => (l.getD 0 0, l.getD 1 0)) = qrs at hks hperm
    subst hks
    refine q _ qrs p np hperm ?_ ⟨by rw [List.length_map, hl, List.length_map], fun i v e hv he => ?_⟩
    · rw [List.pairwise_map] at pw
      exact pw.imp fun {a b} h => lex2 h
    · rw [List.getElem?_map] at hv
      obtain ⟨b, hb1, rfl⟩ := Option.map_eq_some_iff.mp hv
      exact ⟨b, rfl, hb i b [e.1, e.2] hb1 (by rw [List.getElem?_map, he]; rfl)⟩
/-- pairs as keys, each once -/
theorem putT_new {kvs : List (List L2.Key × V)} {prs : List (Int × Int)} {e : Int × Int} {v : V} (hk : kvs.map (·.1) = prs.map ky2) : ((putK kvs (ky2 e) v).map (·.1) = prs.map ky2 ∧ e ∈ prs) ∨ ((putK kvs (ky2 e) v).map (·.1) = (prs ++ [e]).map ky2 ∧ e ∉ prs) := by
  have inj : ∀ f : Int × Int, ky2 f = ky2 e → f = e := fun f z => by
    have h1 := List.cons.inj z
    have h2 := List.cons.inj h1.2
    exact Prod.ext (Sum.inl.inj h1.1) (Sum.inl.inj h2.1)
  rcases putK_keys kvs (ky2 e) v with ⟨h1, h2⟩ | ⟨h1, h2⟩
  · rw [hk] at h1 h2
    obtain ⟨f, hf, z⟩ := List.mem_map.mp h1
    exact .inl ⟨h2, inj f z ▸ hf⟩
  · rw [hk] at h1 h2
    refine .inr ⟨by rw [h2, List.map_append]; rfl, fun z => h1 (List.mem_map_of_mem z)⟩

/-! ### three straight rows from one stone -/
def Snd (a b : List Int) : Prop := ∀ x, a[1]? = some x → b[1]? ≠ some x
theorem Snd.symm {a b : List Int} (h : Snd a b) : Snd b a := fun x h1 h2 => h x h2 h1
structure Tri (m : Int) (a b c : List Int) : Prop where
  sa : Str8 a
  sb : Str8 b
  sc : Str8 c
  ha : a.head? = some m
  hb : b.head? = some m
  hc : c.head? = some m
  ab : Snd a b
  ac : Snd a c
  bc : Snd b c
theorem Tri.swap {m : Int} {a b c : List Int} (h : Tri m a b c) : Tri m b a c := ⟨h.sb, h.sa, h.sc, h.hb, h.ha, h.hc, h.ab.symm, h.bc, h.ac⟩
theorem Tri.swap2 {m : Int} {a b c : List Int} (h : Tri m a b c) : Tri m a c b := ⟨h.sa, h.sc, h.sb, h.ha, h.hc, h.hb, h.ac, h.ab, h.bc.symm⟩
/-- from the end of one to the end of the other -/
def jn (a b : List Int) : List Int := a.reverse ++ b.tail
theorem cons_of_head {a : List Int} {m : Int} (h : a.head? = some m) : a = m :: a.tail := by
  cases a with
  | nil => cases h
  | cons x t => cases Option.some.inj h; rfl
theorem jn_rev {a b : List Int} {m : Int} (ha : a.head? = some m) (hb : b.head? = some m) : (jn a b).reverse = jn b a := by
  unfold jn
  rw [cons_of_head ha, cons_of_head hb]
  simp
theorem jn_str {a b : List Int} {m : Int} (sa : Str8 a) (sb : Str8 b) (ha : a.head? = some m) (hb : b.head? = some m) (h : Snd a b) : Str8 (jn a b) := by
  have e : jn a b = a.tail.reverse ++ m :: b.tail := by
    unfold jn
    conv => lhs; rw [cons_of_head ha]
    rw [List.reverse_cons, List.append_assoc]
    rfl
  rw [e]
  refine str_mid ?_ ?_ fun d h1 h2 => ?_
  · have := sa.rev
    rw [cons_of_head ha, List.reverse_cons] at this
    exact this
  · rw [← cons_of_head hb]; exact sb
  · rw [List.getLast?_reverse] at h1
    refine h d ?_ ?_
    · rw [cons_of_head ha]; rw [List.head?_eq_getElem?] at h1; exact h1
    · rw [cons_of_head hb]; rw [List.head?_eq_getElem?] at h2; exact h2
theorem lcp_app : ∀ (p a b : List Int), lcp (p ++ a) (p ++ b) = p.length + lcp a b
  | [], a, b => by rw [List.nil_append, List.nil_append, List.length_nil, Nat.zero_add]
  | x :: p, a, b => by
    rw [List.cons_append, List.cons_append, lcp_eq rfl, lcp_app p a b, List.length_cons]
    omega
theorem lcp_zero {a b : List Int} (h : ∀ x, a.head? = some x → b.head? ≠ some x) : lcp a b = 0 := by
  cases a with
  | nil => rfl
  | cons x a =>
    cases b with
    | nil => rfl
    | cons y b => exact lcp_ne fun z => h x rfl (by rw [z]; rfl)
theorem lcp_split : ∀ (a b : List Int), ∃ p u w, a = p ++ u ∧ b = p ++ w ∧ p.length = lcp a b ∧ ∀ x, u.head? = some x → w.head? ≠ some x
  | [], b => ⟨[], [], b, rfl, rfl, rfl, fun x h => by cases h⟩
  | x :: a, [] => ⟨[], x :: a, [], rfl, rfl, rfl, fun y _ h => by cases h⟩
  | x :: a, y :: b => by
    by_cases e : x = y
    · obtain ⟨p, u, w, h1, h2, h3, h4⟩ := lcp_split a b
      exact ⟨x :: p, u, w, by rw [h1]; rfl, by rw [h2, e]; rfl, by rw [lcp_eq e, ← h3]; rfl, h4⟩
    · exact ⟨[], x :: a, y :: b, rfl, rfl, (lcp_ne e).symm, fun z h1 h2 => e ((Option.some.inj h1).trans (Option.some.inj h2).symm)⟩
def tA (U V : List Int) : List Int := (U.take (lcp U V)).reverse
def tM (U V : List Int) : Int := U.getD (lcp U V - 1) 0
def tB (U V : List Int) : List Int := U.drop (lcp U V - 1)
def tC (U V : List Int) : List Int := V.drop (lcp U V - 1)
theorem Tri.lcp {m : Int} {a b c : List Int} (h : Tri m a b c) : lcp (jn a b) (jn a c) = a.length := by
  unfold jn
  rw [lcp_app, List.length_reverse, lcp_zero, Nat.add_zero]
  intro x h1 h2
  refine h.bc x ?_ ?_
  · rw [cons_of_head h.hb]; rw [List.head?_eq_getElem?] at h1; exact h1
  · rw [cons_of_head h.hc]; rw [List.head?_eq_getElem?] at h2; exact h2
theorem Tri.pos {m : Int} {a b c : List Int} (h : Tri m a b c) : 1 ≤ a.length := by
  rw [cons_of_head h.ha, List.length_cons]; omega
theorem jn_drop {a b : List Int} {m : Int} (ha : a.head? = some m) (hb : b.head? = some m) : (jn a b).drop (a.length - 1) = b := by
  unfold jn
  conv => lhs; arg 2; rw [cons_of_head ha]
  rw [List.reverse_cons, List.append_assoc, List.drop_append, List.drop_of_length_le (by rw [List.length_reverse, List.length_tail]; omega), List.length_reverse, List.length_tail, Nat.sub_self, List.nil_append]
  exact (cons_of_head hb).symm
theorem Tri.eqs {m : Int} {a b c : List Int} (h : Tri m a b c) : tA (jn a b) (jn a c) = a ∧ tB (jn a b) (jn a c) = b ∧ tC (jn a b) (jn a c) = c ∧ tM (jn a b) (jn a c) = m := by
  have e := h.lcp
  have hp := h.pos
  refine ⟨?_, ?_, ?_, ?_⟩
  · unfold tA
    rw [e]
    unfold jn
    rw [List.take_append, List.length_reverse, Nat.sub_self, List.take_zero, List.append_nil, List.take_of_length_le (by rw [List.length_reverse]; exact Nat.le_refl _), List.reverse_reverse]
  · unfold tB
    rw [e]
    exact jn_drop h.ha h.hb
  · unfold tC
    rw [e]
    exact jn_drop h.ha h.hc
  · unfold tM
    rw [e]
    have := jn_drop h.ha h.hb
    have h2 := congrArg List.head? this
    rw [List.head?_drop, h.hb] at h2
    rw [List.getD_eq_getElem?_getD, h2]
    rfl
theorem tri_def {U V : List Int} {x : Int} (sU : Str8 U) (sV : Str8 V) (hU : U.head? = some x) (hV : V.head? = some x) : Tri (tM U V) (tA U V) (tB U V) (tC U V) ∧ U = jn (tA U V) (tB U V) ∧ V = jn (tA U V) (tC U V) := by
  obtain ⟨p, u, w, h1, h2, h3, h4⟩ := lcp_split U V
  have hp : p ≠ [] := fun z => by
    rw [z] at h1 h2
    rw [h1] at hU
    rw [h2] at hV
    exact h4 x hU hV
  obtain ⟨q, m, rfl⟩ : ∃ q m, p = q ++ [m] := ⟨p.dropLast, p.getLast hp, (List.dropLast_concat_getLast hp).symm⟩
  have key : Tri m (m :: q.reverse) (m :: u) (m :: w) := by
    have k1 : Str8 (q ++ [m]) := by rw [h1] at sU; exact sU.pre
    have suf : ∀ {l r : List Int}, Str8 (q ++ [m] ++ r) → Str8 (m :: r) := fun {l r} k a t c b e => k (q ++ a) t c b (by rw [List.append_assoc]; show q ++ (m :: r) = _; rw [e]; simp)
    have nb : ∀ {r : List Int}, Str8 (q ++ [m] ++ r) → Snd (m :: q.reverse) (m :: r) := fun {r} k y e1 e2 => by
      have e1 : q.reverse[0]? = some y := e1
      have e2 : r[0]? = some y := e2
      rw [← List.head?_eq_getElem?, List.head?_reverse] at e1
      obtain ⟨q', rfl⟩ : ∃ q', q = q' ++ [y] := ⟨q.dropLast, by
        have hq : q ≠ [] := fun z => by rw [z] at e1; cases e1
        rw [List.getLast?_eq_some_getLast hq] at e1
        rw [← Option.some.inj e1]
        exact (List.dropLast_concat_getLast hq).symm⟩
      rw [← List.head?_eq_getElem?] at e2
      refine k q' y m r.tail ?_
      conv => lhs; rw [cons_of_head e2]
      simp
    refine ⟨?_, suf (l := []) (by rw [← h1]; exact sU), suf (l := []) (by rw [← h2]; exact sV), rfl, rfl, rfl, nb (by rw [← h1]; exact sU), nb (by rw [← h2]; exact sV), fun y e1 e2 => h4 y (by rw [List.head?_eq_getElem?]; exact e1) (by rw [List.head?_eq_getElem?]; exact e2)⟩
    have := k1.rev
    rw [List.reverse_append] at this
    exact this
  have eU : U = jn (m :: q.reverse) (m :: u) := by rw [h1]; unfold jn; simp
  have eV : V = jn (m :: q.reverse) (m :: w) := by rw [h2]; unfold jn; simp
  have k := key.eqs
  rw [← eU, ← eV] at k
  rw [k.1, k.2.1, k.2.2.1, k.2.2.2]
  exact ⟨key, eU, eV⟩
theorem stp_head {a : List Int} {m x : Int} (h : a.head? = some m) : (stp a x).head? = some m := by
  rw [cons_of_head h]; exact head_stp m a.tail x
theorem stp_one (m x : Int) : stp [m] x = [m, x] := rfl
theorem snd_stp {a : List Int} {m x s : Int} (h : a.head? = some m) (hs : (stp a x)[1]? = some s) : (a = [m] ∧ s = x) ∨ a[1]? = some s := by
  rw [cons_of_head h] at hs ⊢
  cases ht : a.tail with
  | nil =>
    rw [ht, stp_one] at hs
    exact .inl ⟨rfl, (Option.some.inj hs).symm⟩
  | cons e t =>
    rw [ht] at hs
    refine .inr ?_
    unfold stp at hs
    split at hs
    · cases t with
      | nil => cases hs
      | cons f t => exact hs
    · exact hs
/-- seen from the stone d beside the first one -/
def fr (d : Int) (a : List Int) : List Int := strk (d :: a)
theorem fr_cases {a : List Int} {m d : Int} (sa : Str8 a) (ha : a.head? = some m) : (a[1]? = some d ∧ fr d a = a.tail) ∨ (a[1]? ≠ some d ∧ fr d a = d :: a) := by
  by_cases e : a[1]? = some d
  · refine .inl ⟨e, ?_⟩
    rw [cons_of_head ha] at e sa ⊢
    cases ht : a.tail with
    | nil => rw [ht] at e; cases e
    | cons f t =>
      rw [ht] at e sa
      cases Option.some.inj e
      unfold fr
      rw [strk_open]
      exact strk_id fun x y z w h => sa (m :: x) y z w (by rw [h]; rfl)
  · exact .inr ⟨e, strk_id (str_front sa e)⟩
theorem fr_head (d : Int) (a : List Int) : (fr d a).head? = some d := strk_head _
theorem fr_str (d : Int) (a : List Int) : Str8 (fr d a) := strk_str _
/-- one pair -/
theorem fr_snd {a b : List Int} {m x y d : Int} (sa : Str8 a) (sb : Str8 b) (ha : a.head? = some m) (hb : b.head? = some m) (h : Snd a b) (hd : (stp a x)[1]? = some d ∨ (stp b y)[1]? = some d) : Snd (fr d (stp a x)) (fr d (stp b y)) := by
  have no3 : ∀ {c : List Int} {z : Int}, Str8 c → c.head? = some m → (stp c z)[1]? = some d → (stp c z)[2]? ≠ some m := fun {c z} sc hc h1 h2 => by
    have h0 := stp_head (x := z) hc
    have := stp_str (c := z) sc
    exact str_ix.mp this 0 (by have := (List.getElem?_eq_some_iff.mp h2).1; omega) (by rw [← List.head?_eq_getElem?, h0, h2])
  have tl : ∀ c : List Int, c.tail[1]? = c[2]? := fun c => by cases c <;> rfl
  intro e h1 h2
  rcases fr_cases (d := d) (stp_str (c := x) sa) (stp_head ha) with ⟨k1, k2⟩ | ⟨k1, k2⟩
  · rw [k2, tl] at h1
    rcases fr_cases (d := d) (stp_str (c := y) sb) (stp_head hb) with ⟨j1, j2⟩ | ⟨j1, j2⟩
    · rw [j2, tl] at h2
      rcases snd_stp ha k1 with ⟨rfl, _⟩ | q1
      · cases h1
      · rcases snd_stp hb j1 with ⟨rfl, _⟩ | q2
        · cases h2
        · exact h d q1 q2
    · rw [j2] at h2
      have h2 : (stp b y)[0]? = some e := h2
      rw [← List.head?_eq_getElem?, stp_head hb] at h2
      cases Option.some.inj h2
      exact no3 sa ha k1 h1
  · rw [k2] at h1
    have h1 : (stp a x)[0]? = some e := h1
    rw [← List.head?_eq_getElem?, stp_head ha] at h1
    cases Option.some.inj h1
    rcases fr_cases (d := d) (stp_str (c := y) sb) (stp_head hb) with ⟨j1, j2⟩ | ⟨j1, j2⟩
    · rw [j2, tl] at h2
      exact no3 sb hb j1 h2
    · exact hd.elim k1 j1
/-- each end moves by one stone -/
theorem Tri.step {m : Int} {a b c : List Int} (h : Tri m a b c) (x y z : Int) : Tri m (stp a x) (stp b y) (stp c z) ∨ ∃ d, ((a = [m] ∧ d = x) ∨ (b = [m] ∧ d = y) ∨ (c = [m] ∧ d = z)) ∧ Tri d (fr d (stp a x)) (fr d (stp b y)) (fr d (stp c z)) := by
  by_cases all : Snd (stp a x) (stp b y) ∧ Snd (stp a x) (stp c z) ∧ Snd (stp b y) (stp c z)
  · exact .inl ⟨stp_str h.sa, stp_str h.sb, stp_str h.sc, stp_head h.ha, stp_head h.hb, stp_head h.hc, all.1, all.2.1, all.2.2⟩
  · refine .inr ?_
    have share : ∀ {p q : List Int}, ¬ Snd p q → ∃ d, p[1]? = some d ∧ q[1]? = some d := fun {p q} k => Classical.byContradiction fun no => k fun d h1 h2 => no ⟨d, h1, h2⟩
    have mk : ∀ d, ((a = [m] ∧ d = x) ∨ (b = [m] ∧ d = y) ∨ (c = [m] ∧ d = z)) → ((stp a x)[1]? = some d ∨ (stp b y)[1]? = some d) → ((stp a x)[1]? = some d ∨ (stp c z)[1]? = some d) → ((stp b y)[1]? = some d ∨ (stp c z)[1]? = some d) → ∃ d, ((a = [m] ∧ d = x) ∨ (b = [m] ∧ d = y) ∨ (c = [m] ∧ d = z)) ∧ Tri d (fr d (stp a x)) (fr d (stp b y)) (fr d (stp c z)) := fun d h0 h1 h2 h3 =>
      ⟨d, h0, fr_str _ _, fr_str _ _, fr_str _ _, fr_head _ _, fr_head _ _, fr_head _ _, fr_snd h.sa h.sb h.ha h.hb h.ab h1, fr_snd h.sa h.sc h.ha h.hc h.ac h2, fr_snd h.sb h.sc h.hb h.hc h.bc h3⟩
    by_cases k1 : Snd (stp a x) (stp b y)
    · by_cases k2 : Snd (stp a x) (stp c z)
      · obtain ⟨d, e1, e2⟩ := share fun k3 => all ⟨k1, k2, k3⟩
        refine mk d ?_ (.inr e1) (.inr e2) (.inl e1)
        rcases snd_stp h.hb e1 with ⟨q, q2⟩ | q
        · exact .inr (.inl ⟨q, q2⟩)
        · rcases snd_stp h.hc e2 with ⟨r, r2⟩ | r
          · exact .inr (.inr ⟨r, r2⟩)
          · exact absurd r (h.bc d q)
      · obtain ⟨d, e1, e2⟩ := share k2
        refine mk d ?_ (.inl e1) (.inl e1) (.inr e2)
        rcases snd_stp h.ha e1 with ⟨q, q2⟩ | q
        · exact .inl ⟨q, q2⟩
        · rcases snd_stp h.hc e2 with ⟨r, r2⟩ | r
          · exact .inr (.inr ⟨r, r2⟩)
          · exact absurd r (h.ac d q)
    · obtain ⟨d, e1, e2⟩ := share k1
      refine mk d ?_ (.inl e1) (.inl e1) (.inl e2)
      rcases snd_stp h.ha e1 with ⟨q, q2⟩ | q
      · exact .inl ⟨q, q2⟩
      · rcases snd_stp h.hb e2 with ⟨r, r2⟩ | r
        · exact .inr (.inl ⟨r, r2⟩)
        · exact absurd r (h.ab d q)
theorem strk_stp {a : List Int} {x : Int} (sa : Str8 a) : strk (a ++ [x]) = stp a x := by
  unfold strk
  rw [List.foldl_append]
  show stp (strk a) x = _
  rw [strk_id sa]
theorem strk_front {a : List Int} {x : Int} (sa : Str8 a) : strk ([x] ++ a.reverse) = (stp a x).reverse := by
  rw [← strk_stp sa, ← strk_rev, List.reverse_append]
  rfl
/-- carried along a thread -/
theorem carr_jn {a b : List Int} {m x y : Int} (sa : Str8 a) (sb : Str8 b) (ha : a.head? = some m) (hb : b.head? = some m) : strk ([x] ++ jn a b ++ [y]) = strk (jn (stp a x) (stp b y)) := by
  have e1 : [x] ++ jn a b ++ [y] = ([x] ++ a.reverse) ++ (b.tail ++ [y]) := by unfold jn; simp
  have h1 := stp_head (x := x) ha
  have h2 := stp_head (x := y) hb
  rw [e1, strk_app, strk_front sa]
  unfold jn
  rw [cons_of_head h1, List.reverse_cons]
  have e2 : (stp a x).tail.reverse ++ [m] ++ (b.tail ++ [y]) = (stp a x).tail.reverse ++ (b ++ [y]) := by
    conv => rhs; rw [cons_of_head hb]
    simp
  rw [e2, strk_mid, strk_stp sb]
  conv => lhs; rw [cons_of_head h2]
  simp
theorem jn_fr {a b : List Int} {m d : Int} (ha : a.head? = some m) (hb : b.head? = some m) : strk (jn (fr d a) (fr d b)) = strk (jn a b) := by
  have l1 : (d :: a).reverse.getLast? = some d := by rw [List.getLast?_reverse]; rfl
  have k := rests_join (a := (d :: a).reverse) (b := d :: b) l1 rfl
  rw [strk_rev] at k
  unfold jn fr
  rw [k]
  refine (strk_red ⟨a.tail.reverse, m, d, b.tail, ?_, ?_⟩)
  · rw [List.tail_cons]
    conv => lhs; rw [cons_of_head ha, cons_of_head hb]
    simp
  · conv => lhs; rw [cons_of_head ha]
    simp

/-! ### three standings of a class: legs to where they meet -/
section
variable {rows : List (List Int)} {n : Nat} {ths : List (Int × Int)} {ps a b c : List Int} {M : Int → Int} {A B C U V : Int → List Int} {bs : Nat}
structure Legs (n : Nat) (ths : List (Int × Int)) (a b c : List Int) (M : Int → Int) (A B C : Int → List Int) : Prop where
  tri : ∀ p : Int, 0 ≤ p ∧ p < (n : Nat) → Tri (M p) (A p) (B p) (C p)
  la : ∀ p : Int, 0 ≤ p ∧ p < (n : Nat) → (A p).getLast? = some (a.getD p.toNat 0)
  lb : ∀ p : Int, 0 ≤ p ∧ p < (n : Nat) → (B p).getLast? = some (b.getD p.toNat 0)
  lc : ∀ p : Int, 0 ≤ p ∧ p < (n : Nat) → (C p).getLast? = some (c.getD p.toNat 0)
  par : ∀ p : Int, 0 ≤ p ∧ p < (n : Nat) → (A p).length % 2 = (B p).length % 2 ∧ (A p).length % 2 = (C p).length % 2
  st : ∀ p q, Adj ths p q → (M q = M p ∧ A q = stp (A p) (a.getD q.toNat 0) ∧ B q = stp (B p) (b.getD q.toNat 0) ∧ C q = stp (C p) (c.getD q.toNat 0)) ∨
    (((A p = [M p] ∧ M q = a.getD q.toNat 0) ∨ (B p = [M p] ∧ M q = b.getD q.toNat 0) ∨ (C p = [M p] ∧ M q = c.getD q.toNat 0)) ∧ A q = fr (M q) (stp (A p) (a.getD q.toNat 0)) ∧ B q = fr (M q) (stp (B p) (b.getD q.toNat 0)) ∧ C q = fr (M q) (stp (C p) (c.getD q.toNat 0)))
theorem Legs.swap (h : Legs n ths a b c M A B C) : Legs n ths b a c M B A C := by
  refine ⟨fun p hp => (h.tri p hp).swap, h.lb, h.la, h.lc, fun p hp => ⟨(h.par p hp).1.symm, (h.par p hp).1.symm.trans (h.par p hp).2⟩, fun p q ha => ?_⟩
  rcases h.st p q ha with ⟨k1, k2, k3, k4⟩ | ⟨k1, k2, k3, k4⟩
  · exact .inl ⟨k1, k3, k2, k4⟩
  · refine .inr ⟨?_, k3, k2, k4⟩
    rcases k1 with k | k | k
    · exact .inr (.inl k)
    · exact .inl k
    · exact .inr (.inr k)
theorem Legs.swap2 (h : Legs n ths a b c M A B C) : Legs n ths a c b M A C B := by
  refine ⟨fun p hp => (h.tri p hp).swap2, h.la, h.lc, h.lb, fun p hp => ⟨(h.par p hp).2, (h.par p hp).1⟩, fun p q ha => ?_⟩
  rcases h.st p q ha with ⟨k1, k2, k3, k4⟩ | ⟨k1, k2, k3, k4⟩
  · exact .inl ⟨k1, k2, k4, k3⟩
  · refine .inr ⟨?_, k2, k4, k3⟩
    rcases k1 with k | k | k
    · exact .inl k
    · exact .inr (.inr k)
    · exact .inr (.inl k)
theorem jn_head {x y : List Int} (h : x ≠ []) : (jn x y).head? = x.getLast? := by
  unfold jn
  rw [List.head?_append, List.head?_reverse]
  cases k : x.getLast? with
  | none => exact absurd (List.getLast?_eq_none_iff.mp k) h
  | some z => rfl
theorem head_ne {x : List Int} {m : Int} (h : x.head? = some m) : x ≠ [] := fun z => by rw [z] at h; cases h
theorem jn_last {x y : List Int} {m : Int} (hx : x.head? = some m) (hy : y.head? = some m) : (jn x y).getLast? = y.getLast? := by
  rw [← List.head?_reverse, jn_rev hx hy, jn_head (head_ne hy)]
theorem jn_len {x y : List Int} {m : Int} (hy : y.head? = some m) : (jn x y).length + 1 = x.length + y.length := by
  unfold jn
  rw [List.length_append, List.length_reverse]
  conv => rhs; rw [cons_of_head hy]
  rw [List.length_cons]
  omega
theorem legs_of (hi : InN n ths) (hU : ∀ p q, Adj ths p q → U q = carr a b (U p) q) (hV : ∀ p q, Adj ths p q → V q = carr a c (V p) q) (rU : ∀ p : Int, 0 ≤ p ∧ p < (n : Nat) → EndsR a b (U p) p ∧ (U p).length % 2 = 1) (rV : ∀ p : Int, 0 ≤ p ∧ p < (n : Nat) → EndsR a c (V p) p ∧ (V p).length % 2 = 1) :
    Legs n ths a b c (fun p => tM (U p) (V p)) (fun p => tA (U p) (V p)) (fun p => tB (U p) (V p)) (fun p => tC (U p) (V p)) := by
  have td : ∀ p : Int, 0 ≤ p ∧ p < (n : Nat) → _ := fun p hp => tri_def (rU p hp).1.1 (rV p hp).1.1 (rU p hp).1.2.1 (rV p hp).1.2.1
  refine ⟨fun p hp => (td p hp).1, fun p hp => ?_, fun p hp => ?_, fun p hp => ?_, fun p hp => ?_, fun p q ha => ?_⟩
  · obtain ⟨k, e1, e2⟩ := td p hp
    have := (rU p hp).1.2.1
    rw [e1, jn_head (head_ne k.ha)] at this
    exact this
  · obtain ⟨k, e1, e2⟩ := td p hp
    have := (rU p hp).1.2.2
    rw [e1, jn_last k.ha k.hb] at this
    exact this
  · obtain ⟨k, e1, e2⟩ := td p hp
    have := (rV p hp).1.2.2
    rw [e2, jn_last k.ha k.hc] at this
    exact this
  · obtain ⟨k, e1, e2⟩ := td p hp
    have h1 := (rU p hp).2
    have h2 := (rV p hp).2
    have l1 := jn_len (x := tA (U p) (V p)) k.hb
    have l2 := jn_len (x := tA (U p) (V p)) k.hc
    rw [← e1] at l1
    rw [← e2] at l2
    show (tA (U p) (V p)).length % 2 = (tB (U p) (V p)).length % 2 ∧ (tA (U p) (V p)).length % 2 = (tC (U p) (V p)).length % 2
    omega
  · obtain ⟨k, e1, e2⟩ := td p (adj_lt hi ha.symm)
    have f1 : U q = strk (jn (stp (tA (U p) (V p)) (a.getD q.toNat 0)) (stp (tB (U p) (V p)) (b.getD q.toNat 0))) := by
      rw [hU p q ha]
      unfold carr
      conv => lhs; rw [e1]
      exact carr_jn k.sa k.sb k.ha k.hb
    have f2 : V q = strk (jn (stp (tA (U p) (V p)) (a.getD q.toNat 0)) (stp (tC (U p) (V p)) (c.getD q.toNat 0))) := by
      rw [hV p q ha]
      unfold carr
      conv => lhs; rw [e2]
      exact carr_jn k.sa k.sc k.ha k.hc
    rcases k.step (a.getD q.toNat 0) (b.getD q.toNat 0) (c.getD q.toNat 0) with t | ⟨d, hd, t⟩
    · rw [strk_id (jn_str t.sa t.sb t.ha t.hb t.ab)] at f1
      rw [strk_id (jn_str t.sa t.sc t.ha t.hc t.ac)] at f2
      obtain ⟨q1, q2, q3, q4⟩ := t.eqs
      rw [← f1, ← f2] at q1 q2 q3 q4
      exact .inl ⟨q4, q1, q2, q3⟩
    · rw [← jn_fr (d := d) (stp_head k.ha) (stp_head k.hb), strk_id (jn_str t.sa t.sb t.ha t.hb t.ab)] at f1
      rw [← jn_fr (d := d) (stp_head k.ha) (stp_head k.hc), strk_id (jn_str t.sa t.sc t.ha t.hc t.ac)] at f2
      obtain ⟨q1, q2, q3, q4⟩ := t.eqs
      rw [← f1, ← f2] at q1 q2 q3 q4
      refine .inr ?_
      show (((_ ∧ tM (U q) (V q) = _) ∨ (_ ∧ tM (U q) (V q) = _) ∨ (_ ∧ tM (U q) (V q) = _)) ∧ tA (U q) (V q) = fr (tM (U q) (V q)) _ ∧ tB (U q) (V q) = fr (tM (U q) (V q)) _ ∧ tC (U q) (V q) = fr (tM (U q) (V q)) _)
      rw [q4]
      exact ⟨hd, q1, q2, q3⟩
/-- the link between two of the three -/
theorem Legs.carr_ab (hi : InN n ths) (h : Legs n ths a b c M A B C) {p q : Int} (ha : Adj ths p q) : jn (A q) (B q) = carr a b (jn (A p) (B p)) q := by
  have k := h.tri p (adj_lt hi ha.symm)
  have k2 := h.tri q (adj_lt hi ha)
  unfold carr
  rw [carr_jn k.sa k.sb k.ha k.hb]
  rcases h.st p q ha with ⟨_, e2, e3, _⟩ | ⟨_, e2, e3, _⟩
  · rw [← e2, ← e3, strk_id (jn_str k2.sa k2.sb k2.ha k2.hb k2.ab)]
  · rw [← jn_fr (d := M q) (stp_head k.ha) (stp_head k.hb), ← e2, ← e3, strk_id (jn_str k2.sa k2.sb k2.ha k2.hb k2.ab)]
/-- where it meets, and the row there -/
def mt (l : List Int) : Int := if l.length % 2 = 0 then l.getD 1 0 else l.getD 0 0
def wr (l : List Int) : List Int := if l.length % 2 = 0 then l.tail.reverse else l.reverse
theorem stp_par {l : List Int} {x : Int} (h : l ≠ []) : (stp l x).length % 2 ≠ l.length % 2 := by
  have := List.length_pos_iff.mpr h
  rw [stp_lenE]
  split <;> omega
theorem strk_par0 (l : List Int) : (strk l).length % 2 = l.length % 2 := by
  have := strk_par l []
  rw [List.length_nil, Nat.zero_add] at this
  exact this
theorem mt_even {l : List Int} (h : l.length % 2 = 0) : mt l = l.getD 1 0 := if_pos h
theorem mt_odd {l : List Int} {m : Int} (h : l.length % 2 = 1) (hl : l.head? = some m) : mt l = m := by
  unfold mt
  rw [if_neg (by omega), cons_of_head hl]
  rfl
theorem even_two {l : List Int} {m : Int} (h : l.length % 2 = 0) (hl : l.head? = some m) : ∃ x t, l = m :: x :: t := by
  rw [cons_of_head hl] at h ⊢
  cases k : l.tail with
  | nil => rw [k] at h; cases h
  | cons x t => exact ⟨x, t, rfl⟩
/-- how two neighbours lie -/
theorem Legs.cases (hi : InN n ths) (h : Legs n ths a b c M A B C) {p q : Int} (ha : Adj ths p q) : (M q = M p ∧ A q = stp (A p) (a.getD q.toNat 0) ∧ (A q).length % 2 ≠ (A p).length % 2) ∨ ((A p).length % 2 = 1 ∧ (A q).length % 2 = 1 ∧ A q = fr (M q) (stp (A p) (a.getD q.toNat 0)) ∧ ((A p = [M p] ∧ M q = a.getD q.toNat 0) ∨ (B p = [M p] ∧ M q = b.getD q.toNat 0) ∨ (C p = [M p] ∧ M q = c.getD q.toNat 0))) := by
  have hp := adj_lt hi ha.symm
  have k := h.tri p hp
  rcases h.st p q ha with ⟨e1, e2, _, _⟩ | ⟨e0, e2, _, _⟩
  · exact .inl ⟨e1, e2, by rw [e2]; exact stp_par (head_ne k.ha)⟩
  · have h1 : (A p).length % 2 = 1 := by
      have := h.par p hp
      rcases e0 with ⟨z, _⟩ | ⟨z, _⟩ | ⟨z, _⟩
      · rw [z]; rfl
      · rw [this.1, z]; rfl
      · rw [this.2, z]; rfl
    refine .inr ⟨h1, ?_, e2, e0⟩
    rw [e2]
    unfold fr
    rw [strk_par0, List.length_cons]
    have := stp_par (x := a.getD q.toNat 0) (head_ne k.ha)
    omega
theorem Legs.meet_carr (hi : InN n ths) (h : Legs n ths a b c M A B C) {p q : Int} (ha : Adj ths p q) : wr (A q) = strk ([a.getD q.toNat 0] ++ wr (A p) ++ [mt (A q)]) := by
  have k := h.tri p (adj_lt hi ha.symm)
  have k2 := h.tri q (adj_lt hi ha)
  rcases h.cases hi ha with ⟨e1, e2, e3⟩ | ⟨e1, e2, e3, _⟩
  · by_cases ev : (A p).length % 2 = 0
    · have od : (A q).length % 2 = 1 := by omega
      rw [mt_odd od k2.ha]
      unfold wr
      rw [if_pos ev, if_neg (by omega), e1, e2, ← strk_front k.sa]
      congr 1
      conv => lhs; rw [cons_of_head k.ha]
      simp
    · have ev2 : (A q).length % 2 = 0 := by omega
      obtain ⟨x, t, ex⟩ := even_two ev2 k2.ha
      rw [mt_even ev2]
      unfold wr
      rw [if_neg ev, if_pos ev2, strk_app, strk_front k.sa, ← e2, ex]
      have sx : Str8 (x :: t) := fun u v w z hh => k2.sa (M q :: u) v w z (by rw [ex, hh]; rfl)
      have : (M q :: x :: t).reverse ++ [(M q :: x :: t).getD 1 0] = (x :: M q :: x :: t).reverse := by
        rw [List.reverse_cons (a := x)]
        rfl
      rw [this, strk_rev, strk_open, strk_id sx]
      rfl
  · rw [mt_odd e2 k2.ha]
    unfold wr
    rw [if_neg (by omega), if_neg (by omega), e3, strk_app, strk_front k.sa]
    unfold fr
    rw [← strk_rev, List.reverse_cons]
def mS (n : Nat) (A : Int → List Int) : List Int := (List.range n).map fun p => mt (A (p : Nat))
theorem mS_len : (mS n A).length = n := by unfold mS; rw [List.length_map, List.length_range]
theorem mS_at {p : Int} (hp : 0 ≤ p ∧ p < (n : Nat)) : (mS n A).getD p.toNat 0 = mt (A p) := by
  unfold mS
  rw [List.getD_eq_getElem?_getD, List.getElem?_map, List.getElem?_range (by omega)]
  show mt (A ((p.toNat : Nat) : Int)) = _
  rw [Int.toNat_of_nonneg hp.1]
theorem rowAt_two {m x : Int} {t y : List Int} (h : ∀ i, rowAt rows (jn (m :: x :: t) y) i) : (0 ≤ x ∧ x < (rows.length : Nat)) ∧ m ∈ rowOf rows x.toNat := by
  have e : jn (m :: x :: t) y = t.reverse ++ ([x, m] ++ y.tail) := by unfold jn; simp
  rw [e] at h
  have g1 : (t.reverse ++ ([x, m] ++ y.tail))[t.length]? = some x := by rw [List.getElem?_append_right (by rw [List.length_reverse]; exact Nat.le_refl _), List.length_reverse, Nat.sub_self]; rfl
  have g2 : (t.reverse ++ ([x, m] ++ y.tail))[t.length + 1]? = some m := by rw [List.getElem?_append_right (by rw [List.length_reverse]; omega), List.length_reverse, show t.length + 1 - t.length = 1 by omega]; rfl
  exact ⟨(h _ x g1).1, (h _ m g2).2 x (by omega) g1⟩
theorem rowAt_in {row : List Int} (h : ∀ i, rowAt rows row i) {x : Int} (hx : x ∈ row) : 0 ≤ x ∧ x < (rows.length : Nat) := by
  obtain ⟨i, hi, rfl⟩ := List.getElem_of_mem hx
  exact (h i _ (List.getElem?_eq_getElem hi)).1
theorem Legs.meet_stand (g : GoodT rows) (hi : InN n ths) (h : Legs n ths a b c M A B C) (sa : Stand rows n ths a) (sb : Stand rows n ths b) (sc : Stand rows n ths c) (hr : ∀ p : Int, 0 ≤ p ∧ p < (n : Nat) → ∀ i, rowAt rows (jn (A p) (B p)) i) : Stand rows n ths (mS n A) := by
  have two : ∀ p : Int, 0 ≤ p ∧ p < (n : Nat) → (A p).length % 2 = 0 → (0 ≤ mt (A p) ∧ mt (A p) < (rows.length : Nat)) ∧ M p ∈ rowOf rows (mt (A p)).toNat := fun p hp ev => by
    obtain ⟨x, t, ex⟩ := even_two ev (h.tri p hp).ha
    have := hr p hp
    rw [mt_even ev, ex]
    rw [ex] at this
    exact rowAt_two this
  have hM : ∀ p : Int, 0 ≤ p ∧ p < (n : Nat) → 0 ≤ M p ∧ M p < (rows.length : Nat) := fun p hp => rowAt_in (hr p hp) (by
    unfold jn
    rw [cons_of_head (h.tri p hp).ha]
    simp)
  refine Stand.of_adj hi mS_len (fun p hp => ?_) fun p q ha => ?_
  · have hp2 : 0 ≤ ((p : Nat) : Int) ∧ ((p : Nat) : Int) < (n : Nat) := ⟨by omega, by omega⟩
    have := mS_at (A := A) hp2
    rw [Int.toNat_natCast] at this
    rw [this]
    by_cases ev : (A (p : Nat)).length % 2 = 0
    · exact (two _ hp2 ev).1
    · rw [mt_odd (by omega) (h.tri _ hp2).ha]; exact hM _ hp2
  · have hp := adj_lt hi ha.symm
    have hq := adj_lt hi ha
    rw [mS_at hp, mS_at hq]
    have kp := h.tri p hp
    have kq := h.tri q hq
    rcases h.cases hi ha with ⟨e1, e2, e3⟩ | ⟨e1, e2, e3, e4⟩
    · by_cases ev : (A p).length % 2 = 0
      · rw [mt_odd (l := A q) (by omega) kq.ha, e1]
        exact (two p hp ev).2
      · have ev2 : (A q).length % 2 = 0 := by omega
        rw [mt_odd (l := A p) (by omega) kp.ha, ← e1]
        exact g.symR (two q hq ev2).1 (two q hq ev2).2
    · rw [mt_odd e1 kp.ha, mt_odd e2 kq.ha]
      have one : ∀ {L : List Int} {x : Int}, L = [M p] → L.getLast? = some x → x = M p := fun {L x} z l => by rw [z] at l; exact (Option.some.inj l).symm
      rcases e4 with ⟨z, w⟩ | ⟨z, w⟩ | ⟨z, w⟩
      · rw [w, ← one z (h.la p hp)]; exact sa.adj g hi ha
      · rw [w, ← one z (h.lb p hp)]; exact sb.adj g hi ha
      · rw [w, ← one z (h.lc p hp)]; exact sc.adj g hi ha
theorem Comes.led (g : GoodT rows) (hi : InN n ths) (hC : Conn n ths) (sa : Stand rows n ths a) (sb : Stand rows n ths b) (hb : bs < n) {R : Int → List Int} (h : Comes n ths ps a b bs R) : Led rows n ths ps a b := by
  have k := h.lst g hi hC sa sb hb
  exact link_led g hi sb.1 _ a R (Nat.le_refl _) sa h.link.2 k.row k.fz
theorem Led.comes (g : GoodT rows) (hi : InN n ths) (hC : Conn n ths) (sa : Stand rows n ths a) (hbp : ((bs : Nat) : Int) ∈ ps) (hb : bs < n) (h : Led rows n ths ps a b) : ∃ R, Comes n ths ps a b bs R := by
  obtain ⟨e, R, h1, h2⟩ := h.link g hi hC sa hbp hb
  exact ⟨R, e, h1, fun p hp => Nat.le_of_eq (h2 p hp)⟩
theorem Led.back (g : GoodT rows) (hi : InN n ths) (sa : Stand rows n ths a) (h : Led rows n ths ps a b) : Led rows n ths ps b a := by
  induction h with
  | refl => exact .refl
  | @step y v c h hv hl ih =>
    have sy := (h.kept g hi sa).st
    have hvl : v < y.length := by rw [sy.1]; exact hv
    have hl2 : LetP rows ths ps (y.set v c) (v : Nat) (y.getD v 0) := by
      obtain ⟨q1, q2, q, ⟨o, ho⟩, q4, q5⟩ := hl
      have off : ∀ o, Adj ths ((v : Nat) : Int) o → (y.set v c).getD o.toNat 0 = y.getD o.toNat 0 := fun o ho => by
        have hr := adj_lt hi ho
        refine set_ne hr.1 fun z => ?_
        rw [z] at ho
        exact no_self hi ho
      refine ⟨q1, ?_, q, ⟨o, ho⟩, fun o ho => by rw [off o ho]; exact q4 o ho, ?_⟩
      · rw [Int.toNat_natCast, set_at hvl]
        rw [Int.toNat_natCast] at q2
        exact fun z => q2 z.symm
      · have := sy.adj g hi ho.symm
        rw [Int.toNat_natCast, q4 o ho] at this
        exact this
    have e : (y.set v c).set v (y.getD v 0) = y := by
      rw [List.set_set]
      refine List.ext_getElem (by rw [List.length_set]) fun i h1 h2 => ?_
      rw [List.getElem_set]
      split
      · rename_i z
        subst z
        rw [List.getD_eq_getElem?_getD, List.getElem?_eq_getElem h2]
        rfl
      · rfl
    have s1 := Led.step (.refl : Led rows n ths ps (y.set v c) (y.set v c)) hv hl2
    rw [e] at s1
    exact s1.trans ih
end

/-! ### meets come of the three; how far -/
section
variable {rows : List (List Int)} {n : Nat} {ths : List (Int × Int)} {ps a b c s : List Int} {M : Int → Int} {A B C U V R : Int → List Int} {bs : Nat}
theorem Legs.meet_comes (hi : InN n ths) (h : Legs n ths a b c M A B C) (hbp : ((bs : Nat) : Int) ∈ ps) (hbn : bs < n) (hz : ∀ p, Frz n ths ps a p → A p = [M p]) : Comes n ths ps a (mS n A) bs fun p => wr (A p) := by
  have hb : 0 ≤ ((bs : Nat) : Int) ∧ ((bs : Nat) : Int) < (n : Nat) := ⟨by omega, by omega⟩
  have e0 := hz _ (peg_frz hbp hbn)
  have l0 := h.la _ hb
  rw [e0, Int.toNat_natCast] at l0
  have l0 : M (bs : Nat) = a.getD bs 0 := Option.some.inj l0
  have m0 := mS_at (A := A) hb
  rw [e0, Int.toNat_natCast] at m0
  have m0 : (mS n A).getD bs 0 = M (bs : Nat) := m0
  refine ⟨by rw [m0, l0], ⟨by show wr (A (bs : Nat)) = _; rw [e0, l0]; rfl, fun p q ha => ?_⟩, fun p hp => by rw [hz p hp]; exact Nat.le_refl _⟩
  unfold carr
  rw [mS_at (adj_lt hi ha)]
  exact h.meet_carr hi ha
/-- from one of the meets to another one -/
def q2 (x y : List Int) : List Int := if x.length % 2 = 0 then [x.getD 1 0, x.getD 0 0, y.getD 1 0] else [x.getD 0 0]
theorem getD0 {x : List Int} {m : Int} (h : x.head? = some m) : x.getD 0 0 = m := by rw [cons_of_head h]; rfl
theorem Legs.two_carr (hi : InN n ths) (h : Legs n ths a b c M A B C) {p q : Int} (ha : Adj ths p q) : q2 (A q) (B q) = strk ([mt (A q)] ++ q2 (A p) (B p) ++ [mt (B q)]) := by
  have hp := adj_lt hi ha.symm
  have hq := adj_lt hi ha
  have k := h.tri p hp
  have k2 := h.tri q hq
  have pp := (h.par p hp).1
  have pq := (h.par q hq).1
  unfold q2
  rcases h.cases hi ha with ⟨e1, e2, e3⟩ | ⟨e1, e2, e3, _⟩
  · by_cases ev : (A p).length % 2 = 0
    · rw [if_pos ev, if_neg (by omega), mt_odd (by omega) k2.ha, mt_odd (by omega) k2.hb, getD0 k.ha, getD0 k2.ha, e1]
      show _ = strk [M p, (A p).getD 1 0, M p, (B p).getD 1 0, M p]
      rw [strk_open, strk_aba]
    · have ev2 : (A q).length % 2 = 0 := by omega
      rw [if_neg ev, if_pos ev2, mt_even ev2, mt_even (by omega), getD0 k.ha, getD0 k2.ha, e1]
      show _ = strk [(A q).getD 1 0, M p, (B q).getD 1 0]
      obtain ⟨x, t, ex⟩ := even_two ev2 k2.ha
      obtain ⟨y, u, ey⟩ := even_two (l := B q) (by omega) k2.hb
      have hab := k2.ab
      rw [ex, ey] at hab ⊢
      exact (strk_abc fun z => hab x rfl (by have z : x = y := z; rw [z]; rfl)).symm
  · rw [if_neg (by omega), if_neg (by omega), mt_odd e2 k2.ha, mt_odd (by omega) k2.hb, getD0 k.ha, getD0 k2.ha]
    exact (strk_aba _ _).symm
/-- half the stones of a link -/
def hf (n : Nat) (R : Int → List Int) : Nat := ((List.range n).map fun p : Nat => (R (p : Int)).length / 2).sum
theorem hf_congr (h : ∀ p : Nat, p < n → (U (p : Nat)).length = (V (p : Nat)).length) : hf n U = hf n V := by
  unfold hf
  congr 1
  exact List.map_congr_left fun p hp => by rw [h p (List.mem_range.mp hp)]
open Classical in
noncomputable def dst (n : Nat) (ths : List (Int × Int)) (ps : List Int) (bs : Nat) (a s : List Int) : Nat := if h : ∃ R, Comes n ths ps a s bs R then hf n (Classical.choose h) else 0
theorem dst_eq (hC : Conn n ths) (hbn : bs < n) (h : Comes n ths ps a s bs R) : dst n ths ps bs a s = hf n R := by
  unfold dst
  have hx : ∃ R, Comes n ths ps a s bs R := ⟨R, h⟩
  rw [dif_pos hx]
  exact hf_congr fun p hp => by rw [LinkR.one hC hbn (Classical.choose_spec hx).link h.link p hp]
theorem Comes.rev (g : GoodT rows) (hi : InN n ths) (hC : Conn n ths) (sa : Stand rows n ths a) (ss : Stand rows n ths s) (hbp : ((bs : Nat) : Int) ∈ ps) (hbn : bs < n) (h : Comes n ths ps a s bs R) : Comes n ths ps s a bs fun p => (R p).reverse := by
  have hl := (h.led g hi hC sa ss hbn).back g hi sa
  obtain ⟨R', h'⟩ := hl.comes g hi hC ss hbp hbn
  have e := h.link.back
  have e : LinkR s a ths (bs : Nat) [s.getD bs 0] fun p => (R p).reverse := by rw [← h.base]; exact e
  refine ⟨h.base.symm, e, fun p hp => ?_⟩
  have hr := hp.held.1
  have := LinkR.one hC hbn e h'.link p.toNat (by omega)
  rw [Int.toNat_of_nonneg hr.1] at this
  rw [this]
  exact h'.held p hp
theorem dst_symm (g : GoodT rows) (hi : InN n ths) (hC : Conn n ths) (sa : Stand rows n ths a) (ss : Stand rows n ths s) (hbp : ((bs : Nat) : Int) ∈ ps) (hbn : bs < n) (h : Led rows n ths ps a s) : dst n ths ps bs a s = dst n ths ps bs s a := by
  obtain ⟨R, hR⟩ := h.comes g hi hC sa hbp hbn
  rw [dst_eq hC hbn hR, dst_eq hC hbn (hR.rev g hi hC sa ss hbp hbn)]
  exact hf_congr fun p hp => (List.length_reverse).symm
theorem dst_self (hC : Conn n ths) (hbn : bs < n) : dst n ths ps bs a a = 0 := by
  rw [dst_eq hC hbn (R := fun p => [a.getD p.toNat 0]) ⟨rfl, stay_link bs, fun p _ => Nat.le_refl _⟩]
  unfold hf
  have : ∀ l : List Nat, (l.map fun p : Nat => ((fun q : Int => [a.getD q.toNat 0]) (p : Int)).length / 2).sum = 0 := fun l => by
    induction l with
    | nil => rfl
    | cons x l ih => rw [List.map_cons, List.sum_cons, ih]; show 1 / 2 + 0 = 0; rfl
  exact this _
/-- a deed moves by one at most -/
theorem dst_deed (g : GoodT rows) (hi : InN n ths) (hC : Conn n ths) (sa : Stand rows n ths a) (hbp : ((bs : Nat) : Int) ∈ ps) (hbn : bs < n) (h : Led rows n ths ps a s) {v : Nat} {x : Int} (hv : v < n) (hl : LetP rows ths ps s (v : Nat) x) : dst n ths ps bs a (s.set v x) ≤ dst n ths ps bs a s + 1 := by
  have ss := (h.kept g hi sa).st
  have h2 := h.step hv hl
  have ss2 := (h2.kept g hi sa).st
  obtain ⟨R, hR⟩ := h.comes g hi hC sa hbp hbn
  obtain ⟨R2, hR2⟩ := h2.comes g hi hC sa hbp hbn
  have hvl : v < s.length := by rw [ss.1]; exact hv
  obtain ⟨S, hS, hSn⟩ := deed_link hi hvl hl hbp
  have eb : s.getD bs 0 = (s.set v x).getD bs 0 := by rw [← hR.base, hR2.base]
  have r1 := LkRow.of g hi hC sa ss hbn hR.base hR.link
  have r2 := LkRow.of g hi hC ss ss2 hbn eb hS
  have k := link_comp hi hR.link hS (fun p hp => (r1 p hp).ends) (fun p hp => (r2 p hp).ends)
  have k : LinkR a (s.set v x) ths (bs : Nat) [a.getD bs 0] fun p => strk (R p ++ (S p).tail) := k
  have one := fun p hp => LinkR.one hC hbn hR2.link k p hp
  rw [dst_eq hC hbn hR, dst_eq hC hbn hR2]
  obtain ⟨_, _, q, ⟨o, ho⟩, _, _⟩ := hl
  have hS3 : (S (v : Nat)).length ≤ 3 := by
    have hne : o ≠ ((v : Nat) : Int) := fun z => by rw [z] at ho; exact no_self hi ho
    rw [hS.2 o _ ho.symm, hSn o hne]
    have := carr_len (xs := s) (ys := s.set v x) (row := [s.getD o.toNat 0]) (p := (v : Nat))
    exact this
  have each : ∀ p : Nat, p < n → (R2 (p : Nat)).length / 2 ≤ (R (p : Nat)).length / 2 + if p = v then 1 else 0 := fun p hp => by
    rw [one p hp]
    have h1 := strk_len (R (p : Nat) ++ (S (p : Nat)).tail)
    rw [List.length_append, List.length_tail] at h1
    by_cases e : p = v
    · subst e
      rw [if_pos rfl]
      omega
    · rw [if_neg e]
      have h2 := hSn (p : Nat) (fun z => e (by omega))
      rw [h2] at h1
      have h1 : _ ≤ (R (p : Nat)).length + (1 - 1) := h1
      rw [h2]
      show (strk (R (p : Nat) ++ [])).length / 2 ≤ _
      have := strk_len (R (p : Nat) ++ [])
      rw [List.append_nil] at this ⊢
      omega
  have sumle : ∀ l : List Nat, l.Nodup → (∀ p ∈ l, p < n) → (l.map fun p : Nat => (R2 (p : Int)).length / 2).sum ≤ (l.map fun p : Nat => (R (p : Int)).length / 2).sum + if v ∈ l then 1 else 0 := fun l => by
    induction l with
    | nil => intro _ _; exact Nat.zero_le _
    | cons y l ih =>
      intro nd hl
      obtain ⟨n1, n2⟩ := List.nodup_cons.mp nd
      have i1 := ih n2 fun p hp => hl p (List.mem_cons_of_mem _ hp)
      have i2 := each y (hl y List.mem_cons_self)
      rw [List.map_cons, List.map_cons, List.sum_cons, List.sum_cons]
      by_cases e : y = v
      · subst e
        rw [if_neg n1] at i1
        rw [if_pos rfl] at i2
        rw [if_pos List.mem_cons_self]
        omega
      · rw [if_neg e] at i2
        by_cases e2 : v ∈ l
        · rw [if_pos e2] at i1
          rw [if_pos (List.mem_cons_of_mem _ e2)]
          omega
        · rw [if_neg e2] at i1
          rw [if_neg (fun z => (List.mem_cons.mp z).elim (fun w => e w.symm) e2)]
          omega
  have := sumle (List.range n) List.nodup_range fun p hp => List.mem_range.mp hp
  rw [if_pos (List.mem_range.mpr hv)] at this
  exact this
/-- behind the first deed it is nearer by one -/
theorem dst_less (g : GoodT rows) (hi : InN n ths) (hC : Conn n ths) (sa : Stand rows n ths a) (hbp : ((bs : Nat) : Int) ∈ ps) (hbn : bs < n) (h : Led rows n ths ps a s) (hne : s ≠ a) : ∃ (z : List Int) (v : Nat) (x : Int), Led rows n ths ps a z ∧ dst n ths ps bs a z + 1 = dst n ths ps bs a s ∧ v < n ∧ LetP rows ths ps z (v : Nat) x ∧ z.set v x = s := by
  have ss := (h.kept g hi sa).st
  have hb := h.back g hi sa
  obtain ⟨R, hR⟩ := hb.comes g hi hC ss hbp hbn
  have k := hR.lst g hi hC ss sa hbn
  have hex : ∃ p : Int, (0 ≤ p ∧ p < (n : Nat)) ∧ 1 < (R p).length := Classical.byContradiction fun no => hne (by
    refine List.ext_getElem (by rw [ss.1, sa.1]) fun i h1 h2 => ?_
    have hin : 0 ≤ (i : Int) ∧ (i : Int) < (n : Nat) := by have := ss.1; omega
    have he := (k.row (i : Nat) hin).ends
    have hl : ¬ 1 < (R (i : Nat)).length := fun z => no ⟨_, hin, z⟩
    have e1 := he.2.1
    have e2 := he.2.2
    rw [Int.toNat_natCast] at e1 e2
    have g1 : s.getD i 0 = s[i] := by rw [List.getD_eq_getElem?_getD, List.getElem?_eq_getElem h1]; rfl
    have g2 : a.getD i 0 = a[i] := by rw [List.getD_eq_getElem?_getD, List.getElem?_eq_getElem h2]; rfl
    rw [g1] at e1
    rw [g2] at e2
    rw [cons_of_head e1] at e2 hl
    have : (R (i : Nat)).tail = [] := List.eq_nil_of_length_eq_zero (by rw [List.length_cons] at hl; omega)
    rw [this] at e2
    exact Option.some.inj e2)
  obtain ⟨p0, hp0, hl0⟩ := hex
  obtain ⟨v, hv, hle⟩ := less_there hi k.lk k.row k.fz hp0 hl0
  obtain ⟨q, x, t, er, hlet⟩ := less_let hi k.row k.fz hv hle
  obtain ⟨vn, rfl⟩ : ∃ m : Nat, v = (m : Nat) := ⟨v.toNat, by omega⟩
  have hvn : vn < n := by omega
  have hvl : vn < s.length := by rw [ss.1]; exact hvn
  have hq : ∀ o, Adj ths ((vn : Nat) : Int) o → s.getD o.toNat 0 = q := fun o ho => by
    have := hle.2 o ho
    rw [er] at this
    exact (Option.some.inj this).symm
  obtain ⟨l1, l2⟩ := less_link hi ss.1 k.lk k.row hv er hq
  rw [Int.toNat_natCast] at l1 l2
  have led2 : Led rows n ths ps s (s.set vn x) := Led.step .refl hvn hlet
  have ledz := h.trans led2
  have sz := (ledz.kept g hi sa).st
  have lback := led2.back g hi ss
  have hb2 := ledz.back g hi sa
  obtain ⟨R2, hR2⟩ := hb2.comes g hi hC sz hbp hbn
  have hbne : ((bs : Nat) : Int) ≠ (vn : Nat) := fun z => by
    have := k.fz _ (peg_frz hbp hbn)
    rw [z, er] at this
    simp only [List.length_cons] at this
    omega
  have hL : LinkR (s.set vn x) a ths (bs : Nat) [(s.set vn x).getD bs 0] (aft R ((vn : Nat) : Int) (x :: t)) := by
    refine ⟨?_, l1⟩
    unfold aft
    rw [if_neg hbne, hR.link.1]
    have := set_ne (xs := s) (v := vn) (c := x) (p := (bs : Nat)) (by omega) hbne
    rw [Int.toNat_natCast] at this
    rw [this]
  have one := fun p hp => LinkR.one hC hbn hR2.link hL p hp
  have hsum : hf n R2 + 1 = hf n R := by
    have each : ∀ p : Nat, p < n → (R2 (p : Nat)).length / 2 + (if p = vn then 1 else 0) = (R (p : Nat)).length / 2 := fun p hp => by
      rw [one p hp]
      unfold aft
      by_cases e : p = vn
      · subst e
        rw [if_pos rfl, if_pos rfl, er]
        simp only [List.length_cons]
        omega
      · rw [if_neg e, if_neg (fun z => e (by omega))]
        rfl
    have sumeq : ∀ l : List Nat, l.Nodup → (∀ p ∈ l, p < n) → (l.map fun p : Nat => (R2 (p : Int)).length / 2).sum + (if vn ∈ l then 1 else 0) = (l.map fun p : Nat => (R (p : Int)).length / 2).sum := fun l => by
      induction l with
      | nil => intro _ _; rfl
      | cons y l ih =>
        intro nd hl
        obtain ⟨n1, n2⟩ := List.nodup_cons.mp nd
        have i1 := ih n2 fun p hp => hl p (List.mem_cons_of_mem _ hp)
        have i2 := each y (hl y List.mem_cons_self)
        rw [List.map_cons, List.map_cons, List.sum_cons, List.sum_cons]
        by_cases e : y = vn
        · subst e
          rw [if_neg n1] at i1
          rw [if_pos rfl] at i2
          rw [if_pos List.mem_cons_self]
          omega
        · rw [if_neg e] at i2
          by_cases e2 : vn ∈ l
          · rw [if_pos e2] at i1
            rw [if_pos (List.mem_cons_of_mem _ e2)]
            omega
          · rw [if_neg e2] at i1
            rw [if_neg (fun z => (List.mem_cons.mp z).elim (fun w => e w.symm) e2)]
            omega
    have := sumeq (List.range n) List.nodup_range fun p hp => List.mem_range.mp hp
    rw [if_pos (List.mem_range.mpr hvn)] at this
    exact this
  -- the deed that leads back
  have hback : LetP rows ths ps (s.set vn x) (vn : Nat) (s.getD vn 0) := by
    obtain ⟨q1, q2_, q', ⟨o, ho⟩, q4, q5⟩ := hlet
    have off : ∀ o, Adj ths ((vn : Nat) : Int) o → (s.set vn x).getD o.toNat 0 = s.getD o.toNat 0 := fun o ho => by
      have hr := adj_lt hi ho
      refine set_ne hr.1 fun z => ?_
      rw [z] at ho
      exact no_self hi ho
    refine ⟨q1, ?_, q', ⟨o, ho⟩, fun o ho => by rw [off o ho]; exact q4 o ho, ?_⟩
    · rw [Int.toNat_natCast, set_at hvl]
      rw [Int.toNat_natCast] at q2_
      exact fun z => q2_ z.symm
    · have := ss.adj g hi ho.symm
      rw [Int.toNat_natCast, q4 o ho] at this
      exact this
  refine ⟨s.set vn x, vn, s.getD vn 0, ledz, ?_, hvn, hback, ?_⟩
  · rw [dst_symm g hi hC sa sz hbp hbn ledz, dst_symm g hi hC sa ss hbp hbn h, dst_eq hC hbn hR2, dst_eq hC hbn hR, hsum]
  · rw [List.set_set]
    refine List.ext_getElem (by rw [List.length_set]) fun i h1 h2 => ?_
    rw [List.getElem_set]
    split
    · rename_i z
      subst z
      rw [List.getD_eq_getElem?_getD, List.getElem?_eq_getElem h2]
      rfl
    · rfl
end

/-! ### searching deed by deed -/
section
variable {rows : List (List Int)} {n : Nat} {ths : List (Int × Int)} {ps a : List Int} {bs : Nat} {ws : List (List Int)} {t : Nat}
/-- at the t-th one of those found: those of its deeds in done are seen to -/
structure Bsd (rows : List (List Int)) (n : Nat) (ths : List (Int × Int)) (ps a : List Int) (bs : Nat) (ws : List (List Int)) (t : Nat) : Prop where
  fst : ws[0]? = some a
  nd : ws.Nodup
  led : ∀ w ∈ ws, Led rows n ths ps a w
  srt : ws.Pairwise fun v w => dst n ths ps bs a v ≤ dst n ths ps bs a w
  top : ∀ now, ws[t]? = some now → ∀ w ∈ ws, dst n ths ps bs a w ≤ dst n ths ps bs a now + 1
  dn : ∀ (i : Nat) now, i < t → ws[i]? = some now → ∀ (v : Nat) (x : Int), v < n → LetP rows ths ps now (v : Nat) x → now.set v x ∈ ws
  all : ∀ now, ws[t]? = some now → ∀ s, Led rows n ths ps a s → dst n ths ps bs a s ≤ dst n ths ps bs a now → s ∈ ws
theorem Bsd.start (g : GoodT rows) (hi : InN n ths) (hC : Conn n ths) (sa : Stand rows n ths a) (hbp : ((bs : Nat) : Int) ∈ ps) (hbn : bs < n) : Bsd rows n ths ps a bs [a] 0 := by
  refine ⟨rfl, List.nodup_cons.mpr ⟨List.not_mem_nil, List.nodup_nil⟩, fun w hw => by rw [List.mem_singleton.mp hw]; exact .refl, List.pairwise_singleton _ _, fun now hn w hw => ?_, fun i now hi => absurd hi (Nat.not_lt_zero _), fun now hn s hs hd => ?_⟩
  · cases Option.some.inj hn
    rw [List.mem_singleton.mp hw]
    omega
  · cases Option.some.inj hn
    rw [dst_self hC hbn] at hd
    refine List.mem_singleton.mpr (Classical.byContradiction fun ne => ?_)
    obtain ⟨z, v, x, _, h2, _⟩ := dst_less g hi hC sa hbp hbn hs ne
    omega
theorem Bsd.add (g : GoodT rows) (hi : InN n ths) (hC : Conn n ths) (sa : Stand rows n ths a) (hbp : ((bs : Nat) : Int) ∈ ps) (hbn : bs < n) (h : Bsd rows n ths ps a bs ws t) {now : List Int} (hn : ws[t]? = some now) {v : Nat} {x : Int} (hv : v < n) (hl : LetP rows ths ps now (v : Nat) x) (hnew : now.set v x ∉ ws) : Bsd rows n ths ps a bs (ws ++ [now.set v x]) t ∧ dst n ths ps bs a (now.set v x) = dst n ths ps bs a now + 1 := by
  have hm := List.mem_of_getElem? hn
  have ht := (List.getElem?_eq_some_iff.mp hn).1
  have hled := h.led now hm
  have hled2 := hled.step hv hl
  have hd := dst_deed g hi hC sa hbp hbn hled hv hl
  have hd2 : dst n ths ps bs a (now.set v x) = dst n ths ps bs a now + 1 := by
    have : ¬ dst n ths ps bs a (now.set v x) ≤ dst n ths ps bs a now := fun z => hnew (h.all now hn _ hled2 z)
    omega
  have hn2 : ∀ y, (ws ++ [now.set v x])[t]? = some y → y = now := fun y hy => by
    rw [List.getElem?_append_left ht, hn] at hy
    exact (Option.some.inj hy).symm
  refine ⟨⟨?_, List.nodup_append.mpr ⟨h.nd, List.nodup_cons.mpr ⟨List.not_mem_nil, List.nodup_nil⟩, fun p hp q hq => ?_⟩, fun w hw => ?_, List.pairwise_append.mpr ⟨h.srt, List.pairwise_singleton _ _, fun p hp q hq => ?_⟩, fun y hy w hw => ?_, fun i y hi1 hy v2 x2 hv2 hl2 => ?_, fun y hy s hs hle => ?_⟩, hd2⟩
  · rw [List.getElem?_append_left (by omega)]; exact h.fst
  · rw [List.mem_singleton.mp hq]
    exact fun z => hnew (z ▸ hp)
  · rcases List.mem_append.mp hw with hw | hw
    · exact h.led w hw
    · rw [List.mem_singleton.mp hw]; exact hled2
  · rw [List.mem_singleton.mp hq, hd2]
    exact h.top now hn p hp
  · rw [hn2 y hy]
    rcases List.mem_append.mp hw with hw | hw
    · exact h.top now hn w hw
    · rw [List.mem_singleton.mp hw, hd2]; exact Nat.le_refl _
  · rw [List.getElem?_append_left (by omega)] at hy
    exact List.mem_append_left _ (h.dn i y hi1 hy v2 x2 hv2 hl2)
  · rw [hn2 y hy] at hle
    exact List.mem_append_left _ (h.all now hn s hs hle)
theorem Bsd.next (g : GoodT rows) (hi : InN n ths) (hC : Conn n ths) (sa : Stand rows n ths a) (hbp : ((bs : Nat) : Int) ∈ ps) (hbn : bs < n) (h : Bsd rows n ths ps a bs ws t) {now : List Int} (hn : ws[t]? = some now) (hd : ∀ (v : Nat) (x : Int), v < n → LetP rows ths ps now (v : Nat) x → now.set v x ∈ ws) : Bsd rows n ths ps a bs ws (t + 1) := by
  have ht := (List.getElem?_eq_some_iff.mp hn).1
  have hdn : ∀ (i : Nat) y, i < t + 1 → ws[i]? = some y → ∀ (v : Nat) (x : Int), v < n → LetP rows ths ps y (v : Nat) x → y.set v x ∈ ws := fun i y hi1 hy v x hv hl => by
    by_cases e : i = t
    · subst e
      rw [hn] at hy
      cases Option.some.inj hy
      exact hd v x hv hl
    · exact h.dn i y (by omega) hy v x hv hl
  have mono : ∀ {i j : Nat} {p q : List Int}, i < j → ws[i]? = some p → ws[j]? = some q → dst n ths ps bs a p ≤ dst n ths ps bs a q := fun {i j p q} hij hp hq => by
    obtain ⟨h1, rfl⟩ := List.getElem?_eq_some_iff.mp hp
    obtain ⟨h2, rfl⟩ := List.getElem?_eq_some_iff.mp hq
    exact List.pairwise_iff_getElem.mp h.srt i j h1 h2 hij
  refine ⟨h.fst, h.nd, h.led, h.srt, fun y hy w hw => ?_, hdn, fun y hy s hs hle => ?_⟩
  · have := h.top now hn w hw
    have := mono (Nat.lt_succ_self t) hn hy
    omega
  · have h1 := h.top now hn y (List.mem_of_getElem? hy)
    by_cases e : dst n ths ps bs a s ≤ dst n ths ps bs a now
    · exact h.all now hn s hs e
    · by_cases ne : s = a
      · rw [ne]; exact List.mem_of_getElem? h.fst
      obtain ⟨z, v, x, k1, k2, k3, k4, k5⟩ := dst_less g hi hC sa hbp hbn hs ne
      have hz := h.all now hn z k1 (by omega)
      obtain ⟨i, hi1, rfl⟩ := List.getElem_of_mem hz
      have hit : i < t + 1 := by
        refine Classical.byContradiction fun no => ?_
        have : dst n ths ps bs a y ≤ dst n ths ps bs a ws[i] := by
          by_cases e2 : i = t + 1
          · subst e2
            rw [List.getElem?_eq_getElem hi1] at hy
            rw [Option.some.inj hy]
            exact Nat.le_refl _
          · exact mono (by omega) hy (List.getElem?_eq_getElem hi1)
        omega
      have := hdn i _ hit (List.getElem?_eq_getElem hi1) v x k3 k4
      rw [k5] at this
      exact this
theorem Bsd.fin (h : Bsd rows n ths ps a bs ws t) (ht : ws.length ≤ t) {s : List Int} : s ∈ ws ↔ Led rows n ths ps a s := by
  refine ⟨h.led s, fun hs => ?_⟩
  induction hs with
  | refl => exact List.mem_of_getElem? h.fst
  | @step y v c hy hv hl ih =>
    obtain ⟨i, hi, rfl⟩ := List.getElem_of_mem ih
    exact h.dn i _ (by omega) (List.getElem?_eq_getElem hi) v c hv hl
/-! ### how many standings -/
def cdq (q : Nat) (l : List Int) : Int := l.foldl (fun s c => s * q + c) 0
theorem cdq_snoc (q : Nat) (l : List Int) (c : Int) : cdq q (l ++ [c]) = cdq q l * q + c := by
  unfold cdq
  rw [List.foldl_append]
  rfl
theorem cdq_rng {q : Nat} : ∀ (k : Nat) (l : List Int), l.length = k → (∀ c ∈ l, 0 ≤ c ∧ c < (q : Nat)) → 0 ≤ cdq q l ∧ cdq q l < ((q ^ k : Nat) : Int)
  | 0, l, h, _ => by rw [List.eq_nil_of_length_eq_zero h]; exact ⟨Int.le_refl _, by show (0 : Int) < ((q ^ 0 : Nat) : Int); rw [Nat.pow_zero]; decide⟩
  | k + 1, l, h, hc => by
    have hne : l ≠ [] := fun z => by rw [z] at h; cases h
    obtain ⟨m, c, rfl⟩ : ∃ m c, l = m ++ [c] := ⟨l.dropLast, l.getLast hne, (List.dropLast_concat_getLast hne).symm⟩
    rw [List.length_append] at h
    have ih := cdq_rng k m (Nat.succ.inj h) fun c hc2 => hc c (List.mem_append_left _ hc2)
    have hcc := hc c (List.mem_append_right _ (List.mem_singleton_self _))
    rw [cdq_snoc]
    have hq : (0 : Int) ≤ (q : Nat) := Int.natCast_nonneg _
    have e : ((q ^ (k + 1) : Nat) : Int) = ((q ^ k : Nat) : Int) * (q : Nat) := by rw [Nat.pow_succ, Int.natCast_mul]
    rw [e]
    have h1 : cdq q m * (q : Nat) ≤ (((q ^ k : Nat) : Int) - 1) * (q : Nat) := Int.mul_le_mul_of_nonneg_right (by omega) hq
    rw [Int.sub_mul, Int.one_mul] at h1
    exact ⟨by have := Int.mul_nonneg ih.1 hq; omega, by omega⟩
theorem cdq_inj {q : Nat} : ∀ (k : Nat) (l m : List Int), l.length = k → m.length = k → (∀ c ∈ l, 0 ≤ c ∧ c < (q : Nat)) → (∀ c ∈ m, 0 ≤ c ∧ c < (q : Nat)) → cdq q l = cdq q m → l = m
  | 0, l, m, h1, h2, _, _, _ => by rw [List.eq_nil_of_length_eq_zero h1, List.eq_nil_of_length_eq_zero h2]
  | k + 1, l, m, h1, h2, c1, c2, e => by
    have n1 : l ≠ [] := fun z => by rw [z] at h1; cases h1
    have n2 : m ≠ [] := fun z => by rw [z] at h2; cases h2
    obtain ⟨l', x, rfl⟩ : ∃ l' c, l = l' ++ [c] := ⟨l.dropLast, l.getLast n1, (List.dropLast_concat_getLast n1).symm⟩
    obtain ⟨m', y, rfl⟩ : ∃ l' c, m = l' ++ [c] := ⟨m.dropLast, m.getLast n2, (List.dropLast_concat_getLast n2).symm⟩
    rw [List.length_append] at h1 h2
    rw [cdq_snoc, cdq_snoc] at e
    have hx := c1 x (List.mem_append_right _ (List.mem_singleton_self _))
    have hy := c2 y (List.mem_append_right _ (List.mem_singleton_self _))
    have ex : x = y := by
      have h3 := congrArg (· % ((q : Nat) : Int)) e
      simp only [Int.add_comm _ x, Int.add_comm _ y, Int.add_mul_emod_self_right] at h3
      rw [Int.emod_eq_of_lt hx.1 hx.2, Int.emod_eq_of_lt hy.1 hy.2] at h3
      exact h3
    subst ex
    have e2 : cdq q l' = cdq q m' := by
      have h4 : cdq q l' * (q : Nat) = cdq q m' * (q : Nat) := by omega
      exact Int.eq_of_mul_eq_mul_right (by omega) h4
    rw [cdq_inj k l' m' (Nat.succ.inj h1) (Nat.succ.inj h2) (fun c hc => c1 c (List.mem_append_left _ hc)) (fun c hc => c2 c (List.mem_append_left _ hc)) e2]
theorem stands_len {q : Nat} {ws : List (List Int)} (hq : rows.length = q) (nd : ws.Nodup) (hs : ∀ w ∈ ws, Stand rows n ths w) : ws.length ≤ q ^ n := by
  have rng : ∀ w ∈ ws, w.length = n ∧ ∀ c ∈ w, 0 ≤ c ∧ c < (q : Nat) := fun w hw => by
    have h := hs w hw
    refine ⟨h.1, fun c hc => ?_⟩
    obtain ⟨i, hi, rfl⟩ := List.getElem_of_mem hc
    have := h.coat (p := i) (by rw [← h.1]; exact hi)
    rw [List.getD_eq_getElem?_getD, List.getElem?_eq_getElem hi, hq] at this
    exact this
  have := nodup_len (q ^ n) (ws.map (cdq q)) (List.pairwise_map.mpr (nd.imp_of_mem fun {v w} hv hw ne e => ne (cdq_inj n v w (rng v hv).1 (rng w hw).1 (rng v hv).2 (rng w hw).2 e))) fun c hc => by
    obtain ⟨w, hw, rfl⟩ := List.mem_map.mp hc
    exact cdq_rng n w (rng w hw).1 (rng w hw).2
  rw [List.length_map] at this
  exact this
end

/-! ### the three in any order -/
section
variable {rows : List (List Int)} {n : Nat} {ths : List (Int × Int)} {ps a b c : List Int} {M : Int → Int} {A B C U V R : Int → List Int} {bs : Nat}
structure LegsZ (rows : List (List Int)) (n : Nat) (ths : List (Int × Int)) (ps : List Int) (bs : Nat) (a b c : List Int) (M : Int → Int) (A B C : Int → List Int) : Prop where
  legs : Legs n ths a b c M A B C
  sa : Stand rows n ths a
  sb : Stand rows n ths b
  sc : Stand rows n ths c
  z : ∀ p, Frz n ths ps a p → A p = [M p] ∧ B p = [M p] ∧ C p = [M p]
  fb : ∀ p, Frz n ths ps a p ↔ Frz n ths ps b p
  fc : ∀ p, Frz n ths ps a p ↔ Frz n ths ps c p
  rab : ∀ p : Int, 0 ≤ p ∧ p < (n : Nat) → ∀ i, rowAt rows (jn (A p) (B p)) i
  rac : ∀ p : Int, 0 ≤ p ∧ p < (n : Nat) → ∀ i, rowAt rows (jn (A p) (C p)) i
theorem rowAt_rev (g : GoodT rows) {l : List Int} (h : ∀ i, rowAt rows l i) : ∀ i, rowAt rows l.reverse i := fun i x hx => by
  have hi := (List.getElem?_eq_some_iff.mp hx).1
  rw [List.length_reverse] at hi
  rw [List.getElem?_reverse hi] at hx
  refine ⟨(h _ x hx).1, fun d h0 hd => ?_⟩
  rw [List.getElem?_reverse (by omega)] at hd
  have h1 := (h _ d hd).2 x (by omega) (by rw [show l.length - 1 - (i - 1) - 1 = l.length - 1 - i by omega]; exact hx)
  exact g.symR (h _ x hx).1 h1
theorem LegsZ.swap2 (h : LegsZ rows n ths ps bs a b c M A B C) : LegsZ rows n ths ps bs a c b M A C B :=
  ⟨h.legs.swap2, h.sa, h.sc, h.sb, fun p hp => ⟨(h.z p hp).1, (h.z p hp).2.2, (h.z p hp).2.1⟩, h.fc, h.fb, h.rac, h.rab⟩
theorem LegsZ.base (h : LegsZ rows n ths ps bs a b c M A B C) (hbp : ((bs : Nat) : Int) ∈ ps) (hbn : bs < n) : A (bs : Nat) = [M (bs : Nat)] ∧ B (bs : Nat) = [M (bs : Nat)] ∧ C (bs : Nat) = [M (bs : Nat)] ∧ M (bs : Nat) = a.getD bs 0 ∧ M (bs : Nat) = b.getD bs 0 ∧ M (bs : Nat) = c.getD bs 0 := by
  have hb : 0 ≤ ((bs : Nat) : Int) ∧ ((bs : Nat) : Int) < (n : Nat) := ⟨by omega, by omega⟩
  obtain ⟨e1, e2, e3⟩ := h.z _ (peg_frz hbp hbn)
  have l1 := h.legs.la _ hb
  have l2 := h.legs.lb _ hb
  have l3 := h.legs.lc _ hb
  rw [e1, Int.toNat_natCast] at l1
  rw [e2, Int.toNat_natCast] at l2
  rw [e3, Int.toNat_natCast] at l3
  exact ⟨e1, e2, e3, Option.some.inj l1, Option.some.inj l2, Option.some.inj l3⟩
theorem LegsZ.ab (hi : InN n ths) (hC : Conn n ths) (h : LegsZ rows n ths ps bs a b c M A B C) (hbp : ((bs : Nat) : Int) ∈ ps) (hbn : bs < n) (k : Comes n ths ps a b bs R) : ∀ p : Nat, p < n → R (p : Nat) = jn (A (p : Nat)) (B (p : Nat)) := fun p hp => by
  obtain ⟨e1, e2, _, e3, _⟩ := h.base hbp hbn
  exact LinkR.one hC hbn k.link (R' := fun p => jn (A p) (B p)) ⟨by show jn (A (bs : Nat)) (B (bs : Nat)) = _; rw [e1, e2, e3]; rfl, fun p q ha => h.legs.carr_ab hi ha⟩ p hp
theorem LegsZ.ac (hi : InN n ths) (hC : Conn n ths) (h : LegsZ rows n ths ps bs a b c M A B C) (hbp : ((bs : Nat) : Int) ∈ ps) (hbn : bs < n) (k : Comes n ths ps a c bs R) : ∀ p : Nat, p < n → R (p : Nat) = jn (A (p : Nat)) (C (p : Nat)) := h.swap2.ab hi hC hbp hbn k
theorem LegsZ.swap (g : GoodT rows) (hi : InN n ths) (hC : Conn n ths) (hbp : ((bs : Nat) : Int) ∈ ps) (hbn : bs < n) (hl : Led rows n ths ps b c) (h : LegsZ rows n ths ps bs a b c M A B C) : LegsZ rows n ths ps bs b a c M B A C := by
  have heads := fun p hp => h.legs.tri p hp
  refine ⟨h.legs.swap, h.sb, h.sa, h.sc, fun p hp => ?_, fun p => (h.fb p).symm, fun p => (h.fb p).symm.trans (h.fc p), fun p hp => ?_, fun p hp => ?_⟩
  · have := h.z p ((h.fb p).mpr hp)
    exact ⟨this.2.1, this.1, this.2.2⟩
  · have := rowAt_rev g (h.rab p hp)
    rw [jn_rev (heads p hp).ha (heads p hp).hb] at this
    exact this
  · obtain ⟨R, hR⟩ := hl.comes g hi hC h.sb hbp hbn
    have e1 := LkRow.of g hi hC h.sb h.sc hbn hR.base hR.link p.toNat (by omega)
    obtain ⟨f1, f2, f3, f4, f5, f6⟩ := h.base hbp hbn
    have e2 := LinkR.one hC hbn hR.link (R' := fun p => jn (B p) (C p)) ⟨by show jn (B (bs : Nat)) (C (bs : Nat)) = _; rw [f2, f3, f5]; rfl, fun p q ha => h.legs.swap.swap2.carr_ab hi ha⟩ p.toNat (by omega)
    have e3 := e1.at_
    rw [e2] at e3
    rw [Int.toNat_of_nonneg hp.1] at e3
    exact e3
/-- from the links -/
theorem LegsZ.of (g : GoodT rows) (hi : InN n ths) (hC : Conn n ths) (sa : Stand rows n ths a) (hbp : ((bs : Nat) : Int) ∈ ps) (hbn : bs < n) (hb : Led rows n ths ps a b) (hc : Led rows n ths ps a c) : ∃ M A B C, LegsZ rows n ths ps bs a b c M A B C := by
  have kb := hb.kept g hi sa
  have kc := hc.kept g hi sa
  obtain ⟨U, hU⟩ := hb.comes g hi hC sa hbp hbn
  obtain ⟨V, hV⟩ := hc.comes g hi hC sa hbp hbn
  have lu := hU.lst g hi hC sa kb.st hbn
  have lv := hV.lst g hi hC sa kc.st hbn
  have hl := legs_of (a := a) (b := b) (c := c) (U := U) (V := V) hi lu.lk lv.lk (fun p hp => ⟨(lu.row p hp).ends, (lu.row p hp).odd⟩) (fun p hp => ⟨(lv.row p hp).ends, (lv.row p hp).odd⟩)
  have td : ∀ p : Int, 0 ≤ p ∧ p < (n : Nat) → _ := fun p hp => tri_def (lu.row p hp).ends.1 (lv.row p hp).ends.1 (lu.row p hp).ends.2.1 (lv.row p hp).ends.2.1
  refine ⟨_, _, _, _, hl, sa, kb.st, kc.st, fun p hp => ?_, fun p => kb.frz p |>.symm, fun p => kc.frz p |>.symm, fun p hp i => ?_, fun p hp i => ?_⟩
  · have hr := hp.held.1
    obtain ⟨t, e1, e2⟩ := td p hr
    have u1 := lu.fz p hp
    have v1 := lv.fz p hp
    have l1 := jn_len (x := tA (U p) (V p)) t.hb
    have l2 := jn_len (x := tA (U p) (V p)) t.hc
    rw [← e1, u1] at l1
    rw [← e2, v1] at l2
    have p1 := t.pos
    have p2 := t.swap.pos
    have p3 := t.swap2.swap.pos
    have one : ∀ {l : List Int}, l.head? = some (tM (U p) (V p)) → l.length = 1 → l = [tM (U p) (V p)] := fun {l} h1 h2 => by
      rw [cons_of_head h1] at h2 ⊢
      rw [List.length_cons] at h2
      rw [List.eq_nil_of_length_eq_zero (Nat.succ.inj h2)]
    exact ⟨one t.ha (by omega), one t.hb (by omega), one t.hc (by omega)⟩
  · obtain ⟨t, e1, e2⟩ := td p hp
    have := (lu.row p hp).at_ i
    rw [e1] at this
    exact this
  · obtain ⟨t, e1, e2⟩ := td p hp
    have := (lv.row p hp).at_ i
    rw [e2] at this
    exact this
end

/-! ### tuples that lie in the heap itself -/
section
variable {p a b q : Addr} {H H1 : Hp} {K : PySem.W.Frag} {xs ys : List V} {o : HO} {rows : List (List Int)} {Q : VK}
theorem ow_exb (e : Exb p H H1) (s : Src H p) (h : H a = some (.tup xs)) : H1 a = some (.tup xs) :=
  e _ _ (fun z => by obtain ⟨_, _, hp, _⟩ := s; rw [z, hp] at h; cases h) h
theorem ow_upd (h : H a = some (.tup xs)) (hq : H q = some (.lst ys)) : upd H q o a = some (.tup xs) := by
  rw [upd_ne (fun z => by rw [z, hq] at h; cases h)]
  exact h
theorem ctO (ha : SqT K H a xs) (hb : SqT K H b ys) (oa : ys = [] → H a = some (.tup xs)) (ob : xs = [] → H b = some (.tup ys)) (hz : xs.length + ys.length ≤ 1000000) (q : ∀ p H', Same H H' → H' p = some (.tup (xs ++ ys)) → Q (.ref p) H') : rCatA K (.ref a) (.ref b) H Q := by
  refine ⟨a, b, xs, ys, rfl, rfl, ha, hb, small hz, fun e => ?_, fun _ e => ?_, fun _ _ p np => q p _ (Same.new np) upd_same⟩
  · have := ob e
    subst e
    exact q b H (Same.refl H) this
  · have := oa e
    subst e
    exact q a H (Same.refl H) (by rw [List.append_nil]; exact this)
def OT (H : Hp) (z : Addr) (rows : List (List Int)) : Prop := ∃ us : List V, H z = some (.tup us) ∧ us.length = rows.length ∧ ∀ (i : Nat) v r, us[i]? = some v → rows[i]? = some r → ∃ c, v = .ref c ∧ H c = some (.tup (r.map V.int))
theorem OT.same (h : OT H a rows) (e : Same H H1) : OT H1 a rows := by
  obtain ⟨us, h1, h2, h3⟩ := h
  exact ⟨us, e _ _ h1, h2, fun i v r k1 k2 => (h3 i v r k1 k2).elim fun c hc => ⟨c, hc.1, e _ _ hc.2⟩⟩
theorem OT.tt (h : OT H a rows) : Bw.TT K H a rows := by
  obtain ⟨us, h1, h2, h3⟩ := h
  exact TT.of (SqT.of h1) h2 fun i v r k1 k2 => (h3 i v r k1 k2).elim fun c hc => ⟨c, hc.1, SqT.of hc.2⟩
end

/-! ### how far over the meets -/
section
variable {rows : List (List Int)} {n : Nat} {ths : List (Int × Int)} {ps a b c : List Int} {M : Int → Int} {A B C R : Int → List Int} {bs : Nat}
theorem sum3 : ∀ (l : List Nat) (r u v w : Nat → Nat), (∀ p ∈ l, r p = u p + v p + w p) → (l.map r).sum = (l.map u).sum + (l.map v).sum + (l.map w).sum
  | [], _, _, _, _, _ => rfl
  | x :: l, r, u, v, w, h => by
    have ih := sum3 l r u v w fun p hp => h p (List.mem_cons_of_mem _ hp)
    have := h x List.mem_cons_self
    simp only [List.map_cons, List.sum_cons]
    omega
theorem sum_count : ∀ (l : List Nat) (r : Nat → Nat) (c : Nat → Bool), (∀ p ∈ l, r p = if c p = true then 1 else 0) → (l.map r).sum = (l.filter c).length
  | [], _, _, _ => rfl
  | x :: l, r, c, h => by
    have ih := sum_count l r c fun p hp => h p (List.mem_cons_of_mem _ hp)
    have := h x List.mem_cons_self
    rw [List.map_cons, List.sum_cons, List.filter_cons, ih, this]
    split
    · rw [List.length_cons]; omega
    · omega
def fkn (n : Nat) (A : Int → List Int) : Nat := ((List.range n).filter fun p : Nat => decide ((A (p : Nat)).length % 2 = 0)).length
theorem wr_len {l : List Int} (h : 1 ≤ l.length) : (wr l).length / 2 = (l.length - 1) / 2 := by
  unfold wr
  split
  · rw [List.length_reverse, List.length_tail]
  · rw [List.length_reverse]; omega
theorem q2_len (x y : List Int) : (q2 x y).length / 2 = if x.length % 2 = 0 then 1 else 0 := by
  unfold q2
  split <;> simp only [List.length_cons, List.length_nil, Nat.reduceAdd, Nat.reduceDiv]
theorem LegsZ.meets_a (hi : InN n ths) (h : LegsZ rows n ths ps bs a b c M A B C) (hbp : ((bs : Nat) : Int) ∈ ps) (hbn : bs < n) : Comes n ths ps a (mS n A) bs fun p => wr (A p) :=
  h.legs.meet_comes hi hbp hbn fun p hp => (h.z p hp).1
theorem LegsZ.meets_b (hi : InN n ths) (h : LegsZ rows n ths ps bs a b c M A B C) (hbp : ((bs : Nat) : Int) ∈ ps) (hbn : bs < n) : Comes n ths ps b (mS n B) bs fun p => wr (B p) :=
  h.legs.swap.meet_comes hi hbp hbn fun p hp => (h.z p ((h.fb p).mpr hp)).2.1
theorem LegsZ.st_a (g : GoodT rows) (hi : InN n ths) (h : LegsZ rows n ths ps bs a b c M A B C) : Stand rows n ths (mS n A) :=
  h.legs.meet_stand g hi h.sa h.sb h.sc h.rab
theorem LegsZ.led_a (g : GoodT rows) (hi : InN n ths) (hC : Conn n ths) (h : LegsZ rows n ths ps bs a b c M A B C) (hbp : ((bs : Nat) : Int) ∈ ps) (hbn : bs < n) : Led rows n ths ps a (mS n A) :=
  (h.meets_a hi hbp hbn).led g hi hC h.sa (h.st_a g hi) hbn
theorem LegsZ.two_comes (g : GoodT rows) (hi : InN n ths) (hC : Conn n ths) (h : LegsZ rows n ths ps bs a b c M A B C) (hbp : ((bs : Nat) : Int) ∈ ps) (hbn : bs < n) : Comes n ths ps (mS n A) (mS n B) bs fun p => q2 (A p) (B p) := by
  have hb : 0 ≤ ((bs : Nat) : Int) ∧ ((bs : Nat) : Int) < (n : Nat) := ⟨by omega, by omega⟩
  obtain ⟨e1, e2, _, _, _, _⟩ := h.base hbp hbn
  have ma := mS_at (A := A) hb
  have mb := mS_at (A := B) hb
  rw [e1, Int.toNat_natCast] at ma
  rw [e2, Int.toNat_natCast] at mb
  have ma : (mS n A).getD bs 0 = M (bs : Nat) := ma
  have mb : (mS n B).getD bs 0 = M (bs : Nat) := mb
  refine ⟨by rw [ma, mb], ⟨by show q2 (A (bs : Nat)) (B (bs : Nat)) = _; rw [e1, e2, ma]; rfl, fun p q ha => ?_⟩, fun p hp => ?_⟩
  · unfold carr
    rw [mS_at (adj_lt hi ha), mS_at (adj_lt hi ha)]
    exact h.legs.two_carr hi ha
  · have := ((h.led_a g hi hC hbp hbn).kept g hi h.sa).frz p
    rw [(h.z p (this.mp hp)).1]
    exact Nat.le_refl _
theorem LegsZ.dst_two (g : GoodT rows) (hi : InN n ths) (hC : Conn n ths) (h : LegsZ rows n ths ps bs a b c M A B C) (hbp : ((bs : Nat) : Int) ∈ ps) (hbn : bs < n) : dst n ths ps bs (mS n A) (mS n B) = fkn n A := by
  rw [dst_eq hC hbn (h.two_comes g hi hC hbp hbn)]
  exact sum_count _ _ _ fun p _ => by
    rw [q2_len]
    by_cases c : (A (p : Nat)).length % 2 = 0
    · rw [if_pos c, if_pos (decide_eq_true c)]
    · rw [if_neg c, if_neg (by simpa using c)]
theorem LegsZ.dst_ab (g : GoodT rows) (hi : InN n ths) (hC : Conn n ths) (h : LegsZ rows n ths ps bs a b c M A B C) (hbp : ((bs : Nat) : Int) ∈ ps) (hbn : bs < n) (hl : Led rows n ths ps a b) : dst n ths ps bs a b = dst n ths ps bs a (mS n A) + fkn n A + dst n ths ps bs b (mS n B) := by
  obtain ⟨R, hR⟩ := hl.comes g hi hC h.sa hbp hbn
  have e := h.ab hi hC hbp hbn hR
  rw [← h.dst_two g hi hC hbp hbn, dst_eq hC hbn hR, dst_eq hC hbn (h.meets_a hi hbp hbn), dst_eq hC hbn (h.meets_b hi hbp hbn), dst_eq hC hbn (h.two_comes g hi hC hbp hbn)]
  refine sum3 _ _ _ _ _ fun p hp => ?_
  have hp := List.mem_range.mp hp
  have k := h.legs.tri (p : Nat) ⟨by omega, by omega⟩
  have pr := (h.legs.par (p : Nat) ⟨by omega, by omega⟩).1
  have l1 := k.pos
  have l2 := k.swap.pos
  rw [e p hp, wr_len l1, wr_len l2, q2_len]
  have := jn_len (x := A (p : Nat)) k.hb
  split <;> omega
end

/-! ### on from a meet -/
section
variable {rows : List (List Int)} {n : Nat} {ths : List (Int × Int)} {ps a b c : List Int} {M : Int → Int} {A B C R : Int → List Int} {bs : Nat}
def lk (x y : List Int) : List Int := if x.length % 2 = 0 then x.getD 1 0 :: y else y
theorem Legs.on_carr (hi : InN n ths) (h : Legs n ths a b c M A B C) {p q : Int} (ha : Adj ths p q) : lk (A q) (B q) = strk ([mt (A q)] ++ lk (A p) (B p) ++ [b.getD q.toNat 0]) := by
  have hp := adj_lt hi ha.symm
  have hq := adj_lt hi ha
  have k := h.tri p hp
  have k2 := h.tri q hq
  unfold lk
  rcases h.st p q ha with ⟨e1, e2, e3, _⟩ | ⟨e0, e2, e3, _⟩
  · have par : (A q).length % 2 ≠ (A p).length % 2 := by rw [e2]; exact stp_par (head_ne k.ha)
    by_cases ev : (A p).length % 2 = 0
    · rw [if_pos ev, if_neg (by omega), mt_odd (by omega) k2.ha, e1, e3, ← strk_stp k.sb]
      conv => lhs; rw [cons_of_head k.hb]
      conv => rhs; rw [cons_of_head k.hb]
      show _ = strk (M p :: (A p).getD 1 0 :: M p :: ((B p).tail ++ [b.getD q.toNat 0]))
      rw [strk_open]
      rfl
    · have ev2 : (A q).length % 2 = 0 := by omega
      rw [if_neg ev, if_pos ev2, mt_even ev2, List.append_assoc, strk_mid, strk_stp k.sb, ← e3]
      obtain ⟨x, t, ex⟩ := even_two ev2 k2.ha
      have hab := k2.ab
      have e1 : (A q)[1]? = some ((A q).getD 1 0) := by rw [ex]; rfl
      exact (strk_id (str_front k2.sb fun z => hab _ e1 z)).symm
  · have h1 : (A p).length % 2 = 1 := by
      have := h.par p hp
      rcases e0 with ⟨z, _⟩ | ⟨z, _⟩ | ⟨z, _⟩
      · rw [z]; rfl
      · rw [this.1, z]; rfl
      · rw [this.2, z]; rfl
    have h2 : (A q).length % 2 = 1 := by
      rw [e2]
      unfold fr
      rw [strk_par0, List.length_cons]
      have := stp_par (x := a.getD q.toNat 0) (head_ne k.ha)
      omega
    rw [if_neg (by omega), if_neg (by omega), mt_odd h2 k2.ha, List.append_assoc, strk_mid, strk_stp k.sb, e3]
    rfl
theorem LegsZ.on_comes (g : GoodT rows) (hi : InN n ths) (hC : Conn n ths) (h : LegsZ rows n ths ps bs a b c M A B C) (hbp : ((bs : Nat) : Int) ∈ ps) (hbn : bs < n) : Comes n ths ps (mS n A) b bs fun p => lk (A p) (B p) := by
  have hb : 0 ≤ ((bs : Nat) : Int) ∧ ((bs : Nat) : Int) < (n : Nat) := ⟨by omega, by omega⟩
  obtain ⟨e1, e2, _, _, e5, _⟩ := h.base hbp hbn
  have ma := mS_at (A := A) hb
  rw [e1, Int.toNat_natCast] at ma
  have ma : (mS n A).getD bs 0 = M (bs : Nat) := ma
  refine ⟨by rw [ma, e5], ⟨by show lk (A (bs : Nat)) (B (bs : Nat)) = _; rw [e1, e2, ma]; rfl, fun p q ha => ?_⟩, fun p hp => ?_⟩
  · unfold carr
    rw [mS_at (adj_lt hi ha)]
    exact h.legs.on_carr hi ha
  · have := ((h.led_a g hi hC hbp hbn).kept g hi h.sa).frz p
    rw [(h.z p (this.mp hp)).1, (h.z p (this.mp hp)).2.1]
    exact Nat.le_refl _
theorem on_half {m : Int} {x y z : List Int} (k : Tri m x y z) (pr : x.length % 2 = y.length % 2) : (wr x).length / 2 + (lk x y).length / 2 = (jn x y).length / 2 := by
  have l1 := k.pos
  have l2 := k.swap.pos
  have := jn_len (x := x) k.hb
  rw [wr_len l1]
  unfold lk
  split
  · rw [List.length_cons]; omega
  · omega
theorem sum2 : ∀ (l : List Nat) (r u v : Nat → Nat), (∀ p ∈ l, u p + v p = r p) → (l.map u).sum + (l.map v).sum = (l.map r).sum
  | [], _, _, _, _ => rfl
  | x :: l, r, u, v, h => by
    have ih := sum2 l r u v fun p hp => h p (List.mem_cons_of_mem _ hp)
    have := h x List.mem_cons_self
    simp only [List.map_cons, List.sum_cons]
    omega
theorem LegsZ.dst_on (g : GoodT rows) (hi : InN n ths) (hC : Conn n ths) (h : LegsZ rows n ths ps bs a b c M A B C) (hbp : ((bs : Nat) : Int) ∈ ps) (hbn : bs < n) (hl : Led rows n ths ps a b) : dst n ths ps bs a (mS n A) + dst n ths ps bs (mS n A) b = dst n ths ps bs a b := by
  obtain ⟨R, hR⟩ := hl.comes g hi hC h.sa hbp hbn
  have e := h.ab hi hC hbp hbn hR
  rw [dst_eq hC hbn hR, dst_eq hC hbn (h.meets_a hi hbp hbn), dst_eq hC hbn (h.on_comes g hi hC hbp hbn)]
  refine sum2 _ _ _ _ fun p hp => ?_
  have hp := List.mem_range.mp hp
  rw [e p hp]
  exact on_half (h.legs.tri (p : Nat) ⟨by omega, by omega⟩) (h.legs.par (p : Nat) ⟨by omega, by omega⟩).1
/-- the three again, from their meets -/
def tk (x : List Int) : List Int := if x.length % 2 = 0 then x.take 2 else x.take 1
theorem tk_len {m : Int} {x : List Int} (h : x.head? = some m) : (tk x).length % 2 = x.length % 2 ∧ mt (tk x) = mt x ∧ (tk x).head? = some m ∧ Str8 (tk x) ∧ ∀ y, (tk x)[1]? = some y → x[1]? = some y := by
  by_cases ev : x.length % 2 = 0
  · obtain ⟨y, t, rfl⟩ := even_two ev h
    have e : tk (m :: y :: t) = [m, y] := by unfold tk; rw [if_pos ev]; rfl
    rw [e]
    have e2 : ([m, y] : List Int).length % 2 = 0 := by simp
    refine ⟨by rw [ev, e2], by rw [mt_even ev, mt_even e2]; rfl, rfl, fun a b c d z => ?_, fun z hz => hz⟩
    have := congrArg List.length z
    simp only [List.length_append, List.length_cons, List.length_nil] at this
    omega
  · have e : tk x = [m] := by unfold tk; rw [if_neg ev, cons_of_head h]; rfl
    rw [e]
    refine ⟨by have : x.length % 2 = 1 := by omega
               rw [this]; rfl, by rw [mt_odd (by omega) h]; rfl, rfl, fun a b c d z => ?_, fun z hz => by cases hz⟩
    have := congrArg List.length z
    simp only [List.length_append, List.length_cons, List.length_nil] at this
    omega
theorem q2_tk {m : Int} {x y : List Int} (hx : x.head? = some m) (hy : y.head? = some m) (pr : x.length % 2 = y.length % 2) : q2 x y = jn (tk x) (tk y) := by
  unfold q2 tk
  by_cases ev : x.length % 2 = 0
  · obtain ⟨u, t, rfl⟩ := even_two ev hx
    obtain ⟨v, s, rfl⟩ := even_two (pr ▸ ev) hy
    rw [if_pos ev, if_pos ev, if_pos (pr ▸ ev)]
    rfl
  · rw [if_neg ev, if_neg ev, if_neg (pr ▸ ev), cons_of_head hx, cons_of_head hy]
    rfl
theorem Tri.tk {m : Int} {x y z : List Int} (k : Tri m x y z) : Tri m (tk x) (tk y) (tk z) := by
  obtain ⟨_, _, h1, s1, n1⟩ := tk_len k.ha
  obtain ⟨_, _, h2, s2, n2⟩ := tk_len k.hb
  obtain ⟨_, _, h3, s3, n3⟩ := tk_len k.hc
  exact ⟨s1, s2, s3, h1, h2, h3, fun d p q => k.ab d (n1 d p) (n2 d q), fun d p q => k.ac d (n1 d p) (n3 d q), fun d p q => k.bc d (n2 d p) (n3 d q)⟩
end

def top (i : Nat) : Stmt := PySem.Challenge.pw_betweencoats_k31_forks_by_own_links.main.body.getD i (.Pass ⟨0, 0, 0, 0⟩)
def meth (i j : Nat) : Stmt := match top i with
  | .ClassDef (body := b) .. => b.getD j (.Pass ⟨0, 0, 0, 0⟩)
  | _ => .Pass ⟨0, 0, 0, 0⟩
/-- the classes' addresses -/
structure CS where
  no : Unit := ()
  Net : Addr
  Table : Addr
  World : Addr
  Refused : Addr
  BadSize : Addr
  BadStone : Addr
  NoPeg : Addr
/-- what the module's names hold -/
structure Txn (K : PySem.W.Frag) (mg : Str → Option Value) (cs : CS) : Prop where
  n_all : mg "all" = none
  n_any : mg "any" = none
  n_bool : mg "bool" = none
  n_dict : mg "dict" = none
  n_enumerate : mg "enumerate" = none
  n_int : mg "int" = none
  n_isinstance : mg "isinstance" = none
  n_len : mg "len" = none
  n_list : mg "list" = none
  n_max : mg "max" = none
  n_min : mg "min" = none
  n_range : mg "range" = none
  n_sorted : mg "sorted" = none
  n_tuple : mg "tuple" = none
  n_zip : mg "zip" = none
  g_MOST_COATS : ∃ t, mg "MOST_COATS" = some (.int 8 t)
  g_MOST_PLACES : ∃ t, mg "MOST_PLACES" = some (.int 24 t)
  g_MOST_THREADS : ∃ t, mg "MOST_THREADS" = some (.int 60 t)
  gm_Net : mg "Net" = some (.ref cs.Net)
  gm_Table : mg "Table" = some (.ref cs.Table)
  gm_World : mg "World" = some (.ref cs.World)
  gm_Refused : mg "Refused" = some (.ref cs.Refused)
  gm_BadSize : mg "BadSize" = some (.ref cs.BadSize)
  gm_BadStone : mg "BadStone" = some (.ref cs.BadStone)
  gm_NoPeg : mg "NoPeg" = some (.ref cs.NoPeg)
  cl_Net : Cls K cs.Net
  na_Net_many : NoAttr K cs.Net "many"
  na_Net_threads : NoAttr K cs.Net "threads"
  na_Net_near : NoAttr K cs.Net "near"
  cl_Table : Cls K cs.Table
  na_Table_many : NoAttr K cs.Table "many"
  na_Table_beside : NoAttr K cs.Table "beside"
  cl_World : Cls K cs.World
  na_World_table : NoAttr K cs.World "table"
  na_World_net : NoAttr K cs.World "net"
  na_World_pegs : NoAttr K cs.World "pegs"
  na_World_base : NoAttr K cs.World "base"
  xc_BadSize : XC K cs.BadSize
  xc_BadStone : XC K cs.BadStone
  xc_NoPeg : XC K cs.NoPeg
abbrev s_Refused_init : Stmt := meth 1 0
theorem sc_Refused_init : FnScope ["self", "what"] ["self", "what"] (defScope s_Refused_init) := ⟨rfl, rfl, rfl, by decide +kernel, rfl, by decide +kernel, by decide +kernel⟩
abbrev s_Table_init : Stmt := meth 31 0
theorem sc_Table_init : FnScope ["self", "beside"] ["self", "beside"] (defScope s_Table_init) := ⟨rfl, rfl, rfl, by decide +kernel, rfl, by decide +kernel, by decide +kernel⟩
abbrev s_Net_init : Stmt := meth 23 0
theorem sc_Net_init : FnScope ["self", "many", "threads", "near", "x", "y", "_", "places"] ["self", "many", "threads"] (defScope s_Net_init) := ⟨rfl, rfl, rfl, by decide +kernel, rfl, by decide +kernel, by decide +kernel⟩
abbrev s_World_init : Stmt := meth 34 0
theorem sc_World_init : FnScope ["self", "table", "net", "pegs"] ["self", "table", "net", "pegs"] (defScope s_World_init) := ⟨rfl, rfl, rfl, by decide +kernel, rfl, by decide +kernel, by decide +kernel⟩
abbrev s_is_number : Stmt := top 10
theorem sc_is_number : FnScope ["thing"] ["thing"] (defScope s_is_number) := ⟨rfl, rfl, rfl, by decide +kernel, rfl, by decide +kernel, by decide +kernel⟩
abbrev s_are_numbers : Stmt := top 11
theorem sc_are_numbers : FnScope ["thing", "part"] ["thing"] (defScope s_are_numbers) := ⟨rfl, rfl, rfl, by decide +kernel, rfl, by decide +kernel, by decide +kernel⟩
abbrev s_is_pair : Stmt := top 12
theorem sc_is_pair : FnScope ["thing"] ["thing"] (defScope s_is_pair) := ⟨rfl, rfl, rfl, by decide +kernel, rfl, by decide +kernel, by decide +kernel⟩
abbrev s_climb_fault : Stmt := top 13
theorem sc_climb_fault : FnScope ["numbers", "many", "at", "number"] ["numbers", "many"] (defScope s_climb_fault) := ⟨rfl, rfl, rfl, by decide +kernel, rfl, by decide +kernel, by decide +kernel⟩
abbrev s_made_table : Stmt := top 32
theorem sc_made_table : FnScope ["rows", "coat", "roads", "road"] ["rows"] (defScope s_made_table) := ⟨rfl, rfl, rfl, by decide +kernel, rfl, by decide +kernel, by decide +kernel⟩
abbrev s_is_thread : Stmt := top 25
theorem sc_is_thread : FnScope ["thread", "many"] ["thread", "many"] (defScope s_is_thread) := ⟨rfl, rfl, rfl, by decide +kernel, rfl, by decide +kernel, by decide +kernel⟩
abbrev s_come_to : Stmt := top 26
theorem sc_come_to : FnScope ["net", "x", "found", "order", "at", "upper", "place"] ["net", "x"] (defScope s_come_to) := ⟨rfl, rfl, rfl, by decide +kernel, rfl, by decide +kernel, by decide +kernel⟩
abbrev s_made_net : Stmt := top 24
theorem sc_made_net : FnScope ["many", "threads", "at", "thread", "net", "reached", "place"] ["many", "threads"] (defScope s_made_net) := ⟨rfl, rfl, rfl, by decide +kernel, rfl, by decide +kernel, by decide +kernel⟩
abbrev s_made_world : Stmt := top 35
theorem sc_made_world : FnScope ["table", "net", "pegs", "fault"] ["table", "net", "pegs"] (defScope s_made_world) := ⟨rfl, rfl, rfl, by decide +kernel, rfl, by decide +kernel, by decide +kernel⟩
abbrev s_check_pegged : Stmt := top 36
theorem sc_check_pegged : FnScope ["world"] ["world"] (defScope s_check_pegged) := ⟨rfl, rfl, rfl, by decide +kernel, rfl, by decide +kernel, by decide +kernel⟩
abbrev s_stone_fits : Stmt := top 15
theorem sc_stone_fits : FnScope ["world", "stones", "place", "coat", "roads", "other"] ["world", "stones", "place"] (defScope s_stone_fits) := ⟨rfl, rfl, rfl, by decide +kernel, rfl, by decide +kernel, by decide +kernel⟩
abbrev s_check_standing : Stmt := top 16
theorem sc_check_standing : FnScope ["world", "standing", "place"] ["world", "standing"] (defScope s_check_standing) := ⟨rfl, rfl, rfl, by decide +kernel, rfl, by decide +kernel, by decide +kernel⟩
abbrev s_is_held : Stmt := top 18
theorem sc_is_held : FnScope ["world", "a", "kept", "place", "near", "coats", "other"] ["world", "a", "kept", "place"] (defScope s_is_held) := ⟨rfl, rfl, rfl, by decide +kernel, rfl, by decide +kernel, by decide +kernel⟩
abbrev s_frozen_places : Stmt := top 19
theorem sc_frozen_places : FnScope ["world", "a", "kept", "again", "place"] ["world", "a"] (defScope s_frozen_places) := ⟨rfl, rfl, rfl, by decide +kernel, rfl, by decide +kernel, by decide +kernel⟩
abbrev s_struck : Stmt := top 28
theorem sc_struck : FnScope ["stones", "left", "coat"] ["stones"] (defScope s_struck) := ⟨rfl, rfl, rfl, by decide +kernel, rfl, by decide +kernel, by decide +kernel⟩
abbrev s_carried : Stmt := top 38
theorem sc_carried : FnScope ["a", "b", "row", "place"] ["a", "b", "row", "place"] (defScope s_carried) := ⟨rfl, rfl, rfl, by decide +kernel, rfl, by decide +kernel, by decide +kernel⟩
abbrev s_rows_fit : Stmt := top 39
theorem sc_rows_fit : FnScope ["net", "a", "b", "rows", "x", "y"] ["net", "a", "b", "rows"] (defScope s_rows_fit) := ⟨rfl, rfl, rfl, by decide +kernel, rfl, by decide +kernel, by decide +kernel⟩
abbrev s_link_of : Stmt := top 40
theorem sc_link_of : FnScope ["world", "a", "b", "first", "found", "rows", "place", "upper"] ["world", "a", "b", "first"] (defScope s_link_of) := ⟨rfl, rfl, rfl, by decide +kernel, rfl, by decide +kernel, by decide +kernel⟩
abbrev s_base_link : Stmt := top 41
theorem sc_base_link : FnScope ["world", "a", "b"] ["world", "a", "b"] (defScope s_base_link) := ⟨rfl, rfl, rfl, by decide +kernel, rfl, by decide +kernel, by decide +kernel⟩
abbrev s_check_standings : Stmt := top 43
theorem sc_check_standings : FnScope ["world", "standings", "standing"] ["world", "standings"] (defScope s_check_standings) := ⟨rfl, rfl, rfl, by decide +kernel, rfl, by decide +kernel, by decide +kernel⟩
abbrev s_held_back : Stmt := top 44
theorem sc_held_back : FnScope ["world", "a", "rows", "place"] ["world", "a", "rows"] (defScope s_held_back) := ⟨rfl, rfl, rfl, by decide +kernel, rfl, by decide +kernel, by decide +kernel⟩
abbrev s_right_link : Stmt := top 45
theorem sc_right_link : FnScope ["world", "a", "b", "rows"] ["world", "a", "b"] (defScope s_right_link) := ⟨rfl, rfl, rfl, by decide +kernel, rfl, by decide +kernel, by decide +kernel⟩
abbrev s_two_links : Stmt := top 46
theorem sc_two_links : FnScope ["world", "a", "b", "c", "one", "two"] ["world", "a", "b", "c"] (defScope s_two_links) := ⟨rfl, rfl, rfl, by decide +kernel, rfl, by decide +kernel, by decide +kernel⟩
abbrev s_common_steps : Stmt := top 48
theorem sc_common_steps : FnScope ["one", "two", "stones", "p", "q"] ["one", "two"] (defScope s_common_steps) := ⟨rfl, rfl, rfl, by decide +kernel, rfl, by decide +kernel, by decide +kernel⟩
abbrev s_fork_places : Stmt := top 49
theorem sc_fork_places : FnScope ["one", "two", "place", "row"] ["one", "two"] (defScope s_fork_places) := ⟨rfl, rfl, rfl, by decide +kernel, rfl, by decide +kernel, by decide +kernel⟩
abbrev s_forks : Stmt := top 50
theorem sc_forks : FnScope ["world", "a", "b", "c", "found"] ["world", "a", "b", "c"] (defScope s_forks) := ⟨rfl, rfl, rfl, by decide +kernel, rfl, by decide +kernel, by decide +kernel⟩
abbrev s__law_pool : Stmt := top 52
theorem sc__law_pool : FnScope ["script", "k", "cell", "big", "mixed"] ["script", "k"] (defScope s__law_pool) := ⟨rfl, rfl, rfl, by decide +kernel, rfl, by decide +kernel, by decide +kernel⟩
abbrev s__law_take : Stmt := top 53
theorem sc__law_take : FnScope ["source", "top", "drawn"] ["source", "top"] (defScope s__law_take) := ⟨rfl, rfl, rfl, by decide +kernel, rfl, by decide +kernel, by decide +kernel⟩
abbrev s__law_one : Stmt := top 54
theorem sc__law_one : FnScope ["source", "things"] ["source", "things"] (defScope s__law_one) := ⟨rfl, rfl, rfl, by decide +kernel, rfl, by decide +kernel, by decide +kernel⟩
abbrev s__law_beside : Stmt := top 55
theorem sc__law_beside : FnScope ["source", "many", "wide", "pairs", "p", "s"] ["source", "many", "wide"] (defScope s__law_beside) := ⟨rfl, rfl, rfl, by decide +kernel, rfl, by decide +kernel, by decide +kernel⟩
abbrev s__law_threads : Stmt := top 56
theorem sc__law_threads : FnScope ["source", "n", "more", "y", "found", "turn", "x"] ["source", "n", "more"] (defScope s__law_threads) := ⟨rfl, rfl, rfl, by decide +kernel, rfl, by decide +kernel, by decide +kernel⟩
abbrev s__law_near : Stmt := top 57
theorem sc__law_near : FnScope ["n", "threads", "x", "y"] ["n", "threads"] (defScope s__law_near) := ⟨rfl, rfl, rfl, by decide +kernel, rfl, by decide +kernel, by decide +kernel⟩
abbrev s__law_fill : Stmt := top 58
theorem sc__law_fill : FnScope ["beside", "near", "fixed", "turns", "had", "place", "k", "coat", "found", "j"] ["beside", "near", "fixed", "turns", "had"] (defScope s__law_fill) := ⟨rfl, rfl, rfl, by decide +kernel, rfl, by decide +kernel, by decide +kernel⟩
abbrev s__law_standing : Stmt := top 59
theorem sc__law_standing : FnScope ["source", "beside", "near", "fixed", "place"] ["source", "beside", "near", "fixed"] (defScope s__law_standing) := ⟨rfl, rfl, rfl, by decide +kernel, rfl, by decide +kernel, by decide +kernel⟩
abbrev s__law_pegs : Stmt := top 60
theorem sc__law_pegs : FnScope ["source", "n", "free", "some", "found", "place"] ["source", "n", "free"] (defScope s__law_pegs) := ⟨rfl, rfl, rfl, by decide +kernel, rfl, by decide +kernel, by decide +kernel⟩
abbrev s__law_lets : Stmt := top 61
theorem sc__law_lets : FnScope ["world", "s", "beside", "near", "pegs", "found", "v", "coats", "j", "c"] ["world", "s"] (defScope s__law_lets) := ⟨rfl, rfl, rfl, by decide +kernel, rfl, by decide +kernel, by decide +kernel⟩
abbrev s__law_put : Stmt := top 62
theorem sc__law_put : FnScope ["s", "deed"] ["s", "deed"] (defScope s__law_put) := ⟨rfl, rfl, rfl, by decide +kernel, rfl, by decide +kernel, by decide +kernel⟩
abbrev s__law_led : Stmt := top 63
theorem sc__law_led : FnScope ["source", "world", "s", "many", "turn", "some"] ["source", "world", "s", "many"] (defScope s__law_led) := ⟨rfl, rfl, rfl, by decide +kernel, rfl, by decide +kernel, by decide +kernel⟩
abbrev s__law_made : Stmt := top 65
theorem sc__law_made : FnScope ["world", "threads", "beside", "near", "pegs"] ["world", "threads"] (defScope s__law_made) := ⟨rfl, rfl, rfl, by decide +kernel, rfl, by decide +kernel, by decide +kernel⟩
abbrev s__law_fork_world : Stmt := top 66
theorem sc__law_fork_world : FnScope ["source", "many", "n", "beside", "threads", "near", "place", "fixed", "s", "j", "y", "p"] ["source"] (defScope s__law_fork_world) := ⟨rfl, rfl, rfl, by decide +kernel, rfl, by decide +kernel, by decide +kernel⟩
abbrev s__law_three : Stmt := top 67
theorem sc__law_three : FnScope ["source", "world", "threads", "place", "s", "roads", "found", "turn", "coat"] ["source"] (defScope s__law_three) := ⟨rfl, rfl, rfl, by decide +kernel, rfl, by decide +kernel, by decide +kernel⟩
abbrev s__law_reach : Stmt := top 64
theorem sc__law_reach : FnScope ["world", "a", "far", "waiting", "turn", "now", "deed", "then"] ["world", "a"] (defScope s__law_reach) := ⟨rfl, rfl, rfl, by decide +kernel, rfl, by decide +kernel, by decide +kernel⟩
abbrev s__law_rest : Stmt := top 68
theorem sc__law_rest : FnScope ["row", "found", "coat"] ["row"] (defScope s__law_rest) := ⟨rfl, rfl, rfl, by decide +kernel, rfl, by decide +kernel, by decide +kernel⟩
abbrev s__law_link : Stmt := top 69
theorem sc__law_link : FnScope ["world", "a", "b", "rows", "turn", "v", "j"] ["world", "a", "b"] (defScope s__law_link) := ⟨rfl, rfl, rfl, by decide +kernel, rfl, by decide +kernel, by decide +kernel⟩
abbrev s__law_common : Stmt := top 70
theorem sc__law_common : FnScope ["one", "two", "k", "turn"] ["one", "two"] (defScope s__law_common) := ⟨rfl, rfl, rfl, by decide +kernel, rfl, by decide +kernel, by decide +kernel⟩
abbrev s_law : Stmt := top 71
theorem sc_law : FnScope ["script", "turn", "source", "world", "threads", "some", "a", "b", "c", "made", "first", "second", "due", "told", "other", "v", "j"] ["script"] (defScope s_law) := ⟨rfl, rfl, rfl, by decide +kernel, rfl, by decide +kernel, by decide +kernel⟩
def kb_forks_c_b_a_world_g {α : Type} : List α → List α → List α
  | [], [w0, w1, w2, w3] => [w3, w2, w1, w0]
  | _, _ => []
theorem kb_forks_c_b_a_world : KwB "forks" s_forks ["world", "a", "b", "c"] ["c", "b", "a", "world"] kb_forks_c_b_a_world_g kb_forks_c_b_a_world_g where
  to := fun _ _ _ _ _ _ us ws h => by
    match us, ws, h with
    | [], [_, _, _, _], _ => rfl
  rel := fun {vs us zs ws} r s => by
    unfold kb_forks_c_b_a_world_g
    cases r with
    | cons _ _ => exact .nil
    | nil =>
      cases s with
      | nil => exact .nil
      | cons s0 s =>
        cases s with
        | nil => exact .nil
        | cons s1 s =>
          cases s with
          | nil => exact .nil
          | cons s2 s =>
            cases s with
            | nil => exact .nil
            | cons s3 s =>
              cases s with
              | cons _ _ => exact .nil
              | nil =>
                exact (.cons s3 (.cons s2 (.cons s1 (.cons s0 .nil))))
def kb_made_world_pegs_g {α : Type} : List α → List α → List α
  | [u0, u1], [w0] => [u0, u1, w0]
  | _, _ => []
theorem kb_made_world_pegs : KwB "made_world" s_made_world ["table", "net", "pegs"] ["pegs"] kb_made_world_pegs_g kb_made_world_pegs_g where
  to := fun _ _ _ _ _ _ us ws h => by
    match us, ws, h with
    | [_, _], [_], _ => rfl
  rel := fun {vs us zs ws} r s => by
    unfold kb_made_world_pegs_g
    cases r with
    | nil => exact .nil
    | cons r0 r =>
      cases r with
      | nil => exact .nil
      | cons r1 r =>
        cases r with
        | cons _ _ => exact .nil
        | nil =>
          cases s with
          | nil => exact .nil
          | cons s0 s =>
            cases s with
            | cons _ _ => exact .nil
            | nil =>
              exact (.cons r0 (.cons r1 (.cons s0 .nil)))
section
variable {P : Program} {w : World} {K : PySem.W.Frag} {mg : Str → Option Value} {base : Heap} {f : Addr} {fd : FuncData} {cs : CS}
def sp_Refused_init (K : PySem.W.Frag) (_ : CS) : Sp := sp_init K
theorem ok_Refused_init (F : Fun K "__init__" "Refused.__init__" s_Refused_init f fd) (T : Txn K mg cs)  : FnOk P w K mg base CX0 1 f fd ["self", "what"] (sp_Refused_init K cs) := by
  refine F.ok sc_Refused_init (fun vs H Q E h => ?_) (fun cdv A outer s H vs Q E hr h => ?_)
  · obtain ⟨a, C, v, rfl, _⟩ := h
    rfl
  obtain ⟨a, C, v, rfl, hc, hn, ha, q⟩ := h
  refine ⟨_, (pss_one (ps_ost (pv 0) (pv 1))), ?_⟩
  exact ⟨v, rfl, .ref a, rfl, a, C, rfl, hc, hn, .inl ⟨ha, fun dx nd ne => q dx nd ne⟩⟩
def sp_Table_init (K : PySem.W.Frag) (cs : CS) : Sp := fun vs H Q E => ∃ (t dx r : Addr) (xs : List V), vs = [.ref t, .ref r] ∧ H t = some (.ins cs.Table dx []) ∧ SqT K H r xs ∧ ∀ H', H' t = some (.ins cs.Table dx [("many", .int (xs.length : Nat)), ("beside", .ref r)]) → (∀ b, b ≠ t → H' b = H b) → Q .non H'
theorem ok_Table_init (F : Fun K "__init__" "Table.__init__" s_Table_init f fd) (T : Txn K mg cs)  : FnOk P w K mg base CX0 1 f fd ["self", "beside"] (sp_Table_init K cs) := by
  refine F.ok sc_Table_init (fun vs H Q E h => ?_) (fun cdv A outer s H vs Q E hr h => ?_)
  · obtain ⟨t, dx, r, xs, rfl, _⟩ := h
    rfl
  obtain ⟨t, dx, r, xs, rfl, ht, hS, q⟩ := h
  refine ⟨_, (pss_cons (ps_fld (pv 0) (pe_callB (lenS K) (by rfl) T.n_len PySem.boot_len (pa_cons (pv 1) pa_nil)) rfl)
      (pss_one (ps_fld (pv 0) (pv 1) rfl))), ?_⟩
  refine ⟨.ref r, rfl, r, xs, rfl, .inr hS, .ref t, rfl, t, cs.Table, dx, [], rfl, ht, T.cl_Table, T.na_Table_many, by decide, ?_⟩
  refine ⟨.ref r, rfl, .ref t, rfl, t, cs.Table, dx, _, rfl, upd_same, T.cl_Table, T.na_Table_beside, by show 1 < 1000; decide, ?_⟩
  exact q _ upd_same fun b nb => by rw [upd_ne nb, upd_ne nb]
def sp_Net_init (K : PySem.W.Frag) (cs : CS) : Sp := fun vs H Q E => ∃ (t dx r : Addr) (n : Nat) (ths : List (Int × Int)), vs = [.ref t, .int (n : Nat), .ref r] ∧ H t = some (.ins cs.Net dx []) ∧ TT K H r (thR ths) ∧ n ≤ 24 ∧ ths.length ≤ 60 ∧ ths.Nodup ∧ InN n ths ∧ ∀ s nrs H', NearOk n ths nrs → H' t = some (.ins cs.Net dx [("many", .int (n : Nat)), ("threads", .ref r), ("near", .ref s)]) → (∀ b o, b ≠ t → H b = some o → H' b = some o) → TT K H' s nrs → Q .non H'
theorem ok_Net_init (F : Fun K "__init__" "Net.__init__" s_Net_init f fd) (T : Txn K mg cs)  : FnOk P w K mg base CX0 1 f fd ["self", "many", "threads"] (sp_Net_init K cs) := by
  refine F.ok sc_Net_init (fun vs H Q E h => ?_) (fun cdv A outer s H vs Q E hr h => ?_)
  · obtain ⟨t, dx, r, n, ths, rfl, _⟩ := h
    rfl
  obtain ⟨t, dx, r, n, ths, rfl, ht, hT, n24, l60, nd, hi, q⟩ := h
  obtain ⟨ws, hS, hl, hget⟩ := hT.seq
  have e0 : ((n : Nat) : Int).toNat = n := Int.toNat_natCast _
  have hl2 : ws.length = ths.length := by rw [hl]; unfold thR; rw [List.length_map]
  refine ⟨_, (pss_cons (ps_setLc (i := 3) (own := [("_", 6)]) rfl sc_Net_init.nd rfl rfl (sw_true rfl rfl rfl (by decide +kernel)) (pi_range1 (by rfl) T.n_range (pa_cons (pv 1) pa_nil)) (blkOk_by (own := [("_", 6)]) (N := ["self", "many", "threads", "near", "x", "y", "_", "places"]) (sc := defScope s_Net_init) (by decide +kernel)) (fun _ _ _ _ _ => (pg_name (i := 6) sc_Net_init.nd rfl (Or.inl rfl))) (fun _ _ _ _ _ => pts_nil) (fun _ _ _ _ _ => (pe_lst pa_nil)))
      (pss_cons (ps_for PassesOwn.never rfl (piT K (pv 2)) (pg_tup rfl (pgs_cons (pg_name (i := 4) sc_Net_init.nd rfl (Or.inl rfl)) (pgs_cons (pg_name (i := 5) sc_Net_init.nd rfl (Or.inl rfl)) pgs_nil))) (pss_cons (ps_expr (pe_bm PySem.F.plainAttrs_list PySem.F.slot_list_append PySem.F.type_list_append mt_append (pe_ix (ixL K) (pv 3) (pv 4) (fun _ _ => rfl)) (pa_cons (pv 5) pa_nil)))
      (pss_one (ps_expr (pe_bm PySem.F.plainAttrs_list PySem.F.slot_list_append PySem.F.type_list_append mt_append (pe_ix (ixL K) (pv 3) (pv 5) (fun _ _ => rfl)) (pa_cons (pv 4) pa_nil))))))
      (pss_cons (ps_fld (pv 0) (pv 1) rfl)
      (pss_cons (ps_fld (pv 0) (pv 2) rfl)
      (pss_one (ps_fld (pv 0) (pe_callTy (tupOf K) (by rfl) T.n_tuple (by decide +kernel) (pa_cons (pe_lc (own := [("places", 7)]) rfl sc_Net_init.nd (piL K (pv 3)) (blkOk_by (own := [("places", 7)]) (N := ["self", "many", "threads", "near", "x", "y", "_", "places"]) (sc := defScope s_Net_init) (by decide +kernel)) (fun _ _ _ _ _ => (pg_name (i := 7) sc_Net_init.nd rfl (Or.inl rfl))) (fun _ _ _ _ _ => pts_nil) (fun _ _ _ _ _ => (pe_callTy (tupOf K) (by rfl) T.n_tuple (by decide +kernel) (pa_cons (pe_callB (sortL K) (by rfl) T.n_sorted (by decide +kernel) (pa_cons (pv 7) pa_nil)) pa_nil)))) pa_nil)) rfl)))))), ?_⟩
  refine ⟨_, rfl, _, rfl, by omega, by omega, fun D nD => ?_⟩
  rw [e0]
  refine lc_it walk_range (fun i H' => ∃ bs : List Addr, H' D = some (.lst (bs.map V.ref)) ∧ bs.length = i ∧ bs.Nodup ∧ (∀ b ∈ bs, H b = none ∧ b ≠ D ∧ H' b = some (.lst [])) ∧ Same H H') ⟨[], upd_same, rfl, List.nodup_nil, fun b hb => (by cases hb), Same.new nD⟩ (fun _ _ _ _ => trivial) ?_ ?_
  · rintro i x H1 H2 hi ⟨bs, h1, h2, h3, h4, h5⟩ ⟨rfl, rfl⟩
    refine ⟨rfl, ?_⟩
    refine tYes_i (iteT ?_)
    refine ⟨Nat.zero_le _, fun b nb => ?_⟩
    have neD : D ≠ b := fun z => by rw [← z, h1] at nb; cases nb
    refine ⟨bs.map V.ref, by rw [upd_ne neD]; exact h1, smallLt (by rw [List.length_map]; omega), bs ++ [b], by rw [upd_same, List.map_append]; rfl, by rw [List.length_append, h2]; rfl, ?_, fun c hc => ?_, (h5.trans (Same.new nb)).mut nD⟩
    · refine List.nodup_append.mpr ⟨h3, nodup1 _, fun a ha c hc => ?_⟩
      rw [List.mem_singleton.mp hc]
      intro z
      have := (h4 a ha).2.2
      rw [z, nb] at this
      cases this
    · rcases List.mem_append.mp hc with hc | hc
      · obtain ⟨g1, g2, g3⟩ := h4 c hc
        refine ⟨g1, g2, ?_⟩
        rw [upd_ne g2, upd_ne (fun z => by rw [z, nb] at g3; cases g3)]
        exact g3
      · rw [List.mem_singleton.mp hc]
        refine ⟨h5.free nb, neD.symm, ?_⟩
        rw [upd_ne neD.symm, upd_same]
  rintro H1 ⟨bs, h1, h2, h3, h4, h5⟩
  have nDb : D ∉ bs := fun z => (h4 D z).2.1 rfl
  have hB0 : HB D bs (fun _ => []) H1 := ⟨h1, fun i b hi => (h4 b (List.mem_of_getElem? hi)).2.2⟩
  have getB : ∀ i, i < n → ∃ b, bs[i]? = some b := fun i hi => ⟨bs[i]'(by omega), List.getElem?_eq_getElem (by omega)⟩
  have nbH : ∀ b, b ∈ bs → H b = none := fun b hb => (h4 b hb).1
  refine ⟨.ref r, rfl, r, rfl, ⟨_, h5.tup hS⟩, ?_⟩
  refine for_tup (xs := ws) (fun k σ H' => (∃ y4 y5, σ = [some (.ref t), some (.int (n : Nat)), some (.ref r), some (.ref D), y4, y5, none, none]) ∧ HB D bs (nR (ths.take k)) H' ∧ Same H H') ⟨⟨_, _, rfl⟩, hB0, h5⟩ (fun k σ H' _ h => h.2.2.tup hS) ?_ ?_
  · rintro k x σ H2 hk ⟨⟨y4, y5, rfl⟩, hB, sm⟩
    have hk2 : k < ths.length := by rw [← hl2]; exact (List.getElem?_eq_some_iff.mp hk).1
    obtain ⟨b, hb, hbs⟩ := hget k [ths[k].1, ths[k].2] (by unfold thR; rw [List.getElem?_map, List.getElem?_eq_getElem hk2]; rfl)
    cases Option.some.inj (hb.symm.trans hk)
    obtain ⟨i0, i1, i2⟩ := hi _ (List.getElem_mem hk2)
    have hnd : (ths.take k).Nodup := nd.sublist (List.take_sublist _ _)
    have hin : InN n (ths.take k) := fun e he => hi e (List.mem_of_mem_take he)
    have hts : ths.take (k + 1) = ths.take k ++ [ths[k]] := by rw [List.take_add_one, List.getElem?_eq_getElem hk2]; rfl
    have hnd2 : (ths.take (k + 1)).Nodup := nd.sublist (List.take_sublist _ _)
    have hin2 : InN n (ths.take (k + 1)) := fun e he => hi e (List.mem_of_mem_take he)
    obtain ⟨bx, hbx⟩ := getB ths[k].1.toNat (by omega)
    obtain ⟨bY, hbY⟩ := getB ths[k].2.toNat (by omega)
    have gx : (bs.map V.ref)[ths[k].1.toNat]? = some (.ref bx) := by rw [List.getElem?_map, hbx]; rfl
    have gy : (bs.map V.ref)[ths[k].2.toNat]? = some (.ref bY) := by rw [List.getElem?_map, hbY]; rfl
    refine ⟨b, _, rfl, sm.tup hbs, rfl, _, _, rfl, _, _, rfl, rfl, ?_⟩
    have l1 := nR_len hnd hin ths[k].1.toNat
    refine ⟨.ref D, rfl, _, rfl, D, _, _, .ref bx, rfl, rfl, SqL.of hB.d, atN gx (by omega), .inl ⟨rfl, _, SqL.of (hB.at_ _ bx hbx)⟩, _, rfl, bx, _, _, rfl, rfl, hB.at_ _ bx hbx, smallLt (by rw [List.length_map]; omega), ?_⟩
    have hB2 := hB.app (c := ths[k].2) h3 nDb hbx
    have l2 : (addL (nR (ths.take k)) ths[k].1.toNat ths[k].2 ths[k].2.toNat).length < 1000000 := by
      unfold addL
      rw [if_neg (by omega)]
      have := nR_len hnd hin ths[k].2.toNat
      omega
    have hby := hB2.at_ _ bY hbY
    refine ⟨.ref D, rfl, _, rfl, D, _, _, .ref bY, rfl, rfl, SqL.of hB2.d, atN gy (by omega), .inl ⟨rfl, _, SqL.of hby⟩, _, rfl, bY, _, _, rfl, rfl, hby, smallLt (by rw [List.length_map]; exact l2), ?_⟩
    have hB3 := hB2.app (c := ths[k].1) h3 nDb hbY
    refine ⟨⟨_, _, rfl⟩, ?_, (sm.mut (nbH bx (List.mem_of_getElem? hbx))).mut (nbH bY (List.mem_of_getElem? hbY))⟩
    rw [hts, nR_snoc]
    exact hB3
  · rintro σ H2 ⟨⟨y4, y5, rfl⟩, hB, sm⟩
    rw [hl2, List.take_length] at hB
    have neDt : D ≠ t := fun z => by rw [z, ht] at nD; cases nD
    refine ⟨_, rfl, .ref t, rfl, t, cs.Net, dx, [], rfl, sm _ _ ht, T.cl_Net, T.na_Net_many, by decide, ?_⟩
    refine ⟨_, rfl, .ref t, rfl, t, cs.Net, dx, _, rfl, upd_same, T.cl_Net, T.na_Net_threads, by show 1 < 1000; decide, ?_⟩
    have s2 : ∀ b o, b ≠ t → H2 b = some o → (upd (upd H2 t (.ins cs.Net dx (putF "many" (.int (n : Nat)) []))) t (.ins cs.Net dx (putF "threads" (.ref r) (putF "many" (.int (n : Nat)) [])))) b = some o := fun b o ne hb => by
      rw [upd_ne ne, upd_ne ne]
      exact hb
    generalize hH3 : upd (upd H2 t (.ins cs.Net dx (putF "many" (.int (n : Nat)) []))) t (.ins cs.Net dx (putF "threads" (.ref r) (putF "many" (.int (n : Nat)) []))) = H3 at s2
    have ht3 : H3 t = some (.ins cs.Net dx [("many", .int (n : Nat)), ("threads", .ref r)]) := by rw [← hH3, upd_same]; rfl
    have nbt : ∀ b ∈ bs, b ≠ t := fun b hb z => by
      have := nbH b hb
      rw [z, ht] at this
      cases this
    have hB3 : HB D bs (nR ths) H3 := ⟨s2 _ _ neDt hB.d, fun i b hb => s2 _ _ (nbt b (List.mem_of_getElem? hb)) (hB.at_ i b hb)⟩
    refine ⟨.ref D, rfl, D, rfl, ⟨_, SqL.of hB3.d⟩, fun D2 nD2 => ?_⟩
    refine lc_it (walk_list (xs := bs.map V.ref)) (fun i H' => ∃ us rs, H' D2 = some (.lst us) ∧ Rws K H' us rs ∧ rs.length = i ∧ (∀ (k : Nat) row, rs[k]? = some row → row.Perm (nR ths k) ∧ row.Pairwise (· ≤ ·)) ∧ Same H3 H') ⟨[], [], upd_same, Rws.nil, rfl, fun k row e => (by simp at e), Same.new nD2⟩ (fun i H' _ h => by
      obtain ⟨_, _, _, _, _, _, s⟩ := h
      exact SqL.of (s _ _ hB3.d)) ?_ ?_
    · rintro i x H4 H5 hi2 ⟨us, rs, g1, g2, g3, g4, g5⟩ ⟨rfl, hx2⟩
      rw [List.length_map] at hi2
      obtain ⟨b, hb⟩ := getB i (by omega)
      rw [List.getElem?_map, hb] at hx2
      cases Option.some.inj hx2
      have hRl := nR_len nd hi i
      refine ⟨rfl, ?_⟩
      refine tYes_i (iteT ?_)
      refine ⟨_, rfl, b, nR ths i, rfl, SqL.of (g5 _ _ (hB3.at_ i b hb)), by omega, fun ns' t1 perm asc nt => ?_⟩
      refine ⟨t1, _, rfl, .inl ⟨SqL.of upd_same, fun t2 nt2 => ?_⟩⟩
      have s6 := (Same.new (o := .lst (ns'.map V.int)) nt).trans (Same.new (o := .tup (ns'.map V.int)) nt2)
      have r6 := (g2.same s6).snoc (b := t2) (r := ns') (SqT.of upd_same)
      refine ⟨us, s6 _ _ g1, smallLt (by rw [g2.len]; omega), us ++ [.ref t2], rs ++ [ns'], upd_same, r6.upd (s6 _ _ g1), by rw [List.length_append, g3]; rfl, fun k row e => ?_, (g5.trans s6).mut nD2⟩
      · by_cases hk : k < rs.length
        · rw [List.getElem?_append_left hk] at e
          exact g4 k row e
        · rw [List.getElem?_append_right (by omega)] at e
          obtain ⟨hk2, hk3⟩ := List.getElem?_eq_some_iff.mp e
          have : k - rs.length = 0 := by
            have : k - rs.length < 1 := hk2
            omega
          have ek : k = i := by omega
          subst ek
          simp [this] at hk3
          subst hk3
          exact ⟨perm, asc⟩
    · rintro H4 ⟨us, rs, g1, g2, g3, g4, g5⟩
      rw [List.length_map] at g3
      refine ⟨D2, _, rfl, .inl ⟨SqL.of g1, fun t2 nt => ?_⟩⟩
      have s7 := g5.trans (Same.new (o := .tup us) nt)
      have ht7 := s7 _ _ ht3
      have tt7 : TT K (upd H4 t2 (.tup us)) t2 rs := (g2.same (Same.new nt)).tt (SqT.of upd_same)
      refine ⟨.ref t, rfl, t, cs.Net, dx, _, rfl, ht7, T.cl_Net, T.na_Net_near, by show 2 < 1000; decide, ?_⟩
      refine q t2 rs _ (near_of nd hi (by omega) g4) upd_same (fun b o ne hb => ?_) (tt7.updI ht7)
      rw [upd_ne ne]
      exact s7 _ _ (s2 _ _ ne (sm _ _ hb))
def sp_World_init (K : PySem.W.Frag) (cs : CS) : Sp := fun vs H Q E => ∃ (w_ dx t m p : Addr) (ps : List Int), vs = [.ref w_, .ref t, .ref m, .ref p] ∧ H w_ = some (.ins cs.World dx []) ∧ SqT K H p (ps.map V.int) ∧ ∀ H', H' w_ = some (.ins cs.World dx [("table", .ref t), ("net", .ref m), ("pegs", .ref p), ("base", .int (ps.headD 0))]) → (∀ b, b ≠ w_ → H' b = H b) → Q .non H'
theorem ok_World_init (F : Fun K "__init__" "World.__init__" s_World_init f fd) (T : Txn K mg cs)  : FnOk P w K mg base CX0 1 f fd ["self", "table", "net", "pegs"] (sp_World_init K cs) := by
  refine F.ok sc_World_init (fun vs H Q E h => ?_) (fun cdv A outer s H vs Q E hr h => ?_)
  · obtain ⟨w_, dx, t, m, p, ps, rfl, _⟩ := h
    rfl
  obtain ⟨w_, dx, t, m, p, ps, rfl, hw, hS, q⟩ := h
  refine ⟨_, (pss_cons (ps_fld (pv 0) (pv 1) rfl)
      (pss_cons (ps_fld (pv 0) (pv 2) rfl)
      (pss_cons (ps_fld (pv 0) (pv 3) rfl)
      (pss_one (ps_fld (pv 0) (pe_ifExp (pt_cmpR op_gt (pe_callB (lenS K) (by rfl) T.n_len PySem.boot_len (pa_cons (pv 3) pa_nil)) pe_int (nomark _)) (pe_ix (ixT K) (pv 3) pe_int (fun _ _ => rfl)) pe_int) rfl))))), ?_⟩
  refine ⟨_, rfl, .ref w_, rfl, w_, cs.World, dx, [], rfl, hw, T.cl_World, T.na_World_table, by decide, ?_⟩
  refine ⟨_, rfl, .ref w_, rfl, w_, cs.World, dx, _, rfl, upd_same, T.cl_World, T.na_World_net, by show 1 < 1000; decide, ?_⟩
  refine ⟨_, rfl, .ref w_, rfl, w_, cs.World, dx, _, rfl, upd_same, T.cl_World, T.na_World_pegs, by show 2 < 1000; decide, ?_⟩
  have hS3 := tup_updI (o := .ins cs.World dx (putF "pegs" (.ref p) (putF "net" (.ref m) (putF "table" (.ref t) [])))) (tup_updI (o := .ins cs.World dx (putF "net" (.ref m) (putF "table" (.ref t) []))) (tup_updI (o := .ins cs.World dx (putF "table" (.ref t) [])) hS hw) upd_same) upd_same
  refine ⟨.ref p, rfl, p, _, rfl, .inr hS3, _, 0, rfl, rfl, _, rfl, ?_⟩
  cases ps with
  | nil =>
    refine itF (by simp) ?_
    refine ⟨.ref w_, rfl, w_, cs.World, dx, _, rfl, upd_same, T.cl_World, T.na_World_base, by show 3 < 1000; decide, ?_⟩
    exact q _ upd_same fun b nb => by rw [upd_ne nb, upd_ne nb, upd_ne nb, upd_ne nb]
  | cons c ps =>
    refine itT (by simp) ?_
    refine ⟨.ref p, rfl, p, _, 0, .int c, rfl, rfl, hS3, atI0, ?_⟩
    refine ⟨.ref w_, rfl, w_, cs.World, dx, _, rfl, upd_same, T.cl_World, T.na_World_base, by show 3 < 1000; decide, ?_⟩
    exact q _ upd_same fun b nb => by rw [upd_ne nb, upd_ne nb, upd_ne nb, upd_ne nb]
structure Txt (P : Program) (w : World) (K : PySem.W.Frag) (mg : Str → Option Value) (base : Heap) (cs : CS) : Prop extends Txn K mg cs where
  one : True
  t_Net : CalC P w K mg base 1 "Net" cs.Net ["self", "many", "threads"] (sp_Net_init K cs)
  t_Table : CalC P w K mg base 1 "Table" cs.Table ["self", "beside"] (sp_Table_init K cs)
  t_World : CalC P w K mg base 1 "World" cs.World ["self", "table", "net", "pegs"] (sp_World_init K cs)
  x_BadSize : XM P w K mg base "BadSize" cs.BadSize
  x_BadStone : XM P w K mg base "BadStone" cs.BadStone
  x_NoPeg : XM P w K mg base "NoPeg" cs.NoPeg
def sp_is_number (K : PySem.W.Frag) (cs : CS) : Sp := fun vs H Q E => ∃ i : Int, vs = [.int i] ∧ Q (.bl true) H
theorem ok_is_number (F : Fun K "is_number" "is_number" s_is_number f fd) (T : Txt P w K mg base cs)  : FnOk P w K mg base CX0 1 f fd ["thing"] (sp_is_number K cs) := by
  refine F.ok sc_is_number (fun vs H Q E h => ?_) (fun cdv A outer s H vs Q E hr h => ?_)
  · obtain ⟨i, rfl, _⟩ := h
    rfl
  obtain ⟨i, rfl, q⟩ := h
  refine ⟨_, (pss_one (ps_ret (pe_and (pe_callB (isI K) (by rfl) T.n_isinstance (by decide +kernel) (pa_cons (pv 0) (pa_cons (pe_ty (T := "int") (by rfl) T.n_int (by decide +kernel)) pa_nil))) (pe_one (pe_not (pe_callB (isI K) (by rfl) T.n_isinstance (by decide +kernel) (pa_cons (pv 0) (pa_cons (pe_ty (T := "bool") (by rfl) T.n_bool (by decide +kernel)) pa_nil)))))))), ?_⟩
  refine ⟨.int i, rfl, .int i, .ty "int", .type "int", .type "int", true, rfl, .ty _, .base (.int i), kit_ty (by decide +kernel), true, rfl, iteT ?_⟩
  exact ⟨.int i, rfl, .int i, .ty "bool", .type "int", .type "bool", false, rfl, .ty _, .base (.int i), kit_ty (by decide +kernel), false, rfl, q⟩
def sp_are_numbers (K : PySem.W.Frag) (cs : CS) : Sp := fun vs H Q E => ∃ (a : Addr) (ns : List Int), vs = [.ref a] ∧ SqT K H a (ns.map V.int) ∧ ns.length < 1000 ∧ ∀ H', Same H H' → Q (.bl true) H'
theorem ok_are_numbers (F : Fun K "are_numbers" "are_numbers" s_are_numbers f fd) (T : Txt P w K mg base cs) (c_is_number : Cal P w K mg base CX0 1 "is_number" ["thing"] s_is_number (sp_is_number K cs)) : FnOk P w K mg base CX0 2 f fd ["thing"] (sp_are_numbers K cs) := by
  refine F.ok sc_are_numbers (fun vs H Q E h => ?_) (fun cdv A outer s H vs Q E hr h => ?_)
  · obtain ⟨a, ns, rfl, _⟩ := h
    rfl
  obtain ⟨a, ns, rfl, hS, hl, q⟩ := h
  refine ⟨_, (pss_one (ps_ret (pe_and (pe_callB (isI K) (by rfl) T.n_isinstance (by decide +kernel) (pa_cons (pv 0) (pa_cons (pe_ty (T := "tuple") (by rfl) T.n_tuple (by decide +kernel)) pa_nil))) (pe_one (pe_callB (allL K rfl) (by rfl) T.n_all (by decide +kernel) (pa_cons (pe_lc (own := [("part", 1)]) rfl sc_are_numbers.nd (piT K (pv 0)) (blkOk_by (own := [("part", 1)]) (N := ["thing", "part"]) (sc := defScope s_are_numbers) (by decide +kernel)) (fun _ _ _ _ _ => (pg_name (i := 1) sc_are_numbers.nd rfl (Or.inl rfl))) (fun _ _ _ _ _ => pts_nil) (fun _ _ _ _ _ => (pe_cal c_is_number (hr.mono (by decide)) pass0 (pa_cons (pv 1) pa_nil)))) pa_nil)))))), ?_⟩
  refine ⟨.ref a, rfl, .ref a, .ty "tuple", .type "tuple", .type "tuple", true, rfl, .ty _, tyT hS, kit_ty (by decide +kernel), true, rfl, iteT ?_⟩
  refine ⟨.ref a, rfl, a, rfl, ⟨_, hS⟩, fun D nD => ?_⟩
  refine lc_rd (fun k => .int (ns.getD k 0)) walk_tup yInt (fun _ v _ => v = .bl true) nD (by rw [List.length_map]; omega) (fun _ => rfl) (fun H' s => s.tup hS) (fun _ _ _ _ _ h => h) (fun k hk H' Q' s h => ?_) (fun xs H' hx hD s hv => ?_) (fun _ _ _ _ _ h _ => h)
  · exact ⟨_, rfl, _, rfl, h _ _ (Same.refl _) rfl⟩
  · refine ⟨D, List.replicate xs.length true, rfl, SqL.of (by rw [hD, ← all_bl hv]), ?_⟩
    rw [all_true]
    exact q _ s
def sp_is_pair (K : PySem.W.Frag) (cs : CS) : Sp := fun vs H Q E => ∃ (a : Addr) (x y : Int), vs = [.ref a] ∧ SqT K H a ([x, y].map V.int) ∧ ∀ H', Same H H' → Q (.bl true) H'
theorem ok_is_pair (F : Fun K "is_pair" "is_pair" s_is_pair f fd) (T : Txt P w K mg base cs) (c_are_numbers : Cal P w K mg base CX0 2 "are_numbers" ["thing"] s_are_numbers (sp_are_numbers K cs)) : FnOk P w K mg base CX0 3 f fd ["thing"] (sp_is_pair K cs) := by
  refine F.ok sc_is_pair (fun vs H Q E h => ?_) (fun cdv A outer s H vs Q E hr h => ?_)
  · obtain ⟨a, x, y, rfl, _⟩ := h
    rfl
  obtain ⟨a, x, y, rfl, hS, q⟩ := h
  refine ⟨_, (pss_one (ps_ret (pe_and (pe_cal c_are_numbers (hr.mono (by decide)) pass0 (pa_cons (pv 0) pa_nil)) (pe_one (pe_cmpR op_eq (pe_callB (lenS K) (by rfl) T.n_len PySem.boot_len (pa_cons (pv 0) pa_nil)) pe_int (nomark _)))))), ?_⟩
  refine ⟨.ref a, rfl, a, [x, y], rfl, hS, by show 2 < 1000; decide, fun H1 s1 => ⟨true, rfl, iteT ?_⟩⟩
  refine ⟨.ref a, rfl, a, _, rfl, .inr (s1.tup hS), rfl, ?_⟩
  have e : decide (V.int (([x, y].map V.int).length : Nat) = V.int 2) = true := by simp
  rw [e]
  exact q _ s1
theorem mk_tb {H : Hp} {r : Addr} {rows : List (List Int)} {Q : VK} (hr : TT K H r rows) (q : ∀ x H2, Same H H2 → TB K cs.Table H2 x rows → Q (.ref x) H2) : ∀ x dx, H x = none → H dx = none → dx ≠ x →
    sp_Table_init K cs (.ref x :: ([.ref r] ++ [])) (upd (upd H dx (.own x)) x (.ins cs.Table dx [])) (fun v H2 => v = .non ∧ Q (.ref x) H2) E0 := by
  intro x dx nx ndx ne
  obtain ⟨ws, hS, hl, _⟩ := hr.seq
  have s1 : Same H (upd (upd H dx (.own x)) x (.ins cs.Table dx [])) := (Same.new ndx).mut nx
  refine ⟨x, dx, r, ws, rfl, upd_same, s1.tup hS, fun H' h1 h2 => ⟨rfl, ?_⟩⟩
  have s2 : Same H H' := fun b o e => by
    rw [h2 b (ne_of_none e nx)]
    exact s1 b o e
  refine q x H' s2 ⟨dx, r, ?_, hr.same s2⟩
  rw [h1, hl]
def sp_climb_fault (K : PySem.W.Frag) (cs : CS) : Sp := fun vs H Q E => ∃ (a : Addr) (ns : List Int) (m : Int), vs = [.ref a, .int m] ∧ SqT K H a (ns.map V.int) ∧ ((∀ i, okAt ns m i) → ∀ H', Same H H' → Q .non H') ∧ (∀ i : Nat, i < ns.length → ¬ okAt ns m i → (∀ j, j < i → okAt ns m j) → ∀ H', Same H H' → Q (.int (i : Nat)) H')
theorem ok_climb_fault (F : Fun K "climb_fault" "climb_fault" s_climb_fault f fd) (T : Txt P w K mg base cs)  : FnOk P w K mg base CX0 1 f fd ["numbers", "many"] (sp_climb_fault K cs) := by
  refine F.ok sc_climb_fault (fun vs H Q E h => ?_) (fun cdv A outer s H vs Q E hr h => ?_)
  · obtain ⟨a, ns, m, rfl, _⟩ := h
    rfl
  obtain ⟨a, ns, m, rfl, hS, qn, qi⟩ := h
  refine ⟨_, (pss_cons (ps_for PassesOwn.never rfl (pi_enumT (by rfl) T.n_enumerate (pa_cons (pv 0) pa_nil)) (pg_tup rfl (pgs_cons (pg_name (i := 2) sc_climb_fault.nd rfl (Or.inl rfl)) (pgs_cons (pg_name (i := 3) sc_climb_fault.nd rfl (Or.inl rfl)) pgs_nil))) (pss_cons (ps_if (pt_not (pt_chain op_le op_lt pe_int (pv 3) (pv 1))) (pss_one (ps_ret (pv 2))) pss_nil)
      (pss_one (ps_if (PW.pt (pw_and (pt_cmpR op_gt (pv 2) pe_int (nomark _)) (pw_and1 (pt_cmpR op_le (pv 3) (pe_ix (ixT K) (pv 0) (pe_op op_sub (pv 2) pe_int) (fun _ _ => rfl)) (nomark _))))) (pss_one (ps_ret (pv 2))) pss_nil))))
      (pss_one (ps_ret pe_non))), ?_⟩
  refine ⟨.ref a, rfl, a, _, rfl, hS, for_it walk_enumT (fun i σ H' => (∃ y1 y2, σ = [some (.ref a), some (.int m), y1, y2]) ∧ Same H H' ∧ ∀ j, j < i → okAt ns m j) ⟨⟨_, _, rfl⟩, Same.refl _, fun j hj => absurd hj (by omega)⟩ (fun i σ H' _ h => Same.tup h.2.1 hS) ?_ ?_⟩
  · rintro i x σ H1 H2 hi ⟨⟨y1, y2, rfl⟩, sm, ok⟩ ⟨Tt, x1, x2, rfl, nT, rfl, f1, f2⟩
    obtain ⟨hi2, rfl⟩ := num_map i ns x2 f2
    cases Option.some.inj f1
    have sm2 := sm.trans (Same.new (o := .tup [.int (i : Nat), .int ns[i]]) nT)
    refine ⟨Tt, _, rfl, .inl (.inl upd_same), rfl, _, _, rfl, _, _, rfl, rfl, ?_⟩
    by_cases c1 : 0 ≤ ns[i] ∧ ns[i] < m
    · refine ⟨_, rfl, 0, _, rfl, rfl, _, rfl, itT (decide_eq_true c1.1) ⟨_, rfl, _, _, rfl, rfl, _, rfl, ?_⟩⟩
      rw [decide_eq_true c1.2]
      refine iteF ?_
      by_cases c2 : 0 < i
      · refine ⟨_, rfl, _, 0, rfl, rfl, _, rfl, itT (decide_eq_true (by omega)) ?_⟩
        have g : (ns.map V.int)[i - 1]? = some (.int (ns[i - 1]'(by omega))) := by
          rw [List.getElem?_map, List.getElem?_eq_getElem (by omega)]
          rfl
        refine ⟨_, rfl, .ref a, rfl, _, rfl, _, 1, rfl, rfl, a, _, _, _, rfl, rfl, sm2.tup hS, atN (j := i - 1) g (by omega), _, _, rfl, rfl, _, rfl, ?_⟩
        by_cases c3 : ns[i] ≤ ns[i - 1]'(by omega)
        · refine itT (decide_eq_true c3) ?_
          refine ⟨_, rfl, qi i hi2 (fun z => ?_) ok _ sm2⟩
          have := (z ns[i] (List.getElem?_eq_getElem hi2)).2 _ c2 (List.getElem?_eq_getElem (by omega))
          omega
        · refine itF (decide_eq_false c3) ?_
          refine ⟨⟨_, _, rfl⟩, sm2, fun j hj => ?_⟩
          by_cases e : j < i
          · exact ok j e
          · obtain rfl : j = i := by omega
            intro c hc
            rw [List.getElem?_eq_getElem hi2] at hc
            cases Option.some.inj hc
            refine ⟨c1, fun d _ hd => ?_⟩
            rw [List.getElem?_eq_getElem (by omega)] at hd
            cases Option.some.inj hd
            omega
      · refine ⟨_, rfl, _, 0, rfl, rfl, _, rfl, itF (decide_eq_false (by omega)) ?_⟩
        refine iteF ?_
        refine ⟨⟨_, _, rfl⟩, sm2, fun j hj => ?_⟩
        obtain rfl : i = 0 := by omega
        obtain rfl : j = 0 := by omega
        intro c hc
        rw [List.getElem?_eq_getElem hi2] at hc
        cases Option.some.inj hc
        exact ⟨c1, fun d hd => absurd hd (by omega)⟩
    · have bad : ¬ okAt ns m i := fun z => c1 (z ns[i] (List.getElem?_eq_getElem hi2)).1
      by_cases c0 : 0 ≤ ns[i]
      · refine ⟨_, rfl, 0, _, rfl, rfl, _, rfl, itT (decide_eq_true c0) ⟨_, rfl, _, _, rfl, rfl, _, rfl, ?_⟩⟩
        rw [decide_eq_false (fun z => c1 ⟨c0, z⟩)]
        refine iteT ?_
        exact ⟨_, rfl, qi i hi2 bad ok _ sm2⟩
      · refine ⟨_, rfl, 0, _, rfl, rfl, _, rfl, itF (decide_eq_false c0) ?_⟩
        refine ⟨_, rfl, ?_⟩
        refine iteT ?_
        exact ⟨_, rfl, qi i hi2 bad ok _ sm2⟩
  · rintro σ H' ⟨_, sm, ok⟩
    rw [List.length_map] at ok
    exact qn (fun i c hc => by
      have := (List.getElem?_eq_some_iff.mp hc).1
      exact ok i this c hc) _ sm
def sp_made_table (K : PySem.W.Frag) (cs : CS) : Sp := fun vs H Q E => ∃ (r : Addr) (rows : List (List Int)), vs = [.ref r] ∧ TT K H r rows ∧ GoodT rows ∧ ∀ t H', Same H H' → TB K cs.Table H' t rows → Q (.ref t) H'
theorem ok_made_table (F : Fun K "made_table" "made_table" s_made_table f fd) (T : Txt P w K mg base cs) (c_climb_fault : Cal P w K mg base CX0 1 "climb_fault" ["numbers", "many"] s_climb_fault (sp_climb_fault K cs)) : FnOk P w K mg base CX0 3 f fd ["rows"] (sp_made_table K cs) := by
  refine F.ok sc_made_table (fun vs H Q E h => ?_) (fun cdv A outer s H vs Q E hr h => ?_)
  · obtain ⟨r, rows, rfl, _⟩ := h
    rfl
  obtain ⟨r, rows, rfl, hT, gT, q⟩ := h
  obtain ⟨ws, hS, hl, hget⟩ := hT.seq
  have n1 := gT.n1
  have n8 := gT.n8
  obtain ⟨t8, h8⟩ := T.g_MOST_COATS
  refine ⟨_, (pss_cons (ps_if (pt_not (pt_chain op_le op_le pe_int (pe_callB (lenS K) (by rfl) T.n_len PySem.boot_len (pa_cons (pv 0) pa_nil)) (pe_gint rfl T.g_MOST_COATS))) (pss_one ps_never) pss_nil)
      (pss_cons (ps_for PassesOwn.never rfl (pi_enumT (by rfl) T.n_enumerate (pa_cons (pv 0) pa_nil)) (pg_tup rfl (pgs_cons (pg_name (i := 1) sc_made_table.nd rfl (Or.inr rfl)) (pgs_cons (pg_name (i := 2) sc_made_table.nd rfl (Or.inl rfl)) pgs_nil))) (pss_one (ps_if (pt_cmpR op_notN (pe_cal c_climb_fault (hr.mono (by decide)) pass0 (pa_cons (pv 2) (pa_cons (pe_callB (lenS K) (by rfl) T.n_len PySem.boot_len (pa_cons (pv 0) pa_nil)) pa_nil))) pe_non (nomark _)) (pss_one ps_never) pss_nil)))
      (pss_cons (ps_for PassesOwn.never rfl (pi_enumT (by rfl) T.n_enumerate (pa_cons (pv 0) pa_nil)) (pg_tup rfl (pgs_cons (pg_name (i := 1) sc_made_table.nd rfl (Or.inr rfl)) (pgs_cons (pg_name (i := 2) sc_made_table.nd rfl (Or.inl rfl)) pgs_nil))) (pss_one (ps_if (pt_not (pt_val (pe_callB (allL K rfl) (by rfl) T.n_all (by decide +kernel) (pa_cons (pe_lc (own := [("road", 3)]) rfl sc_made_table.nd (piT K (pv 2)) (blkOk_by (own := [("road", 3)]) (N := ["rows", "coat", "roads", "road"]) (sc := defScope s_made_table) (by decide +kernel)) (fun _ _ _ _ _ => (pg_name (i := 3) sc_made_table.nd rfl (Or.inl rfl))) (fun _ _ _ _ _ => pts_nil) (fun _ _ _ _ _ => (pe_cmpR (inS K) (pv 1) (pe_ix (ixT K) (pv 0) (pv 3) (fun _ _ => rfl)) rfl))) pa_nil)))) (pss_one ps_never) pss_nil)))
      (pss_one (ps_ret (pe_mk T.t_Table (hr.mono (by decide)) (pa_cons (pv 0) pa_nil))))))), ?_⟩
  refine ⟨.ref r, rfl, r, _, rfl, .inr hS, _, _, rfl, rfl, _, rfl, itT (decide_eq_true (by omega)) ⟨_, _, rfl, rfl, _, rfl, ?_⟩⟩
  rw [decide_eq_true (show (ws.length : Int) ≤ 8 by omega)]
  refine iteF ?_
  refine ⟨.ref r, rfl, r, _, rfl, hS, for_it walk_enumT (fun i σ H' => (∃ y1 y2, σ = [some (.ref r), y1, y2, none]) ∧ Same H H') ⟨⟨_, _, rfl⟩, Same.refl _⟩ (fun i σ H' _ h => Same.tup h.2 hS) ?_ ?_⟩
  · rintro i x σ H1 H2 hi ⟨⟨y1, y2, rfl⟩, sm⟩ ⟨Tt, x1, x2, rfl, nT, rfl, f1, f2⟩
    have hi2 : i < rows.length := by omega
    obtain ⟨b, hb, hbs⟩ := hget i rows[i] (List.getElem?_eq_getElem hi2)
    cases Option.some.inj (hb.symm.trans f2)
    cases Option.some.inj f1
    have sm2 := sm.trans (Same.new (o := .tup [.int (i : Nat), .ref b]) nT)
    refine ⟨Tt, _, rfl, .inl (.inl upd_same), rfl, _, _, rfl, _, _, rfl, rfl, ?_⟩
    refine ⟨.ref b, rfl, .ref r, rfl, r, _, rfl, .inr (sm2.tup hS), ?_⟩
    refine ⟨b, rows[i], _, rfl, sm2.tup hbs, fun _ H3 s3 => ⟨rfl, _, rfl, iteF ⟨⟨_, _, rfl⟩, sm2.trans s3⟩⟩, fun j hj bad _ _ _ => ?_⟩
    rw [hl] at bad
    exact absurd (gT.asc _ (List.getElem_mem hi2) j) bad
  rintro σ H1 ⟨⟨y1, y2, rfl⟩, sm⟩
  refine ⟨.ref r, rfl, r, _, rfl, sm.tup hS, for_it walk_enumT (fun i σ H' => (∃ y1 y2, σ = [some (.ref r), y1, y2, none]) ∧ Same H H') ⟨⟨_, _, rfl⟩, sm⟩ (fun i σ H' _ h => Same.tup h.2 hS) ?_ ?_⟩
  · rintro i x σ H2 H3 hi ⟨⟨y1, y2, rfl⟩, sm⟩ ⟨Tt, x1, x2, rfl, nT, rfl, f1, f2⟩
    have hi2 : i < rows.length := by omega
    obtain ⟨b, hb, hbs⟩ := hget i rows[i] (List.getElem?_eq_getElem hi2)
    cases Option.some.inj (hb.symm.trans f2)
    cases Option.some.inj f1
    have sm2 := sm.trans (Same.new (o := .tup [.int (i : Nat), .ref b]) nT)
    refine ⟨Tt, _, rfl, .inl (.inl upd_same), rfl, _, _, rfl, _, _, rfl, rfl, ?_⟩
    refine ⟨.ref b, rfl, b, rfl, ⟨_, sm2.tup hbs⟩, fun D nD => ?_⟩
    have hrow : rows[i] ∈ rows := List.getElem_mem hi2
    refine lc_rd (fun k => .int (rows[i].getD k 0)) walk_tup yInt (fun _ v _ => v = .bl true) nD ?_ (fun _ => rfl) (fun H' s => (sm2.trans s).tup hbs) (fun _ _ _ _ _ h => h) (fun k hk H' Q' s h => ?_) (fun xs H' hx hD s hv => ?_) (fun _ _ _ _ _ h _ => h)
    · rw [List.length_map]
      have := asc_len gT hrow
      omega
    · rw [List.length_map] at hk
      have hm := getD_in hk
      obtain ⟨row', hr1, hr2⟩ := gT.sym i rows[i] (List.getElem?_eq_getElem hi2) _ hm
      obtain ⟨b', hb', hbs'⟩ := hget _ row' hr1
      have hc := gT.lt hrow hm
      have sm3 := sm2.trans s
      refine ⟨_, rfl, .ref r, rfl, _, rfl, r, ws, _, .ref b', rfl, rfl, sm3.tup hS, atN hb' (by omega), b', row'.map V.int, rfl, .inr (sm3.tup hbs'), rfl, flat_ints _, ?_⟩
      refine h _ _ (Same.refl _) ?_
      rw [inV_int hr2]
      rfl
    · refine ⟨D, List.replicate xs.length true, rfl, SqL.of (by rw [hD, ← all_bl hv]), true, ?_, iteF ⟨⟨_, _, rfl⟩, sm2.trans s⟩⟩
      rw [all_true]
  · rintro σ H2 ⟨⟨y1, y2, rfl⟩, sm⟩
    exact ⟨.ref r, rfl, mk_tb (hT.same sm) fun x H3 s3 h3 => q x H3 (sm.trans s3) h3⟩
def sp_is_thread (K : PySem.W.Frag) (cs : CS) : Sp := fun vs H Q E => ∃ (a : Addr) (x y n : Int), vs = [.ref a, .int n] ∧ SqT K H a ([x, y].map V.int) ∧ 0 ≤ x ∧ x < y ∧ y < n ∧ ∀ H', Same H H' → Q (.bl true) H'
theorem ok_is_thread (F : Fun K "is_thread" "is_thread" s_is_thread f fd) (T : Txt P w K mg base cs) (c_is_pair : Cal P w K mg base CX0 3 "is_pair" ["thing"] s_is_pair (sp_is_pair K cs)) : FnOk P w K mg base CX0 4 f fd ["thread", "many"] (sp_is_thread K cs) := by
  refine F.ok sc_is_thread (fun vs H Q E h => ?_) (fun cdv A outer s H vs Q E hr h => ?_)
  · obtain ⟨a, x, y, n, rfl, _⟩ := h
    rfl
  obtain ⟨a, x, y, n, rfl, hS, h0, h1, h2, q⟩ := h
  refine ⟨_, (pss_one (ps_ret (pe_and (pe_cal c_is_pair (hr.mono (by decide)) pass0 (pa_cons (pv 0) pa_nil)) (pe_one (pe_chain3 op_le op_lt op_lt pe_int (pe_ix (ixT K) (pv 0) pe_int (fun _ _ => rfl)) (pe_ix (ixT K) (pv 0) pe_int (fun _ _ => rfl)) (pv 1)))))), ?_⟩
  refine ⟨.ref a, rfl, a, x, y, rfl, hS, fun H1 s1 => ⟨true, rfl, iteT ?_⟩⟩
  have hS1 := s1.tup hS
  refine ⟨.ref a, rfl, a, _, 0, .int x, rfl, rfl, hS1, atI0, 0, x, rfl, rfl, _, rfl, itT (decide_eq_true h0) ⟨.ref a, rfl, a, _, 1, .int y, rfl, rfl, hS1, atI1, _, _, rfl, rfl, _, rfl, itT (decide_eq_true h1) ⟨_, rfl, _, _, rfl, rfl, ?_⟩⟩⟩
  have := q _ s1
  rw [← decide_eq_true h2] at this
  exact this
def sp_come_to (K : PySem.W.Frag) (cs : CS) : Sp := fun vs H Q E => ∃ (t : Addr) (n : Nat) (ths : List (Int × Int)) (x : Nat), vs = [.ref t, .int (x : Nat)] ∧ NB K cs.Net H t n ths ∧ n ≤ 24 ∧ InN n ths ∧ x < n ∧ ∀ (d : Addr) (ord : List (Int × Int)) (H' : Hp), H d = none → Same H H' → H' d = some (.dK (kvOf ord)) → Ord ths (x : Nat) ord → Q (.ref d) H'
theorem ok_come_to (F : Fun K "come_to" "come_to" s_come_to f fd) (T : Txt P w K mg base cs)  : FnOk P w K mg base CX0 1 f fd ["net", "x"] (sp_come_to K cs) := by
  refine F.ok sc_come_to (fun vs H Q E h => ?_) (fun cdv A outer s H vs Q E hr h => ?_)
  · obtain ⟨t, n, ths, x, rfl, _⟩ := h
    rfl
  obtain ⟨t, n, ths, x, rfl, ⟨dx, r, s, nrs, ht, hT, hN, hOk⟩, n24, hin, hx, q⟩ := h
  obtain ⟨ws, hS, hl, hget⟩ := hN.seq
  refine ⟨_, (pss_cons (ps_set (i := 2) sc_come_to.nd rfl (Or.inl rfl) (pe_disp (pps_cons (pv 1) (pe_un un_neg pe_int) pps_nil) rfl rfl (by decide) (by decide)))
      (pss_cons (ps_set (i := 3) sc_come_to.nd rfl (Or.inl rfl) (pe_lst (pa_cons (pv 1) pa_nil)))
      (pss_cons (ps_set (i := 4) sc_come_to.nd rfl (Or.inl rfl) pe_int)
      (pss_cons (ps_while PassesOwn.never (pt_cmpR op_lt (pv 4) (pe_callB (lenS K) (by rfl) T.n_len PySem.boot_len (pa_cons (pv 3) pa_nil)) (nomark _)) (pss_cons (ps_set (i := 5) sc_come_to.nd rfl (Or.inl rfl) (pe_ix (ixL K) (pv 3) (pv 4) (fun _ _ => rfl)))
      (pss_cons (ps_for PassesOwn.never rfl (piT K (pe_ix (ixT K) (peF K (pv 0)) (pv 5) (fun _ _ => rfl))) (pg_name (i := 6) sc_come_to.nd rfl (Or.inl rfl)) (pss_one (ps_if (pt_cmp (pc_dnotin (hu1 hr) (pv 6) (pv 2))) (pss_cons (ps_dput (hu1 hr) (pv 2) (pv 6) (pv 5) rfl)
      (pss_one (ps_expr (pe_bm PySem.F.plainAttrs_list PySem.F.slot_list_append PySem.F.type_list_append mt_append (pv 3) (pa_cons (pv 6) pa_nil))))) pss_nil)))
      (pss_one (ps_aug (i := 4) sc_come_to.nd rfl (Or.inl rfl) pe_int ip_add)))))
      (pss_one (ps_ret (pv 2))))))), ?_⟩
  refine fun d nd => ⟨_, rfl, 1, rfl, upd_same, [(.inl (x : Int), .int (-1))], rfl, by show 1 ≤ 15; decide, ?_⟩
  have hd0 : upd (upd H d (.dK [])) d (.dK (mergeK [] [(.inl (x : Int), .int (-1))])) d = some (.dK (kvOf [((x : Int), -1)])) := upd_same
  have sd0 : Same H (upd (upd H d (.dK [])) d (.dK (mergeK [] [(.inl (x : Int), .int (-1))]))) := (Same.new nd).mut nd
  generalize upd (upd H d (.dK [])) d (.dK (mergeK [] [(.inl (x : Int), .int (-1))])) = H0 at hd0 sd0
  refine ⟨_, rfl, by show 1 ≤ sizeLine; decide, fun l nl => ?_⟩
  have nlH := sd0.free nl
  have ndl : d ≠ l := fun z => by rw [← z, hd0] at nl; cases nl
  refine ⟨fun m σ H' => ∃ (ord : List (Int × Int)) (at_ : Nat) (y5 y6 : Option V), σ = [some (.ref t), some (.int (x : Nat)), some (.ref d), some (.ref l), some (.int (at_ : Nat)), y5, y6] ∧ m = n - at_ ∧ Same H H' ∧ Bfs ths x n ord at_ ∧ H' d = some (.dK (kvOf ord)) ∧ H' l = some (.lst ((ord.map (·.1)).map V.int)),
    ⟨_, [((x : Int), -1)], 0, none, none, rfl, rfl, sd0.trans (Same.new nl), Bfs.start hx, by rw [upd_ne ndl]; exact hd0, upd_same⟩, ?_⟩
  rintro m σ H1 ⟨ord, a0, y5, y6, rfl, rfl, sm, hB, hd, hlo⟩
  have hlen := hB.size
  refine ⟨_, rfl, .ref l, rfl, l, _, rfl, .inl (SqL.of hlo), _, _, rfl, rfl, _, rfl, ?_⟩
  by_cases c : a0 < ord.length
  · refine itT (decide_eq_true (by rw [List.length_map, List.length_map]; omega)) ?_
    obtain ⟨p0, p1⟩ := hB.rng _ (List.getElem_mem c)
    have g1 : ((ord.map (·.1)).map V.int)[a0]? = some (.int ord[a0].1) := by rw [List.getElem?_map, List.getElem?_map, List.getElem?_eq_getElem c]; rfl
    have hi : ord[a0].1.toNat < nrs.length := by rw [hOk.len]; omega
    have hrow : nrs[ord[a0].1.toNat]? = some nrs[ord[a0].1.toNat] := List.getElem?_eq_getElem hi
    obtain ⟨b, hb, hbs⟩ := hget _ _ hrow
    have hm := hOk.mem _ _ hrow
    rw [show ((ord[a0].1.toNat : Nat) : Int) = ord[a0].1 by omega] at hm
    generalize nrs[ord[a0].1.toNat] = row at hrow hbs hm
    refine ⟨fun σ' H' => ∃ m', m' < n - a0 ∧ ∃ (ord : List (Int × Int)) (at_ : Nat) (y5 y6 : Option V), σ' = [some (.ref t), some (.int (x : Nat)), some (.ref d), some (.ref l), some (.int (at_ : Nat)), y5, y6] ∧ m' = n - at_ ∧ Same H H' ∧ Bfs ths x n ord at_ ∧ H' d = some (.dK (kvOf ord)) ∧ H' l = some (.lst ((ord.map (·.1)).map V.int)), fun σ' H' h => h, ?_⟩
    refine ⟨.ref l, rfl, _, rfl, l, _, _, _, rfl, rfl, SqL.of hlo, atN g1 rfl, ?_⟩
    refine ⟨.ref t, rfl, t, _, dx, _, .ref s, rfl, sm _ _ ht, T.cl_Net, T.na_Net_near, rfl, _, rfl, s, ws, _, .ref b, rfl, rfl, sm.tup hS, atN hb (by omega), b, rfl, ⟨_, sm.tup hbs⟩, ?_⟩
    refine for_tup (xs := row.map V.int) (fun k σ H' => ∃ (ex : List (Int × Int)) (y6 : Option V), σ = [some (.ref t), some (.int (x : Nat)), some (.ref d), some (.ref l), some (.int (a0 : Nat)), some (.int ord[a0].1), y6] ∧ Same H H' ∧ Bfs ths x n (ord ++ ex) a0 ∧ (∀ c ∈ row.take k, c ∈ (ord ++ ex).map (·.1)) ∧ H' d = some (.dK (kvOf (ord ++ ex))) ∧ H' l = some (.lst (((ord ++ ex).map (·.1)).map V.int))) ⟨[], y6, rfl, sm, by rw [List.append_nil]; exact hB, fun c hc => (by rw [List.take_zero] at hc; cases hc), by rw [List.append_nil]; exact hd, by rw [List.append_nil]; exact hlo⟩ (fun k σ H' _ h => by
      obtain ⟨_, _, _, s, _⟩ := h
      exact s.tup hbs) ?_ ?_
    · rintro k z σ H2 hk ⟨ex, y6, rfl, s2, hB2, hcl, hd2, hl2⟩
      obtain ⟨hk2, rfl⟩ := num_map k row z hk
      have hz := (hm row[k]).mp (List.getElem_mem hk2)
      have hlen2 := hB2.size
      have hkl : (kvOf (ord ++ ex)).length ≤ n := by unfold kvOf; rw [List.length_map]; exact hlen2
      refine ⟨_, rfl, .ref d, rfl, d, _, rfl, .inl ⟨_, .inl row[k], .inl hd2, rfl, rfl⟩, _, rfl, ?_⟩
      rw [valV_of]
      by_cases cm : row[k] ∈ (ord ++ ex).map (·.1)
      · rw [decide_eq_true cm]
        refine iteF ⟨ex, _, rfl, s2, hB2, fun c hc => ?_, hd2, hl2⟩
        rw [List.take_add_one, List.getElem?_eq_getElem hk2] at hc
        rcases List.mem_append.mp hc with hc | hc
        · exact hcl c hc
        · have : c = row[k] := by simpa using hc
          rw [this]; exact cm
      · rw [decide_eq_false cm]
        refine iteT ?_
        have hnew : valV (kvOf (ord ++ ex)) (.inl row[k]) = none := by
          have := valV_of (p := row[k]) (ord := ord ++ ex)
          rw [decide_eq_false cm] at this
          exact Option.isSome_eq_false_iff.mp this |> Option.isNone_iff_eq_none.mp
        have ndl2 : l ≠ d := ndl.symm
        refine ⟨_, rfl, .ref d, rfl, _, rfl, d, _, rfl, .inl ⟨_, .inl row[k], hd2, rfl, smallLt (by omega), rfl⟩, ?_⟩
        refine ⟨.ref l, rfl, .inl ⟨rfl, _, SqL.of (by rw [upd_ne ndl2]; exact hl2)⟩, _, rfl, l, _, _, rfl, rfl, by rw [upd_ne ndl2]; exact hl2, smallLt (by rw [List.length_map, List.length_map]; omega), ?_⟩
        refine ⟨ex ++ [(row[k], ord[a0].1)], _, rfl, (s2.mut nd).mut nlH, ?_, fun c hc => ?_, ?_, ?_⟩
        · rw [← List.append_assoc]
          exact hB2.snoc cm (by rw [List.length_append]; omega) (by rw [List.getElem?_append_left c, List.getElem?_eq_getElem c]) hz (adj_lt hin hz)
        · rw [← List.append_assoc, List.map_append]
          rw [List.take_add_one, List.getElem?_eq_getElem hk2] at hc
          rcases List.mem_append.mp hc with hc | hc
          · exact List.mem_append_left _ (hcl c hc)
          · have : c = row[k] := by simpa using hc
            rw [this]
            exact List.mem_append_right _ (List.mem_singleton_self _)
        · rw [upd_ne ndl, upd_same, putK_new _ hnew, ← List.append_assoc]
          unfold kvOf
          rw [List.map_append (l₁ := ord ++ ex)]
          rfl
        · rw [upd_same, ← snocV, ← List.append_assoc, List.map_append (l₁ := ord ++ ex)]
          rfl
    · rintro σ H2 ⟨ex, y6, rfl, s2, hB2, hcl, hd2, hl2⟩
      rw [List.length_map, List.take_length] at hcl
      refine ⟨_, rfl, _, _, rfl, rfl, ?_⟩
      refine ⟨n - (a0 + 1), by omega, ord ++ ex, a0 + 1, _, _, rfl, rfl, s2, ?_, hd2, hl2⟩
      refine hB2.next (fun e he c' hc' => ?_) (by rw [List.length_append]; omega)
      rw [List.getElem?_append_left c, List.getElem?_eq_getElem c] at he
      cases Option.some.inj he
      exact hcl c' ((hm c').mpr hc')
  · refine itF (decide_eq_false (by rw [List.length_map, List.length_map]; omega)) ?_
    exact ⟨.ref d, rfl, q d ord H1 nd sm hd (hB.fin (by omega))⟩
theorem mk_nb {H : Hp} {r : Addr} {n : Nat} {ths : List (Int × Int)} {Q : VK} (hr : TT K H r (thR ths)) (g : GoodN n ths) (q : ∀ x H2, Same H H2 → NB K cs.Net H2 x n ths → Q (.ref x) H2) : ∀ x dx, H x = none → H dx = none → dx ≠ x →
    sp_Net_init K cs (.ref x :: ([.int (n : Nat), .ref r] ++ [])) (upd (upd H dx (.own x)) x (.ins cs.Net dx [])) (fun v H2 => v = .non ∧ Q (.ref x) H2) E0 := by
  intro x dx nx ndx ne
  have s1 : Same H (upd (upd H dx (.own x)) x (.ins cs.Net dx [])) := (Same.new ndx).mut nx
  refine ⟨x, dx, r, n, ths, rfl, upd_same, hr.same s1, g.n24, g.len, g.nodup, g.rng, fun s nrs H' hO h1 h2 h3 => ⟨rfl, ?_⟩⟩
  have s2 : Same H H' := fun b o e => h2 b o (ne_of_none e nx) (s1 b o e)
  exact q x H' s2 ⟨dx, r, s, nrs, h1, hr.same s2, h3, hO⟩
def sp_made_net (K : PySem.W.Frag) (cs : CS) : Sp := fun vs H Q E => ∃ (r : Addr) (n : Nat) (ths : List (Int × Int)), vs = [.int (n : Nat), .ref r] ∧ TT K H r (thR ths) ∧ GoodN n ths ∧ ∀ t H', Same H H' → NB K cs.Net H' t n ths → Q (.ref t) H'
theorem ok_made_net (F : Fun K "made_net" "made_net" s_made_net f fd) (T : Txt P w K mg base cs) (c_is_thread : Cal P w K mg base CX0 4 "is_thread" ["thread", "many"] s_is_thread (sp_is_thread K cs)) (c_come_to : Cal P w K mg base CX0 1 "come_to" ["net", "x"] s_come_to (sp_come_to K cs)) : FnOk P w K mg base CX0 5 f fd ["many", "threads"] (sp_made_net K cs) := by
  refine F.ok sc_made_net (fun vs H Q E h => ?_) (fun cdv A outer s H vs Q E hr h => ?_)
  · obtain ⟨r, n, ths, rfl, _⟩ := h
    rfl
  obtain ⟨r, n, ths, rfl, hT, gN, q⟩ := h
  obtain ⟨ws, hS, hl, hget⟩ := hT.seq
  have hl2 : ws.length = ths.length := by rw [hl]; unfold thR; rw [List.length_map]
  have n1 := gN.n1
  have n24 := gN.n24
  have l60 := gN.len
  obtain ⟨tp, hp⟩ := T.g_MOST_PLACES
  obtain ⟨tt, ht⟩ := T.g_MOST_THREADS
  refine ⟨_, (pss_cons (ps_if (pt_not (pt_chain op_le op_le pe_int (pv 0) (pe_gint rfl T.g_MOST_PLACES))) (pss_one ps_never) pss_nil)
      (pss_cons (ps_if (pt_cmpR op_gt (pe_callB (lenS K) (by rfl) T.n_len PySem.boot_len (pa_cons (pv 1) pa_nil)) (pe_gint rfl T.g_MOST_THREADS) (nomark _)) (pss_one ps_never) pss_nil)
      (pss_cons (ps_for PassesOwn.never rfl (pi_enumT (by rfl) T.n_enumerate (pa_cons (pv 1) pa_nil)) (pg_tup rfl (pgs_cons (pg_name (i := 2) sc_made_net.nd rfl (Or.inl rfl)) (pgs_cons (pg_name (i := 3) sc_made_net.nd rfl (Or.inl rfl)) pgs_nil))) (pss_one (ps_if (PW.pt (pw_or (pt_not (pt_val (pe_cal c_is_thread (hr.mono (by decide)) pass0 (pa_cons (pv 3) (pa_cons (pv 0) pa_nil))))) (pw_or1 (PW.pt (pw_and (pt_cmpR op_gt (pv 2) pe_int (nomark _)) (pw_and1 (pt_cmpR (leT K (hu0 hr)) (pv 3) (pe_ix (ixT K) (pv 1) (pe_op op_sub (pv 2) pe_int) (fun _ _ => rfl)) (nomark _)))))))) (pss_one ps_never) pss_nil)))
      (pss_cons (ps_set (i := 4) sc_made_net.nd rfl (Or.inl rfl) (pe_mk T.t_Net (hr.mono (by decide)) (pa_cons (pv 0) (pa_cons (pv 1) pa_nil))))
      (pss_cons (ps_set (i := 5) sc_made_net.nd rfl (Or.inl rfl) (pe_cal c_come_to (hr.mono (by decide)) pass0 (pa_cons (pv 4) (pa_cons pe_int pa_nil))))
      (pss_cons (ps_for PassesOwn.never rfl (pi_range1 (by rfl) T.n_range (pa_cons (pv 0) pa_nil)) (pg_name (i := 6) sc_made_net.nd rfl (Or.inl rfl)) (pss_one (ps_if (pt_cmp (pc_dnotin (hu1 hr) (pv 6) (pv 5))) (pss_one ps_never) pss_nil)))
      (pss_one (ps_ret (pv 4))))))))), ?_⟩
  refine ⟨_, rfl, 1, _, rfl, rfl, _, rfl, itT (decide_eq_true (by omega)) ⟨_, 24, rfl, rfl, _, rfl, ?_⟩⟩
  rw [decide_eq_true (show ((n : Nat) : Int) ≤ 24 by omega)]
  refine iteF ?_
  refine ⟨.ref r, rfl, r, _, rfl, .inr hS, _, _, rfl, rfl, _, rfl, itF (decide_eq_false (by omega)) ?_⟩
  refine ⟨.ref r, rfl, r, _, rfl, hS, for_it walk_enumT (fun i σ H' => (∃ y1 y2, σ = [some (.int (n : Nat)), some (.ref r), y1, y2, none, none, none]) ∧ Same H H') ⟨⟨_, _, rfl⟩, Same.refl _⟩ (fun i σ H' _ h => Same.tup h.2 hS) ?_ ?_⟩
  · rintro i x σ H1 H2 hi ⟨⟨y1, y2, rfl⟩, sm⟩ ⟨Tt, x1, x2, rfl, nT, rfl, f1, f2⟩
    have hi2 : i < ths.length := by omega
    obtain ⟨b, hb, hbs⟩ := hget i [ths[i].1, ths[i].2] (by unfold thR; rw [List.getElem?_map, List.getElem?_eq_getElem hi2]; rfl)
    cases Option.some.inj (hb.symm.trans f2)
    cases Option.some.inj f1
    obtain ⟨i0, i1, i2⟩ := gN.rng _ (List.getElem_mem hi2)
    have sm2 := sm.trans (Same.new (o := .tup [.int (i : Nat), .ref b]) nT)
    refine ⟨Tt, _, rfl, .inl (.inl upd_same), rfl, _, _, rfl, _, _, rfl, rfl, ?_⟩
    refine ⟨_, rfl, _, rfl, b, _, _, _, rfl, sm2.tup hbs, i0, i1, i2, fun H3 s3 => ⟨true, rfl, iteF ?_⟩⟩
    have sm3 := sm2.trans s3
    by_cases c : 0 < i
    · refine ⟨_, rfl, _, 0, rfl, rfl, _, rfl, itT (decide_eq_true (by omega)) ?_⟩
      obtain ⟨b2, hb2, hbs2⟩ := hget (i - 1) [(ths[i - 1]'(by omega)).1, (ths[i - 1]'(by omega)).2] (by unfold thR; rw [List.getElem?_map, List.getElem?_eq_getElem (by omega)]; rfl)
      have hlt := (List.pairwise_iff_getElem.mp gN.asc) (i - 1) i (by omega) hi2 (by omega)
      refine ⟨_, rfl, .ref r, rfl, _, rfl, _, 1, rfl, rfl, r, ws, _, .ref b2, rfl, rfl, sm3.tup hS, atN hb2 (by omega), b, b2, _, _, rfl, rfl, sm3.tup hbs, sm3.tup hbs2, _, rfl, ?_⟩
      exact itF (le2 hlt) ⟨⟨_, _, rfl⟩, sm3⟩
    · refine ⟨_, rfl, _, 0, rfl, rfl, _, rfl, itF (decide_eq_false (by omega)) ?_⟩
      exact iteF ⟨⟨_, _, rfl⟩, sm3⟩
  rintro σ H1 ⟨⟨y1, y2, rfl⟩, sm⟩
  dsimp only
  refine asgK (fun v H' => ∃ t, v = .ref t ∧ Same H1 H' ∧ NB K cs.Net H' t n ths) (fun R hR => ⟨_, rfl, .ref r, rfl, mk_nb (hT.same sm) gN fun t H2 s2 hB => hR _ _ ⟨t, rfl, s2, hB⟩⟩) ?_
  rintro v H2 ⟨t, rfl, s2, hB⟩
  refine ⟨_, rfl, t, n, ths, 0, rfl, hB, n24, gN.rng, n1, fun d ord H3 _ s3 hd ho => ?_⟩
  refine ⟨_, rfl, _, rfl, by omega, by omega, ?_⟩
  have e0 : ((n : Nat) : Int).toNat = n := Int.toNat_natCast _
  rw [e0]
  refine for_range (fun i σ H' => (∃ y6, σ = [some (.int (n : Nat)), some (.ref r), y1, y2, some (.ref t), some (.ref d), y6]) ∧ H' = H3) ⟨⟨_, rfl⟩, rfl⟩ ?_ ?_
  · rintro i σ H4 hi ⟨⟨y6, rfl⟩, rfl⟩
    refine ⟨_, rfl, .ref d, rfl, d, _, rfl, .inl ⟨_, .inl (0 + (i : Int)), .inl hd, rfl, rfl⟩, _, rfl, ?_⟩
    rw [valV_of, Int.zero_add, decide_eq_true (gN.con ord ho i hi)]
    exact iteF ⟨⟨_, rfl⟩, rfl⟩
  · rintro σ H4 ⟨⟨y6, rfl⟩, rfl⟩
    exact ⟨_, rfl, q t H4 ((sm.trans s2).trans s3) (hB.same s3)⟩
theorem mk_wb {H : Hp} {t m p : Addr} {rows : List (List Int)} {n : Nat} {ths : List (Int × Int)} {ps : List Int} {Q : VK} (ht : TB K cs.Table H t rows) (hm : NB K cs.Net H m n ths) (hp : SqT K H p (ps.map V.int)) (q : ∀ x H2, Same H H2 → WB K cs.Table cs.Net cs.World H2 x rows n ths ps → Q (.ref x) H2) : ∀ x dx, H x = none → H dx = none → dx ≠ x →
    sp_World_init K cs (.ref x :: ([.ref t, .ref m, .ref p] ++ [])) (upd (upd H dx (.own x)) x (.ins cs.World dx [])) (fun v H2 => v = .non ∧ Q (.ref x) H2) E0 := by
  intro x dx nx ndx ne
  have s1 : Same H (upd (upd H dx (.own x)) x (.ins cs.World dx [])) := (Same.new ndx).mut nx
  refine ⟨x, dx, t, m, p, ps, rfl, upd_same, s1.tup hp, fun H' h1 h2 => ⟨rfl, ?_⟩⟩
  have s2 : Same H H' := fun b o e => by
    rw [h2 b (ne_of_none e nx)]
    exact s1 b o e
  exact q x H' s2 ⟨dx, t, m, p, h1, ht.same s2, hm.same s2, s2.tup hp⟩
def sp_made_world (K : PySem.W.Frag) (cs : CS) : Sp := fun vs H Q E => ∃ (t m p : Addr) (rows : List (List Int)) (n : Nat) (ths : List (Int × Int)) (ps : List Int), vs = [.ref t, .ref m, .ref p] ∧ TB K cs.Table H t rows ∧ NB K cs.Net H m n ths ∧ SqT K H p (ps.map V.int) ∧ (∀ i, okAt ps (n : Nat) i) ∧ ∀ x H', Same H H' → WB K cs.Table cs.Net cs.World H' x rows n ths ps → Q (.ref x) H'
theorem ok_made_world (F : Fun K "made_world" "made_world" s_made_world f fd) (T : Txt P w K mg base cs) (c_climb_fault : Cal P w K mg base CX0 1 "climb_fault" ["numbers", "many"] s_climb_fault (sp_climb_fault K cs)) : FnOk P w K mg base CX0 3 f fd ["table", "net", "pegs"] (sp_made_world K cs) := by
  refine F.ok sc_made_world (fun vs H Q E h => ?_) (fun cdv A outer s H vs Q E hr h => ?_)
  · obtain ⟨t, m, p, rows, n, ths, ps, rfl, _⟩ := h
    rfl
  obtain ⟨t, m, p, rows, n, ths, ps, rfl, ht, hm, hp, ok, q⟩ := h
  obtain ⟨dx, r, s, nrs, h1, h2, h3, h4⟩ := id hm
  refine ⟨_, (pss_cons (ps_set (i := 3) sc_made_world.nd rfl (Or.inl rfl) (pe_cal c_climb_fault (hr.mono (by decide)) pass0 (pa_cons (pv 2) (pa_cons (peF K (pv 1)) pa_nil))))
      (pss_cons (ps_if (pt_cmpR op_notN (pv 3) pe_non (nomark _)) (pss_one ps_never) pss_nil)
      (pss_one (ps_ret (pe_mk T.t_World (hr.mono (by decide)) (pa_cons (pv 0) (pa_cons (pv 1) (pa_cons (pv 2) pa_nil)))))))), ?_⟩
  refine ⟨.ref p, rfl, .ref m, rfl, m, _, dx, _, _, rfl, h1, T.cl_Net, T.na_Net_many, rfl, p, ps, _, rfl, hp, fun _ H1 s1 => ?_, fun i _ bad _ _ _ => absurd (ok i) bad⟩
  refine ⟨_, rfl, rfl, _, rfl, iteF ?_⟩
  exact ⟨.ref t, rfl, .ref m, rfl, .ref p, rfl, mk_wb (ht.same s1) (hm.same s1) (s1.tup hp) fun x H2 s2 hW => q x H2 (s1.trans s2) hW⟩
def sp_check_pegged (K : PySem.W.Frag) (cs : CS) : Sp := fun vs H Q E => ∃ (w_ : Addr) (rows : List (List Int)) (n : Nat) (ths : List (Int × Int)) (ps : List Int), vs = [.ref w_] ∧ WB K cs.Table cs.Net cs.World H w_ rows n ths ps ∧ (ps ≠ [] → ∀ H', Same H H' → Q .non H') ∧ (ps = [] → ∀ H' d, Same H H' → H' d = none → E (.ref cs.NoPeg) (some d) (upd H' d (.xd [("what", .int 0)])))
theorem ok_check_pegged (F : Fun K "check_pegged" "check_pegged" s_check_pegged f fd) (T : Txt P w K mg base cs)  : FnOk P w K mg base (L2.CX P w) 3 f fd ["world"] (sp_check_pegged K cs) := by
  refine F.okX sc_check_pegged (fun vs H Q E h => ?_) (fun cdv A outer s H vs Q E hr h => ?_)
  · obtain ⟨w_, rows, n, ths, ps, rfl, _⟩ := h
    rfl
  obtain ⟨w_, rows, n, ths, ps, rfl, hW, qn, qe⟩ := h
  obtain ⟨dw, t, m, pg, hw, hTB, hm, hPG⟩ := id hW
  refine ⟨_, (pss_one (ps_if (pt_cmpR op_eq (pe_callB (lenS K) (by rfl) T.n_len PySem.boot_len (pa_cons (peF K (pv 0)) pa_nil)) pe_int (nomark _)) (pss_one (ps_raiseW rfl T.x_NoPeg (hr.mono (by decide)) (takes_of rfl rfl rfl rfl) (pa_cons pe_int pa_nil))) pss_nil)), ?_⟩
  refine ⟨.ref w_, rfl, w_, _, dw, _, .ref pg, rfl, hw, T.cl_World, T.na_World_pegs, rfl, pg, _, rfl, .inr hPG, rfl, _, rfl, ?_⟩
  by_cases c : ps = []
  · refine itT (by simp [c]) ?_
    exact made_what T.xc_NoPeg fun d nd => qe c H d (Same.refl _) nd
  · refine itF (by simp [c]) ?_
    exact qn c _ (Same.refl _)
def sp_stone_fits (K : PySem.W.Frag) (cs : CS) : Sp := fun vs H Q E => ∃ (w_ a : Addr) (rows : List (List Int)) (n : Nat) (ths : List (Int × Int)) (ps st : List Int) (p : Nat), vs = [.ref w_, .ref a, .int (p : Nat)] ∧ WB K cs.Table cs.Net cs.World H w_ rows n ths ps ∧ SqT K H a (st.map V.int) ∧ rows.length ≤ 8 ∧ (∀ r ∈ rows, r.length ≤ 8) ∧ n ≤ 24 ∧ InN n ths ∧ st.length = n ∧ p < n ∧ (∀ H', Same H H' → FitP rows ths st p → Q (.bl true) H') ∧ (∀ H', Same H H' → ¬ FitP rows ths st p → Q (.bl false) H')
theorem ok_stone_fits (F : Fun K "stone_fits" "stone_fits" s_stone_fits f fd) (T : Txt P w K mg base cs)  : FnOk P w K mg base CX0 1 f fd ["world", "stones", "place"] (sp_stone_fits K cs) := by
  refine F.ok sc_stone_fits (fun vs H Q E h => ?_) (fun cdv A outer s H vs Q E hr h => ?_)
  · obtain ⟨w_, a, rows, n, ths, ps, st, p, rfl, _⟩ := h
    rfl
  obtain ⟨w_, a, rows, n, ths, ps, st, p, rfl, hW, hS, r8, rr8, n24, hin, hl, hp, qt, qf⟩ := h
  obtain ⟨dw, t, m, pg, hw, ⟨dt, tr, htb, hTT⟩, ⟨dm, mr, ms, nrs, hm, _, hNN, hOk⟩, _⟩ := hW
  obtain ⟨ws, hWS, hwl, hget⟩ := hTT.seq
  obtain ⟨us, hUS, hul, hgetN⟩ := hNN.seq
  refine ⟨_, (pss_cons (ps_set (i := 3) sc_stone_fits.nd rfl (Or.inl rfl) (pe_ix (ixT K) (pv 1) (pv 2) (fun _ _ => rfl)))
      (pss_cons (ps_if (pt_not (pt_chain op_le op_lt pe_int (pv 3) (peF K (peF K (pv 0))))) (pss_one (ps_ret pe_bl)) pss_nil)
      (pss_cons (ps_set (i := 4) sc_stone_fits.nd rfl (Or.inr rfl) (pe_ix (ixT K) (peF K (peF K (pv 0))) (pv 3) (fun _ _ => rfl)))
      (pss_one (ps_ret (pe_callB (allL K rfl) (by rfl) T.n_all (by decide +kernel) (pa_cons (pe_lc (own := [("other", 5)]) rfl sc_stone_fits.nd (piT K (pe_ix (ixT K) (peF K (peF K (pv 0))) (pv 2) (fun _ _ => rfl))) (blkOk_by (own := [("other", 5)]) (N := ["world", "stones", "place", "coat", "roads", "other"]) (sc := defScope s_stone_fits) (by decide +kernel)) (fun _ _ _ _ _ => (pg_name (i := 5) sc_stone_fits.nd rfl (Or.inl rfl))) (fun _ _ _ _ _ => (pts_one (pt_cmpR op_lt (pv 5) (pv 2) (nomark _)))) (fun _ _ _ _ _ => (pe_cmpR (inS K) (pe_ix (ixT K) (pv 1) (pv 5) (fun _ _ => rfl)) (pv 4) rfl))) pa_nil))))))), ?_⟩
  have hpl : p < st.length := by omega
  have gc : (st.map V.int)[p]? = some (.int st[p]) := by rw [List.getElem?_map, List.getElem?_eq_getElem hpl]; rfl
  refine ⟨.ref a, rfl, _, rfl, a, _, _, _, rfl, rfl, hS, atN gc rfl, ?_⟩
  by_cases c1 : 0 ≤ st[p] ∧ st[p] < (rows.length : Nat)
  · refine ⟨_, rfl, 0, _, rfl, rfl, _, rfl, itT (decide_eq_true c1.1) ⟨.ref w_, rfl, w_, _, dw, _, .ref t, rfl, hw, T.cl_World, T.na_World_table, rfl, t, _, dt, _, _, rfl, htb, T.cl_Table, T.na_Table_many, rfl, _, _, rfl, rfl, _, rfl, ?_⟩⟩
    rw [decide_eq_true c1.2]
    refine iteF ?_
    have hi : st[p].toNat < rows.length := by omega
    have hrow : rows[st[p].toNat]? = some rows[st[p].toNat] := List.getElem?_eq_getElem hi
    obtain ⟨b, hb, hbs⟩ := hget _ _ hrow
    have hrw := row_of hrow
    generalize rows[st[p].toNat] = row at hrow hbs hrw
    refine ⟨.ref w_, rfl, w_, _, dw, _, .ref t, rfl, hw, T.cl_World, T.na_World_table, rfl, t, _, dt, _, .ref tr, rfl, htb, T.cl_Table, T.na_Table_beside, rfl, _, rfl, tr, ws, _, .ref b, rfl, rfl, hWS, atN hb (by omega), ?_⟩
    have hpn : p < nrs.length := by rw [hOk.len]; exact hp
    have hnr : nrs[p]? = some nrs[p] := List.getElem?_eq_getElem hpn
    obtain ⟨b2, hb2, hbs2⟩ := hgetN _ _ hnr
    have hmem := hOk.mem _ _ hnr
    generalize nrs[p] = near at hnr hbs2 hmem
    refine ⟨.ref w_, rfl, w_, _, dw, _, .ref m, rfl, hw, T.cl_World, T.na_World_net, rfl, m, _, dm, _, .ref ms, rfl, hm, T.cl_Net, T.na_Net_near, rfl, _, rfl, ms, us, _, .ref b2, rfl, rfl, hUS, atN hb2 rfl, b2, rfl, ⟨_, hbs2⟩, fun D nD => ?_⟩
    have hnl : near.length < 100000 := by
      have h1 := hOk.asc near (List.mem_of_getElem? hnr)
      have := nodup_len n near (asc_nd h1) fun c hc => by
        have := adj_lt hin ((hmem c).mp hc)
        exact this
      omega
    refine lc_fm near (walk_tup (xs := near.map V.int)) (by rw [List.length_map]) yInt (fun o => decide (o < (p : Nat))) (fun o => .bl (decide (st.getD o.toNat 0 ∈ row))) nD (by rw [List.length_map]; exact hnl) (fun _ => rfl) (fun _ s => s.tup hbs2) (fun o _ H2 Q2 _ hq => ⟨_, rfl, _, rfl, _, _, rfl, rfl, _, rfl, hq⟩) (fun o ho c H2 Q2 s2 hq => ?_) (fun H2 hD s2 => ?_)
    · have ho2 := adj_lt hin ((hmem o).mp ho)
      have g : (st.map V.int)[o.toNat]? = some (.int (st.getD o.toNat 0)) := by
        rw [List.getElem?_map, List.getD_eq_getElem?_getD, List.getElem?_eq_getElem (by omega)]
        rfl
      refine ⟨.ref a, rfl, _, rfl, a, _, _, _, rfl, rfl, s2.tup hS, atN g (by omega), .ref b, rfl, b, _, rfl, .inr (s2.tup hbs), rfl, flat_ints _, ?_⟩
      rw [← inV_dec] at hq
      exact hq
    · have key : ((near.filter fun o => decide (o < ((p : Nat) : Int))).map fun o => decide (st.getD o.toNat 0 ∈ row)).all id = true ↔ FitP rows ths st p := by
        rw [List.all_eq_true]
        constructor
        · intro h
          refine ⟨st[p], List.getElem?_eq_getElem hpl, c1.1, c1.2, fun o ha ho => ?_⟩
          have ho2 := adj_lt hin ha
          have hm : decide (st.getD o.toNat 0 ∈ row) ∈ (near.filter fun o => decide (o < ((p : Nat) : Int))).map fun o => decide (st.getD o.toNat 0 ∈ row) := List.mem_map.mpr ⟨o, List.mem_filter.mpr ⟨(hmem o).mpr ha, decide_eq_true ho⟩, rfl⟩
          have := of_decide_eq_true (h _ hm)
          have hol : o.toNat < st.length := by omega
          refine ⟨st[o.toNat], List.getElem?_eq_getElem hol, ?_⟩
          rw [List.getD_eq_getElem?_getD, List.getElem?_eq_getElem hol] at this
          rw [hrw]
          exact this
        · rintro ⟨c, hc, _, _, h⟩ b hb
          obtain ⟨o, ho, rfl⟩ := List.mem_map.mp hb
          obtain ⟨ho1, ho2⟩ := List.mem_filter.mp ho
          rw [List.getElem?_eq_getElem hpl] at hc
          cases Option.some.inj hc
          obtain ⟨d, hd, hdm⟩ := h o ((hmem o).mp ho1) (of_decide_eq_true ho2)
          rw [hrw] at hdm
          refine decide_eq_true ?_
          rw [List.getD_eq_getElem?_getD, hd]
          exact hdm
      refine ⟨D, (near.filter fun o => decide (o < ((p : Nat) : Int))).map fun o => decide (st.getD o.toNat 0 ∈ row), rfl, SqL.of (by rw [hD, List.map_map]; rfl), ?_⟩
      by_cases hf : FitP rows ths st p
      · rw [key.mpr hf]
        exact qt _ s2 hf
      · rw [Bool.eq_false_iff.mpr fun z => hf (key.mp z)]
        exact qf _ s2 hf
  · have bad : ¬ FitP rows ths st p := fun ⟨c, hc, h0, h1, _⟩ => by
      rw [List.getElem?_eq_getElem hpl] at hc
      cases Option.some.inj hc
      exact c1 ⟨h0, h1⟩
    by_cases c0 : 0 ≤ st[p]
    · refine ⟨_, rfl, 0, _, rfl, rfl, _, rfl, itT (decide_eq_true c0) ⟨.ref w_, rfl, w_, _, dw, _, .ref t, rfl, hw, T.cl_World, T.na_World_table, rfl, t, _, dt, _, _, rfl, htb, T.cl_Table, T.na_Table_many, rfl, _, _, rfl, rfl, _, rfl, ?_⟩⟩
      rw [decide_eq_false (fun z => c1 ⟨c0, z⟩)]
      exact iteT (qf _ (Same.refl _) bad)
    · refine ⟨_, rfl, 0, _, rfl, rfl, _, rfl, itF (decide_eq_false c0) ⟨_, rfl, iteT ?_⟩⟩
      exact qf _ (Same.refl _) bad
def sp_check_standing (K : PySem.W.Frag) (cs : CS) : Sp := fun vs H Q E => ∃ (w_ a : Addr) (rows : List (List Int)) (n : Nat) (ths : List (Int × Int)) (ps st : List Int), vs = [.ref w_, .ref a] ∧ WB K cs.Table cs.Net cs.World H w_ rows n ths ps ∧ SqT K H a (st.map V.int) ∧ rows.length ≤ 8 ∧ (∀ r ∈ rows, r.length ≤ 8) ∧ n ≤ 24 ∧ InN n ths ∧ (∀ H', Same H H' → st.length = n → (∀ p, p < n → FitP rows ths st p) → Q .non H') ∧ (st.length ≠ n → ∀ d, H d = none → E (.ref cs.BadSize) (some d) (upd H d (.xd [("what", .int (st.length : Nat))]))) ∧ (∀ p, st.length = n → p < n → ¬ FitP rows ths st p → (∀ o, o < p → FitP rows ths st o) → ∀ H' d, Same H H' → H' d = none → E (.ref cs.BadStone) (some d) (upd H' d (.xd [("what", .int (p : Nat))])))
theorem ok_check_standing (F : Fun K "check_standing" "check_standing" s_check_standing f fd) (T : Txt P w K mg base cs) (c_stone_fits : Cal P w K mg base CX0 1 "stone_fits" ["world", "stones", "place"] s_stone_fits (sp_stone_fits K cs)) : FnOk P w K mg base (L2.CX P w) 3 f fd ["world", "standing"] (sp_check_standing K cs) := by
  refine F.okX sc_check_standing (fun vs H Q E h => ?_) (fun cdv A outer s H vs Q E hr h => ?_)
  · obtain ⟨w_, a, rows, n, ths, ps, st, rfl, _⟩ := h
    rfl
  obtain ⟨w_, a, rows, n, ths, ps, st, rfl, hW, hS, r8, rr8, n24, hin, q, qs, qb⟩ := h
  obtain ⟨dw, t, m, pg, hw, _, ⟨dm, mr, ms, nrs, hm, _⟩, _⟩ := id hW
  refine ⟨_, (pss_cons (ps_if (pt_cmpR op_ne (pe_callB (lenS K) (by rfl) T.n_len PySem.boot_len (pa_cons (pv 1) pa_nil)) (peF K (peF K (pv 0))) (nomark _)) (pss_one (ps_raiseW rfl T.x_BadSize (hr.mono (by decide)) (takes_of rfl rfl rfl rfl) (pa_cons (pe_callB (lenS K) (by rfl) T.n_len PySem.boot_len (pa_cons (pv 1) pa_nil)) pa_nil))) pss_nil)
      (pss_one (ps_for (passes_of rfl) rfl (pi_range1 (by rfl) T.n_range (pa_cons (peF K (peF K (pv 0))) pa_nil)) (pg_name (i := 2) sc_check_standing.nd rfl (Or.inl rfl)) (pss_one (ps_if (pt_not (pt_val (pe_cal c_stone_fits (hr.mono (by decide)) pass0 (pa_cons (pv 0) (pa_cons (pv 1) (pa_cons (pv 2) pa_nil)))))) (pss_one (ps_raiseW rfl T.x_BadStone (hr.mono (by decide)) (takes_of rfl rfl rfl rfl) (pa_cons (pv 2) pa_nil))) pss_nil))))), ?_⟩
  refine ⟨.ref a, rfl, a, _, rfl, .inr hS, .ref w_, rfl, w_, _, dw, _, .ref m, rfl, hw, T.cl_World, T.na_World_net, rfl, m, _, dm, _, _, rfl, hm, T.cl_Net, T.na_Net_many, rfl, rfl, _, rfl, ?_⟩
  by_cases c : st.length = n
  · refine itF (by simp [c]) ?_
    refine ⟨.ref w_, rfl, w_, _, dw, _, .ref m, rfl, hw, T.cl_World, T.na_World_net, rfl, m, _, dm, _, _, rfl, hm, T.cl_Net, T.na_Net_many, rfl, _, rfl, by omega, by omega, ?_⟩
    rw [Int.toNat_natCast]
    refine for_range (fun p σ H' => (∃ y2, σ = [some (.ref w_), some (.ref a), y2]) ∧ Same H H' ∧ ∀ o, o < p → FitP rows ths st o) ⟨⟨_, rfl⟩, Same.refl _, fun o ho => absurd ho (by omega)⟩ ?_ ?_
    · rintro p σ H1 hp ⟨⟨y2, rfl⟩, sm, ok⟩
      refine ⟨_, rfl, _, rfl, _, rfl, w_, a, rows, n, ths, ps, st, p, by rw [Int.zero_add]; rfl, hW.same sm, sm.tup hS, r8, rr8, n24, hin, c, hp, fun H2 s2 hf => ?_, fun H2 s2 hf => ?_⟩
      · refine ⟨true, rfl, iteF ⟨⟨_, rfl⟩, sm.trans s2, fun o ho => ?_⟩⟩
        by_cases e : o < p
        · exact ok o e
        · obtain rfl : o = p := by omega
          exact hf
      · refine ⟨false, rfl, iteT ?_⟩
        refine ⟨_, rfl, made_what T.xc_BadStone fun d nd => ?_⟩
        rw [Int.zero_add]
        exact qb p c hp hf ok H2 d (sm.trans s2) nd
    · rintro σ H1 ⟨⟨y2, rfl⟩, sm, ok⟩
      exact q H1 sm c ok
  · refine itT (by simp; omega) ?_
    refine ⟨.ref a, rfl, a, _, rfl, .inr hS, ?_⟩
    have e : ((st.map V.int).length : Int) = (st.length : Nat) := by rw [List.length_map]
    rw [e]
    exact made_what T.xc_BadSize fun d nd => qs c d nd
def sp_is_held (K : PySem.W.Frag) (cs : CS) : Sp := fun vs H Q E => ∃ (w_ a k : Addr) (rows : List (List Int)) (n : Nat) (ths : List (Int × Int)) (ps xs : List Int) (bs : List Bool) (p : Nat), vs = [.ref w_, .ref a, .ref k, .int (p : Nat)] ∧ WB K cs.Table cs.Net cs.World H w_ rows n ths ps ∧ SqT K H a (xs.map V.int) ∧ H k = some (.lst (bs.map V.bl)) ∧ bs.length = n ∧ xs.length = n ∧ n ≤ 24 ∧ InN n ths ∧ p < n ∧ (HeldS ths ps xs (fun c => bs.getD c.toNat false = true) (p : Nat) → ∀ H', Same H H' → Q (.bl true) H') ∧ (¬ HeldS ths ps xs (fun c => bs.getD c.toNat false = true) (p : Nat) → ∀ H', Same H H' → Q (.bl false) H')
theorem ok_is_held (F : Fun K "is_held" "is_held" s_is_held f fd) (T : Txt P w K mg base cs)  : FnOk P w K mg base CX0 1 f fd ["world", "a", "kept", "place"] (sp_is_held K cs) := by
  refine F.ok sc_is_held (fun vs H Q E h => ?_) (fun cdv A outer s H vs Q E hr h => ?_)
  · obtain ⟨w_, a, k, rows, n, ths, ps, xs, bs, p, rfl, _⟩ := h
    rfl
  obtain ⟨w_, a, k, rows, n, ths, ps, xs, bs, p, rfl, hW, hS, hk, hbl, hxl, n24, hin, hp, qt, qf⟩ := h
  obtain ⟨dw, t, m, pg, hw, _, ⟨dm, mr, ms, nrs, hm, _, hNN, hOk⟩, hPG⟩ := hW
  obtain ⟨us, hUS, hul, hgetN⟩ := hNN.seq
  have hpn : p < nrs.length := by rw [hOk.len]; exact hp
  have hnr : nrs[p]? = some nrs[p] := List.getElem?_eq_getElem hpn
  obtain ⟨b2, hb2, hbs2⟩ := hgetN _ _ hnr
  have hmem := hOk.mem _ _ hnr
  have h1 := hOk.asc _ (List.mem_of_getElem? hnr)
  generalize nrs[p] = near at hnr hbs2 hmem h1
  have hnl : near.length ≤ n := nodup_len n near (asc_nd h1) fun c hc => adj_lt hin ((hmem c).mp hc)
  have dv : ∀ a b : Int, decide (V.int a = V.int b) = decide (a = b) := fun a b => decide_eq_decide.mpr ⟨V.int.inj, congrArg _⟩
  refine ⟨_, (pss_cons (ps_set (i := 4) sc_is_held.nd rfl (Or.inl rfl) (pe_ix (ixT K) (peF K (peF K (pv 0))) (pv 3) (fun _ _ => rfl)))
      (pss_cons (ps_if (PW.pt (pw_or (pt_cmpR (inS K) (pv 3) (peF K (pv 0)) rfl) (pw_or1 (pt_cmpR op_eq (pe_callB (lenS K) (by rfl) T.n_len PySem.boot_len (pa_cons (pv 4) pa_nil)) pe_int (nomark _))))) (pss_one (ps_ret pe_bl)) pss_nil)
      (pss_cons (ps_setLc (i := 5) (own := [("other", 6)]) rfl sc_is_held.nd rfl rfl (sw_true rfl rfl rfl (by decide +kernel)) (piT K (pv 4)) (blkOk_by (own := [("other", 6)]) (N := ["world", "a", "kept", "place", "near", "coats", "other"]) (sc := defScope s_is_held) (by decide +kernel)) (fun _ _ _ _ _ => (pg_name (i := 6) sc_is_held.nd rfl (Or.inl rfl))) (fun _ _ _ _ _ => (pts_one (pt_val (pe_ix (ixL K) (pv 2) (pv 6) (fun _ _ => rfl))))) (fun _ _ _ _ _ => (pe_ix (ixT K) (pv 1) (pv 6) (fun _ _ => rfl))))
      (pss_one (ps_ret (pe_and (pe_cmpR op_gt (pe_callB (lenS K) (by rfl) T.n_len PySem.boot_len (pa_cons (pv 5) pa_nil)) pe_int (nomark _)) (pe_one (pe_cmpR op_ne (pe_callB (minL K rfl) (by rfl) T.n_min (by decide +kernel) (pa_cons (pv 5) pa_nil)) (pe_callB (maxL K rfl) (by rfl) T.n_max (by decide +kernel) (pa_cons (pv 5) pa_nil)) (nomark _))))))))), ?_⟩
  refine ⟨.ref w_, rfl, w_, _, dw, _, .ref m, rfl, hw, T.cl_World, T.na_World_net, rfl, m, _, dm, _, .ref ms, rfl, hm, T.cl_Net, T.na_Net_near, rfl, _, rfl, ms, us, _, .ref b2, rfl, rfl, hUS, atN hb2 rfl, ?_⟩
  refine ⟨_, rfl, .ref w_, rfl, w_, _, dw, _, .ref pg, rfl, hw, T.cl_World, T.na_World_pegs, rfl, pg, _, rfl, .inr hPG, rfl, flat_ints _, _, rfl, ?_⟩
  rw [inV_dec]
  by_cases c1 : ((p : Nat) : Int) ∈ ps
  · rw [decide_eq_true c1]
    exact iteT (qt (.inl c1) _ (Same.refl _))
  rw [decide_eq_false c1]
  refine iteF ?_
  refine ⟨.ref b2, rfl, b2, _, rfl, .inr hbs2, rfl, _, rfl, ?_⟩
  rw [dv, List.length_map]
  by_cases c2 : near = []
  · rw [c2]
    refine iteT (qt (.inr (.inl fun c hc => ?_)) _ (Same.refl _))
    have := (hmem c).mpr hc
    rw [c2] at this
    cases this
  have hnp : 0 < near.length := List.length_pos_iff.mpr c2
  rw [decide_eq_false (by omega)]
  refine iteF ?_
  refine ⟨.ref b2, rfl, b2, rfl, ⟨_, hbs2⟩, fun D nD => ?_⟩
  refine lc_fm near (walk_tup (xs := near.map V.int)) (by rw [List.length_map]) yInt (fun c => bs.getD c.toNat false) (fun c => .int (xs.getD c.toNat 0)) nD (by rw [List.length_map]; omega) (fun _ => rfl) (fun _ s => s.tup hbs2) (fun c hc H2 Q2 s2 hq => ?_) (fun c hc _ H2 Q2 s2 hq => ?_) (fun H2 hD s2 => ?_)
  · have hc2 := adj_lt hin ((hmem c).mp hc)
    have g : (bs.map V.bl)[c.toNat]? = some (.bl (bs.getD c.toNat false)) := by
      rw [List.getElem?_map, List.getD_eq_getElem?_getD, List.getElem?_eq_getElem (by omega)]
      rfl
    exact ⟨.ref k, rfl, _, rfl, k, _, _, _, rfl, rfl, SqL.of (s2 _ _ hk), atN g (by omega), _, rfl, hq⟩
  · have hc2 := adj_lt hin ((hmem c).mp hc)
    have g : (xs.map V.int)[c.toNat]? = some (.int (xs.getD c.toNat 0)) := by rw [List.getElem?_map, getD_some (by omega)]; rfl
    exact ⟨.ref a, rfl, _, rfl, a, _, _, _, rfl, rfl, s2.tup hS, atN g (by omega), hq⟩
  have hD2 : H2 D = some (.lst (((near.filter fun c => bs.getD c.toNat false).map fun c => xs.getD c.toNat 0).map V.int)) := by rw [hD, List.map_map]; rfl
  generalize hcs : (near.filter fun c => bs.getD c.toNat false).map (fun c => xs.getD c.toNat 0) = coats at hD2
  have hmc : ∀ y, y ∈ coats ↔ ∃ c, Adj ths (p : Nat) c ∧ bs.getD c.toNat false = true ∧ xs.getD c.toNat 0 = y := fun y => by
    rw [← hcs, List.mem_map]
    constructor
    · rintro ⟨c, hc, rfl⟩
      obtain ⟨h1, h2⟩ := List.mem_filter.mp hc
      exact ⟨c, (hmem c).mp h1, h2, rfl⟩
    · rintro ⟨c, h1, h2, rfl⟩
      exact ⟨c, List.mem_filter.mpr ⟨(hmem c).mpr h1, h2⟩, rfl⟩
  by_cases c3 : coats = []
  · refine ⟨.ref D, rfl, D, _, rfl, .inl (SqL.of hD2), _, 0, rfl, rfl, _, rfl, itF (decide_eq_false (by rw [c3]; simp)) ?_⟩
    refine qf (fun z => ?_) _ s2
    rcases z with z | z | ⟨c, d, z1, z2, z3, z4, z5⟩
    · exact c1 z
    · exact z _ ((hmem _).mp (List.head_mem c2))
    · have := (hmc _).mpr ⟨c, z1, z3, rfl⟩
      rw [c3] at this
      cases this
  · have hcp : 0 < coats.length := List.length_pos_iff.mpr c3
    refine ⟨.ref D, rfl, D, _, rfl, .inl (SqL.of hD2), _, 0, rfl, rfl, _, rfl, itT (decide_eq_true (by rw [List.length_map]; omega)) ?_⟩
    refine ⟨.ref D, rfl, D, coats, rfl, SqL.of hD2, hcp, fun lo hlo hlo2 => ⟨.ref D, rfl, D, coats, rfl, SqL.of hD2, hcp, fun hi hhi hhi2 => ⟨rfl, ?_⟩⟩⟩
    have e : decide (V.int lo = V.int hi) = decide (lo = hi) := dv _ _
    rw [e]
    by_cases c4 : lo = hi
    · rw [decide_eq_true c4]
      refine qf (fun z => ?_) _ s2
      rcases z with z | z | ⟨c, d, z1, z2, z3, z4, z5⟩
      · exact c1 z
      · exact z _ ((hmem _).mp (List.head_mem c2))
      · have g1 := (hmc _).mpr ⟨c, z1, z3, rfl⟩
        have g2 := (hmc _).mpr ⟨d, z2, z4, rfl⟩
        have := hlo2 _ g1
        have := hhi2 _ g1
        have := hlo2 _ g2
        have := hhi2 _ g2
        omega
    · rw [decide_eq_false c4]
      obtain ⟨c, k1, k2, k3⟩ := (hmc _).mp hlo
      obtain ⟨d, j1, j2, j3⟩ := (hmc _).mp hhi
      exact qt (.inr (.inr ⟨c, d, k1, j1, k2, j2, by rw [k3, j3]; exact c4⟩)) _ s2
def sp_frozen_places (K : PySem.W.Frag) (cs : CS) : Sp := fun vs H Q E => ∃ (w_ a : Addr) (rows : List (List Int)) (n : Nat) (ths : List (Int × Int)) (ps xs : List Int), vs = [.ref w_, .ref a] ∧ WB K cs.Table cs.Net cs.World H w_ rows n ths ps ∧ SqT K H a (xs.map V.int) ∧ xs.length = n ∧ n ≤ 24 ∧ InN n ths ∧ ∀ t H', Same H H' → SqT K H' t ((frzL n ths ps xs).map V.int) → Q (.ref t) H'
theorem ok_frozen_places (F : Fun K "frozen_places" "frozen_places" s_frozen_places f fd) (T : Txt P w K mg base cs) (c_is_held : Cal P w K mg base CX0 1 "is_held" ["world", "a", "kept", "place"] s_is_held (sp_is_held K cs)) : FnOk P w K mg base CX0 2 f fd ["world", "a"] (sp_frozen_places K cs) := by
  refine F.ok sc_frozen_places (fun vs H Q E h => ?_) (fun cdv A outer s H vs Q E hr h => ?_)
  · obtain ⟨w_, a, rows, n, ths, ps, xs, rfl, _⟩ := h
    rfl
  obtain ⟨w_, a, rows, n, ths, ps, xs, rfl, hW, hS, hxl, n24, hin, q⟩ := h
  obtain ⟨dw, t, m, pg, hw, _, ⟨dm, mr, ms, nrs, hm, _⟩, _⟩ := id hW
  refine ⟨_, (pss_cons (ps_set (i := 2) sc_frozen_places.nd rfl (Or.inr rfl) (pe_op op_rep (pe_lst (pa_cons pe_bl pa_nil)) (peF K (peF K (pv 0)))))
      (pss_cons (ps_set (i := 3) sc_frozen_places.nd rfl (Or.inl rfl) pe_bl)
      (pss_cons (ps_while PassesOwn.never (pt_val (pv 3)) (pss_cons (ps_set (i := 3) sc_frozen_places.nd rfl (Or.inl rfl) pe_bl)
      (pss_one (ps_for PassesOwn.never rfl (pi_range1 (by rfl) T.n_range (pa_cons (peF K (peF K (pv 0))) pa_nil)) (pg_name (i := 4) sc_frozen_places.nd rfl (Or.inl rfl)) (pss_one (ps_if (PW.pt (pw_and (pt_val (pe_ix (ixL K) (pv 2) (pv 4) (fun _ _ => rfl))) (pw_and1 (pt_not (pt_val (pe_cal c_is_held (hr.mono (by decide)) pass0 (pa_cons (pv 0) (pa_cons (pv 1) (pa_cons (pv 2) (pa_cons (pv 4) pa_nil)))))))))) (pss_cons (ps_asg pe_bl (pg_sub (pv 2) (pv 4) set_list))
      (pss_one (ps_set (i := 3) sc_frozen_places.nd rfl (Or.inl rfl) pe_bl))) pss_nil))))))
      (pss_one (ps_ret (pe_callTy (tupOf K) (by rfl) T.n_tuple (by decide +kernel) (pa_cons (pe_lc (own := [("place", 4)]) rfl sc_frozen_places.nd (pi_range1 (by rfl) T.n_range (pa_cons (peF K (peF K (pv 0))) pa_nil)) (blkOk_by (own := [("place", 4)]) (N := ["world", "a", "kept", "again", "place"]) (sc := defScope s_frozen_places) (by decide +kernel)) (fun _ _ _ _ _ => (pg_name (i := 4) sc_frozen_places.nd rfl (Or.inl rfl))) (fun _ _ _ _ _ => (pts_one (pt_val (pe_ix (ixL K) (pv 2) (pv 4) (fun _ _ => rfl))))) (fun _ _ _ _ _ => (pv 4))) pa_nil))))))), ?_⟩
  refine ⟨by show 1 ≤ sizeLine; decide, fun l nl => ?_⟩
  have sl := Same.new (o := .lst [.bl true]) nl
  refine ⟨.ref w_, rfl, w_, _, dw, _, .ref m, rfl, sl _ _ hw, T.cl_World, T.na_World_net, rfl, m, _, dm, _, _, rfl, sl _ _ hm, T.cl_Net, T.na_Net_many, rfl, l, n, _, rfl, rfl, upd_same, by omega, by omega, small (by show 1 * _ ≤ _; omega), fun k nk => ?_⟩
  have sk := Same.new (o := .lst (List.replicate ((n : Nat) : Int).toNat [V.bl true]).flatten) nk
  have s0 := sl.trans sk
  have hk0 : (upd (upd H l (.lst [.bl true])) k (.lst (List.replicate ((n : Nat) : Int).toNat [V.bl true]).flatten)) k = some (.lst ((List.replicate n true).map V.bl)) := by rw [upd_same, Int.toNat_natCast, reps_bl]
  have nkH : H k = none := sl.free nk
  generalize upd (upd H l (.lst [.bl true])) k (.lst (List.replicate ((n : Nat) : Int).toNat [V.bl true]).flatten) = H0 at *
  refine ⟨fun μ σ H' => ∃ (bs : List Bool) (ag : Bool) (y4 : Option V), σ = [some (.ref w_), some (.ref a), some (.ref k), some (.bl ag), y4] ∧ μ = 2 * bs.count true + (if ag then 1 else 0) ∧ Same H H' ∧ H' k = some (.lst (bs.map V.bl)) ∧ bs.length = n ∧ (∀ p : Nat, p < n → Frz n ths ps xs (p : Nat) → bs.getD p false = true) ∧ (ag = true ∨ ∀ p : Nat, p < n → bs.getD p false = true → HeldS ths ps xs (fun c => bs.getD c.toNat false = true) (p : Nat)),
    ⟨_, List.replicate n true, true, none, rfl, rfl, s0, hk0, List.length_replicate, fun p hp _ => by rw [List.getD_eq_getElem?_getD, List.getElem?_replicate, if_pos hp]; rfl, .inl rfl⟩, ?_⟩
  rintro μ σ H1 ⟨bs, ag, y4, rfl, rfl, sm, hk, hbl, hF, hag⟩
  refine ⟨_, rfl, ag, rfl, ?_⟩
  cases ag with
  | false =>
    refine iteF ?_
    have hH := hag.resolve_left (by decide)
    refine ⟨.ref w_, rfl, w_, _, dw, _, .ref m, rfl, sm _ _ hw, T.cl_World, T.na_World_net, rfl, m, _, dm, _, _, rfl, sm _ _ hm, T.cl_Net, T.na_Net_many, rfl, n, rfl, by omega, by omega, fun D nD => ?_⟩
    rw [Int.toNat_natCast]
    refine lc_fm ((List.range n).map Int.ofNat) walk_range (by rw [List.length_map, List.length_range]) yRng (fun c => bs.getD c.toNat false) V.int nD (by omega) (fun _ => rfl) (fun _ _ => trivial) (fun c hc H2 Q2 s2 hq => ?_) (fun c _ _ H2 Q2 _ hq => ⟨_, rfl, hq⟩) (fun H2 hD s2 => ?_)
    · obtain ⟨i, hi, rfl⟩ := List.mem_map.mp hc
      have hi := List.mem_range.mp hi
      have g : (bs.map V.bl)[i]? = some (.bl (bs.getD i false)) := by
        rw [List.getElem?_map, List.getD_eq_getElem?_getD, List.getElem?_eq_getElem (by omega)]
        rfl
      exact ⟨.ref k, rfl, _, rfl, k, _, _, _, rfl, rfl, SqL.of (s2 _ _ hk), atN g rfl, _, rfl, hq⟩
    · rw [frzL_of (n := n) (ths := ths) (ps := ps) (xs := xs) fun p hp => ⟨fun z => ?_, fun z => by rw [Int.toNat_natCast]; exact hF p hp z⟩] at hD
      · refine ⟨D, _, rfl, .inl ⟨SqL.of hD, fun t nt => ?_⟩⟩
        exact q t _ ((sm.trans s2).trans (Same.new nt)) (SqT.of upd_same)
      · rw [Int.toNat_natCast] at z
        refine Frz.of (S := fun c => (0 ≤ c ∧ c < (n : Nat)) ∧ bs.getD c.toNat false = true) (fun c hc => ⟨hc.1, ?_⟩) ⟨⟨by omega, by omega⟩, by rw [Int.toNat_natCast]; exact z⟩
        have := hH c.toNat (by omega) hc.2
        rw [show ((c.toNat : Nat) : Int) = c by omega] at this
        exact this.mono fun d hd hd2 => ⟨adj_lt hin hd, hd2⟩
  | true =>
    refine iteT ?_
    refine ⟨fun σ' H' => ∃ m', m' < 2 * bs.count true + (if true then 1 else 0) ∧ ∃ (bs : List Bool) (ag : Bool) (y4 : Option V), σ' = [some (.ref w_), some (.ref a), some (.ref k), some (.bl ag), y4] ∧ m' = 2 * bs.count true + (if ag then 1 else 0) ∧ Same H H' ∧ H' k = some (.lst (bs.map V.bl)) ∧ bs.length = n ∧ (∀ p : Nat, p < n → Frz n ths ps xs (p : Nat) → bs.getD p false = true) ∧ (ag = true ∨ ∀ p : Nat, p < n → bs.getD p false = true → HeldS ths ps xs (fun c => bs.getD c.toNat false = true) (p : Nat)), fun σ' H' h => h, ?_⟩
    refine ⟨.ref w_, rfl, w_, _, dw, _, .ref m, rfl, sm _ _ hw, T.cl_World, T.na_World_net, rfl, m, _, dm, _, _, rfl, sm _ _ hm, T.cl_Net, T.na_Net_many, rfl, n, rfl, by omega, by omega, ?_⟩
    rw [Int.toNat_natCast]
    refine for_range (fun i σ H' => ∃ (bs' : List Bool) (ag : Bool) (y4 : Option V), σ = [some (.ref w_), some (.ref a), some (.ref k), some (.bl ag), y4] ∧ Same H H' ∧ H' k = some (.lst (bs'.map V.bl)) ∧ bs'.length = n ∧ (∀ p : Nat, p < n → Frz n ths ps xs (p : Nat) → bs'.getD p false = true) ∧ ((ag = false ∧ bs' = bs ∧ ∀ p : Nat, p < i → bs.getD p false = true → HeldS ths ps xs (fun c => bs.getD c.toNat false = true) (p : Nat)) ∨ (ag = true ∧ bs'.count true < bs.count true))) ⟨bs, false, y4, rfl, sm, hk, hbl, hF, .inl ⟨rfl, rfl, fun p hp => absurd hp (Nat.not_lt_zero _)⟩⟩ ?_ ?_
    · clear sm hk
      rintro i σ H2 hi ⟨bs', ag, y4, rfl, sm, hk, hbl', hF', hor⟩
      have g : (bs'.map V.bl)[i]? = some (.bl (bs'.getD i false)) := by
        rw [List.getElem?_map, List.getD_eq_getElem?_getD, List.getElem?_eq_getElem (by omega)]
        rfl
      refine ⟨.ref k, rfl, _, rfl, k, _, _, _, rfl, rfl, SqL.of hk, atN g (by omega), _, rfl, ?_⟩
      by_cases cb : bs'.getD i false = true
      · rw [cb]
        refine iteT ?_
        refine ⟨_, rfl, _, rfl, _, rfl, _, rfl, w_, a, k, rows, n, ths, ps, xs, bs', i, by rw [Int.zero_add]; rfl, hW.same sm, sm.tup hS, hk, hbl', hxl, n24, hin, hi, fun hh H3 s3 => ⟨true, rfl, iteF ?_⟩, fun hh H3 s3 => ⟨false, rfl, iteT ?_⟩⟩
        · refine ⟨bs', ag, _, rfl, sm.trans s3, s3 _ _ hk, hbl', hF', ?_⟩
          rcases hor with ⟨h1, rfl, h3⟩ | h
          · refine .inl ⟨h1, rfl, fun p hp hpb => ?_⟩
            by_cases e : p < i
            · exact h3 p e hpb
            · obtain rfl : p = i := by omega
              exact hh
          · exact .inr h
        · refine ⟨.ref k, rfl, _, rfl, k, _, _, i, rfl, rfl, s3 _ _ hk, ixN_nat (by omega) (by rw [List.length_map]; omega), ?_⟩
          have gi : bs'[i]? = some true := by
            rw [List.getD_eq_getElem?_getD, List.getElem?_eq_getElem (by omega)] at cb
            rw [List.getElem?_eq_getElem (by omega)]
            exact congrArg some cb
          have hcnt := count_set_false gi
          refine ⟨bs'.set i false, true, _, rfl, (sm.trans s3).mut nkH, by rw [upd_same, List.map_set], by rw [List.length_set]; exact hbl', fun p hp hz => ?_, .inr ⟨rfl, ?_⟩⟩
          · have hpb := hF' p hp hz
            have ne : p ≠ i := fun z => by
              subst z
              refine hh (hz.held.2.mono fun c hc hfc => ?_)
              have hc2 := adj_lt hin hc
              have := hF' c.toNat (by omega) (by rw [show ((c.toNat : Nat) : Int) = c by omega]; exact hfc)
              exact this
            rw [List.getD_eq_getElem?_getD, List.getElem?_set_ne (Ne.symm ne), ← List.getD_eq_getElem?_getD]
            exact hpb
          · rcases hor with ⟨_, rfl, _⟩ | ⟨_, h⟩
            · omega
            · omega
      · rw [Bool.eq_false_iff.mpr cb]
        refine iteF ⟨bs', ag, _, rfl, sm, hk, hbl', hF', ?_⟩
        rcases hor with ⟨h1, rfl, h3⟩ | h
        · refine .inl ⟨h1, rfl, fun p hp hpb => ?_⟩
          by_cases e : p < i
          · exact h3 p e hpb
          · obtain rfl : p = i := by omega
            exact absurd hpb cb
        · exact .inr h
    · rintro σ H2 ⟨bs', ag, y4, rfl, sm, hk, hbl', hF', hor⟩
      refine ⟨_, ?_, bs', ag, y4, rfl, rfl, sm, hk, hbl', hF', ?_⟩
      · rcases hor with ⟨rfl, rfl, _⟩ | ⟨rfl, h⟩
        · simp
        · simp; omega
      · rcases hor with ⟨rfl, rfl, h3⟩ | ⟨rfl, h⟩
        · exact .inr h3
        · exact .inl rfl
def sp_struck (K : PySem.W.Frag) (cs : CS) : Sp := fun vs H Q E => ∃ (a : Addr) (ns : List Int), vs = [.ref a] ∧ SqT K H a (ns.map V.int) ∧ ns.length < 100000 ∧ ∀ p H', Same H H' → SqT K H' p ((strk ns).map V.int) → Q (.ref p) H'
theorem ok_struck (F : Fun K "struck" "struck" s_struck f fd) (T : Txt P w K mg base cs)  : FnOk P w K mg base CX0 1 f fd ["stones"] (sp_struck K cs) := by
  refine F.ok sc_struck (fun vs H Q E h => ?_) (fun cdv A outer s H vs Q E hr h => ?_)
  · obtain ⟨a, ns, rfl, _⟩ := h
    rfl
  obtain ⟨a, ns, rfl, hS, hlen, q⟩ := h
  refine ⟨_, (pss_cons (ps_set (i := 1) sc_struck.nd rfl (Or.inl rfl) (pe_lst pa_nil))
      (pss_cons (ps_for PassesOwn.never rfl (piT K (pv 0)) (pg_name (i := 2) sc_struck.nd rfl (Or.inl rfl)) (pss_one (ps_if (PW.pt (pw_and (pt_cmpR op_gt (pe_callB (lenS K) (by rfl) T.n_len PySem.boot_len (pa_cons (pv 1) pa_nil)) pe_int (nomark _)) (pw_and1 (pt_cmpR op_eq (pe_ix (ixL K) (pv 1) (pe_un un_neg pe_int) (fun _ _ => rfl)) (pv 2) (nomark _))))) (pss_one (ps_expr (pe_bm0 PySem.F.plainAttrs_list PySem.F.slot_list_pop PySem.F.type_list_pop mt_pop (pv 1)))) (pss_one (ps_expr (pe_bm PySem.F.plainAttrs_list PySem.F.slot_list_append PySem.F.type_list_append mt_append (pv 1) (pa_cons (pv 2) pa_nil)))))))
      (pss_one (ps_ret (pe_callTy (tupOf K) (by rfl) T.n_tuple (by decide +kernel) (pa_cons (pv 1) pa_nil)))))), ?_⟩
  refine ⟨Nat.zero_le _, fun l nl => ?_⟩
  refine ⟨.ref a, rfl, a, rfl, ⟨_, (Same.new nl).tup hS⟩, for_tup (xs := ns.map V.int) (fun i σ H' => (∃ y, σ = [some (.ref a), some (.ref l), y]) ∧ Same H H' ∧ H' l = some (.lst ((strk (ns.take i)).map V.int)))
    ⟨⟨_, rfl⟩, Same.new nl, upd_same⟩ (fun i σ H' _ h => h.2.1.tup hS) ?_ ?_⟩
  · rintro i x σ H1 hi ⟨⟨y, rfl⟩, sm, hl⟩
    obtain ⟨hi2, rfl⟩ := num_map i ns x hi
    have hst : strk (ns.take (i + 1)) = stp (strk (ns.take i)) ns[i] := by
      unfold strk
      rw [List.take_add_one, List.getElem?_eq_getElem hi2, List.foldl_append]
      rfl
    have hz : (strk (ns.take i)).length ≤ i := Nat.le_trans (strk_len _) (by rw [List.length_take]; omega)
    generalize strk (ns.take i) = st at hl hst hz
    refine ⟨.ref l, rfl, l, _, rfl, .inl (SqL.of hl), _, 1, rfl, rfl, _, rfl, ?_⟩
    by_cases h1 : st.length > 1
    · refine itT (decide_eq_true (by rw [List.length_map]; omega)) ?_
      have g : (st.map V.int)[st.length - 2]? = some (.int (st[st.length - 2]'(by omega))) := by
        rw [List.getElem?_map, List.getElem?_eq_getElem (by omega)]
        rfl
      refine ⟨.ref l, rfl, 2, rfl, l, _, _, _, rfl, rfl, SqL.of hl, atNeg g (by rw [List.length_map]; omega), _, rfl, rfl, _, rfl, ite2 (fun e => ?_) (fun e => ?_)⟩
      · have e' : st[st.length - 2]? = some ns[i] := by
          rw [List.getElem?_eq_getElem (by omega)]
          exact congrArg some (V.int.inj (of_decide_eq_true e))
        refine ⟨.ref l, rfl, .inl ⟨rfl, _, SqL.of hl⟩, l, _, .int (st[st.length - 1]'(by omega)), rfl, rfl, hl, ?_, ?_⟩
        · rw [List.length_map, List.getElem?_map, List.getElem?_eq_getElem (by omega)]
          rfl
        · refine ⟨⟨_, rfl⟩, sm.mut nl, ?_⟩
          rw [upd_same, hst, stp, if_pos ⟨h1, e'⟩, List.map_dropLast]
      · have e' : ¬ st[st.length - 2]? = some ns[i] := fun z => by
          rw [List.getElem?_eq_getElem (by omega)] at z
          exact e (decide_eq_true (congrArg V.int (Option.some.inj z)))
        refine ⟨.ref l, rfl, .inl ⟨rfl, _, SqL.of hl⟩, _, rfl, l, _, _, rfl, rfl, hl, smallLt (by rw [List.length_map]; omega), ?_⟩
        refine ⟨⟨_, rfl⟩, sm.mut nl, ?_⟩
        rw [upd_same, hst, stp, if_neg (fun z => e' z.2), List.map_append]
        rfl
    · refine itF (decide_eq_false (by rw [List.length_map]; omega)) ?_
      refine iteF ?_
      refine ⟨.ref l, rfl, .inl ⟨rfl, _, SqL.of hl⟩, _, rfl, l, _, _, rfl, rfl, hl, smallLt (by rw [List.length_map]; omega), ?_⟩
      refine ⟨⟨_, rfl⟩, sm.mut nl, ?_⟩
      rw [upd_same, hst, stp, if_neg (fun z => h1 z.1), List.map_append]
      rfl
  · rintro σ H' ⟨⟨y, rfl⟩, sm, hl⟩
    rw [List.length_map, List.take_length] at hl
    refine ⟨.ref l, rfl, l, _, rfl, .inl ⟨SqL.of hl, fun p np => ?_⟩⟩
    exact q p _ (sm.trans (Same.new np)) (SqT.of upd_same)
def sp_carried (K : PySem.W.Frag) (cs : CS) : Sp := fun vs H Q E => ∃ (a b r : Addr) (xs ys row : List Int) (p : Nat) (x y : Int), vs = [.ref a, .ref b, .ref r, .int (p : Nat)] ∧ SqT K H a (xs.map V.int) ∧ SqT K H b (ys.map V.int) ∧ SqT K H r (row.map V.int) ∧ xs[p]? = some x ∧ ys[p]? = some y ∧ row.length < 90000 ∧ ∀ t H', Same H H' → SqT K H' t ((strk ([x] ++ row ++ [y])).map V.int) → Q (.ref t) H'
theorem ok_carried (F : Fun K "carried" "carried" s_carried f fd) (T : Txt P w K mg base cs) (c_struck : Cal P w K mg base CX0 1 "struck" ["stones"] s_struck (sp_struck K cs)) : FnOk P w K mg base CX0 2 f fd ["a", "b", "row", "place"] (sp_carried K cs) := by
  refine F.ok sc_carried (fun vs H Q E h => ?_) (fun cdv A outer s H vs Q E hr h => ?_)
  · obtain ⟨a, b, r, xs, ys, row, p, x, y, rfl, _⟩ := h
    rfl
  obtain ⟨a, b, r, xs, ys, row, p, x, y, rfl, ha, hb, hr1, hx, hy, hl, q⟩ := h
  refine ⟨_, (pss_one (ps_ret (pe_cal c_struck (hr.mono (by decide)) pass0 (pa_cons (pe_op (catA K) (pe_op (catA K) (pe_tup (pa_cons (pe_ix (ixT K) (pv 0) (pv 3) (fun _ _ => rfl)) pa_nil)) (pv 2)) (pe_tup (pa_cons (pe_ix (ixT K) (pv 1) (pv 3) (fun _ _ => rfl)) pa_nil))) pa_nil)))), ?_⟩
  have gx : (xs.map V.int)[p]? = some (.int x) := by rw [List.getElem?_map, hx]; rfl
  have gy : (ys.map V.int)[p]? = some (.int y) := by rw [List.getElem?_map, hy]; rfl
  refine ⟨.ref a, rfl, _, rfl, a, _, _, _, rfl, rfl, ha, atN gx rfl, by show 1 ≤ sizeLine; decide, fun u nu => ?_⟩
  have s1 : Same H (upd H u (.tup [.int x])) := Same.new nu
  refine ⟨.ref r, rfl, ?_⟩
  refine ctA (xs := [.int x]) (ys := row.map V.int) (SqT.of upd_same) (s1.tup hr1) (by rw [List.length_map]; show 1 + _ ≤ _; omega) fun v H2 s2 hv => ?_
  refine ⟨.ref b, rfl, _, rfl, b, _, _, _, rfl, rfl, (s1.trans s2).tup hb, atN gy rfl, by show 1 ≤ sizeLine; decide, fun u2 nu2 => ?_⟩
  have s3 : Same H2 (upd H2 u2 (.tup [.int y])) := Same.new nu2
  refine ctA (xs := [V.int x] ++ row.map V.int) (ys := [.int y]) (s3.tup hv) (SqT.of upd_same) (by rw [List.length_append, List.length_map]; show 1 + _ + 1 ≤ _; omega) fun v2 H4 s4 hv2 => ?_
  refine ⟨v2, [x] ++ row ++ [y], rfl, ?_, by rw [List.length_append, List.length_append]; show 1 + _ + 1 < _; omega, fun t H5 s5 ht => q t H5 ((((s1.trans s2).trans s3).trans s4).trans s5) ht⟩
  rw [List.map_append, List.map_append]
  exact hv2
def sp_rows_fit (K : PySem.W.Frag) (cs : CS) : Sp := fun vs H Q E => ∃ (m a b d : Addr) (n : Nat) (ths : List (Int × Int)) (xs ys ks : List Int) (R : Int → List Int), vs = [.ref m, .ref a, .ref b, .ref d] ∧ NB K cs.Net H m n ths ∧ InN n ths ∧ ths.length ≤ 60 ∧ SqT K H a (xs.map V.int) ∧ SqT K H b (ys.map V.int) ∧ xs.length = n ∧ ys.length = n ∧ DRw K H d ks R ∧ (∀ p : Nat, p < n → ((p : Nat) : Int) ∈ ks) ∧ (∀ p, (R p).length < 50000) ∧ ((∀ e ∈ ths, R e.2 = carr xs ys (R e.1) e.2) → ∀ H', Same H H' → Q (.bl true) H') ∧ (¬ (∀ e ∈ ths, R e.2 = carr xs ys (R e.1) e.2) → ∀ H', Same H H' → Q (.bl false) H')
theorem ok_rows_fit (F : Fun K "rows_fit" "rows_fit" s_rows_fit f fd) (T : Txt P w K mg base cs) (c_carried : Cal P w K mg base CX0 2 "carried" ["a", "b", "row", "place"] s_carried (sp_carried K cs)) : FnOk P w K mg base CX0 3 f fd ["net", "a", "b", "rows"] (sp_rows_fit K cs) := by
  refine F.ok sc_rows_fit (fun vs H Q E h => ?_) (fun cdv A outer s H vs Q E hr h => ?_)
  · obtain ⟨m, a, b, d, n, ths, xs, ys, ks, R, rfl, _⟩ := h
    rfl
  obtain ⟨m, a, b, d, n, ths, xs, ys, ks, R, rfl, ⟨dx, r1, s1, nrs, hm, hT, hN, hO⟩, hin, h60, ha, hb, hxl, hyl, hD, hks, hRl, qt, qf⟩ := h
  obtain ⟨us1, hU1, hul1, hget1⟩ := hT.seq
  have hthl : us1.length = ths.length := by rw [hul1]; unfold thR; rw [List.length_map]
  refine ⟨_, (pss_one (ps_ret (pe_callB (allL K rfl) (by rfl) T.n_all (by decide +kernel) (pa_cons (pe_lc (own := [("x", 4), ("y", 5)]) rfl sc_rows_fit.nd (piT K (peF K (pv 0))) (blkOk_by (own := [("x", 4), ("y", 5)]) (N := ["net", "a", "b", "rows", "x", "y"]) (sc := defScope s_rows_fit) (by decide +kernel)) (fun _ _ _ _ _ => (pg_tupK (n := 2) K rfl (pgs_cons (pg_name (i := 4) sc_rows_fit.nd rfl (Or.inl rfl)) (pgs_cons (pg_name (i := 5) sc_rows_fit.nd rfl (Or.inl rfl)) pgs_nil)))) (fun _ _ _ _ _ => pts_nil) (fun _ _ _ _ _ => (pe_cmpR (eqD K hr.units) (pe_dget (hu1 hr) (pv 3) (pv 5) (fun _ _ => rfl)) (pe_cal c_carried (hr.mono (by decide)) pass0 (pa_cons (pv 1) (pa_cons (pv 2) (pa_cons (pe_dget (hu1 hr) (pv 3) (pv 4) (fun _ _ => rfl)) (pa_cons (pv 5) pa_nil))))) (nomark _)))) pa_nil)))), ?_⟩
  refine ⟨.ref m, rfl, m, _, dx, _, .ref r1, rfl, hm, T.cl_Net, T.na_Net_threads, rfl, r1, rfl, ⟨_, hU1⟩, fun D2 nD2 => ?_⟩
  have e_ : ∀ i, (hi : i < ths.length) → ths.getD i (0, 0) = ths[i] := fun i hi => by rw [List.getD_eq_getElem?_getD, List.getElem?_eq_getElem hi]; rfl
  refine lc_rdG (walk_tup (xs := us1)) (fun i => [some (.ref m), some (.ref a), some (.ref b), some (.ref d), some (.int (ths.getD i (0, 0)).1), some (.int (ths.getD i (0, 0)).2)]) (fun i v _ => v = .bl (decide (R (ths.getD i (0, 0)).2 = carr xs ys (R (ths.getD i (0, 0)).1) (ths.getD i (0, 0)).2))) ?_ nD2 (by rw [hthl]; omega) (fun _ _ => rfl) (fun H' s => s.tup hU1) (fun _ _ _ _ _ h => h) ?_ ?_ (fun _ _ _ _ _ h _ => h)
  · rintro i x H2 H3 Qk hi s3 ⟨rfl, hx⟩
    rw [hthl] at hi
    obtain ⟨t, ht, hts⟩ := hget1 i [ths[i].1, ths[i].2] (by unfold thR; rw [List.getElem?_map, List.getElem?_eq_getElem hi]; rfl)
    cases Option.some.inj (ht.symm.trans hx)
    refine ⟨Same.refl _, fun q => ⟨t, _, rfl, s3.tup hts, rfl, _, _, rfl, _, _, rfl, rfl, ?_⟩⟩
    rw [e_ i hi] at q
    exact q
  · intro k hk H' Q' s3 h
    rw [hthl] at hk
    rw [e_ k hk] at h ⊢
    obtain ⟨e0, e1, e2⟩ := hin _ (List.getElem_mem hk)
    generalize ths[k] = e at *
    have hk1 : e.1 ∈ ks := by
      have := hks e.1.toNat (by omega)
      rw [show ((e.1.toNat : Nat) : Int) = e.1 by omega] at this
      exact this
    have hk2 : e.2 ∈ ks := by
      have := hks e.2.toNat (by omega)
      rw [show ((e.2.toNat : Nat) : Int) = e.2 by omega] at this
      exact this
    obtain ⟨kvs, c1, hd1, hv1, hc1⟩ := (hD.same s3).get hk1
    obtain ⟨kvs2, c2, hd2, hv2, hc2⟩ := (hD.same s3).get hk2
    obtain ⟨e1', e2'⟩ := e
    dsimp only at *
    obtain ⟨y, rfl⟩ : ∃ y : Nat, e2' = (y : Int) := ⟨e2'.toNat, by omega⟩
    have hxy := getD_some (xs := xs) (i := y) (by omega)
    have hyy := getD_some (xs := ys) (i := y) (by omega)
    refine ⟨.ref d, rfl, _, rfl, d, .ref c2, rfl, .inl ⟨_, .inl (y : Int), .inl hd2, rfl, hv2.symm⟩, ?_⟩
    refine ⟨_, rfl, _, rfl, .ref d, rfl, _, rfl, d, .ref c1, rfl, .inl ⟨_, .inl e1', .inl hd1, rfl, hv1.symm⟩, _, rfl, ?_⟩
    refine ⟨a, b, c1, xs, ys, R e1', y, _, _, rfl, s3.tup ha, s3.tup hb, hc1, hxy, hyy, by have := hRl e1'; omega, fun t H4 s4 ht => ?_⟩
    refine eqT (s4.tup hc2) ht (h _ _ s4 ?_)
    unfold carr
    rw [Int.toNat_natCast]
  · intro xs3 H3 hx3 hD3 s3 hv3
    have e3 := bls_of (f := fun i => decide (R (ths.getD i (0, 0)).2 = carr xs ys (R (ths.getD i (0, 0)).1) (ths.getD i (0, 0)).2)) (xs := xs3) 0 fun i v z => by rw [Nat.zero_add]; exact hv3 i v z
    rw [hx3, hthl] at e3
    refine ⟨D2, (List.range' 0 ths.length).map fun i => decide (R (ths.getD i (0, 0)).2 = carr xs ys (R (ths.getD i (0, 0)).1) (ths.getD i (0, 0)).2), rfl, SqL.of (by rw [hD3, ← e3]), ?_⟩
    have key : ((List.range' 0 ths.length).map fun i => decide (R (ths.getD i (0, 0)).2 = carr xs ys (R (ths.getD i (0, 0)).1) (ths.getD i (0, 0)).2)).all id = true ↔ ∀ e ∈ ths, R e.2 = carr xs ys (R e.1) e.2 := by
      rw [all_map_id]
      constructor
      · intro h e he
        obtain ⟨i, hi, rfl⟩ := List.getElem_of_mem he
        have := of_decide_eq_true (h i hi)
        rw [e_ i hi] at this
        exact this
      · intro h i hi
        rw [e_ i hi]
        exact decide_eq_true (h _ (List.getElem_mem hi))
    by_cases hf : ∀ e ∈ ths, R e.2 = carr xs ys (R e.1) e.2
    · rw [key.mpr hf]
      exact qt hf _ s3
    · rw [Bool.eq_false_iff.mpr fun z => hf (key.mp z)]
      exact qf hf _ s3
def sp_link_of (K : PySem.W.Frag) (cs : CS) : Sp := fun vs H Q E => ∃ (w_ a b fr : Addr) (rows : List (List Int)) (n : Nat) (ths : List (Int × Int)) (ps xs ys first : List Int) (bs : Nat), vs = [.ref w_, .ref a, .ref b, .ref fr] ∧ WB K cs.Table cs.Net cs.World H w_ rows n ths ps ∧ InN n ths ∧ ths.length ≤ 60 ∧ n ≤ 24 ∧ Conn n ths ∧ ps.headD 0 = (bs : Nat) ∧ bs < n ∧ SqT K H a (xs.map V.int) ∧ SqT K H b (ys.map V.int) ∧ SqT K H fr (first.map V.int) ∧ xs.length = n ∧ ys.length = n ∧ first.length ≤ 1000 ∧ EndsR xs ys first (bs : Nat) ∧ (∀ R, LinkR xs ys ths (bs : Nat) first R → ∀ t H', Same H H' → Bw.TT K H' t ((List.range n).map fun p => R (p : Nat)) → Q (.ref t) H') ∧ ((∀ R, ¬ LinkR xs ys ths (bs : Nat) first R) → ∀ H', Same H H' → Q .non H')
theorem ok_link_of (F : Fun K "link_of" "link_of" s_link_of f fd) (T : Txt P w K mg base cs) (c_come_to : Cal P w K mg base CX0 1 "come_to" ["net", "x"] s_come_to (sp_come_to K cs)) (c_carried : Cal P w K mg base CX0 2 "carried" ["a", "b", "row", "place"] s_carried (sp_carried K cs)) (c_rows_fit : Cal P w K mg base CX0 3 "rows_fit" ["net", "a", "b", "rows"] s_rows_fit (sp_rows_fit K cs)) : FnOk P w K mg base CX0 4 f fd ["world", "a", "b", "first"] (sp_link_of K cs) := by
  refine F.ok sc_link_of (fun vs H Q E h => ?_) (fun cdv A outer s H vs Q E hr h => ?_)
  · obtain ⟨w_, a, b, fr, rows, n, ths, ps, xs, ys, first, bs, rfl, _⟩ := h
    rfl
  obtain ⟨w_, a, b, fr, rows, n, ths, ps, xs, ys, first, bs, rfl, hW, hin, h60, n24, hC, hbs, hbn, ha, hb, hf, hxl, hyl, hfl, hE, qt, qn⟩ := h
  obtain ⟨dw, t, m, pg, hw, hTB, hm, hPG⟩ := id hW
  rw [hbs] at hw
  refine ⟨_, (pss_cons (ps_set (i := 4) sc_link_of.nd rfl (Or.inl rfl) (pe_cal c_come_to (hr.mono (by decide)) pass0 (pa_cons (peF K (pv 0)) (pa_cons (peF K (pv 0)) pa_nil))))
      (pss_cons (ps_set (i := 5) sc_link_of.nd rfl (Or.inr rfl) pe_dnewK)
      (pss_cons (ps_lock (ps_for PassesOwn.never rfl (pi_items (pv 4)) (pg_tup rfl (pgs_cons (pg_name (i := 6) sc_link_of.nd rfl (Or.inl rfl)) (pgs_cons (pg_name (i := 7) sc_link_of.nd rfl (Or.inl rfl)) pgs_nil))) (pss_one (ps_dput (hu1 hr) (pv 5) (pv 6) (pe_ifExp (pt_cmpR op_eq (pv 6) (peF K (pv 0)) (nomark _)) (pv 3) (pe_cal c_carried (hr.mono (by decide)) pass0 (pa_cons (pv 1) (pa_cons (pv 2) (pa_cons (pe_dget (hu1 hr) (pv 5) (pv 7) (fun _ _ => rfl)) (pa_cons (pv 6) pa_nil)))))) rfl))))
      (pss_cons (ps_if (pt_not (pt_val (pe_cal c_rows_fit (hr.mono (by decide)) pass0 (pa_cons (peF K (pv 0)) (pa_cons (pv 1) (pa_cons (pv 2) (pa_cons (pv 5) pa_nil))))))) (pss_one (ps_ret pe_non)) pss_nil)
      (pss_one (ps_ret (pe_callTy (tupOf K) (by rfl) T.n_tuple (by decide +kernel) (pa_cons (pe_lc (own := [("place", 6)]) rfl sc_link_of.nd (pi_range1 (by rfl) T.n_range (pa_cons (peF K (peF K (pv 0))) pa_nil)) (blkOk_by (own := [("place", 6)]) (N := ["world", "a", "b", "first", "found", "rows", "place", "upper"]) (sc := defScope s_link_of) (by decide +kernel)) (fun _ _ _ _ _ => (pg_name (i := 6) sc_link_of.nd rfl (Or.inl rfl))) (fun _ _ _ _ _ => pts_nil) (fun _ _ _ _ _ => (pe_dget (hu1 hr) (pv 5) (pv 6) (fun _ _ => rfl)))) pa_nil)))))))), ?_⟩
  refine ⟨.ref w_, rfl, w_, _, dw, _, .ref m, rfl, hw, T.cl_World, T.na_World_net, rfl, .ref w_, rfl, w_, _, dw, _, _, rfl, hw, T.cl_World, T.na_World_base, rfl, ?_⟩
  refine ⟨m, n, ths, bs, rfl, hm, n24, hin, hbn, fun fd_ ord H1 nfd s1 hfd ho => ?_⟩
  refine fun d nd => ?_
  have ndH := s1.free nd
  have nfdd : fd_ ≠ d := ne_of_none hfd nd
  have hall := ord_all hC hbn ho
  have hord := ord_len hin hbn ho
  refine ⟨fd_, .dK (kvOf ord), by rw [upd_ne nfdd]; exact hfd, trivial, fun od => ?_⟩
  refine ⟨.ref fd_, rfl, fd_, od, _, rfl, upd_same, ?_⟩
  refine for_it walk_items (fun k σ H' => (∃ y6 y7, σ = [some (.ref w_), some (.ref a), some (.ref b), some (.ref fr), some (.ref fd_), some (.ref d), y6, y7]) ∧ Same H H' ∧ H' fd_ = some (.frz od (.dK (kvOf ord))) ∧ ∃ R, DRw K H' d ((ord.take k).map (·.1)) R ∧ TreeR xs ys ord first k R ∧ ∀ p, (R p).length ≤ 1000 + 2 * k) ⟨⟨_, _, rfl⟩, ((s1.trans (Same.new nd)).mut nfd), upd_same, fun _ => [], DRw.new (by rw [upd_ne nfdd.symm]; exact upd_same), ⟨fun e he hk => absurd hk (by omega), fun i e hi hk => absurd hk (by omega)⟩, fun p => Nat.zero_le _⟩ (fun k σ H' _ h => h.2.2.1) ?_ ?_
  · rintro k x σ H2 H3 hk ⟨⟨y6, y7, rfl⟩, sm, hfz, R, hD, hT, hRl⟩ ⟨Tt, x1, x2, rfl, nT, rfl, f1, f2⟩
    have hkl : k < ord.length := by
      have : k < (kvOf ord).length := hk
      unfold kvOf at this
      rw [List.length_map] at this
      exact this
    have he : ord[k]? = some ord[k] := List.getElem?_eq_getElem hkl
    have hkv : (kvOf ord)[k]? = some (.inl ord[k].1, .int ord[k].2) := by
      unfold kvOf
      rw [List.getElem?_map, he]
      rfl
    dsimp only at f1 f2
    rw [hkv] at f1 f2
    cases Option.some.inj f1
    cases Option.some.inj f2
    have hTt : upd H2 Tt (.tup [.int ord[k].1, .int ord[k].2]) Tt = some (.tup [.int ord[k].1, .int ord[k].2]) := upd_same
    have smT := sm.trans (Same.new (o := .tup [.int ord[k].1, .int ord[k].2]) nT)
    have hfz3 : upd H2 Tt (.tup [.int ord[k].1, .int ord[k].2]) fd_ = some (.frz od (.dK (kvOf ord))) := by rw [upd_ne (ne_of_none hfz nT)]; exact hfz
    have hD3 := hD.same (Same.new (o := .tup [.int ord[k].1, .int ord[k].2]) nT)
    have hnk : ord[k].1 ∉ (ord.take k).map (·.1) := fun z => by
      obtain ⟨f, hf, hz⟩ := List.mem_map.mp z
      obtain ⟨j, hj, rfl⟩ := List.getElem_of_mem hf
      rw [List.length_take] at hj
      rw [List.getElem_take] at hz
      have := ho.inj (List.getElem?_eq_getElem (by omega)) he hz
      omega
    have hlt := ord_lt hin hbn ho _ (List.getElem_mem hkl)
    have hstep : ∀ (e2 : Int × Int), (ord.take (k + 1)).map (·.1) = (ord.take k).map (·.1) ++ [ord[k].1] := fun _ => by
      rw [List.take_add_one, he, List.map_append]
      rfl
    dsimp only
    have ekv : kV (.inl ord[k].1) = .int ord[k].1 := rfl
    rw [ekv]
    generalize hH : upd H2 Tt (.tup [.int ord[k].1, .int ord[k].2]) = H3 at *
    refine ⟨Tt, _, rfl, .inl (.inl hTt), rfl, _, _, rfl, _, _, rfl, rfl, ?_⟩
    have hlk : ((ord.take k).map (·.1)).length = k := by rw [List.length_map, List.length_take]; omega
    -- the row is put under the place
    have fin : ∀ (c : Addr) (r : List Int) (H4 : Hp), Same H3 H4 → H4 fd_ = some (.frz od (.dK (kvOf ord))) → SqT K H4 c (r.map V.int) → DRw K H4 d ((ord.take k).map (·.1)) R → (k = 0 → r = first) → (0 < k → r = carr xs ys (R ord[k].2) ord[k].1) → r.length ≤ 1000 + 2 * (k + 1) → ∃ kvs, H4 d = some (.dK kvs) ∧ kvs.length < 1000 ∧ ((∃ y6 y7, [some (.ref w_), some (.ref a), some (.ref b), some (.ref fr), some (.ref fd_), some (.ref d), some (V.int ord[k].1), some (V.int ord[k].2)] = [some (.ref w_), some (.ref a), some (.ref b), some (.ref fr), some (.ref fd_), some (.ref d), y6, y7]) ∧ Same H (upd H4 d (.dK (putK kvs (.inl ord[k].1) (.ref c)))) ∧ (upd H4 d (.dK (putK kvs (.inl ord[k].1) (.ref c)))) fd_ = some (.frz od (.dK (kvOf ord))) ∧ ∃ R, DRw K (upd H4 d (.dK (putK kvs (.inl ord[k].1) (.ref c)))) d ((ord.take (k + 1)).map (·.1)) R ∧ TreeR xs ys ord first (k + 1) R ∧ ∀ p, (R p).length ≤ 1000 + 2 * (k + 1)) := fun c r H4 s4 hf4 hc hD4 h0 h1 hl => by
      obtain ⟨kvs, g1, g2, g3, g4⟩ := hD4.put hnk hc
      refine ⟨kvs, g1, by omega, ⟨_, _, rfl⟩, (smT.trans s4).mut ndH, by rw [upd_ne nfdd]; exact hf4, _, by rw [hstep ord[k]]; exact g4, hT.step ho he h0 h1, fun p => ?_⟩
      split
      · exact hl
      · have := hRl p
        omega
    have hw3 := smT _ _ hw
    by_cases c0 : ord[k].1 = (bs : Nat)
    · have hk0 : k = 0 := ho.inj he ho.fst c0
      refine ⟨_, rfl, .ref w_, rfl, w_, _, dw, _, _, rfl, hw3, T.cl_World, T.na_World_base, rfl, rfl, _, rfl, itT (by rw [c0]; exact decide_eq_true rfl) ⟨_, rfl, ?_⟩⟩
      obtain ⟨kvs, g1, g2, g3⟩ := fin fr first H3 (Same.refl _) hfz3 (smT.tup hf) hD3 (fun _ => rfl) (fun z => absurd z (by omega)) (by omega)
      exact ⟨.ref d, rfl, _, rfl, d, _, rfl, .inl ⟨_, .inl ord[k].1, g1, rfl, smallLt (by omega), rfl⟩, g3⟩
    · have hk0 : 0 < k := Nat.pos_of_ne_zero fun z => c0 (by
        have := ho.fst
        subst z
        rw [he] at this
        rw [Option.some.inj this])
      obtain ⟨j, g, hj, hg, g1, ga⟩ := ho.up k _ he hk0
      have hup : ord[k].2 ∈ (ord.take k).map (·.1) := by
        rw [← g1]
        exact List.mem_map.mpr ⟨g, List.mem_of_getElem? (i := j) (by rw [List.getElem?_take_of_lt hj]; exact hg), rfl⟩
      obtain ⟨kvs, cu, hd3, hv3, hc3⟩ := hD3.get hup
      refine ⟨_, rfl, .ref w_, rfl, w_, _, dw, _, _, rfl, hw3, T.cl_World, T.na_World_base, rfl, rfl, _, rfl, itF (decide_eq_false (fun z => c0 (V.int.inj z))) ?_⟩
      obtain ⟨y, hy⟩ : ∃ y : Nat, ord[k].1 = (y : Int) := ⟨ord[k].1.toNat, by omega⟩
      have hxy := getD_some (xs := xs) (i := y) (by omega)
      have hyy := getD_some (xs := ys) (i := y) (by omega)
      have hru := hRl ord[k].2
      refine ⟨_, rfl, _, rfl, .ref d, rfl, _, rfl, d, .ref cu, rfl, .inl ⟨_, .inl ord[k].2, .inl hd3, rfl, hv3.symm⟩, _, rfl, ?_⟩
      refine ⟨a, b, cu, xs, ys, R ord[k].2, y, _, _, by rw [hy]; rfl, smT.tup ha, smT.tup hb, hc3, hxy, hyy, by omega, fun t2 H4 s4 ht => ?_⟩
      have ecr : strk ([xs.getD y 0] ++ R ord[k].2 ++ [ys.getD y 0]) = carr xs ys (R ord[k].2) ord[k].1 := by
        unfold carr
        rw [hy, Int.toNat_natCast]
      rw [ecr] at ht
      obtain ⟨kvs, g1, g2, g3⟩ := fin t2 _ H4 s4 (s4 _ _ hfz3) ht (hD3.same s4) (fun z => absurd z (by omega)) (fun _ => rfl) (by have := carr_len (xs := xs) (ys := ys) (row := R ord[k].2) (p := ord[k].1); omega)
      exact ⟨.ref d, rfl, _, rfl, d, _, rfl, .inl ⟨_, .inl ord[k].1, g1, rfl, smallLt (by omega), rfl⟩, g3⟩
  · rintro σ H2 ⟨⟨y6, y7, rfl⟩, sm, hfz, R, hD, hT, hRl⟩
    refine ⟨hfz, ?_⟩
    have sm5 : Same H (upd H2 fd_ (.dK (kvOf ord))) := sm.mut nfd
    have hD5 : DRw K (upd H2 fd_ (.dK (kvOf ord))) d ((ord.take (kvOf ord).length).map (·.1)) R := hD.upd nfdd.symm (fun ys z => by rw [hfz] at z; cases z) (fun f ys z => by rw [hfz] at z; cases z)
    have hkl : (kvOf ord).length = ord.length := by unfold kvOf; rw [List.length_map]
    rw [hkl, List.take_length] at hD5
    rw [hkl] at hT
    generalize upd H2 fd_ (.dK (kvOf ord)) = H5 at *
    refine ⟨.ref w_, rfl, w_, _, dw, _, .ref m, rfl, sm5 _ _ hw, T.cl_World, T.na_World_net, rfl, _, rfl, _, rfl, _, rfl, ?_⟩
    refine ⟨m, a, b, d, n, ths, xs, ys, _, R, rfl, hm.same sm5, hin, h60, sm5.tup ha, sm5.tup hb, hxl, hyl, hD5, hall, fun p => by have := hRl p; omega, fun hfit H6 s6 => ?_, fun hfit H6 s6 => ?_⟩
    · refine ⟨true, rfl, iteF ?_⟩
      have s06 := sm5.trans s6
      have hD6 := hD5.same s6
      obtain ⟨dx, r, s, nrs, hm1, _⟩ := hm.same s06
      refine ⟨.ref w_, rfl, w_, _, dw, _, .ref m, rfl, s06 _ _ hw, T.cl_World, T.na_World_net, rfl, m, _, dx, _, _, rfl, hm1, T.cl_Net, T.na_Net_many, rfl, n, rfl, by omega, by omega, fun D nD => ?_⟩
      rw [Int.toNat_natCast]
      refine lc_rd (fun k => .int (0 + (k : Int))) walk_range (fun _ _ _ _ y _ => y) (fun i v H' => ∃ b, v = .ref b ∧ SqT K H' b ((R (i : Nat)).map V.int)) nD (by omega) (fun _ => rfl) (fun _ _ => trivial) (fun i v H H' s h => ?_) (fun i hi H' Q' s h => ?_) (fun us H' hl hDu s hv => ?_) (fun i v H x y h hx => ?_)
      · obtain ⟨b, rfl, hb⟩ := h
        exact ⟨b, rfl, s.tup hb⟩
      · obtain ⟨kvs, c, g1, g2, g3⟩ := (hD6.same s).get (hall i hi)
        refine ⟨.ref d, rfl, _, rfl, d, .ref c, rfl, .inl ⟨_, .inl (i : Int), .inl g1, by rw [Int.zero_add]; rfl, g2.symm⟩, h _ _ (Same.refl _) ⟨c, rfl, g3⟩⟩
      · have hr1 := rws_of (K := K) (H := H') (f := fun p => R (p : Nat)) (xs := us) 0 fun i v e => by rw [Nat.zero_add]; exact hv i v e
        rw [hl, ← List.range_eq_range'] at hr1
        refine ⟨D, _, rfl, .inl ⟨SqL.of hDu, fun t nt => ?_⟩⟩
        exact qt R (link_of_fit ho hT hE hin hall hfit) t _ ((s06.trans s).trans (Same.new nt)) ((hr1.same (Same.new nt)).tt (SqT.of upd_same))
      · obtain ⟨b, rfl, hb⟩ := h
        exact ⟨b, rfl, tup_upd hb hx⟩
    · refine ⟨false, rfl, iteT ?_⟩
      refine qn (fun R' hR' => hfit fun e he => ?_) _ (sm5.trans s6)
      obtain ⟨e0, e1, e2⟩ := hin e he
      have at_ : ∀ p : Int, 0 ≤ p → p < (n : Nat) → R p = R' p := fun p h0 h1 => by
        have := hall p.toNat (by omega)
        rw [show ((p.toNat : Nat) : Int) = p by omega] at this
        obtain ⟨f, hf, rfl⟩ := List.mem_map.mp this
        obtain ⟨i, hi, rfl⟩ := List.getElem_of_mem hf
        exact hT.eq ho hR' i _ (List.getElem?_eq_getElem hi)
      rw [at_ e.2 (by omega) e2, at_ e.1 e0 (by omega)]
      exact hR'.2 _ _ (.inl he)
def sp_base_link (K : PySem.W.Frag) (cs : CS) : Sp := fun vs H Q E => ∃ (w_ a b : Addr) (rows : List (List Int)) (n : Nat) (ths : List (Int × Int)) (ps xs ys : List Int) (bs : Nat), vs = [.ref w_, .ref a, .ref b] ∧ WB K cs.Table cs.Net cs.World H w_ rows n ths ps ∧ InN n ths ∧ ths.length ≤ 60 ∧ n ≤ 24 ∧ Conn n ths ∧ ps.headD 0 = (bs : Nat) ∧ bs < n ∧ SqT K H a (xs.map V.int) ∧ SqT K H b (ys.map V.int) ∧ xs.length = n ∧ ys.length = n ∧ (xs.getD bs 0 = ys.getD bs 0 → ∀ R, LinkR xs ys ths (bs : Nat) [xs.getD bs 0] R → ∀ t H', Same H H' → Bw.TT K H' t ((List.range n).map fun p => R (p : Nat)) → Q (.ref t) H') ∧ ((∀ R, ¬ (xs.getD bs 0 = ys.getD bs 0 ∧ LinkR xs ys ths (bs : Nat) [xs.getD bs 0] R)) → ∀ H', Same H H' → Q .non H')
theorem ok_base_link (F : Fun K "base_link" "base_link" s_base_link f fd) (T : Txt P w K mg base cs) (c_link_of : Cal P w K mg base CX0 4 "link_of" ["world", "a", "b", "first"] s_link_of (sp_link_of K cs)) : FnOk P w K mg base CX0 5 f fd ["world", "a", "b"] (sp_base_link K cs) := by
  refine F.ok sc_base_link (fun vs H Q E h => ?_) (fun cdv A outer s H vs Q E hr h => ?_)
  · obtain ⟨w_, a, b, rows, n, ths, ps, xs, ys, bs, rfl, _⟩ := h
    rfl
  obtain ⟨w_, a, b, rows, n, ths, ps, xs, ys, bs, rfl, hW, hin, h60, n24, hC, hbs, hbn, ha, hb, hxl, hyl, qt, qn⟩ := h
  obtain ⟨dw, t, m, pg, hw, hTB, hm, hPG⟩ := id hW
  rw [hbs] at hw
  have gx : (xs.map V.int)[bs]? = some (.int (xs.getD bs 0)) := by rw [List.getElem?_map, getD_some (by omega)]; rfl
  have gy : (ys.map V.int)[bs]? = some (.int (ys.getD bs 0)) := by rw [List.getElem?_map, getD_some (by omega)]; rfl
  refine ⟨_, (pss_cons (ps_if (pt_cmpR op_ne (pe_ix (ixT K) (pv 1) (peF K (pv 0)) (fun _ _ => rfl)) (pe_ix (ixT K) (pv 2) (peF K (pv 0)) (fun _ _ => rfl)) (nomark _)) (pss_one (ps_ret pe_non)) pss_nil)
      (pss_one (ps_ret (pe_cal c_link_of (hr.mono (by decide)) pass0 (pa_cons (pv 0) (pa_cons (pv 1) (pa_cons (pv 2) (pa_cons (pe_tup (pa_cons (pe_ix (ixT K) (pv 1) (peF K (pv 0)) (fun _ _ => rfl)) pa_nil)) pa_nil)))))))), ?_⟩
  refine ⟨.ref a, rfl, .ref w_, rfl, w_, _, dw, _, _, rfl, hw, T.cl_World, T.na_World_base, rfl, a, _, _, _, rfl, rfl, ha, atN gx rfl, .ref b, rfl, .ref w_, rfl, w_, _, dw, _, _, rfl, hw, T.cl_World, T.na_World_base, rfl, b, _, _, _, rfl, rfl, hb, atN gy rfl, rfl, _, rfl, ?_⟩
  by_cases c : xs.getD bs 0 = ys.getD bs 0
  · refine itF (by simpa using c) ?_
    refine ⟨_, rfl, _, rfl, _, rfl, .ref a, rfl, .ref w_, rfl, w_, _, dw, _, _, rfl, hw, T.cl_World, T.na_World_base, rfl, a, _, _, _, rfl, rfl, ha, atN gx rfl, by show 1 ≤ sizeLine; decide, fun u nu => ?_⟩
    have su := Same.new (o := .tup [.int (xs.getD bs 0)]) nu
    refine ⟨w_, a, b, u, rows, n, ths, ps, xs, ys, [xs.getD bs 0], bs, rfl, hW.same su, hin, h60, n24, hC, hbs, hbn, su.tup ha, su.tup hb, SqT.of upd_same, hxl, hyl, by show 1 ≤ 1000; omega, ⟨str_ix.mpr fun i hi => absurd hi (by show ¬ i + 2 < 1; omega), rfl, by rw [Int.toNat_natCast, ← c]; rfl⟩, fun R hR t2 H1 s1 ht => qt c R hR t2 H1 (su.trans s1) ht, fun hn H1 s1 => qn (fun R hR => hn R hR.2) H1 (su.trans s1)⟩
  · refine itT (by simpa using c) ?_
    exact qn (fun R hR => c hR.1) _ (Same.refl _)
def sp_check_standings (K : PySem.W.Frag) (cs : CS) : Sp := fun vs H Q E => ∃ (w_ t : Addr) (sa : List (Addr × List Int)) (rows : List (List Int)) (n : Nat) (ths : List (Int × Int)) (ps : List Int), vs = [.ref w_, .ref t] ∧ SqT K H t (sa.map fun e => .ref e.1) ∧ WB K cs.Table cs.Net cs.World H w_ rows n ths ps ∧ GoodT rows ∧ InN n ths ∧ n ≤ 24 ∧ ps ≠ [] ∧ (∀ e ∈ sa, SqT K H e.1 (e.2.map V.int) ∧ Stand rows n ths e.2) ∧ ∀ H', Same H H' → Q .non H'
theorem ok_check_standings (F : Fun K "check_standings" "check_standings" s_check_standings f fd) (T : Txt P w K mg base cs) (c_check_pegged : Cal P w K mg base (L2.CX P w) 3 "check_pegged" ["world"] s_check_pegged (sp_check_pegged K cs)) (c_check_standing : Cal P w K mg base (L2.CX P w) 3 "check_standing" ["world", "standing"] s_check_standing (sp_check_standing K cs)) : FnOk P w K mg base CX0 4 f fd ["world", "standings"] (sp_check_standings K cs) := by
  refine F.ok sc_check_standings (fun vs H Q E h => ?_) (fun cdv A outer s H vs Q E hr h => ?_)
  · obtain ⟨w_, t, sa, rows, n, ths, ps, rfl, _⟩ := h
    rfl
  obtain ⟨w_, t, sa, rows, n, ths, ps, rfl, ht, hW, gT, hin, n24, hps, hsa, q⟩ := h
  have r8 := gT.n8
  have rr8 : ∀ r ∈ rows, r.length ≤ 8 := fun r hr => asc_len gT hr
  refine ⟨_, (pss_cons (ps_expr (pe_cal c_check_pegged (hr.mono (by decide)) (passes_call (E := fun _ _ _ => False) takes0 (fun _ _ _ _ h => h)) (pa_cons (pv 0) pa_nil)))
      (pss_one (ps_for PassesOwn.never rfl (piT K (pv 1)) (pg_name (i := 2) sc_check_standings.nd rfl (Or.inl rfl)) (pss_one (ps_expr (pe_cal c_check_standing (hr.mono (by decide)) (passes_call (E := fun _ _ _ => False) takes0 (fun _ _ _ _ h => h)) (pa_cons (pv 0) (pa_cons (pv 2) pa_nil)))))))), ?_⟩
  refine ⟨_, rfl, w_, rows, n, ths, ps, rfl, hW, fun _ H1 s1 => ?_, fun z => absurd z hps⟩
  refine ⟨.ref t, rfl, t, rfl, ⟨_, s1.tup ht⟩, ?_⟩
  refine for_tup (xs := sa.map fun e => .ref e.1) (fun k σ H' => (∃ y, σ = [some (.ref w_), some (.ref t), y]) ∧ Same H H') ⟨⟨_, rfl⟩, s1⟩ (fun k σ H' _ h => h.2.tup ht) ?_ ?_
  · rintro k z σ H2 hk ⟨⟨y, rfl⟩, s2⟩
    obtain ⟨s, zs, rfl, hs, hS⟩ : ∃ (s : Addr) (zs : List Int), z = .ref s ∧ SqT K H s (zs.map V.int) ∧ Stand rows n ths zs := by
      rw [List.getElem?_map] at hk
      obtain ⟨e, he, rfl⟩ := Option.map_eq_some_iff.mp hk
      obtain ⟨h1, h2⟩ := hsa e (List.mem_of_getElem? he)
      exact ⟨e.1, e.2, rfl, h1, h2⟩
    exact ⟨_, rfl, _, rfl, w_, s, rows, n, ths, ps, zs, rfl, hW.same s2, s2.tup hs, r8, rr8, n24, hin, fun H3 s3 _ _ => ⟨⟨_, rfl⟩, s2.trans s3⟩, fun c => absurd hS.1 c, fun p c hp bad => absurd (hS.2 p hp) bad⟩
  · rintro σ H2 ⟨⟨y, rfl⟩, s2⟩
    exact q _ s2
def sp_held_back (K : PySem.W.Frag) (cs : CS) : Sp := fun vs H Q E => ∃ (w_ a z : Addr) (rows : List (List Int)) (n : Nat) (ths : List (Int × Int)) (ps xs : List Int) (R : Int → List Int), vs = [.ref w_, .ref a, .ref z] ∧ WB K cs.Table cs.Net cs.World H w_ rows n ths ps ∧ SqT K H a (xs.map V.int) ∧ xs.length = n ∧ n ≤ 24 ∧ InN n ths ∧ Bw.TT K H z ((List.range n).map fun p => R (p : Nat)) ∧ ∀ t H', Same H H' → SqT K H' t (((frzL n ths ps xs).filter fun p => decide (1 < (R p).length)).map V.int) → Q (.ref t) H'
theorem ok_held_back (F : Fun K "held_back" "held_back" s_held_back f fd) (T : Txt P w K mg base cs) (c_frozen_places : Cal P w K mg base CX0 2 "frozen_places" ["world", "a"] s_frozen_places (sp_frozen_places K cs)) : FnOk P w K mg base CX0 3 f fd ["world", "a", "rows"] (sp_held_back K cs) := by
  refine F.ok sc_held_back (fun vs H Q E h => ?_) (fun cdv A outer s H vs Q E hr h => ?_)
  · obtain ⟨w_, a, z, rows, n, ths, ps, xs, R, rfl, _⟩ := h
    rfl
  obtain ⟨w_, a, z, rows, n, ths, ps, xs, R, rfl, hW, ha, hxl, n24, hin, hZ, q⟩ := h
  obtain ⟨rs, hRs, hrl, hgr⟩ := hZ.seq
  have rowAtP : ∀ p : Nat, p < n → ∃ c, rs[p]? = some (V.ref c) ∧ SqT K H c ((R (p : Nat)).map V.int) := fun p hp => hgr p _ (by rw [List.getElem?_map, List.getElem?_range hp]; rfl)
  have hfl := frzL_len (n := n) (ths := ths) (ps := ps) (xs := xs)
  refine ⟨_, (pss_one (ps_ret (pe_callTy (tupOf K) (by rfl) T.n_tuple (by decide +kernel) (pa_cons (pe_lc (own := [("place", 3)]) rfl sc_held_back.nd (piT K (pe_cal c_frozen_places (hr.mono (by decide)) pass0 (pa_cons (pv 0) (pa_cons (pv 1) pa_nil)))) (blkOk_by (own := [("place", 3)]) (N := ["world", "a", "rows", "place"]) (sc := defScope s_held_back) (by decide +kernel)) (fun _ _ _ _ _ => (pg_name (i := 3) sc_held_back.nd rfl (Or.inl rfl))) (fun _ _ _ _ _ => (pts_one (pt_cmpR op_gt (pe_callB (lenS K) (by rfl) T.n_len PySem.boot_len (pa_cons (pe_ix (ixT K) (pv 2) (pv 3) (fun _ _ => rfl)) pa_nil)) pe_int (nomark _)))) (fun _ _ _ _ _ => (pv 3))) pa_nil)))), ?_⟩
  refine ⟨_, rfl, _, rfl, w_, a, rows, n, ths, ps, xs, rfl, hW, ha, hxl, n24, hin, fun t H1 s1 ht => ⟨t, rfl, ⟨_, ht⟩, fun D nD => ?_⟩⟩
  refine lc_fm (frzL n ths ps xs) (walk_tup (xs := (frzL n ths ps xs).map V.int)) (by rw [List.length_map]) yInt (fun p => decide (1 < (R p).length)) V.int nD (by rw [List.length_map]; omega) (fun _ => rfl) (fun _ s => s.tup ht) (fun c hc H2 Q2 s2 hq => ?_) (fun c hc _ H2 Q2 s2 hq => ⟨_, rfl, hq⟩) (fun H2 hD s2 => ?_)
  · have hcr := (mem_frzL.mp hc).held.1
    obtain ⟨p, rfl⟩ : ∃ p : Nat, c = (p : Int) := ⟨c.toNat, by omega⟩
    obtain ⟨cb, hcb, hcb2⟩ := rowAtP p (by omega)
    have s12 := s1.trans s2
    refine ⟨.ref z, rfl, _, rfl, z, _, _, .ref cb, rfl, rfl, s12.tup hRs, atN hcb rfl, cb, _, rfl, .inr (s12.tup hcb2), _, 1, rfl, rfl, ?_⟩
    have e : decide ((1 : Int) < (((R ((p : Nat) : Int)).map V.int).length : Nat)) = decide (1 < (R ((p : Nat) : Int)).length) := decide_eq_decide.mpr (by rw [List.length_map]; omega)
    rw [← e] at hq
    exact ⟨_, rfl, hq⟩
  · refine ⟨D, _, rfl, .inl ⟨SqL.of hD, fun t2 nt2 => ?_⟩⟩
    exact q t2 _ ((s1.trans s2).trans (Same.new nt2)) (SqT.of upd_same)
def sp_right_link (K : PySem.W.Frag) (cs : CS) : Sp := fun vs H Q E => ∃ (w_ a b : Addr) (rows : List (List Int)) (n : Nat) (ths : List (Int × Int)) (ps xs ys : List Int) (bs : Nat), vs = [.ref w_, .ref a, .ref b] ∧ WB K cs.Table cs.Net cs.World H w_ rows n ths ps ∧ InN n ths ∧ ths.length ≤ 60 ∧ n ≤ 24 ∧ Conn n ths ∧ ps.headD 0 = (bs : Nat) ∧ bs < n ∧ SqT K H a (xs.map V.int) ∧ SqT K H b (ys.map V.int) ∧ xs.length = n ∧ ys.length = n ∧ (∀ R, Comes n ths ps xs ys bs R → ∀ t H', Same H H' → Bw.TT K H' t ((List.range n).map fun p => R (p : Nat)) → Q (.ref t) H') ∧ ((∀ R, ¬ Comes n ths ps xs ys bs R) → ∀ H', Same H H' → Q .non H')
theorem ok_right_link (F : Fun K "right_link" "right_link" s_right_link f fd) (T : Txt P w K mg base cs) (c_base_link : Cal P w K mg base CX0 5 "base_link" ["world", "a", "b"] s_base_link (sp_base_link K cs)) (c_held_back : Cal P w K mg base CX0 3 "held_back" ["world", "a", "rows"] s_held_back (sp_held_back K cs)) : FnOk P w K mg base CX0 6 f fd ["world", "a", "b"] (sp_right_link K cs) := by
  refine F.ok sc_right_link (fun vs H Q E h => ?_) (fun cdv A outer s H vs Q E hr h => ?_)
  · obtain ⟨w_, a, b, rows, n, ths, ps, xs, ys, bs, rfl, _⟩ := h
    rfl
  obtain ⟨w_, a, b, rows, n, ths, ps, xs, ys, bs, rfl, hW, hin, h60, n24, hC, hbs, hbn, ha, hb, hxl, hyl, qt, qn⟩ := h
  refine ⟨_, (pss_cons (ps_set (i := 3) sc_right_link.nd rfl (Or.inl rfl) (pe_cal c_base_link (hr.mono (by decide)) pass0 (pa_cons (pv 0) (pa_cons (pv 1) (pa_cons (pv 2) pa_nil)))))
      (pss_cons (ps_if (PW.pt (pw_or (pt_cmpR op_isN (pv 3) pe_non (nomark _)) (pw_or1 (pt_cmpR (neD K hr.units) (pe_cal c_held_back (hr.mono (by decide)) pass0 (pa_cons (pv 0) (pa_cons (pv 1) (pa_cons (pv 3) pa_nil)))) (pe_tup pa_nil) (nomark _))))) (pss_one (ps_ret pe_non)) pss_nil)
      (pss_one (ps_ret (pv 3))))), ?_⟩
  refine asgK (fun v H' => Same H H' ∧ ((v = .non ∧ ∀ R, ¬ (xs.getD bs 0 = ys.getD bs 0 ∧ LinkR xs ys ths (bs : Nat) [xs.getD bs 0] R)) ∨ (∃ z R, v = .ref z ∧ xs.getD bs 0 = ys.getD bs 0 ∧ LinkR xs ys ths (bs : Nat) [xs.getD bs 0] R ∧ Bw.TT K H' z ((List.range n).map fun p => R (p : Nat))))) (fun R hR' => ?_) ?_
  · exact ⟨_, rfl, _, rfl, _, rfl, w_, a, b, rows, n, ths, ps, xs, ys, bs, rfl, hW, hin, h60, n24, hC, hbs, hbn, ha, hb, hxl, hyl, fun e R1 hR1 t2 H1 s1 ht => hR' _ _ ⟨s1, .inr ⟨t2, R1, rfl, e, hR1, ht⟩⟩, fun hn H1 s1 => hR' _ _ ⟨s1, .inl ⟨rfl, hn⟩⟩⟩
  rintro v H1 ⟨s1, ⟨rfl, hn⟩ | ⟨z, R, rfl, e, hR, hZ⟩⟩
  · refine ⟨_, rfl, rfl, _, rfl, itT (by simp) ?_⟩
    exact qn (fun R hR => hn R ⟨hR.base, hR.link⟩) _ s1
  · refine ⟨_, rfl, rfl, _, rfl, itF (by simp) ?_⟩
    refine ⟨_, rfl, _, rfl, _, rfl, w_, a, z, rows, n, ths, ps, xs, R, rfl, hW.same s1, s1.tup ha, hxl, n24, hin, hZ, fun t H2 s2 ht => ⟨Nat.zero_le _, fun e2 ne2 => ?_⟩⟩
    have se := Same.new (o := .tup []) ne2
    refine neT (ms := []) (se.tup ht) (SqT.of upd_same) ⟨_, rfl, ?_⟩
    have s12 := (s1.trans s2).trans se
    by_cases c : ((frzL n ths ps xs).filter fun p => decide (1 < (R p).length)) = []
    · refine itF (by rw [decide_eq_true c]; rfl) ?_
      refine ⟨_, rfl, qt R ⟨e, hR, fun p hp => ?_⟩ z _ s12 (hZ.same (s2.trans se))⟩
      have := List.filter_eq_nil_iff.mp c p (mem_frzL.mpr hp)
      exact Nat.le_of_not_lt fun z => this (decide_eq_true z)
    · refine itT (by rw [decide_eq_false c]; rfl) ?_
      refine qn (fun R2 hR2 => c (List.filter_eq_nil_iff.mpr fun p hp z => ?_)) _ s12
      have hpf := mem_frzL.mp hp
      have hpr := hpf.held.1
      have e3 := LinkR.one hC hbn hR hR2.link p.toNat (by omega)
      rw [show ((p.toNat : Nat) : Int) = p by omega] at e3
      have := of_decide_eq_true z
      rw [e3] at this
      exact absurd (hR2.held p hpf) (by omega)
def sp_two_links (K : PySem.W.Frag) (cs : CS) : Sp := fun vs H Q E => ∃ (w_ a b c : Addr) (rows : List (List Int)) (n : Nat) (ths : List (Int × Int)) (ps xs ys zs : List Int) (bs : Nat), vs = [.ref w_, .ref a, .ref b, .ref c] ∧ WB K cs.Table cs.Net cs.World H w_ rows n ths ps ∧ GoodT rows ∧ InN n ths ∧ ths.length ≤ 60 ∧ n ≤ 24 ∧ Conn n ths ∧ ps ≠ [] ∧ ps.headD 0 = (bs : Nat) ∧ bs < n ∧ SqT K H a (xs.map V.int) ∧ SqT K H b (ys.map V.int) ∧ SqT K H c (zs.map V.int) ∧ Stand rows n ths xs ∧ Stand rows n ths ys ∧ Stand rows n ths zs ∧ (∀ U W, Comes n ths ps xs ys bs U → Comes n ths ps xs zs bs W → ∀ x t u H', Same H H' → SqT K H' x [.ref t, .ref u] → Bw.TT K H' t ((List.range n).map fun p => U (p : Nat)) → Bw.TT K H' u ((List.range n).map fun p => W (p : Nat)) → Q (.ref x) H') ∧ (((∀ U, ¬ Comes n ths ps xs ys bs U) ∨ ∀ W, ¬ Comes n ths ps xs zs bs W) → ∀ H', Same H H' → Q .non H')
theorem ok_two_links (F : Fun K "two_links" "two_links" s_two_links f fd) (T : Txt P w K mg base cs) (c_check_standings : Cal P w K mg base CX0 4 "check_standings" ["world", "standings"] s_check_standings (sp_check_standings K cs)) (c_right_link : Cal P w K mg base CX0 6 "right_link" ["world", "a", "b"] s_right_link (sp_right_link K cs)) : FnOk P w K mg base CX0 7 f fd ["world", "a", "b", "c"] (sp_two_links K cs) := by
  refine F.ok sc_two_links (fun vs H Q E h => ?_) (fun cdv A outer s H vs Q E hr h => ?_)
  · obtain ⟨w_, a, b, c, rows, n, ths, ps, xs, ys, zs, bs, rfl, _⟩ := h
    rfl
  obtain ⟨w_, a, b, c, rows, n, ths, ps, xs, ys, zs, bs, rfl, hW, gT, hin, h60, n24, hC, hps, hbs, hbn, ha, hb, hc, hSx, hSy, hSz, qt, qn⟩ := h
  refine ⟨_, (pss_cons (ps_expr (pe_cal c_check_standings (hr.mono (by decide)) pass0 (pa_cons (pv 0) (pa_cons (pe_tup (pa_cons (pv 1) (pa_cons (pv 2) (pa_cons (pv 3) pa_nil)))) pa_nil))))
      (pss_cons (ps_set (i := 4) sc_two_links.nd rfl (Or.inl rfl) (pe_cal c_right_link (hr.mono (by decide)) pass0 (pa_cons (pv 0) (pa_cons (pv 1) (pa_cons (pv 2) pa_nil)))))
      (pss_cons (ps_set (i := 5) sc_two_links.nd rfl (Or.inl rfl) (pe_cal c_right_link (hr.mono (by decide)) pass0 (pa_cons (pv 0) (pa_cons (pv 1) (pa_cons (pv 3) pa_nil)))))
      (pss_cons (ps_if (PW.pt (pw_or (pt_cmpR op_isN (pv 4) pe_non (nomark _)) (pw_or1 (pt_cmpR op_isN (pv 5) pe_non (nomark _))))) (pss_one (ps_ret pe_non)) pss_nil)
      (pss_one (ps_ret (pe_tup (pa_cons (pv 4) (pa_cons (pv 5) pa_nil))))))))), ?_⟩
  refine ⟨_, rfl, _, rfl, _, rfl, _, rfl, by show 3 ≤ sizeLine; decide, fun u nu => ?_⟩
  have su := Same.new (o := .tup [.ref a, .ref b, .ref c]) nu
  refine ⟨w_, u, [(a, xs), (b, ys), (c, zs)], rows, n, ths, ps, rfl, SqT.of upd_same, hW.same su, gT, hin, n24, hps, fun e he => ?_, fun H1 s1 => ?_⟩
  · simp only [List.mem_cons, List.not_mem_nil, or_false] at he
    rcases he with rfl | rfl | rfl
    · exact ⟨su.tup ha, hSx⟩
    · exact ⟨su.tup hb, hSy⟩
    · exact ⟨su.tup hc, hSz⟩
  have s01 := su.trans s1
  dsimp only
  refine asgK (fun v H' => Same H H' ∧ ((v = .non ∧ ∀ R, ¬ Comes n ths ps xs ys bs R) ∨ (∃ z R, v = .ref z ∧ Comes n ths ps xs ys bs R ∧ Bw.TT K H' z ((List.range n).map fun p => R (p : Nat))))) (fun R hR' => ?_) ?_
  · exact ⟨_, rfl, _, rfl, _, rfl, w_, a, b, rows, n, ths, ps, xs, ys, bs, rfl, hW.same s01, hin, h60, n24, hC, hbs, hbn, s01.tup ha, s01.tup hb, hSx.1, hSy.1, fun R1 hR1 t2 H2 s2 ht => hR' _ _ ⟨s01.trans s2, .inr ⟨t2, R1, rfl, hR1, ht⟩⟩, fun hn H2 s2 => hR' _ _ ⟨s01.trans s2, .inl ⟨rfl, hn⟩⟩⟩
  rintro v H2 ⟨s2, hv⟩
  refine asgK (fun v' H' => Same H2 H' ∧ ((v' = .non ∧ ∀ R, ¬ Comes n ths ps xs zs bs R) ∨ (∃ z R, v' = .ref z ∧ Comes n ths ps xs zs bs R ∧ Bw.TT K H' z ((List.range n).map fun p => R (p : Nat))))) (fun R hR' => ?_) ?_
  · exact ⟨_, rfl, _, rfl, _, rfl, w_, a, c, rows, n, ths, ps, xs, zs, bs, rfl, hW.same s2, hin, h60, n24, hC, hbs, hbn, s2.tup ha, s2.tup hc, hSx.1, hSz.1, fun R1 hR1 t2 H3 s3 ht => hR' _ _ ⟨s3, .inr ⟨t2, R1, rfl, hR1, ht⟩⟩, fun hn H3 s3 => hR' _ _ ⟨s3, .inl ⟨rfl, hn⟩⟩⟩
  rintro v' H3 ⟨s3, hv'⟩
  have s23 := s2.trans s3
  rcases hv with ⟨rfl, hn⟩ | ⟨z, U, rfl, hU, hZ⟩
  · refine ⟨_, rfl, rfl, _, rfl, itT (by simp) (iteT ?_)⟩
    exact qn (.inl hn) _ s23
  · refine ⟨_, rfl, rfl, _, rfl, itF (by simp) ?_⟩
    rcases hv' with ⟨rfl, hn⟩ | ⟨z', W, rfl, hW', hZ'⟩
    · refine ⟨_, rfl, rfl, _, rfl, itT (by simp) ?_⟩
      exact qn (.inr hn) _ s23
    · refine ⟨_, rfl, rfl, _, rfl, itF (by simp) ?_⟩
      refine ⟨_, rfl, _, rfl, by show 2 ≤ sizeLine; decide, fun x nx => ?_⟩
      have sx := Same.new (o := .tup [.ref z, .ref z']) nx
      exact qt U W hU hW' x z z' _ (s23.trans sx) (SqT.of upd_same) ((hZ.same s3).same sx) (hZ'.same sx)
theorem lcp_is : ∀ (U W : List Int) (i : Nat), i ≤ U.length → i ≤ W.length → (∀ j, j < i → U[j]? = W[j]?) → (∀ x, U[i]? = some x → W[i]? ≠ some x) → lcp U W = i
  | [], W, i, h1, _, _, _ => by
    have : i = 0 := Nat.le_zero.mp h1
    rw [this]; rfl
  | x :: U, [], i, _, h2, _, _ => by
    have : i = 0 := Nat.le_zero.mp h2
    rw [this]; rfl
  | x :: U, y :: W, 0, _, _, _, h4 => lcp_ne fun z => h4 x rfl (by rw [z]; rfl)
  | x :: U, y :: W, i + 1, h1, h2, h3, h4 => by
    have e : x = y := Option.some.inj (h3 0 (Nat.succ_pos i))
    rw [lcp_eq e, lcp_is U W i (Nat.le_of_succ_le_succ h1) (Nat.le_of_succ_le_succ h2) (fun j hj => h3 (j + 1) (Nat.succ_lt_succ hj)) fun z hz => h4 z hz]
def sp_common_steps (K : PySem.W.Frag) (cs : CS) : Sp := fun vs H Q E => ∃ (a b : Addr) (U W : List Int), vs = [.ref a, .ref b] ∧ SqT K H a (U.map V.int) ∧ SqT K H b (W.map V.int) ∧ U.length ≤ 100000 ∧ ∀ H', Same H H' → Q (.int ((lcp U W : Nat) - 1)) H'
theorem ok_common_steps (F : Fun K "common_steps" "common_steps" s_common_steps f fd) (T : Txt P w K mg base cs)  : FnOk P w K mg base CX0 1 f fd ["one", "two"] (sp_common_steps K cs) := by
  refine F.ok sc_common_steps (fun vs H Q E h => ?_) (fun cdv A outer s H vs Q E hr h => ?_)
  · obtain ⟨a, b, U, W, rfl, _⟩ := h
    rfl
  obtain ⟨a, b, U, W, rfl, ha, hb, hl, q⟩ := h
  refine ⟨_, (pss_cons (ps_set (i := 2) sc_common_steps.nd rfl (Or.inl rfl) pe_int)
      (pss_cons (ps_for PassesOwn.never rfl (piZipA K T.n_zip (pa_cons (pv 0) (pa_cons (pv 1) pa_nil))) (pg_tup rfl (pgs_cons (pg_name (i := 3) sc_common_steps.nd rfl (Or.inl rfl)) (pgs_cons (pg_name (i := 4) sc_common_steps.nd rfl (Or.inl rfl)) pgs_nil))) (pss_cons (ps_if (pt_cmpR op_ne (pv 3) (pv 4) (nomark _)) (pss_one ps_break) pss_nil)
      (pss_one (ps_aug (i := 2) sc_common_steps.nd rfl (Or.inl rfl) pe_int ip_add))))
      (pss_one (ps_ret (pe_op op_sub (pv 2) pe_int))))), ?_⟩
  refine gN ?_
  dsimp only [L2.start, List.set, List.map, List.cons_append, List.nil_append]
  refine seqK (fun σ' H' => ∃ y3 y4, σ' = [some (.ref a), some (.ref b), some (.int (lcp U W : Nat)), y3, y4] ∧ Same H H') (fun N hN => ?_) ?_
  · refine ⟨_, rfl, _, rfl, a, b, _, _, rfl, .inr ⟨ha, hb, for_it (walk_zipT (xs := U.map V.int) (ys := W.map V.int)) (fun i σ H' => ∃ y3 y4, σ = [some (.ref a), some (.ref b), some (.int (i : Nat)), y3, y4] ∧ Same H H' ∧ i ≤ U.length ∧ i ≤ W.length ∧ ∀ j, j < i → U[j]? = W[j]?) ⟨_, _, rfl, Same.refl _, Nat.zero_le _, Nat.zero_le _, fun j hj => absurd hj (Nat.not_lt_zero _)⟩ (fun i σ H' _ h => ?_) ?_ ?_⟩⟩
    · obtain ⟨_, _, _, s, _⟩ := h
      exact ⟨s.tup ha, s.tup hb⟩
    · rintro i x σ H1 H2 hi ⟨y3, y4, rfl, s1, l1, l2, hj⟩ ⟨T_, x1, x2, rfl, nT, rfl, e1, e2⟩
      rw [List.length_map, List.length_map] at hi
      have i1 : i < U.length := by omega
      have i2 : i < W.length := by omega
      rw [List.getElem?_map, List.getElem?_eq_getElem i1] at e1
      rw [List.getElem?_map, List.getElem?_eq_getElem i2] at e2
      cases Option.some.inj e1
      cases Option.some.inj e2
      have sT := s1.trans (Same.new (o := .tup [.int U[i], .int W[i]]) nT)
      refine ⟨T_, _, rfl, SqT.of upd_same, rfl, _, _, rfl, _, _, rfl, rfl, ?_⟩
      refine ⟨_, rfl, _, rfl, rfl, _, rfl, ?_⟩
      have ene : (!decide (V.int U[i] = V.int W[i])) = decide (U[i] ≠ W[i]) := by
        rw [← decide_not]
        exact decide_eq_decide.mpr ⟨fun z z2 => z (by rw [z2]), fun z z2 => z (V.int.inj z2)⟩
      rw [ene]
      by_cases c : U[i] = W[i]
      · refine itF (decide_eq_false fun z => z c) ?_
        refine ⟨_, rfl, _, _, rfl, rfl, ?_⟩
        refine ⟨_, _, rfl, sT, by omega, by omega, fun j hj2 => ?_⟩
        by_cases e : j = i
        · subst e
          rw [List.getElem?_eq_getElem i1, List.getElem?_eq_getElem i2, c]
        · exact hj j (by omega)
      · refine itT (decide_eq_true c) ?_
        have ei : lcp U W = i := lcp_is U W i (by omega) (by omega) hj fun z h1 h2 => c (by
          rw [List.getElem?_eq_getElem i1] at h1
          rw [List.getElem?_eq_getElem i2] at h2
          exact (Option.some.inj h1).trans (Option.some.inj h2).symm)
        exact hN _ _ ⟨some (.int U[i]), some (.int W[i]), by rw [ei]; rfl, sT⟩
    · rintro σ H1 ⟨y3, y4, rfl, s1, l1, l2, hj⟩
      rw [List.length_map, List.length_map] at l1 l2 hj ⊢
      have ei : lcp U W = min U.length W.length := lcp_is U W _ (by omega) (by omega) hj fun z h1 h2 => by
        have h1 := (List.getElem?_eq_some_iff.mp h1).1
        have h2 := (List.getElem?_eq_some_iff.mp h2).1
        omega
      exact hN _ _ ⟨y3, y4, by rw [ei], s1⟩
  · rintro σ' H1 ⟨y3, y4, rfl, s1⟩
    exact ⟨_, rfl, _, 1, rfl, rfl, q _ s1⟩
def isFk (U W : Int → List Int) (p : Nat) : Bool := decide (lcp (U (p : Nat)) (W (p : Nat)) % 2 = 0)
theorem legsZ_isFk {rows : List (List Int)} {n : Nat} {ths : List (Int × Int)} {ps a b c : List Int} {M : Int → Int} {A B C U W : Int → List Int} {bs : Nat} (hi : InN n ths) (hC : Conn n ths) (h : LegsZ rows n ths ps bs a b c M A B C) (hbp : ((bs : Nat) : Int) ∈ ps) (hbn : bs < n) (hU : Comes n ths ps a b bs U) (hW : Comes n ths ps a c bs W) {p : Nat} (hp : p < n) : isFk U W p = decide ((A (p : Nat)).length % 2 = 0) := by
  have hr : 0 ≤ ((p : Nat) : Int) ∧ ((p : Nat) : Int) < (n : Nat) := ⟨by omega, by omega⟩
  unfold isFk
  rw [h.ab hi hC hbp hbn hU p hp, h.ac hi hC hbp hbn hW p hp, (h.legs.tri _ hr).lcp]
def fkA (n : Nat) (A : Int → List Int) : List Int := ((List.range n).filter fun p : Nat => decide ((A (p : Nat)).length % 2 = 0)).map fun p : Nat => (p : Int)
def fkL (n : Nat) (U W : Int → List Int) : List Int := ((List.range n).filter (isFk U W)).map fun p : Nat => (p : Int)
theorem legsZ_fkL {rows : List (List Int)} {n : Nat} {ths : List (Int × Int)} {ps a b c : List Int} {M : Int → Int} {A B C U W : Int → List Int} {bs : Nat} (hi : InN n ths) (hC : Conn n ths) (h : LegsZ rows n ths ps bs a b c M A B C) (hbp : ((bs : Nat) : Int) ∈ ps) (hbn : bs < n) (hU : Comes n ths ps a b bs U) (hW : Comes n ths ps a c bs W) : fkL n U W = fkA n A := by
  unfold fkL fkA
  congr 1
  exact List.filter_congr fun p hp => legsZ_isFk hi hC h hbp hbn hU hW (List.mem_range.mp hp)
theorem fkA_eq {n : Nat} {A B : Int → List Int} (h : ∀ p : Nat, p < n → (A (p : Nat)).length % 2 = (B (p : Nat)).length % 2) : fkA n A = fkA n B := by
  unfold fkA
  congr 1
  exact List.filter_congr fun p hp => by rw [h p (List.mem_range.mp hp)]
def sp_fork_places (K : PySem.W.Frag) (cs : CS) : Sp := fun vs H Q E => ∃ (t u : Addr) (n : Nat) (U W : Int → List Int), vs = [.ref t, .ref u] ∧ Bw.TT K H t ((List.range n).map fun p => U (p : Nat)) ∧ Bw.TT K H u ((List.range n).map fun p => W (p : Nat)) ∧ n ≤ 24 ∧ (∀ p : Nat, p < n → (U (p : Nat)).length ≤ 1000 ∧ 1 ≤ lcp (U (p : Nat)) (W (p : Nat))) ∧ ∀ z H', Same H H' → SqT K H' z ((fkL n U W).map V.int) → Q (.ref z) H'
theorem ok_fork_places (F : Fun K "fork_places" "fork_places" s_fork_places f fd) (T : Txt P w K mg base cs) (c_common_steps : Cal P w K mg base CX0 1 "common_steps" ["one", "two"] s_common_steps (sp_common_steps K cs)) : FnOk P w K mg base CX0 2 f fd ["one", "two"] (sp_fork_places K cs) := by
  refine F.ok sc_fork_places (fun vs H Q E h => ?_) (fun cdv A outer s H vs Q E hr h => ?_)
  · obtain ⟨t, u, n, U, W, rfl, _⟩ := h
    rfl
  obtain ⟨t, u, n, U, W, rfl, hT, hU, n24, hl, q⟩ := h
  obtain ⟨ts, hts, htl, htg⟩ := hT.seq
  obtain ⟨us, hus, hul, hug⟩ := hU.seq
  rw [List.length_map, List.length_range] at htl hul
  refine ⟨_, (pss_one (ps_ret (pe_callTy (tupOf K) (by rfl) T.n_tuple (by decide +kernel) (pa_cons (pe_lc (own := [("place", 2), ("row", 3)]) rfl sc_fork_places.nd (pi_enumT (by rfl) T.n_enumerate (pa_cons (pv 0) pa_nil)) (blkOk_by (own := [("place", 2), ("row", 3)]) (N := ["one", "two", "place", "row"]) (sc := defScope s_fork_places) (by decide +kernel)) (fun _ _ _ _ _ => (pg_tupK (n := 2) K rfl (pgs_cons (pg_name (i := 2) sc_fork_places.nd rfl (Or.inl rfl)) (pgs_cons (pg_name (i := 3) sc_fork_places.nd rfl (Or.inl rfl)) pgs_nil)))) (fun _ _ _ _ _ => (pts_one (pt_cmpR op_eq (pe_op op_mod (pe_cal c_common_steps (hr.mono (by decide)) pass0 (pa_cons (pv 3) (pa_cons (pe_ix (ixT K) (pv 1) (pv 2) (fun _ _ => rfl)) pa_nil))) pe_int) pe_int (nomark _)))) (fun _ _ _ _ _ => (pv 2))) pa_nil)))), ?_⟩
  refine ⟨.ref t, rfl, t, _, rfl, hts, fun D nD => ?_⟩
  refine lc_it walk_enumT (fun i H' => H' D = some (.lst ((((List.range i).filter (isFk U W)).map fun p : Nat => (p : Int)).map V.int)) ∧ Same H H') ⟨upd_same, Same.new nD⟩ (fun i H' _ h => h.2.tup hts) ?_ ?_
  · rintro i x H1 H2 hi ⟨g1, g2⟩ ⟨T_, x1, y1, rfl, nT, rfl, e1, e2⟩
    cases Option.some.inj e1
    have hi2 : i < n := by omega
    obtain ⟨bt, hbt, hbts⟩ := htg i (U (i : Nat)) (by rw [List.getElem?_map, List.getElem?_range hi2]; rfl)
    obtain ⟨bu, hbu, hbus⟩ := hug i (W (i : Nat)) (by rw [List.getElem?_map, List.getElem?_range hi2]; rfl)
    cases Option.some.inj (hbt.symm.trans e2)
    have sT := Same.new (o := .tup [.int ((i : Nat) : Int), .ref bt]) nT
    have g3 := sT _ _ g1
    have s3 := g2.trans sT
    have hT_ : (upd H1 T_ (.tup [.int ((i : Nat) : Int), .ref bt])) T_ = some (.tup [.int ((i : Nat) : Int), .ref bt]) := upd_same
    generalize upd H1 T_ (.tup [.int ((i : Nat) : Int), .ref bt]) = H3 at *
    refine ⟨T_, _, rfl, .inl (.inl hT_), rfl, _, _, rfl, _, _, rfl, rfl, ?_⟩
    refine ⟨rfl, ?_⟩
    refine ⟨_, rfl, .ref u, rfl, _, rfl, u, _, _, .ref bu, rfl, rfl, s3.tup hus, atN hbu (by omega), bt, bu, _, _, rfl, s3.tup hbts, s3.tup hbus, by have := (hl i hi2).1; omega, fun H4 s4 => ⟨_, 2, rfl, rfl, by show (0 : Int) < 2; decide, rfl, _, rfl, ?_⟩⟩
    have l1 := (hl i hi2).2
    have ev : decide (V.int ((((lcp (U (i : Nat)) (W (i : Nat)) : Nat) : Int) - 1) % 2) = V.int 1) = isFk U W i := by
      unfold isFk
      refine decide_eq_decide.mpr ⟨fun z => ?_, fun z => ?_⟩
      · have := V.int.inj z
        omega
      · congr 1
        omega
    have hrs := List.range_succ (n := i)
    have g5 := s4 _ _ g3
    dsimp only
    rw [ev]
    cases c : isFk U W i with
    | true =>
      refine iteT ⟨_, rfl, _, g5, smallLt (by rw [List.length_map, List.length_map]; have := List.length_filter_le (isFk U W) (List.range i); rw [List.length_range] at this; omega), ?_, (s3.trans s4).mut nD⟩
      rw [upd_same, hrs, List.filter_append, List.map_append, List.map_append, List.filter_cons, if_pos c]
      rfl
    | false =>
      refine iteF ⟨?_, s3.trans s4⟩
      rw [g5, hrs, List.filter_append, List.filter_cons, if_neg (by rw [c]; decide), List.filter_nil, List.append_nil]
  · rintro H1 ⟨g1, g2⟩
    refine ⟨D, _, rfl, .inl ⟨SqL.of g1, fun z nz => ?_⟩⟩
    rw [htl] at g1
    exact q z _ (g2.trans (Same.new nz)) (SqT.of (by rw [upd_same, htl]; rfl))
def sp_forks (K : PySem.W.Frag) (cs : CS) : Sp := fun vs H Q E => ∃ (w_ a b c : Addr) (rows : List (List Int)) (n : Nat) (ths : List (Int × Int)) (ps xs ys zs : List Int) (bs : Nat), vs = [.ref w_, .ref a, .ref b, .ref c] ∧ WB K cs.Table cs.Net cs.World H w_ rows n ths ps ∧ GoodT rows ∧ InN n ths ∧ ths.length ≤ 60 ∧ n ≤ 24 ∧ Conn n ths ∧ ps ≠ [] ∧ ps.headD 0 = (bs : Nat) ∧ bs < n ∧ SqT K H a (xs.map V.int) ∧ SqT K H b (ys.map V.int) ∧ SqT K H c (zs.map V.int) ∧ Stand rows n ths xs ∧ Stand rows n ths ys ∧ Stand rows n ths zs ∧ (∀ U W, Comes n ths ps xs ys bs U → Comes n ths ps xs zs bs W → ∀ x H', Same H H' → SqT K H' x ((fkL n U W).map V.int) → Q (.ref x) H') ∧ (((∀ U, ¬ Comes n ths ps xs ys bs U) ∨ ∀ W, ¬ Comes n ths ps xs zs bs W) → ∀ H', Same H H' → Q .non H')
theorem ok_forks (F : Fun K "forks" "forks" s_forks f fd) (T : Txt P w K mg base cs) (c_two_links : Cal P w K mg base CX0 7 "two_links" ["world", "a", "b", "c"] s_two_links (sp_two_links K cs)) (c_fork_places : Cal P w K mg base CX0 2 "fork_places" ["one", "two"] s_fork_places (sp_fork_places K cs)) : FnOk P w K mg base CX0 8 f fd ["world", "a", "b", "c"] (sp_forks K cs) := by
  refine F.ok sc_forks (fun vs H Q E h => ?_) (fun cdv A outer s H vs Q E hr h => ?_)
  · obtain ⟨w_, a, b, c, rows, n, ths, ps, xs, ys, zs, bs, rfl, _⟩ := h
    rfl
  obtain ⟨w_, a, b, c, rows, n, ths, ps, xs, ys, zs, bs, rfl, hW, gT, hin, h60, n24, hC, hps, hbs, hbn, ha, hb, hc, hSx, hSy, hSz, qt, qn⟩ := h
  refine ⟨_, (pss_cons (ps_set (i := 4) sc_forks.nd rfl (Or.inl rfl) (pe_cal c_two_links (hr.mono (by decide)) pass0 (pa_cons (pv 0) (pa_cons (pv 1) (pa_cons (pv 2) (pa_cons (pv 3) pa_nil))))))
      (pss_cons (ps_if (pt_cmpR op_isN (pv 4) pe_non (nomark _)) (pss_one (ps_ret pe_non)) pss_nil)
      (pss_one (ps_ret (pe_cal c_fork_places (hr.mono (by decide)) pass0 (pa_cons (pe_ix (ixT K) (pv 4) pe_int (fun _ _ => rfl)) (pa_cons (pe_ix (ixT K) (pv 4) pe_int (fun _ _ => rfl)) pa_nil))))))), ?_⟩
  refine asgK (fun v H' => Same H H' ∧ ((v = .non ∧ ((∀ U, ¬ Comes n ths ps xs ys bs U) ∨ ∀ W, ¬ Comes n ths ps xs zs bs W)) ∨ (∃ x t u U W, v = .ref x ∧ Comes n ths ps xs ys bs U ∧ Comes n ths ps xs zs bs W ∧ SqT K H' x [.ref t, .ref u] ∧ Bw.TT K H' t ((List.range n).map fun p => U (p : Nat)) ∧ Bw.TT K H' u ((List.range n).map fun p => W (p : Nat))))) (fun R hR' => ?_) ?_
  · exact ⟨_, rfl, _, rfl, _, rfl, _, rfl, w_, a, b, c, rows, n, ths, ps, xs, ys, zs, bs, rfl, hW, gT, hin, h60, n24, hC, hps, hbs, hbn, ha, hb, hc, hSx, hSy, hSz, fun U W hU hW x t u H1 s1 hx ht hu => hR' _ _ ⟨s1, .inr ⟨x, t, u, U, W, rfl, hU, hW, hx, ht, hu⟩⟩, fun hn H1 s1 => hR' _ _ ⟨s1, .inl ⟨rfl, hn⟩⟩⟩
  rintro v H1 ⟨s1, ⟨rfl, hn⟩ | ⟨x, t, u, U, W, rfl, hU, hW2, hx, ht, hu⟩⟩
  · refine ⟨_, rfl, rfl, _, rfl, itT (by simp) ?_⟩
    exact qn hn _ s1
  · refine ⟨_, rfl, rfl, _, rfl, itF (by simp) ?_⟩
    refine ⟨.ref x, rfl, x, _, 0, _, rfl, rfl, hx, atI0, .ref x, rfl, x, _, 1, _, rfl, rfl, hx, atI1, t, u, n, U, W, rfl, ht, hu, n24, fun p hp => ?_, fun z H2 s2 hz => qt U W hU hW2 z H2 (s1.trans s2) hz⟩
    have k1 := (LkRow.of gT hin hC hSx hSy hbn hU.base hU.link p hp).ends
    have k2 := (LkRow.of gT hin hC hSx hSz hbn hW2.base hW2.link p hp).ends
    refine ⟨by have := LinkR.len hin hC hbn hU.link p hp; omega, ?_⟩
    have e1 := k1.2.1
    have e2 := k2.2.1
    rw [cons_of_head e1, cons_of_head e2, lcp_eq rfl]
    omega
def sp__law_pool (K : PySem.W.Frag) (cs : CS) : Sp := fun vs H Q E => ∃ (a : Addr) (ns : List Int) (k : Int), vs = [.ref a, .int k] ∧ SqL K H a (ns.map V.int) ∧ 0 ≤ k ∧ k < 1000 ∧ ∀ p H', H p = none → Same H H' → Src H' p → Q (.ref p) H'
theorem ok__law_pool (F : Fun K "_law_pool" "_law_pool" s__law_pool f fd) (T : Txt P w K mg base cs)  : FnOk P w K mg base CX0 1 f fd ["script", "k"] (sp__law_pool K cs) := by
  refine F.ok sc__law_pool (fun vs H Q E h => ?_) (fun cdv A outer s H vs Q E hr h => ?_)
  · obtain ⟨a, ns, k, rfl, _⟩ := h
    rfl
  obtain ⟨a, ns, k, rfl, hS, hk, hk2, q⟩ := h
  obtain ⟨j, rfl⟩ : ∃ j : Nat, k = (j : Int) := ⟨k.toNat, by omega⟩
  have hjj : (0 : Int) ≤ 7919 * (j : Int) * (j : Int) ∧ 7919 * (j : Int) * (j : Int) ≤ 7919000 * 1000 := by
    have h1 : (0 : Int) ≤ 7919 * (j : Int) := by omega
    have h2 : 7919 * (j : Int) ≤ 7919000 := by omega
    exact ⟨Int.mul_nonneg h1 hk, Int.mul_le_mul h2 (by omega) hk (by decide)⟩
  refine ⟨_, (pss_cons (ps_set (i := 2) sc__law_pool.nd rfl (Or.inl rfl) pe_int)
      (pss_cons (ps_if (pt_cmpR op_lt (pv 1) (pe_callB (lenS K) (by rfl) T.n_len PySem.boot_len (pa_cons (pv 0) pa_nil)) (nomark _)) (pss_one (ps_set (i := 2) sc__law_pool.nd rfl (Or.inl rfl) (pe_ix (ixL K) (pv 0) (pv 1) (fun _ _ => rfl)))) (pss_one (ps_if (pt_truth (pv 0) (by intro _; rfl)) (pss_one (ps_set (i := 2) sc__law_pool.nd rfl (Or.inl rfl) (pe_ix (ixL K) (pv 0) pe_int (fun _ _ => rfl)))) pss_nil)))
      (pss_cons (ps_set (i := 3) sc__law_pool.nd rfl (Or.inl rfl) (pe_callB (call_max2 rfl) (by rfl) T.n_max (by decide +kernel) (pa_cons (pe_callTy call_int1 (by rfl) T.n_int (by decide +kernel) (pa_cons (pv 2) pa_nil)) (pa_cons (pe_callTy call_int1 (by rfl) T.n_int (by decide +kernel) (pa_cons (pe_op op_sub (pe_un un_neg pe_int) (pv 2)) pa_nil)) pa_nil))))
      (pss_cons (ps_set (i := 4) sc__law_pool.nd rfl (Or.inl rfl) (pe_op op_mod (pe_callTy call_int1 (by rfl) T.n_int (by decide +kernel) (pa_cons (pe_op op_mul (pe_op op_add (pe_op op_add (pe_op op_add (pe_op op_mod (pe_callTy call_int1 (by rfl) T.n_int (by decide +kernel) (pa_cons (pv 3) pa_nil)) pe_int) (pe_op op_mul (pe_op op_mul pe_int (pv 1)) (pv 1))) (pe_op op_mul pe_int (pv 1))) pe_int) pe_int) pa_nil)) pe_int))
      (pss_one (ps_ret (pe_lst (pa_cons (pe_op op_mul (pv 3) (pe_callTy call_int1 (by rfl) T.n_int (by decide +kernel) (pa_cons (pe_cmpR op_ge (pv 3) (pe_op op_pow pe_int pe_int) (nomark _)) pa_nil))) (pa_cons (pv 4) pa_nil))))))))), ?_⟩
  refine ⟨.int j, rfl, .ref a, rfl, a, _, rfl, .inl hS, j, _, rfl, rfl, _, rfl, ite2
    (fun c => ⟨.ref a, rfl, .int j, rfl, a, _, j, .int (ns.getD j 0), rfl, rfl, hS, atI_nat ?_, ?_⟩)
    (fun c => ⟨.ref a, rfl, _, .inl ⟨_, hS, rfl⟩, ite2 (fun c2 => ⟨.ref a, rfl, a, _, 0, .int (ns.getD 0 0), rfl, rfl, hS, atN (j := 0) ?_ rfl, ?_⟩) (fun c2 => ?_)⟩)⟩
  · have h1 : j < ns.length := by
      have z := of_decide_eq_true c
      rw [List.length_map] at z
      omega
    rw [List.getElem?_map, List.getD_eq_getElem?_getD, List.getElem?_eq_getElem h1]
    rfl
  rotate_left
  · cases ns with
    | nil => cases c2
    | cons n ns => rfl
  all_goals
    refine ⟨_, rfl, .inl ⟨_, rfl, 1, rfl, _, rfl, _, _, rfl, rfl, .inl ⟨_, rfl, _, _, rfl, ?_⟩⟩⟩
    refine ⟨_, rfl, .inl ⟨_, rfl, _, 2147483629, rfl, rfl, by show (0 : Int) < 2147483629; decide, _, rfl, _, _, rfl, rfl, .inl ⟨by omega, by omega⟩, _, rfl, _, _, rfl, rfl, .inl ⟨by omega, by omega⟩, _, _, rfl, rfl, _, rfl, _, _, rfl, rfl, .inl ⟨by omega, by omega⟩, _, _, rfl, rfl, _, _, rfl, rfl, _, _, rfl, rfl, .inl ?_, .inl ⟨_, rfl, _, 2147483647, rfl, rfl, by show (0 : Int) < 2147483647; decide, ?_⟩⟩⟩
    · exact mixB hjj hk hk2
    · refine ⟨_, rfl, _, rfl, _, _, rfl, rfl, ⟨by decide, by decide, by decide⟩, _, _, rfl, rfl, .inr ⟨_, rfl, _, _, rfl, rfl, .inr (b01 _), _, rfl, by show 2 ≤ sizeLine; decide, fun p np => ?_⟩⟩
      refine q p _ np (Same.new np) ⟨_, _, upd_same, ?_, Int.emod_nonneg _ (by decide), Int.emod_lt_of_pos _ (by decide)⟩
      refine Int.mul_nonneg ?_ ?_
      · split <;> omega
      · exact b0 _
def sp__law_take (K : PySem.W.Frag) (cs : CS) : Sp := fun vs H Q E => ∃ (p : Addr) (t : Int), vs = [.ref p, .int t] ∧ Src H p ∧ 0 < t ∧ t < 2000000000 ∧ ∀ r H', 0 ≤ r → r < t → Src H' p → Exb p H H' → Q (.int r) H'
theorem ok__law_take (F : Fun K "_law_take" "_law_take" s__law_take f fd) (T : Txt P w K mg base cs)  : FnOk P w K mg base CX0 1 f fd ["source", "top"] (sp__law_take K cs) := by
  refine F.ok sc__law_take (fun vs H Q E h => ?_) (fun cdv A outer s H vs Q E hr h => ?_)
  · obtain ⟨p, t, rfl, _⟩ := h
    rfl
  obtain ⟨p, t, rfl, ⟨a, b, hp, ha, hb, hb2⟩, ht, ht2, q⟩ := h
  refine ⟨_, (pss_cons (ps_if (pt_cmpR op_gt (pe_ix (ixL K) (pv 0) pe_int (fun _ _ => rfl)) pe_int (nomark _)) (pss_cons (ps_set (i := 2) sc__law_take.nd rfl (Or.inl rfl) (pe_op op_mod (pe_callTy call_int1 (by rfl) T.n_int (by decide +kernel) (pa_cons (pe_ix (ixL K) (pv 0) pe_int (fun _ _ => rfl)) pa_nil)) (pv 1)))
      (pss_cons (ps_asg (pe_op op_fdivW (pe_ix (ixL K) (pv 0) pe_int (fun _ _ => rfl)) (pv 1)) (pg_sub (pv 0) pe_int set_list))
      (pss_one (ps_ret (pv 2))))) pss_nil)
      (pss_cons (ps_asg (pe_op op_mod (pe_callTy call_int1 (by rfl) T.n_int (by decide +kernel) (pa_cons (pe_op op_add (pe_op op_mul (pe_ix (ixL K) (pv 0) pe_int (fun _ _ => rfl)) pe_int) pe_int) pa_nil)) pe_int) (pg_sub (pv 0) pe_int set_list))
      (pss_one (ps_ret (pe_op op_mod (pe_callTy call_int1 (by rfl) T.n_int (by decide +kernel) (pa_cons (pe_op op_fdivW (pe_op op_mod (pe_callTy call_int1 (by rfl) T.n_int (by decide +kernel) (pa_cons (pe_op op_mul (pe_ix (ixL K) (pv 0) pe_int (fun _ _ => rfl)) (pe_ix (ixL K) (pv 0) pe_int (fun _ _ => rfl))) pa_nil)) pe_int) pe_int) pa_nil)) (pv 1)))))), ?_⟩
  -- source[0] > 0
  refine ⟨.ref p, rfl, p, _, 0, .int a, rfl, rfl, SqL.of hp, atI0, a, 0, rfl, rfl, _, rfl, ite2 (fun c => ?_) (fun c => ?_)⟩
  · -- drawn = int(source[0]) % top; source[0] = source[0] // top; return drawn
    refine ⟨.ref p, rfl, p, _, 0, .int a, rfl, rfl, SqL.of hp, atI0, .inl ⟨a, rfl, .int t, rfl, a, t, rfl, rfl, ht, ?_⟩⟩
    refine ⟨.ref p, rfl, p, _, 0, .int a, rfl, rfl, SqL.of hp, atI0, .int t, rfl, a, t, rfl, rfl, wide_div (b := 64) ht (by omega) (by decide) (by decide), ?_⟩
    refine ⟨.ref p, rfl, p, _, 0, 0, rfl, rfl, hp, rfl, ?_⟩
    refine ⟨.int (a % t), rfl, ?_⟩
    exact q _ _ (Int.emod_nonneg _ (by omega)) (Int.emod_lt_of_pos _ ht) ⟨a / t, b, upd_same, Int.ediv_nonneg ha (by omega), hb, hb2⟩ Exb.at
  · refine ⟨.ref p, rfl, p, _, 1, .int b, rfl, rfl, SqL.of hp, atI1, b, 39373, rfl, rfl, .inl ⟨by omega, by omega⟩, _, 7, rfl, rfl, .inl ⟨_, rfl, _, 2147483647, rfl, rfl, by show (0 : Int) < 2147483647; decide, ?_⟩⟩
    refine ⟨.ref p, rfl, p, _, 1, 1, rfl, rfl, hp, rfl, ?_⟩
    have h1 : (0 : Int) ≤ (b * 39373 + 7) % 2147483647 := Int.emod_nonneg _ (by decide)
    have h2 : (b * 39373 + 7) % 2147483647 < 2147483647 := Int.emod_lt_of_pos _ (by decide)
    have hp2 : (upd H p (.lst [.int a, .int ((b * 39373 + 7) % 2147483647)])) p = some (.lst [.int a, .int ((b * 39373 + 7) % 2147483647)]) := upd_same
    refine ⟨.ref p, rfl, p, [.int a, .int ((b * 39373 + 7) % 2147483647)], 1, _, rfl, rfl, SqL.of hp2, atI1, .ref p, rfl, p, [.int a, .int ((b * 39373 + 7) % 2147483647)], 1, _, rfl, rfl, SqL.of hp2, atI1, _, _, rfl, rfl, .inl ⟨by omega, by omega⟩, ?_⟩
    refine .inl ⟨_, rfl, _, 2147483629, rfl, rfl, by show (0 : Int) < 2147483629; decide, _, 32, rfl, rfl, ⟨by decide, by decide⟩, .inl ⟨_, rfl, .int t, rfl, _, t, rfl, rfl, ht, ?_⟩⟩
    exact q _ _ (Int.emod_nonneg _ (by omega)) (Int.emod_lt_of_pos _ ht) ⟨a, _, hp2, ha, h1, h2⟩ Exb.at
def sp__law_one (K : PySem.W.Frag) (cs : CS) : Sp := fun vs H Q E => ∃ (p a : Addr) (xs : List V), vs = [.ref p, .ref a] ∧ Src H p ∧ ((H a = some (.lst xs) ∧ a ≠ p) ∨ SqT K H a xs) ∧ 0 < xs.length ∧ xs.length < 1000000 ∧ ∀ v H', v ∈ xs → Src H' p → Exb p H H' → Q v H'
theorem ok__law_one (F : Fun K "_law_one" "_law_one" s__law_one f fd) (T : Txt P w K mg base cs) (c__law_take : Cal P w K mg base CX0 1 "_law_take" ["source", "top"] s__law_take (sp__law_take K cs)) : FnOk P w K mg base CX0 2 f fd ["source", "things"] (sp__law_one K cs) := by
  refine F.ok sc__law_one (fun vs H Q E h => ?_) (fun cdv A outer s H vs Q E hr h => ?_)
  · obtain ⟨p, a, xs, rfl, _⟩ := h
    rfl
  obtain ⟨p, a, xs, rfl, hs, ha, h0, h1, q⟩ := h
  refine ⟨_, (pss_one (ps_ret (pe_ix (ixS K) (pv 1) (pe_cal c__law_take (hr.mono (by decide)) pass0 (pa_cons (pv 0) (pa_cons (pe_callB (lenS K) (by rfl) T.n_len PySem.boot_len (pa_cons (pv 1) pa_nil)) pa_nil))) (fun _ _ => rfl)))), ?_⟩
  have sa : SqL K H a xs ∨ SqT K H a xs := ha.imp (fun h => SqL.of h.1) id
  have kp : ∀ H', Exb p H H' → SqL K H' a xs ∨ SqT K H' a xs := fun H' e => ha.imp (fun h => SqL.of (e.lst h.2 h.1)) (fun h => e.tup hs h)
  refine ⟨.ref a, rfl, .ref p, rfl, .ref a, rfl, a, xs, rfl, sa, p, xs.length, rfl, hs, by omega, by omega, fun r H' r0 r1 s' e => ?_⟩
  obtain ⟨j, rfl⟩ : ∃ j : Nat, r = (j : Int) := ⟨r.toNat, by omega⟩
  have hj : j < xs.length := by omega
  rcases kp _ e with hx | hx
  · exact .inl ⟨a, xs, j, xs[j], rfl, rfl, hx, atI_nat (List.getElem?_eq_getElem hj), q _ _ (List.getElem_mem hj) s' e⟩
  · exact .inr ⟨a, xs, j, xs[j], rfl, rfl, hx, atI_nat (List.getElem?_eq_getElem hj), q _ _ (List.getElem_mem hj) s' e⟩
theorem ifT {tt : L2.TT} {a b : TS} {D : Ends} {σ : L2.St} {H : Hp} (A : Bool → Hp → Prop) (h1 : ∀ R : Bool → Hp → Prop, (∀ c H', A c H' → R c H') → tt σ H R) (h2 : ∀ H', A true H' → a D σ H') (h3 : ∀ H', A false H' → b D σ H') : tIfS tt a b D σ H :=
  h1 _ fun c H' h => by
    cases c with
    | true => exact iteT (h2 H' h)
    | false => exact iteF (h3 H' h)
def mm (p c : Int) : Int × Int := (if c < p then c else p, if c > p then c else p)
theorem mm_mem {prs : List (Int × Int)} (h : ∀ e ∈ prs, e.1 ≤ e.2) (p c : Int) : mm p c ∈ prs ↔ (p, c) ∈ prs ∨ (c, p) ∈ prs := by
  unfold mm
  by_cases h1 : c < p
  · rw [if_pos h1, if_neg (by omega)]
    refine ⟨.inr, fun z => z.resolve_left fun w => ?_⟩
    have := h _ w
    have this : p ≤ c := this
    omega
  · rw [if_neg h1]
    by_cases h2 : c = p
    · subst h2
      rw [if_neg (by omega)]
      exact ⟨.inl, fun z => z.elim id id⟩
    · rw [if_pos (by omega)]
      refine ⟨.inl, fun z => z.resolve_right fun w => ?_⟩
      have := h _ w
      have this : c ≤ p := this
      omega
theorem bsr_mm {n : Nat} {prs : List (Int × Int)} (h : ∀ e ∈ prs, e.1 ≤ e.2) (p : Nat) : ((List.range n).map Int.ofNat).filter (fun s => decide (mm (Int.ofNat p) s ∈ prs)) = bsr n prs p := by
  unfold bsr
  exact List.filter_congr fun s _ => decide_eq_decide.mpr (mm_mem h _ _)
def Wide (n : Nat) (rows : List (List Int)) : Prop := (∀ s : Nat, 0 < s → s < n → ((s : Nat) : Int) ∈ rowOf rows 0) ∧ (n = 3 → (0 : Int) ∈ rowOf rows 0)
def sp__law_beside (K : PySem.W.Frag) (cs : CS) : Sp := fun vs H Q E => ∃ (p : Addr) (n : Nat) (wd : Bool), vs = [.ref p, .int (n : Nat), .bl wd] ∧ Src H p ∧ 1 ≤ n ∧ n ≤ 8 ∧ ∀ x rows H', Bw.TT K H' x rows → GoodT rows → rows.length = n → (wd = true → Wide n rows) → Src H' p → Exb p H H' → Q (.ref x) H'
theorem ok__law_beside (F : Fun K "_law_beside" "_law_beside" s__law_beside f fd) (T : Txt P w K mg base cs) (c__law_take : Cal P w K mg base CX0 1 "_law_take" ["source", "top"] s__law_take (sp__law_take K cs)) : FnOk P w K mg base CX0 2 f fd ["source", "many", "wide"] (sp__law_beside K cs) := by
  refine F.ok sc__law_beside (fun vs H Q E h => ?_) (fun cdv A outer s H vs Q E hr h => ?_)
  · obtain ⟨p, n, wd, rfl, _⟩ := h
    rfl
  obtain ⟨p, n, wd, rfl, hs, n1, n8, q⟩ := h
  refine ⟨_, (pss_cons (ps_set (i := 3) sc__law_beside.nd rfl (Or.inr rfl) (pe_lst pa_nil))
      (pss_cons (ps_for PassesOwn.never rfl (pi_range1 (by rfl) T.n_range (pa_cons (pv 1) pa_nil)) (pg_name (i := 4) sc__law_beside.nd rfl (Or.inl rfl)) (pss_one (ps_for PassesOwn.never rfl (pi_range2 (by rfl) T.n_range (pa_cons (pv 4) (pa_cons (pv 1) pa_nil))) (pg_name (i := 5) sc__law_beside.nd rfl (Or.inl rfl)) (pss_one (ps_if (PW.pt (pw_or (pt_cmpR op_gt (pe_cal c__law_take (hr.mono (by decide)) pass0 (pa_cons (pv 0) (pa_cons pe_int pa_nil))) (pe_callTy call_int1 (by rfl) T.n_int (by decide +kernel) (pa_cons (pe_cmpR op_eq (pv 4) (pv 5) (nomark _)) pa_nil)) (nomark _)) (pw_or1 (PW.pt (pw_and (pt_val (pv 2)) (pw_and (pt_cmpR op_eq (pv 4) pe_int (nomark _)) (pw_and1 (PW.pt (pw_or (pt_cmpR op_gt (pv 5) pe_int (nomark _)) (pw_or1 (pt_cmpR op_eq (pv 1) pe_int (nomark _)))))))))))) (pss_one (ps_expr (pe_bm PySem.F.plainAttrs_list PySem.F.slot_list_append PySem.F.type_list_append mt_append (pv 3) (pa_cons (pe_tup (pa_cons (pv 4) (pa_cons (pv 5) pa_nil))) pa_nil)))) pss_nil)))))
      (pss_one (ps_ret (pe_callTy (tupOf K) (by rfl) T.n_tuple (by decide +kernel) (pa_cons (pe_lc (own := [("p", 4)]) rfl sc__law_beside.nd (pi_range1 (by rfl) T.n_range (pa_cons (pv 1) pa_nil)) (blkOk_by (own := [("p", 4)]) (N := ["source", "many", "wide", "pairs", "p", "s"]) (sc := defScope s__law_beside) (by decide +kernel)) (fun _ _ _ _ _ => (pg_name (i := 4) sc__law_beside.nd rfl (Or.inr rfl))) (fun _ _ _ _ _ => pts_nil) (fun _ _ _ _ _ => (pe_callTy (tupOf K) (by rfl) T.n_tuple (by decide +kernel) (pa_cons (pe_lc (own := [("s", 5)]) rfl sc__law_beside.nd (pi_range1 (by rfl) T.n_range (pa_cons (pv 1) pa_nil)) (blkOk_by (own := [("s", 5)]) (N := ["source", "many", "wide", "pairs", "p", "s"]) (sc := ({ kind := PySem.ScopeKind.function, names := [ (PySem.Str.ofString ".0", PySem.NameKind.local), (PySem.Str.ofString "p", PySem.NameKind.cell), (PySem.Str.ofString "tuple", PySem.NameKind.globalImplicit), (PySem.Str.ofString "range", PySem.NameKind.globalImplicit), (PySem.Str.ofString "many", PySem.NameKind.cell), (PySem.Str.ofString "pairs", PySem.NameKind.cell)], isGenerator := false, isCoroutine := false, more := [] : PySem.Scope })) (by decide +kernel)) (fun _ _ _ _ _ => (pg_name (i := 5) sc__law_beside.nd rfl (Or.inl rfl))) (fun _ _ _ _ _ => (pts_one (pt_cmpR (inX K (hu65 hr)) (pe_tup (pa_cons (pe_callB (call_min2 rfl) (by rfl) T.n_min (by decide +kernel) (pa_cons (pv 4) (pa_cons (pv 5) pa_nil))) (pa_cons (pe_callB (call_max2 rfl) (by rfl) T.n_max (by decide +kernel) (pa_cons (pv 4) (pa_cons (pv 5) pa_nil))) pa_nil))) (pv 3) rfl))) (fun _ _ _ _ _ => (pv 5))) pa_nil)))) pa_nil)))))), ?_⟩
  refine ⟨Nat.zero_le _, fun d nd => ?_⟩
  have ndp := hs.ne nd
  have sd := Same.new (o := .lst []) nd
  refine ⟨_, rfl, n, rfl, by omega, by omega, ?_⟩
  rw [Int.toNat_natCast]
  refine for_range (fun i σ H' => (∃ y4 y5, σ = [some (.ref p), some (.int (n : Nat)), some (.bl wd), some (.ref d), y4, y5]) ∧ ∃ us prs, H' d = some (.lst us) ∧ TPs H' us prs ∧ (∀ e ∈ prs, (0 ≤ e.1 ∧ e.1 ≤ e.2) ∧ e.2 < (n : Nat)) ∧ prs.length ≤ i * 10 ∧ (wd = true → 0 < i → ∀ s : Nat, s < n → (0 < s ∨ n = 3) → ((0 : Int), (s : Int)) ∈ prs) ∧ Src H' p ∧ Exb p H H') ⟨⟨_, _, rfl⟩, [], [], upd_same, TPs.nil, fun e he => (by cases he), Nat.zero_le _, fun _ z => absurd z (by omega), hs.put ndp, Exb.new nd⟩ ?_ ?_
  · rintro i σ H3 hi ⟨⟨y4, y5, rfl⟩, us, prs, hd, hT, hb, hpl, hwd, s3, e3⟩
    refine ⟨_, rfl, _, rfl, _, _, rfl, ⟨by omega, by omega, by omega, by omega⟩, ?_⟩
    have e0 : (((n : Nat) : Int) - (0 + (i : Int))).toNat = n - i := by omega
    rw [e0]
    refine for_range (fun j σ H' => (∃ y5, σ = [some (.ref p), some (.int (n : Nat)), some (.bl wd), some (.ref d), some (.int (0 + (i : Int))), y5]) ∧ ∃ us prs, H' d = some (.lst us) ∧ TPs H' us prs ∧ (∀ e ∈ prs, (0 ≤ e.1 ∧ e.1 ≤ e.2) ∧ e.2 < (n : Nat)) ∧ prs.length ≤ i * 10 + j ∧ (wd = true → ∀ s : Nat, s < (if i = 0 then j else n) → (0 < s ∨ n = 3) → ((0 : Int), (s : Int)) ∈ prs) ∧ Src H' p ∧ Exb p H H') ⟨⟨_, rfl⟩, us, prs, hd, hT, hb, hpl, fun hw s hs2 ho => ?_, s3, e3⟩ ?_ ?_
    · by_cases c : i = 0
      · rw [if_pos c] at hs2; omega
      · rw [if_neg c] at hs2
        exact hwd hw (by omega) s hs2 ho
    · rintro j σ H4 hj ⟨⟨y5, rfl⟩, us, prs, hd, hT, hb, hpl, hwd, s4, e4⟩
      have ex : (0 : Int) + (i : Int) = (i : Nat) := by omega
      have ey : (0 : Int) + (i : Int) + (j : Int) = ((i + j : Nat) : Int) := by omega
      refine gN ?_
      dsimp only [List.set]
      refine ifT (fun c H' => Src H' p ∧ Exb p H4 H' ∧ (c = false → ¬ (wd = true ∧ i = 0 ∧ (0 < j ∨ n = 3)))) (fun R hR => ?_) ?_ ?_
      · refine ⟨_, rfl, p, 3, rfl, s4, by decide, by decide, fun r H5 r0 r1 s5 e5 => ?_⟩
        refine ⟨_, rfl, _, rfl, rfl, .inr ⟨_, rfl, _, _, rfl, rfl, _, rfl, ?_⟩⟩
        by_cases c0 : r > (if decide (V.int (0 + (i : Int)) = V.int (0 + (i : Int) + (j : Int))) = true then 1 else 0)
        · exact itT (decide_eq_true c0) (hR _ _ ⟨s5, e5, fun z => Bool.noConfusion z⟩)
        · refine itF (decide_eq_false c0) ?_
          refine ⟨_, rfl, wd, rfl, ?_⟩
          cases wd with
          | false => exact iteF (hR _ _ ⟨s5, e5, fun _ z => Bool.noConfusion z.1⟩)
          | true =>
            refine iteT ?_
            refine ⟨_, rfl, rfl, _, rfl, ?_⟩
            by_cases c1 : i = 0
            · refine itT (by rw [c1]; rfl) ?_
              refine ⟨_, rfl, _, 0, rfl, rfl, _, rfl, ?_⟩
              by_cases c2 : 0 < j
              · refine itT (decide_eq_true (by omega)) ?_
                exact hR _ _ ⟨s5, e5, fun z => Bool.noConfusion z⟩
              · refine itF (decide_eq_false (by omega)) ?_
                refine ⟨_, rfl, rfl, _, rfl, ?_⟩
                exact hR _ _ ⟨s5, e5, fun z w => w.2.2.elim c2 fun e => of_decide_eq_false z (by rw [e]; rfl)⟩
            · refine itF (decide_eq_false fun z => c1 (by have := V.int.inj z; omega)) ?_
              exact hR _ _ ⟨s5, e5, fun _ z => c1 z.2.1⟩
      · rintro H5 ⟨s5, e5, _⟩
        have hd5 := e5.lst ndp hd
        have hT5 := hT.exb s4 e5
        have hul := hT.1
        have e45 := e4.trans e5
        refine ⟨.ref d, rfl, .inl ⟨rfl, _, SqL.of hd5⟩, _, rfl, _, rfl, by show 2 ≤ sizeLine; decide, fun t nt => ?_⟩
        have st := Same.new (o := .tup [.int (0 + (i : Int)), .int (0 + (i : Int) + (j : Int))]) nt
        refine ⟨d, us, _, rfl, rfl, st _ _ hd5, smallLt (by omega), ?_⟩
        refine ⟨⟨_, rfl⟩, us ++ [.ref t], prs ++ [(0 + (i : Int), 0 + (i : Int) + (j : Int))], upd_same, ((hT5.same st).snoc ⟨t, rfl, upd_same⟩).upd (st _ _ hd5), fun e he => ?_, by rw [List.length_append]; show prs.length + 1 ≤ _; omega, fun hw s hs2 ho => ?_, (st.src s5).put ndp, (e45.trans (Exb.of st)).mut nd⟩
        · rcases List.mem_append.mp he with he | he
          · exact hb e he
          · rw [List.mem_singleton.mp he]
            dsimp only
            omega
        · by_cases c : i = 0
          · rw [if_pos c] at hs2
            by_cases c2 : s = j
            · subst c c2
              refine List.mem_append_right _ (List.mem_singleton.mpr ?_)
              exact Prod.ext (by show (0 : Int) = _; omega) (by show ((s : Nat) : Int) = _; omega)
            · exact List.mem_append_left _ (hwd hw s (by rw [if_pos c]; omega) ho)
          · rw [if_neg c] at hs2
            exact List.mem_append_left _ (hwd hw s (by rw [if_neg c]; exact hs2) ho)
      · rintro H5 ⟨s5, e5, no⟩
        refine ⟨⟨_, rfl⟩, us, prs, e5.lst ndp hd, hT.exb s4 e5, hb, by omega, fun hw s hs2 ho => ?_, s5, e4.trans e5⟩
        by_cases c : i = 0
        · rw [if_pos c] at hs2
          by_cases c2 : s = j
          · exact absurd ⟨hw, c, c2 ▸ ho⟩ (no rfl)
          · exact hwd hw s (by rw [if_pos c]; omega) ho
        · rw [if_neg c] at hs2
          exact hwd hw s (by rw [if_neg c]; exact hs2) ho
    · rintro σ H4 ⟨⟨y5, rfl⟩, us, prs, hd, hT, hb, hpl, hwd, s4, e4⟩
      refine ⟨⟨_, _, rfl⟩, us, prs, hd, hT, hb, by omega, fun hw h0 s hs2 ho => hwd hw s ?_ ho, s4, e4⟩
      split <;> omega
  · rintro σ H3 ⟨⟨y4, y5, rfl⟩, us, prs, hd, hT, hb, hpl, hwd, s3, e3⟩
    have hP := TPs.pl (K := K) hd hT
    have hle : ∀ e ∈ prs, e.1 ≤ e.2 := fun e he => (hb e he).1.2
    refine ⟨_, rfl, n, rfl, by omega, by omega, fun D nD => ?_⟩
    rw [Int.toNat_natCast]
    refine lc_rd (fun k => .int (0 + (k : Int))) walk_range (fun _ _ _ _ y _ => y) (fun i v H' => ∃ b, v = .ref b ∧ SqT K H' b ((bsr n prs i).map V.int)) nD (by omega) (fun _ => wipe1) (fun _ _ => trivial) (fun i v H H' s h => ?_) (fun i hi H' Q' s h => ?_) (fun xs H' hl hD s hv => ?_) (fun i v H x y h hx => ?_)
    · obtain ⟨b, rfl, hb⟩ := h
      exact ⟨b, rfl, s.tup hb⟩
    · refine ⟨_, rfl, n, rfl, by omega, by omega, fun D2 nD2 => ?_⟩
      rw [Int.toNat_natCast]
      refine lc_fs ((List.range n).map Int.ofNat) walk_range (by rw [List.length_map, List.length_range]) yRng (fun c => decide (mm (Int.ofNat i) c ∈ prs)) V.int nD2 (by omega) (fun _ => wipe1) (fun _ _ => trivial) (fun c _ H2 Q2 s2 hq => ?_) (fun c _ _ H2 Q2 _ hq => ⟨_, rfl, hq _ (Same.refl _)⟩) (fun H2 hD2 s2 => ?_)
      · have hP2 := PL.same (s.trans s2) hP
        refine ⟨_, rfl, _, rfl, _, _, rfl, _, rfl, _, rfl, _, _, rfl, by show 2 ≤ sizeLine; decide, fun u nu => ?_⟩
        have su := Same.new (o := .tup [.int (mm (0 + (i : Int)) c).1, .int (mm (0 + (i : Int)) c).2]) nu
        have hP3 := PL.same su hP2
        refine ⟨_, rfl, rowD [(mm (0 + (i : Int)) c).1, (mm (0 + (i : Int)) c).2], _, row_dp (r := [(mm (0 + (i : Int)) c).1, (mm (0 + (i : Int)) c).2]) (SqT.of upd_same), .inl hP3, shRow _, shPL _, _, rfl, ?_⟩
        rw [any_pair]
        have := hq _ su
        rw [show (0 : Int) + (i : Int) = Int.ofNat i by show _ = ((i : Nat) : Int); omega] at *
        exact this
      · refine ⟨D2, _, rfl, .inl ⟨SqL.of hD2, fun t nt => ?_⟩⟩
        rw [bsr_mm hle] at hD2
        exact h _ _ (s2.trans (Same.new nt)) ⟨t, rfl, SqT.of (by rw [upd_same, ← bsr_mm hle])⟩
    · have hr1 := rws_of (K := K) (H := H') (f := bsr n prs) (xs := xs) 0 fun i v e => by rw [Nat.zero_add]; exact hv i v e
      rw [hl, ← List.range_eq_range'] at hr1
      refine ⟨D, _, rfl, .inl ⟨SqL.of hD, fun t nt => ?_⟩⟩
      have st := s.trans (Same.new (o := .tup xs) nt)
      refine q t (besd n prs) _ ((hr1.same (Same.new nt)).tt (SqT.of upd_same)) (good_besd n1 n8) besd_len (fun hw => ⟨fun s s0 sn => ?_, fun e3 => ?_⟩) (st.src s3) (e3.trans (Exb.of st))
      · rw [rowOf_besd (by omega)]
        exact bsr_mem.mpr ⟨⟨by omega, by omega⟩, .inl (hwd hw (by omega) s sn (.inl s0))⟩
      · rw [rowOf_besd (by omega)]
        exact bsr_mem.mpr ⟨⟨by omega, by omega⟩, .inl (hwd hw (by omega) 0 (by omega) (.inr e3))⟩
    · obtain ⟨b, rfl, hb⟩ := h
      exact ⟨b, rfl, tup_upd hb hx⟩
def sp__law_threads (K : PySem.W.Frag) (cs : CS) : Sp := fun vs H Q E => ∃ (p : Addr) (n more : Nat), vs = [.ref p, .int (n : Nat), .int (more : Nat)] ∧ Src H p ∧ 1 ≤ n ∧ n ≤ 24 ∧ more ≤ 10 ∧ ∀ d us ths H', H d = none → H' d = some (.lst us) → TPs H' us ths → GoodN n ths → Conn n ths → Src H' p → Exb p H H' → Q (.ref d) H'
theorem ok__law_threads (F : Fun K "_law_threads" "_law_threads" s__law_threads f fd) (T : Txt P w K mg base cs) (c__law_take : Cal P w K mg base CX0 1 "_law_take" ["source", "top"] s__law_take (sp__law_take K cs)) : FnOk P w K mg base CX0 2 f fd ["source", "n", "more"] (sp__law_threads K cs) := by
  refine F.ok sc__law_threads (fun vs H Q E h => ?_) (fun cdv A outer s H vs Q E hr h => ?_)
  · obtain ⟨p, n, more, rfl, _⟩ := h
    rfl
  obtain ⟨p, n, more, rfl, hs, n1, n24, hm, q⟩ := h
  have e0 : (((n : Nat) : Int) - 1).toNat = n - 1 := by omega
  refine ⟨_, (pss_cons (ps_setLc (i := 4) (own := [("y", 3)]) rfl sc__law_threads.nd rfl rfl (sw_true rfl rfl rfl (by decide +kernel)) (pi_range2 (by rfl) T.n_range (pa_cons pe_int (pa_cons (pv 1) pa_nil))) (blkOk_by (own := [("y", 3)]) (N := ["source", "n", "more", "y", "found", "turn", "x"]) (sc := defScope s__law_threads) (by decide +kernel)) (fun _ _ _ _ _ => (pg_name (i := 3) sc__law_threads.nd rfl (Or.inl rfl))) (fun _ _ _ _ _ => pts_nil) (fun _ _ _ _ _ => (pe_tup (pa_cons (pe_cal c__law_take (hr.mono (by decide)) pass0 (pa_cons (pv 0) (pa_cons (pv 3) pa_nil))) (pa_cons (pv 3) pa_nil)))))
      (pss_cons (ps_for PassesOwn.never rfl (pi_range1 (by rfl) T.n_range (pa_cons (pe_ifExp (pt_cmpR op_gt (pv 1) pe_int (nomark _)) (pe_cal c__law_take (hr.mono (by decide)) pass0 (pa_cons (pv 0) (pa_cons (pe_op op_add (pv 2) pe_int) pa_nil))) pe_int) pa_nil)) (pg_name (i := 5) sc__law_threads.nd rfl (Or.inl rfl)) (pss_cons (ps_set (i := 6) sc__law_threads.nd rfl (Or.inl rfl) (pe_cal c__law_take (hr.mono (by decide)) pass0 (pa_cons (pv 0) (pa_cons (pv 1) pa_nil))))
      (pss_cons (ps_set (i := 3) sc__law_threads.nd rfl (Or.inl rfl) (pe_op op_mod (pe_callTy call_int1 (by rfl) T.n_int (by decide +kernel) (pa_cons (pe_op op_add (pe_op op_add (pv 6) pe_int) (pe_cal c__law_take (hr.mono (by decide)) pass0 (pa_cons (pv 0) (pa_cons (pe_op op_sub (pv 1) pe_int) pa_nil)))) pa_nil)) (pv 1)))
      (pss_one (ps_if (pt_cmpR (ninX K (hu65 hr)) (pe_tup (pa_cons (pe_callB (call_min2 rfl) (by rfl) T.n_min (by decide +kernel) (pa_cons (pv 6) (pa_cons (pv 3) pa_nil))) (pa_cons (pe_callB (call_max2 rfl) (by rfl) T.n_max (by decide +kernel) (pa_cons (pv 6) (pa_cons (pv 3) pa_nil))) pa_nil))) (pv 4) rfl) (pss_one (ps_expr (pe_bm PySem.F.plainAttrs_list PySem.F.slot_list_append PySem.F.type_list_append mt_append (pv 4) (pa_cons (pe_tup (pa_cons (pe_callB (call_min2 rfl) (by rfl) T.n_min (by decide +kernel) (pa_cons (pv 6) (pa_cons (pv 3) pa_nil))) (pa_cons (pe_callB (call_max2 rfl) (by rfl) T.n_max (by decide +kernel) (pa_cons (pv 6) (pa_cons (pv 3) pa_nil))) pa_nil))) pa_nil)))) pss_nil)))))
      (pss_one (ps_ret (pe_callB (sortPO K) (by rfl) T.n_sorted (by decide +kernel) (pa_cons (pv 4) pa_nil)))))), ?_⟩
  refine asgK (fun v H' => ∃ d us prs, v = .ref d ∧ ThL H H' p d n us prs ∧ prs.length + 1 = n) (fun R hR => ?_) ?_
  · refine ⟨_, rfl, 1, _, rfl, ⟨by omega, by omega, by omega, by omega⟩, fun D nD => ?_⟩
    rw [e0]
    have nDp := hs.ne nD
    refine lc_it walk_range (fun i H' => ∃ us prs, H' D = some (.lst us) ∧ TPs H' us prs ∧ TreeK (i + 1) prs ∧ Src H' p ∧ Exb p H H') ⟨[], [], upd_same, TPs.nil, ⟨rfl, fun i e he => by simp at he⟩, hs.put nDp, Exb.new nD⟩ (fun _ _ _ _ => trivial) ?_ ?_
    · rintro i x H4 H5 hi ⟨us, prs, g1, g2, g3, g5, g6⟩ ⟨rfl, rfl⟩
      refine ⟨rfl, ?_⟩
      refine tYes_i (iteT ?_)
      refine ⟨_, rfl, _, rfl, p, _, rfl, g5, by omega, by omega, fun r H6 r0 r1 s6 e6 => ⟨_, rfl, by show 2 ≤ sizeLine; decide, fun t nt => ?_⟩⟩
      have st := Same.new (H := H6) (o := .tup [.int r, .int (1 + (i : Int))]) nt
      have hl2 := g3.len
      have hul := g2.1
      have g1' := e6.lst nDp g1
      refine ⟨us, st _ _ g1', smallLt (by omega), us ++ [.ref t], prs ++ [(r, ((i + 1 : Nat) : Int))], upd_same, (((g2.exb g5 e6).same st).snoc ⟨t, rfl, ?_⟩).upd (st _ _ g1'), g3.snoc r0 (by omega), (st.src s6).put nDp, fun b o hb ho => ?_⟩
      · rw [upd_same]
        dsimp only
        rw [show ((i + 1 : Nat) : Int) = 1 + (i : Int) by omega]
      · rw [upd_ne (ne_of_none ho nD)]
        exact st _ _ (e6 _ _ hb (g6 _ _ hb ho))
    · rintro H4 ⟨us, prs, g1, g2, g3, g5, g6⟩
      rw [show n - 1 + 1 = n by omega] at g3
      exact hR _ _ ⟨D, us, prs, rfl, ⟨nD, g1, g2, g3.nodup, g3.inN, g3.tree, g5, g6⟩, g3.len⟩
  rintro v H4 ⟨d, us, prs, rfl, hT, hpl⟩
  have ndp : d ≠ p := fun z => by
    obtain ⟨_, _, hp, _⟩ := hs
    have := hT.d0
    rw [z, hp] at this
    cases this
  have s4 := hT.src
  refine seqK (fun σ' H' => ∃ us prs y3 y5 y6, σ' = [some (.ref p), some (.int (n : Nat)), some (.int (more : Nat)), y3, some (.ref d), y5, y6] ∧ ThL H H' p d n us prs ∧ prs.length ≤ n + 11) (fun N hN => ?_) ?_
  · by_cases c2 : (2 : Int) < (n : Nat)
    · refine ⟨_, rfl, _, 2, rfl, rfl, _, rfl, itT (decide_eq_true c2) ⟨_, rfl, _, rfl, _, 1, rfl, rfl, p, more + 1, rfl, s4, by omega, by omega, fun rr H5 r0 r1 s5 e5 => ?_⟩⟩
      obtain ⟨k, rfl⟩ : ∃ k : Nat, rr = (k : Int) := ⟨rr.toNat, by omega⟩
      refine ⟨k, rfl, by omega, by omega, ?_⟩
      rw [Int.toNat_natCast]
      refine for_range (fun i σ H' => ∃ us prs y3 y5 y6, σ = [some (.ref p), some (.int (n : Nat)), some (.int (more : Nat)), y3, some (.ref d), y5, y6] ∧ ThL H H' p d n us prs ∧ prs.length ≤ n + i) ⟨us, prs, _, _, _, rfl, hT.exb' ndp s5 e5, by omega⟩ ?_ ?_
      · clear hT hpl s4 us prs
        rintro i σ H7 hi ⟨us, prs, y3, y5, y6, rfl, hT, hpl⟩
        refine ⟨_, rfl, _, rfl, p, _, rfl, hT.src, by omega, by omega, fun x0 H8 x00 x01 s8 e8 => ?_⟩
        have hT := hT.exb' ndp s8 e8
        refine ⟨_, rfl, _, _, rfl, rfl, _, rfl, _, rfl, _, 1, rfl, rfl, p, _, rfl, hT.src, by omega, by omega, fun z0 H9 z00 z01 s9 e9 => ⟨_, _, rfl, rfl, .inl ⟨_, rfl, _, rfl, _, _, rfl, rfl, by omega, ?_⟩⟩⟩
        have hT := hT.exb' ndp s9 e9
        have hul := hT.tps.1
        have hy : 0 ≤ (x0 + 1 + z0) % ((n : Nat) : Int) ∧ (x0 + 1 + z0) % ((n : Nat) : Int) < ((n : Nat) : Int) ∧ (x0 + 1 + z0) % ((n : Nat) : Int) ≠ x0 := by
          refine ⟨Int.emod_nonneg _ (by omega), Int.emod_lt_of_pos _ (by omega), ?_⟩
          by_cases cc : x0 + 1 + z0 < (n : Nat)
          · rw [Int.emod_eq_of_lt (by omega) cc]; omega
          · have : (x0 + 1 + z0) % ((n : Nat) : Int) = x0 + 1 + z0 - (n : Nat) := by
              rw [← Int.sub_emod_right, Int.emod_eq_of_lt (by omega) (by omega)]
            rw [this]; omega
        refine gN ?_
        dsimp only [List.set]
        generalize (x0 + 1 + z0) % ((n : Nat) : Int) = y0 at hy ⊢
        obtain ⟨y00, y01, hne⟩ := hy
        have hmm : 0 ≤ (mm x0 y0).1 ∧ (mm x0 y0).1 < (mm x0 y0).2 ∧ (mm x0 y0).2 < (n : Nat) := by
          unfold mm
          by_cases cc : y0 < x0
          · rw [if_pos cc, if_neg (by omega)]; exact ⟨y00, cc, x01⟩
          · rw [if_neg cc, if_pos (by omega)]; exact ⟨x00, by show x0 < y0; omega, y01⟩
        refine ⟨_, rfl, _, rfl, _, _, rfl, _, rfl, _, rfl, _, _, rfl, by show 2 ≤ sizeLine; decide, fun u nu => ?_⟩
        have su := Same.new (o := .tup [.int (mm x0 y0).1, .int (mm x0 y0).2]) nu
        have hT1 := hT.same su
        refine ⟨_, rfl, rowD [(mm x0 y0).1, (mm x0 y0).2], _, row_dp (r := [(mm x0 y0).1, (mm x0 y0).2]) (SqT.of upd_same), .inl (.lst (SqL.of hT1.lst) hT1.tps.dp), shRow _, shPL _, _, rfl, ?_⟩
        rw [any_pair]
        by_cases m : ((mm x0 y0).1, (mm x0 y0).2) ∈ prs
        · rw [decide_eq_true m]
          exact iteF ⟨us, prs, _, _, _, rfl, hT1, by omega⟩
        · rw [decide_eq_false m]
          refine iteT ?_
          refine ⟨.ref d, rfl, .inl ⟨rfl, _, SqL.of hT1.lst⟩, _, rfl, _, rfl, _, _, rfl, _, rfl, _, rfl, _, _, rfl, by show 2 ≤ sizeLine; decide, fun t nt => ?_⟩
          have st := Same.new (o := .tup [.int (mm x0 y0).1, .int (mm x0 y0).2]) nt
          have hT2 := hT1.same st
          refine ⟨d, us, _, rfl, rfl, hT2.lst, smallLt (by omega), ?_⟩
          exact ⟨_, _, _, _, _, rfl, hT2.add ndp upd_same m hmm.1 hmm.2.1 hmm.2.2, by rw [List.length_append]; show prs.length + 1 ≤ _; omega⟩
      · rintro σ H7 ⟨us, prs, y3, y5, y6, rfl, hT, hpl⟩
        exact hN _ _ ⟨us, prs, _, _, _, rfl, hT, by omega⟩
    · refine ⟨_, rfl, _, 2, rfl, rfl, _, rfl, itF (decide_eq_false c2) ?_⟩
      refine ⟨0, rfl, by decide, by decide, ?_⟩
      refine for_range (n := 0) (fun i σ H' => ∃ us prs y3 y5 y6, σ = [some (.ref p), some (.int (n : Nat)), some (.int (more : Nat)), y3, some (.ref d), y5, y6] ∧ ThL H H' p d n us prs ∧ prs.length ≤ n + i) ⟨us, prs, _, _, _, rfl, hT, by omega⟩ (fun i _ _ hi => absurd hi (Nat.not_lt_zero _)) ?_
      rintro σ H7 ⟨us, prs, y3, y5, y6, rfl, hT, hpl⟩
      exact hN _ _ ⟨us, prs, _, _, _, rfl, hT, by omega⟩
  clear hT hpl s4 us prs
  rintro σ' H6 ⟨us, prs, y3, y5, y6, rfl, hT, hpl⟩
  refine ⟨.ref d, rfl, ?_⟩
  dsimp only [tNil]
  refine sort_TPs (SqL.of hT.lst) hT.tps fun ys qrs p2 np hp hs2 ht => ?_
  have s1 := Same.new (o := .lst ys) np
  have hTr : Tree n qrs := fun v v0 v1 => by
    obtain ⟨w_, hw, hwm⟩ := hT.tree v v0 v1
    exact ⟨w_, hw, hp.mem_iff.mpr hwm⟩
  exact q p2 ys qrs _ (hT.exb.fresh (hT.src.ne np) np) upd_same ht (goodN_of (by omega) (by omega) hp hs2 hT.nd hT.rng hT.tree (by omega)) (conn_tree hTr) (s1.src hT.src) (hT.exb.trans (Exb.of s1))
def sp__law_near (K : PySem.W.Frag) (cs : CS) : Sp := fun vs H Q E => ∃ (d : Addr) (n : Nat) (us : List V) (ths : List (Int × Int)), vs = [.int (n : Nat), .ref d] ∧ H d = some (.lst us) ∧ TPs H us ths ∧ InN n ths ∧ n ≤ 24 ∧ ∀ l nrs H', Same H H' → LLf H H' l nrs → NearOk n ths nrs → Q (.ref l) H'
theorem ok__law_near (F : Fun K "_law_near" "_law_near" s__law_near f fd) (T : Txt P w K mg base cs)  : FnOk P w K mg base CX0 1 f fd ["n", "threads"] (sp__law_near K cs) := by
  refine F.ok sc__law_near (fun vs H Q E h => ?_) (fun cdv A outer s H vs Q E hr h => ?_)
  · obtain ⟨d, n, us, ths, rfl, _⟩ := h
    rfl
  obtain ⟨d, n, us, ths, rfl, hd, hT, hin, n24, q⟩ := h
  have hP := TPs.pl (K := K) hd hT
  have hle : ∀ e ∈ ths, e.1 ≤ e.2 := fun e he => by have := hin e he; omega
  refine ⟨_, (pss_one (ps_ret (pe_lc (own := [("x", 2)]) rfl sc__law_near.nd (pi_range1 (by rfl) T.n_range (pa_cons (pv 0) pa_nil)) (blkOk_by (own := [("x", 2)]) (N := ["n", "threads", "x", "y"]) (sc := defScope s__law_near) (by decide +kernel)) (fun _ _ _ _ _ => (pg_name (i := 2) sc__law_near.nd rfl (Or.inr rfl))) (fun _ _ _ _ _ => pts_nil) (fun _ _ _ _ _ => (pe_lc (own := [("y", 3)]) rfl sc__law_near.nd (pi_range1 (by rfl) T.n_range (pa_cons (pv 0) pa_nil)) (blkOk_by (own := [("y", 3)]) (N := ["n", "threads", "x", "y"]) (sc := ({ kind := PySem.ScopeKind.function, names := [ (PySem.Str.ofString ".0", PySem.NameKind.local), (PySem.Str.ofString "x", PySem.NameKind.cell), (PySem.Str.ofString "range", PySem.NameKind.globalImplicit), (PySem.Str.ofString "n", PySem.NameKind.cell), (PySem.Str.ofString "threads", PySem.NameKind.cell)], isGenerator := false, isCoroutine := false, more := [] : PySem.Scope })) (by decide +kernel)) (fun _ _ _ _ _ => (pg_name (i := 3) sc__law_near.nd rfl (Or.inl rfl))) (fun _ _ _ _ _ => (pts_one (pt_cmpR (inX K (hu65 hr)) (pe_tup (pa_cons (pe_callB (call_min2 rfl) (by rfl) T.n_min (by decide +kernel) (pa_cons (pv 2) (pa_cons (pv 3) pa_nil))) (pa_cons (pe_callB (call_max2 rfl) (by rfl) T.n_max (by decide +kernel) (pa_cons (pv 2) (pa_cons (pv 3) pa_nil))) pa_nil))) (pv 1) rfl))) (fun _ _ _ _ _ => (pv 3))))))), ?_⟩
  refine ⟨_, rfl, n, rfl, by omega, by omega, fun D nD => ?_⟩
  rw [Int.toNat_natCast]
  refine lc_it walk_range (fun i H' => ∃ bs : List Addr, H' D = some (.lst (bs.map V.ref)) ∧ bs.length = i ∧ (∀ (k : Nat) b, bs[k]? = some b → H b = none ∧ b ≠ D ∧ H' b = some (.lst ((bsr n ths k).map V.int))) ∧ Same H H') ⟨[], upd_same, rfl, fun k b z => by simp at z, Same.new nD⟩ (fun _ _ _ _ => trivial) ?_ ?_
  · rintro i x H1 H1' hi ⟨bs, g1, g2, g3, g4⟩ ⟨rfl, rfl⟩
    refine ⟨wipe1, ?_⟩
    refine tYes_i (iteT ?_)
    refine ⟨_, rfl, n, rfl, by omega, by omega, fun D2 nD2 => ?_⟩
    rw [Int.toNat_natCast]
    have D2D : D2 ≠ D := fun z => by rw [z, g1] at nD2; cases nD2
    refine lc_fs ((List.range n).map Int.ofNat) walk_range (by rw [List.length_map, List.length_range]) yRng (fun c => decide (mm (Int.ofNat i) c ∈ ths)) V.int nD2 (by omega) (fun _ => wipe1) (fun _ _ => trivial) (fun c _ H2 Q2 s2 hq => ?_) (fun c _ _ H2 Q2 _ hq => ⟨_, rfl, hq _ (Same.refl _)⟩) (fun H2 hD2 s2 => ?_)
    · have hP2 := PL.same (g4.trans s2) hP
      refine ⟨_, rfl, _, rfl, _, _, rfl, _, rfl, _, rfl, _, _, rfl, by show 2 ≤ sizeLine; decide, fun u nu => ?_⟩
      have su := Same.new (o := .tup [.int (mm (0 + (i : Int)) c).1, .int (mm (0 + (i : Int)) c).2]) nu
      have hP3 := PL.same su hP2
      refine ⟨_, rfl, rowD [(mm (0 + (i : Int)) c).1, (mm (0 + (i : Int)) c).2], _, row_dp (r := [(mm (0 + (i : Int)) c).1, (mm (0 + (i : Int)) c).2]) (SqT.of upd_same), .inl hP3, shRow _, shPL _, _, rfl, ?_⟩
      rw [any_pair]
      have := hq _ su
      rw [show (0 : Int) + (i : Int) = Int.ofNat i by show _ = ((i : Nat) : Int); omega] at *
      exact this
    · rw [bsr_mm hle] at hD2
      refine ⟨_, s2 _ _ g1, smallLt (by rw [List.length_map]; omega), bs ++ [D2], by rw [upd_same, List.map_append]; rfl, by rw [List.length_append, g2]; rfl, fun k b hb => ?_, (g4.trans s2).mut nD⟩
      by_cases hk : k < bs.length
      · rw [List.getElem?_append_left hk] at hb
        obtain ⟨z1, z2, z3⟩ := g3 k b hb
        exact ⟨z1, z2, by rw [upd_ne z2]; exact s2 _ _ z3⟩
      · have hk2 := (List.getElem?_eq_some_iff.mp hb).1
        rw [List.length_append] at hk2
        have hk2 : k < bs.length + 1 := hk2
        obtain rfl : k = bs.length := by omega
        rw [List.getElem?_append_right (Nat.le_refl _), Nat.sub_self] at hb
        cases Option.some.inj hb
        refine ⟨g4.free nD2, D2D, ?_⟩
        rw [upd_ne D2D, g2]
        exact hD2
  · rintro H1 ⟨bs, g1, g2, g3, g4⟩
    refine q D (besd n ths) _ g4 ⟨nD, bs, g1, by rw [g2, besd_len], fun k b row hb hr => ?_, fun b hb => ?_⟩ (near_bsr hin)
    · rw [(besd_at hr).2]
      exact (g3 k b hb).2.2
    · obtain ⟨k, hk, rfl⟩ := List.getElem_of_mem hb
      exact (g3 k _ (List.getElem?_eq_getElem hk)).1
theorem getD_app2 {a : List Int} {c : Int} {s : List Int} : (a ++ [c] ++ s).getD a.length 0 = c := by
  rw [List.append_assoc, List.getD_eq_getElem?_getD, List.getElem?_append_right (Nat.le_refl _), Nat.sub_self]
  rfl
def FixOk (F : Int → Option Int) (st : List Int) : Prop := ∀ v : Nat, v < st.length → ∀ c, F (v : Nat) = some c → st.getD v 0 = c
def sp__law_fill (K : PySem.W.Frag) (cs : CS) : Nat → Sp
  | 0 => fun _ _ _ _ => False
  | dpt + 1 => fun vs H Q E => ∃ (t l fx tr h : Addr) (rows : List (List Int)) (n : Nat) (ths : List (Int × Int)) (nrs : List (List Int)) (kvs : List (Key × V)) (F : Int → Option Int) (ts done : List Int), vs = [.ref t, .ref l, .ref fx, .ref tr, .ref h] ∧ Bw.TT K H t rows ∧ GoodT rows ∧ LL H l nrs ∧ NearOk n ths nrs ∧ InN n ths ∧ n ≤ 24 ∧ H fx = some (.dK kvs) ∧ (∀ v : Int, valV kvs (.inl v) = (F v).map V.int) ∧ H tr = some (.lst (ts.map V.int)) ∧ ts.length = n ∧ (∀ c ∈ ts, 0 ≤ c ∧ c < 100) ∧ H h = some (.tup (done.map V.int)) ∧ done.length ≤ n ∧ n ≤ done.length + dpt ∧ (∀ q, q < done.length → FitP rows ths done q) ∧ FixOk F done ∧ (∀ r st H', H' r = some (.tup (st.map V.int)) → Stand rows n ths st → FixOk F st → done <+: st → Same H H' → Q (.ref r) H') ∧ ((∀ st, Stand rows n ths st → FixOk F st → ¬ done <+: st) → ∀ H', Same H H' → Q .non H')
theorem ok__law_fill (F : Fun K "_law_fill" "_law_fill" s__law_fill f fd) (T : Txt P w K mg base cs)  (hm : mg "_law_fill" = some (.ref f)) (hb : Binds K fd ["beside", "near", "fixed", "turns", "had"] []) : ∀ dpt, FnOk P w K mg base CX0 (1 + dpt) f fd ["beside", "near", "fixed", "turns", "had"] (sp__law_fill K cs dpt) := by
  intro dpt
  induction dpt with
  | zero => exact ⟨fun _ _ _ _ h => h.elim, fun _ _ _ _ _ _ _ _ _ _ _ _ _ h => h.elim⟩
  | succ dpt ih =>
  have c__law_fill : Cal P w K mg base CX0 (1 + dpt) "_law_fill" ["beside", "near", "fixed", "turns", "had"] s__law_fill (sp__law_fill K cs dpt) := ⟨_, _, ih, F, hm, hb⟩
  refine F.ok sc__law_fill (fun vs H Q E h => ?_) (fun cdv A outer s H vs Q E hr h => ?_)
  · obtain ⟨t, l, fx, tr, h, rows, n, ths, nrs, kvs, F, ts, done, rfl, _⟩ := h
    rfl
  have hr : Room (1 + dpt) _ := hr
  obtain ⟨t, l, fx, tr, h, rows, n, ths, nrs, kvs, F, ts, done, rfl, hT, gT, hL, hO, hin, n24, hfx, hF, htr, htl, htr2, ho, hdn, hdpt, hfit, hfixd, qt, qn⟩ := h
  have hh := SqT.of (K := K) ho
  obtain ⟨bs, hl, hbl, hbat⟩ := id hL
  have hbn : bs.length = n := by rw [hbl, hO.len]
  obtain ⟨ws, hS, hwl, hget⟩ := hT.seq
  have r1 := gT.n1
  have r8 := gT.n8
  refine ⟨_, (pss_cons (ps_set (i := 5) sc__law_fill.nd rfl (Or.inr rfl) (pe_callB (lenS K) (by rfl) T.n_len PySem.boot_len (pa_cons (pv 4) pa_nil)))
      (pss_cons (ps_if (pt_cmpR op_eq (pv 5) (pe_callB (lenS K) (by rfl) T.n_len PySem.boot_len (pa_cons (pv 1) pa_nil)) (nomark _)) (pss_one (ps_ret (pv 4))) pss_nil)
      (pss_cons (ps_for PassesOwn.never rfl (pi_range1 (by rfl) T.n_range (pa_cons (pe_callB (lenS K) (by rfl) T.n_len PySem.boot_len (pa_cons (pv 0) pa_nil)) pa_nil)) (pg_name (i := 6) sc__law_fill.nd rfl (Or.inl rfl)) (pss_cons (ps_set (i := 7) sc__law_fill.nd rfl (Or.inr rfl) (pe_op op_mod (pe_callTy call_int1 (by rfl) T.n_int (by decide +kernel) (pa_cons (pe_op op_add (pe_ix (ixL K) (pv 3) (pv 5) (fun _ _ => rfl)) (pv 6)) pa_nil)) (pe_callB (lenS K) (by rfl) T.n_len PySem.boot_len (pa_cons (pv 0) pa_nil))))
      (pss_one (ps_if (PW.pt (pw_and (pt_cmpR op_eq (pe_dget2 (hu1 hr) (pv 2) (pv 5) (pv 7) ⟨rfl, rfl, rfl, rfl⟩) (pv 7) (nomark _)) (pw_and1 (pt_val (pe_callB (allL K rfl) (by rfl) T.n_all (by decide +kernel) (pa_cons (pe_lc (own := [("j", 9)]) rfl sc__law_fill.nd (piL K (pe_ix (ixL K) (pv 1) (pv 5) (fun _ _ => rfl))) (blkOk_by (own := [("j", 9)]) (N := ["beside", "near", "fixed", "turns", "had", "place", "k", "coat", "found", "j"]) (sc := defScope s__law_fill) (by decide +kernel)) (fun _ _ _ _ _ => (pg_name (i := 9) sc__law_fill.nd rfl (Or.inl rfl))) (fun _ _ _ _ _ => (pts_one (pt_cmpR op_lt (pv 9) (pv 5) (nomark _)))) (fun _ _ _ _ _ => (pe_cmpR (inS K) (pv 7) (pe_ix (ixT K) (pv 0) (pe_ix (ixT K) (pv 4) (pv 9) (fun _ _ => rfl)) (fun _ _ => rfl)) rfl))) pa_nil)))))) (pss_cons (ps_set (i := 8) sc__law_fill.nd rfl (Or.inl rfl) (pe_cal c__law_fill (hr.mono (by omega)) pass0 (pa_cons (pv 0) (pa_cons (pv 1) (pa_cons (pv 2) (pa_cons (pv 3) (pa_cons (pe_op (catA K) (pv 4) (pe_tup (pa_cons (pv 7) pa_nil))) pa_nil)))))))
      (pss_one (ps_if (pt_cmpR op_notN (pv 8) pe_non (nomark _)) (pss_one (ps_ret (pv 8))) pss_nil))) pss_nil))))
      (pss_one (ps_ret pe_non))))), ?_⟩
  refine ⟨_, rfl, h, _, rfl, .inr hh, ?_⟩
  refine ⟨_, rfl, .ref l, rfl, l, _, rfl, .inl (SqL.of hl), rfl, _, rfl, ?_⟩
  by_cases c : done.length = n
  · refine itT (by rw [List.length_map, List.length_map, hbn, c]; exact decide_eq_true rfl) ?_
    exact ⟨_, rfl, qt h done _ ho ⟨c, fun q hq => hfit q (by omega)⟩ hfixd (List.prefix_refl _) (Same.refl _)⟩
  refine itF (decide_eq_false (fun z => c (by have := V.int.inj z; rw [List.length_map, List.length_map, hbn] at this; omega))) ?_
  refine ⟨_, rfl, t, _, rfl, .inr hS, _, rfl, by omega, by omega, ?_⟩
  rw [Int.toNat_natCast, hwl]
  have hv : done.length < n := by omega
  have hrn : nrs[done.length]? = some (nrs[done.length]'(by rw [hO.len]; exact hv)) := List.getElem?_eq_getElem _
  have hmem := hO.mem _ _ hrn
  have hrl : (nrs[done.length]'(by rw [hO.len]; exact hv)).length ≤ n := nodup_len n _ (asc_nd (hO.asc _ (List.getElem_mem _))) fun c hc => adj_lt hin ((hmem c).mp hc)
  generalize nrs[done.length]'(by rw [hO.len]; exact hv) = row at hrn hmem hrl
  have hbv : bs[done.length]? = some (bs[done.length]'(by omega)) := List.getElem?_eq_getElem _
  have hbr := hbat _ _ row hbv hrn
  generalize bs[done.length]'(by omega) = br at hbv hbr
  have gtn : (ts.map V.int)[done.length]? = some (.int (ts.getD done.length 0)) := by rw [List.getElem?_map, getD_some (by omega)]; rfl
  have htb := htr2 _ (getD_in (ns := ts) (i := done.length) (by omega))
  generalize ts.getD done.length 0 = b at gtn htb
  refine for_range (fun i σ H' => (∃ y6 y7 y8 y9, σ = [some (.ref t), some (.ref l), some (.ref fx), some (.ref tr), some (.ref h), some (.int (done.length : Nat)), y6, y7, y8, y9]) ∧ Same H H' ∧ ∀ j : Nat, j < i → ∀ st, Stand rows n ths st → FixOk F st → ¬ (done ++ [(b + (j : Int)) % ((rows.length : Nat) : Int)]) <+: st) ⟨⟨_, _, _, _, by rw [List.length_map]; rfl⟩, Same.refl _, fun j hj => absurd hj (by omega)⟩ ?_ ?_
  · rintro i σ H2 hi ⟨⟨y6, y7, y8, y9, rfl⟩, s2, hno⟩
    have hS2 := s2.tup hS
    have e0 : (0 : Int) + (i : Nat) = (i : Nat) := by omega
    have htr3 := s2 _ _ htr
    refine ⟨.ref tr, rfl, _, rfl, tr, _, _, _, rfl, rfl, SqL.of htr3, atN gtn (by omega), _, rfl, _, _, rfl, rfl, .inl ⟨_, rfl, .ref t, rfl, t, _, rfl, .inr hS2, _, _, rfl, rfl, by omega, ?_⟩⟩
    show gName 7 (V.int ((b + (0 + (i : Int))) % ((ws.length : Nat) : Int))) _ _ _
    rw [e0, hwl]
    have hcm : 0 ≤ (b + (i : Int)) % ((rows.length : Nat) : Int) ∧ (b + (i : Int)) % ((rows.length : Nat) : Int) < ((rows.length : Nat) : Int) := ⟨Int.emod_nonneg _ (by omega), Int.emod_lt_of_pos _ (by omega)⟩
    generalize hce : (b + (i : Int)) % ((rows.length : Nat) : Int) = c0 at hcm ⊢
    refine gN ?_
    dsimp only [List.set]
    refine ifT (fun cc H' => Same H2 H' ∧ (cc = true → FitP rows ths (done ++ [c0]) done.length ∧ ∀ c, F (done.length : Nat) = some c → c = c0) ∧ (cc = false → ∀ st, Stand rows n ths st → FixOk F st → ¬ (done ++ [c0]) <+: st)) (fun R hR => ?_) ?_ ?_
    · have key := fit_snoc (c := c0) gT hin hmem hfit hcm
      unfold badJ at key
      have hfit_of : ∀ st, Stand rows n ths st → (done ++ [c0]) <+: st → FitP rows ths (done ++ [c0]) done.length := fun st hst hpre => by
        obtain ⟨suf, rfl⟩ := hpre
        have := hst.2 done.length hv
        exact (fit_pre (by rw [List.length_append]; show _ < _ + 1; omega)).mp this
      have hfix_of : ∀ st, FixOk F st → (done ++ [c0]) <+: st → ∀ c, F (done.length : Nat) = some c → c = c0 := fun st hst hpre c hc => by
        obtain ⟨suf, rfl⟩ := hpre
        have := hst done.length (by rw [List.length_append, List.length_append]; show _ < _ + 1 + _; omega) c hc
        rw [getD_app2] at this
        exact this.symm
      have hfx2 := s2 _ _ hfx
      refine ⟨.ref fx, rfl, fx, rfl, .inl ⟨kvs, .inl hfx2⟩, _, rfl, _, rfl, _, .inl ⟨kvs, .inl (done.length : Int), .inl hfx2, rfl, rfl⟩, ?_⟩
      rw [hF]
      by_cases cf : ∀ c, F (done.length : Nat) = some c → c = c0
      · have ev : ((F (done.length : Nat)).map V.int).getD (V.int c0) = V.int c0 := by
          cases hFv : F (done.length : Nat) with
          | none => rfl
          | some c => rw [cf c hFv]; rfl
        rw [ev]
        refine ⟨_, rfl, rfl, _, rfl, itT (by simp) ?_⟩
        have hl2 := s2 _ _ hl
        have hbr2 := s2 _ _ hbr
        have hh2 := s2.tup hh
        have g1 : (bs.map V.ref)[done.length]? = some (.ref br) := by rw [List.getElem?_map, hbv]; rfl
        refine ⟨.ref l, rfl, _, rfl, l, _, _, .ref br, rfl, rfl, SqL.of hl2, atN g1 rfl, br, rfl, ⟨_, SqL.of hbr2⟩, fun D nD => ?_⟩
        refine lc_fs row (walk_list (xs := row.map V.int)) (by rw [List.length_map]) yInt (fun j => decide (j < (done.length : Nat))) (fun j => V.bl (decide (c0 ∈ rowOf rows (done.getD j.toNat 0).toNat))) nD (by rw [List.length_map]; omega) (fun _ => wipe1) (fun H' s' => SqL.of (s' _ _ hbr2)) (fun u hu H4 Q4 s4 hq4 => ?_) (fun u hu cu H4 Q4 s4 hq4 => ?_) (fun H3 hD3 s3 => ?_)
        · exact ⟨_, rfl, _, rfl, _, _, rfl, rfl, _, rfl, hq4 _ (Same.refl _)⟩
        · have hu2 := adj_lt hin ((hmem u).mp hu)
          have cu := of_decide_eq_true cu
          have hdu : (done.map V.int)[u.toNat]? = some (.int (done.getD u.toNat 0)) := by rw [List.getElem?_map, getD_some (by omega)]; rfl
          obtain ⟨cd, k1, k2, k3, _⟩ := hfit u.toNat (by omega)
          have hcd : done.getD u.toNat 0 = cd := by rw [List.getD_eq_getElem?_getD, k1]; rfl
          have hr2 : rows[(done.getD u.toNat 0).toNat]? = some (rows[(done.getD u.toNat 0).toNat]'(by rw [hcd]; omega)) := List.getElem?_eq_getElem _
          obtain ⟨b2, hb2, hbs2⟩ := hget _ _ hr2
          refine ⟨_, rfl, .ref t, rfl, .ref h, rfl, _, rfl, h, _, _, _, rfl, rfl, s4.tup hh2, atN hdu (by omega), t, ws, _, .ref b2, rfl, rfl, s4.tup hS2, atN hb2 (by rw [hcd]; omega), b2, _, rfl, .inr (s4.tup (s2.tup hbs2)), rfl, flat_ints _, ?_⟩
          rw [inV_dec, ← row_of hr2]
          exact hq4 _ (Same.refl _)
        refine ⟨D, (row.filter fun j : Int => decide (j < (done.length : Nat))).map (fun j : Int => decide (c0 ∈ rowOf rows (done.getD j.toNat 0).toNat)), rfl, SqL.of (by rw [hD3, List.map_map]; rfl), ?_⟩
        refine ⟨_, rfl, hR _ _ ⟨s3, fun e => ⟨key.mp ?_, cf⟩, fun e st hst hf hpre => ?_⟩⟩
        · refine List.filter_eq_nil_iff.mpr fun j hj z => ?_
          rw [Bool.and_eq_true_iff] at z
          have z1 := z.1
          have z2 := z.2
          rw [List.all_eq_true] at e
          have := e _ (List.mem_map_of_mem (List.mem_filter.mpr ⟨hj, z1⟩))
          rw [show decide (c0 ∈ rowOf rows (done.getD j.toNat 0).toNat) = true from this] at z2
          cases z2
        · have hk := key.mpr (hfit_of st hst hpre)
          have : ((row.filter fun j : Int => decide (j < (done.length : Nat))).map (fun j : Int => decide (c0 ∈ rowOf rows (done.getD j.toNat 0).toNat))).all id = true := by
            rw [List.all_eq_true]
            intro y hy
            obtain ⟨j, hj, rfl⟩ := List.mem_map.mp hy
            obtain ⟨j1, j2⟩ := List.mem_filter.mp hj
            have := List.filter_eq_nil_iff.mp hk j j1
            rw [j2] at this
            cases hd : decide (c0 ∈ rowOf rows (done.getD j.toNat 0).toNat) with
            | true => rfl
            | false => exact absurd (by rw [hd]; rfl) this
          rw [this] at e
          cases e
      · obtain ⟨c, hc⟩ := Classical.not_forall.mp cf
        obtain ⟨hc1, hc2⟩ := Classical.not_imp.mp hc
        rw [hc1]
        refine ⟨_, rfl, rfl, _, rfl, itF (decide_eq_false fun z => hc2 (V.int.inj z)) ?_⟩
        exact hR _ _ ⟨Same.refl _, fun e => (by cases e), fun _ st hst hf hpre => cf (hfix_of st hf hpre)⟩
    · rintro H4 ⟨s4, hgo, _⟩
      obtain ⟨hft, hfx1⟩ := hgo rfl
      have s24 := s2.trans s4
      have hf2 := fit_all hfit hft
      refine ⟨_, rfl, _, rfl, _, rfl, _, rfl, _, rfl, _, rfl, by show 1 ≤ sizeLine; decide, fun z nz => ?_⟩
      have sz := Same.new (o := .tup [.int c0]) nz
      refine ctO (ys := [.int c0]) ((s24.trans sz).tup hh) (SqT.of upd_same) (fun z => nomatch z) (fun _ => upd_same) (by rw [List.length_map]; show _ + 1 ≤ _; omega) fun w_ H5 s5 hw => ?_
      have s25 := (s24.trans sz).trans s5
      have hw : H5 w_ = some (.tup ((done ++ [c0]).map V.int)) := by rw [List.map_append]; exact hw
      cases dpt with
      | zero => omega
      | succ dpt =>
        refine ⟨t, l, fx, tr, w_, rows, n, ths, nrs, kvs, F, ts, done ++ [c0], rfl, hT.same s25, gT, hL.same s25, hO, hin, n24, s25 _ _ hfx, hF, s25 _ _ htr, htl, htr2, hw, by rw [List.length_append]; show _ + 1 ≤ _; omega, by rw [List.length_append]; show _ ≤ _ + 1 + _; omega, hf2, fun v hv1 c hc => ?_, fun r st H6 hr2 hst hfo hpre s6 => ?_, fun hnone H6 s6 => ?_⟩
        · rw [getD_app]
          rw [List.length_append] at hv1
          have hv1 : v < done.length + 1 := hv1
          by_cases e : v < done.length
          · rw [if_pos e]; exact hfixd v e c hc
          · obtain rfl : v = done.length := by omega
            rw [if_neg e, if_pos rfl]
            exact (hfx1 c hc).symm
        · refine ⟨_, rfl, rfl, _, rfl, itT (by simp) ?_⟩
          refine ⟨_, rfl, qt r st H6 hr2 hst hfo ?_ (s25.trans s6)⟩
          obtain ⟨suf, rfl⟩ := hpre
          exact ⟨c0 :: suf, by simp⟩
        · refine ⟨_, rfl, rfl, _, rfl, itF (by simp) ?_⟩
          refine ⟨⟨_, _, _, _, rfl⟩, s25.trans s6, fun j hj st hst hfo => ?_⟩
          by_cases ej : j < i
          · exact hno j ej st hst hfo
          · obtain rfl : j = i := by omega
            rw [hce]
            exact hnone st hst hfo
    · rintro H3 ⟨s3, _, no⟩
      refine ⟨⟨_, _, _, _, rfl⟩, s2.trans s3, fun j hj st hst hf hpre => ?_⟩
      by_cases ej : j < i
      · exact hno j ej st hst hf hpre
      · obtain rfl : j = i := by omega
        rw [hce] at hpre
        exact no rfl st hst hf hpre
  · rintro σ H2 ⟨⟨y6, y7, y8, y9, rfl⟩, s2, hno⟩
    refine qn (fun st hst hf hpre => ?_) H2 s2
    obtain ⟨suf, rfl⟩ := hpre
    have hl2 := hst.1
    rw [List.length_append] at hl2
    cases suf with
    | nil => simp at hl2; omega
    | cons c0 suf =>
      obtain ⟨c1, h1, h2, h3, _⟩ := hst.2 done.length hv
      rw [List.getElem?_append_right (Nat.le_refl _), Nat.sub_self] at h1
      cases Option.some.inj h1
      obtain ⟨j, hj, hjc⟩ := mod_hit (b := b) ⟨h2, h3⟩
      refine hno j hj _ hst hf ?_
      rw [hjc]
      exact ⟨suf, by simp⟩
def sp__law_standing (K : PySem.W.Frag) (cs : CS) : Sp := fun vs H Q E => ∃ (p t l fx : Addr) (rows : List (List Int)) (n : Nat) (ths : List (Int × Int)) (nrs : List (List Int)) (kvs : List (Key × V)) (F : Int → Option Int), vs = [.ref p, .ref t, .ref l, .ref fx] ∧ Src H p ∧ Bw.TT K H t rows ∧ GoodT rows ∧ LLp p H l nrs ∧ NearOk n ths nrs ∧ InN n ths ∧ n ≤ 24 ∧ H fx = some (.dK kvs) ∧ fx ≠ p ∧ (∀ v : Int, valV kvs (.inl v) = (F v).map V.int) ∧ (∀ r st H', H' r = some (.tup (st.map V.int)) → Stand rows n ths st → FixOk F st → Src H' p → Exb p H H' → Q (.ref r) H') ∧ ((∀ st, Stand rows n ths st → ¬ FixOk F st) → ∀ H', Src H' p → Exb p H H' → Q .non H')
theorem ok__law_standing (F : Fun K "_law_standing" "_law_standing" s__law_standing f fd) (T : Txt P w K mg base cs) (c__law_take : Cal P w K mg base CX0 1 "_law_take" ["source", "top"] s__law_take (sp__law_take K cs)) (c__law_fill : Cal P w K mg base CX0 27 "_law_fill" ["beside", "near", "fixed", "turns", "had"] s__law_fill (sp__law_fill K cs 26)) : FnOk P w K mg base CX0 28 f fd ["source", "beside", "near", "fixed"] (sp__law_standing K cs) := by
  refine F.ok sc__law_standing (fun vs H Q E h => ?_) (fun cdv A outer s H vs Q E hr h => ?_)
  · obtain ⟨p, t, l, fx, rows, n, ths, nrs, kvs, F, rfl, _⟩ := h
    rfl
  obtain ⟨p, t, l, fx, rows, n, ths, nrs, kvs, F, rfl, hs, hT, gT, hL, hO, hin, n24, hfx, nfx, hF, qt, qn⟩ := h
  obtain ⟨ws, hS, hwl, hget⟩ := hT.seq
  obtain ⟨nlp, bs, hl, hbl, hbat, hpb⟩ := id hL
  have hbn : bs.length = n := by rw [hbl, hO.len]
  have r1 := gT.n1
  have r8 := gT.n8
  refine ⟨_, (pss_one (ps_ret (pe_cal c__law_fill (hr.mono (by decide)) pass0 (pa_cons (pv 1) (pa_cons (pv 2) (pa_cons (pv 3) (pa_cons (pe_lc (own := [("place", 4)]) rfl sc__law_standing.nd (piL K (pv 2)) (blkOk_by (own := [("place", 4)]) (N := ["source", "beside", "near", "fixed", "place"]) (sc := defScope s__law_standing) (by decide +kernel)) (fun _ _ _ _ _ => (pg_name (i := 4) sc__law_standing.nd rfl (Or.inl rfl))) (fun _ _ _ _ _ => pts_nil) (fun _ _ _ _ _ => (pe_cal c__law_take (hr.mono (by decide)) pass0 (pa_cons (pv 0) (pa_cons (pe_callB (lenS K) (by rfl) T.n_len PySem.boot_len (pa_cons (pv 1) pa_nil)) pa_nil))))) (pa_cons (pe_tup pa_nil) pa_nil)))))))), ?_⟩
  refine ⟨_, rfl, _, rfl, _, rfl, .ref l, rfl, l, rfl, ⟨_, SqL.of hl⟩, fun D nD => ?_⟩
  have nDp := hs.ne nD
  refine lc_it (walk_list (xs := bs.map V.ref)) (fun i H' => ∃ ts : List Int, H' D = some (.lst (ts.map V.int)) ∧ ts.length = i ∧ (∀ c ∈ ts, 0 ≤ c ∧ c < 100) ∧ Src H' p ∧ Exb p H H') ⟨[], upd_same, rfl, fun c hc => (by cases hc), hs.put nDp, Exb.new nD⟩ (fun i H' _ h => ?_) ?_ ?_
  · obtain ⟨_, _, _, _, _, e⟩ := h
    exact SqL.of (e.lst nlp hl)
  · rintro i x H1 H1' hi ⟨ts, g1, g2, g3, g4, g5⟩ ⟨rfl, hx⟩
    rw [List.length_map] at hi
    refine ⟨wipe1, ?_⟩
    refine tYes_i (iteT ?_)
    refine ⟨_, rfl, .ref t, rfl, t, _, rfl, .inr (g5.tup hs hS), p, _, rfl, g4, by omega, by omega, fun r H2 r0 r2 s2 e2 => ?_⟩
    refine ⟨_, e2.lst nDp g1, smallLt (by rw [List.length_map]; omega), ts ++ [r], by rw [upd_same, List.map_append]; rfl, by rw [List.length_append, g2]; rfl, fun c hc => ?_, s2.put nDp, (g5.trans e2).mut nD⟩
    rcases List.mem_append.mp hc with hc | hc
    · exact g3 c hc
    · rw [List.mem_singleton.mp hc]; omega
  · rintro H1 ⟨ts, g1, g2, g3, g4, g5⟩
    rw [List.length_map, hbn] at g2
    refine ⟨Nat.zero_le _, fun u nu => ?_⟩
    have su := Same.new (o := .tup []) nu
    have e1 := g5.trans (Exb.of su)
    have s1 := su.src g4
    exact ⟨t, l, fx, D, u, rows, n, ths, nrs, kvs, F, ts, [], rfl, tt_exb hs e1 hT, gT, (hL.exb e1).ll, hO, hin, n24, e1 _ _ nfx hfx, hF, su _ _ g1, g2, g3, upd_same, Nat.zero_le _, by show n ≤ 0 + 25; omega, fun q hq => absurd hq (Nat.not_lt_zero _), fun v hv => absurd hv (Nat.not_lt_zero _), fun r st H2 hr hst hf _ s2 => qt r st H2 hr hst hf (s2.src s1) (e1.trans (Exb.of s2)), fun no H2 s2 => qn (fun st hst hf => no st hst hf List.nil_prefix) H2 (s2.src s1) (e1.trans (Exb.of s2))⟩
def sp__law_pegs (K : PySem.W.Frag) (cs : CS) : Sp := fun vs H Q E => ∃ (p L : Addr) (n : Nat) (fl : List Int), vs = [.ref p, .int (n : Nat), .ref L] ∧ Src H p ∧ H L = some (.lst (fl.map V.int)) ∧ L ≠ p ∧ n ≤ 24 ∧ fl.length ≤ 100 ∧ (∃ c : Nat, c < n ∧ ((c : Nat) : Int) ∉ fl) ∧ ∀ t ps H', SqT K H' t (ps.map V.int) → (∀ i, okAt ps (n : Nat) i) → ps ≠ [] → (∀ c ∈ ps, c ∉ fl) → Src H' p → Exb p H H' → Q (.ref t) H'
theorem ok__law_pegs (F : Fun K "_law_pegs" "_law_pegs" s__law_pegs f fd) (T : Txt P w K mg base cs) (c__law_take : Cal P w K mg base CX0 1 "_law_take" ["source", "top"] s__law_take (sp__law_take K cs)) (c__law_one : Cal P w K mg base CX0 2 "_law_one" ["source", "things"] s__law_one (sp__law_one K cs)) : FnOk P w K mg base CX0 3 f fd ["source", "n", "free"] (sp__law_pegs K cs) := by
  refine F.ok sc__law_pegs (fun vs H Q E h => ?_) (fun cdv A outer s H vs Q E hr h => ?_)
  · obtain ⟨p, L, n, fl, rfl, _⟩ := h
    rfl
  obtain ⟨p, L, n, fl, rfl, hs, hL, nLp, n24, hfl, ⟨c0, hc0, hcf⟩, q⟩ := h
  refine ⟨_, (pss_cons (ps_setLc (i := 3) (own := [("place", 5)]) rfl sc__law_pegs.nd rfl rfl (sw_true rfl rfl rfl (by decide +kernel)) (pi_range1 (by rfl) T.n_range (pa_cons (pv 1) pa_nil)) (blkOk_by (own := [("place", 5)]) (N := ["source", "n", "free", "some", "found", "place"]) (sc := defScope s__law_pegs) (by decide +kernel)) (fun _ _ _ _ _ => (pg_name (i := 5) sc__law_pegs.nd rfl (Or.inl rfl))) (fun _ _ _ _ _ => (pts_one (pt_cmpR (ninS K) (pv 5) (pv 2) rfl))) (fun _ _ _ _ _ => (pv 5)))
      (pss_cons (ps_set (i := 4) sc__law_pegs.nd rfl (Or.inl rfl) (pe_lst (pa_cons (pe_cal c__law_one (hr.mono (by decide)) pass0 (pa_cons (pv 0) (pa_cons (pv 3) pa_nil))) (pa_cons (pe_cal c__law_one (hr.mono (by decide)) pass0 (pa_cons (pv 0) (pa_cons (pv 3) pa_nil))) pa_nil))))
      (pss_one (ps_ret (pe_callTy (tupOf K) (by rfl) T.n_tuple (by decide +kernel) (pa_cons (pe_callB (sortL K) (by rfl) T.n_sorted (by decide +kernel) (pa_cons (pe_ifExp (PW.pt (pw_or (pt_cmpR op_eq (pe_ix (ixL K) (pv 4) pe_int (fun _ _ => rfl)) (pe_ix (ixL K) (pv 4) pe_int (fun _ _ => rfl)) (nomark _)) (pw_or1 (pt_cmpR op_eq (pe_cal c__law_take (hr.mono (by decide)) pass0 (pa_cons (pv 0) (pa_cons pe_int pa_nil))) pe_int (nomark _))))) (pe_slice (slL K) (pv 4) poN (po_some pe_int)) (pv 4)) pa_nil)) pa_nil)))))), ?_⟩
  refine asgK (fun v H' => ∃ D, v = .ref D ∧ D ≠ p ∧ H' D = some (.lst ((((List.range n).map Int.ofNat).filter fun c => decide (c ∉ fl)).map V.int)) ∧ Same H H') (fun R hR => ?_) ?_
  · refine ⟨_, rfl, n, rfl, by omega, by omega, fun D nD => ?_⟩
    rw [Int.toNat_natCast]
    refine lc_fm ((List.range n).map Int.ofNat) walk_range (by rw [List.length_map, List.length_range]) yRng (fun c => decide (c ∉ fl)) V.int nD (by omega) (fun _ => wipe1) (fun _ _ => trivial) (fun c hc H3 Q3 s3 hq => ?_) (fun c hc _ H3 Q3 s3 hq => ⟨_, rfl, hq⟩) (fun H3 hD3 s3 => hR _ _ ⟨D, rfl, hs.ne nD, hD3, s3⟩)
    refine ⟨_, rfl, .ref L, rfl, L, _, rfl, .inl (SqL.of (s3 _ _ hL)), rfl, flat_ints _, _, rfl, ?_⟩
    rw [inV_dec, ← decide_not]
    exact hq
  rintro v H1 ⟨D, rfl, nDp, hD, s1⟩
  have hmem : ∀ c ∈ (((List.range n).map Int.ofNat).filter fun c => decide (c ∉ fl)), (0 ≤ c ∧ c < (n : Nat)) ∧ c ∉ fl := fun c hc => by
    obtain ⟨h1, h2⟩ := List.mem_filter.mp hc
    obtain ⟨k, hk, rfl⟩ := List.mem_map.mp h1
    have := List.mem_range.mp hk
    exact ⟨⟨by show (0 : Int) ≤ (k : Nat); omega, by show ((k : Nat) : Int) < _; omega⟩, of_decide_eq_true h2⟩
  have hpos : 0 < (((List.range n).map Int.ofNat).filter fun c => decide (c ∉ fl)).length := List.length_pos_of_mem (List.mem_filter.mpr ⟨List.mem_map.mpr ⟨c0, List.mem_range.mpr hc0, rfl⟩, decide_eq_true hcf⟩)
  have hlen : (((List.range n).map Int.ofNat).filter fun c => decide (c ∉ fl)).length ≤ n := Nat.le_trans (List.length_filter_le _ _) (by rw [List.length_map, List.length_range]; exact Nat.le_refl _)
  generalize (((List.range n).map Int.ofNat).filter fun c => decide (c ∉ fl)) = some_ at hD hmem hpos hlen
  have s1p := s1.src hs
  refine asgK (fun v H' => ∃ (E : Addr) (x y : Int), v = .ref E ∧ E ≠ p ∧ H' E = some (.lst [.int x, .int y]) ∧ x ∈ some_ ∧ y ∈ some_ ∧ Src H' p ∧ Exb p H H') (fun R hR => ?_) ?_
  · refine ⟨_, rfl, _, rfl, p, D, _, rfl, s1p, .inl ⟨hD, nDp⟩, by rw [List.length_map]; exact hpos, by rw [List.length_map]; omega, fun v H2 hv s2 e2 => ?_⟩
    obtain ⟨x, rfl, hx⟩ := ints_of_mem hv
    refine ⟨_, rfl, _, rfl, p, D, _, rfl, s2, .inl ⟨e2.lst nDp hD, nDp⟩, by rw [List.length_map]; exact hpos, by rw [List.length_map]; omega, fun v H3 hv s3 e3 => ?_⟩
    obtain ⟨y, rfl, hy⟩ := ints_of_mem hv
    refine ⟨by show 2 ≤ sizeLine; decide, fun E nE => ?_⟩
    have sE := Same.new (o := .lst [.int x, .int y]) nE
    exact hR _ _ ⟨E, x, y, rfl, s3.ne nE, upd_same, hx, hy, sE.src s3, (((Exb.of s1).trans e2).trans e3).trans (Exb.of sE)⟩
  rintro v H2 ⟨E, x, y, rfl, nEp, hE, hx, hy, s2, e2⟩
  have fin : ∀ (ns ns' : List Int) (t : Addr) (H3 : Hp), ns'.Perm ns → ns'.Pairwise (· ≤ ·) → ns.Nodup → ns ≠ [] → (∀ c ∈ ns, c ∈ some_) → Src H3 p → Exb p H H3 → SqT K H3 t (ns'.map V.int) → Q (.ref t) H3 := fun ns ns' t H3 hp ha hnd hne hm s3 e3 ht => by
    refine q t ns' H3 ht (sorted_ok hp ha hnd fun c hc => (hmem c (hm c hc)).1) (fun z => ?_) (fun c hc => (hmem c (hm c (hp.mem_iff.mp hc))).2) s3 e3
    rw [z] at hp
    exact hne (List.nil_perm.mp hp)
  have pick : ∀ (Z : Addr) (ns : List Int) (H3 : Hp), H3 Z = some (.lst (ns.map V.int)) → ns.Nodup → ns ≠ [] → (∀ c ∈ ns, c ∈ some_) → ns.length < 64 → Src H3 p → Exb p H H3 → rSorted K [.ref Z] H3 fun v H4 => rTupOf K [v] H4 Q := fun Z ns H3 hZ hnd hne hm hl s3 e3 => ⟨Z, ns, rfl, SqL.of hZ, hl, fun ns' p2 hp ha np2 => ⟨p2, _, rfl, .inl ⟨SqL.of upd_same, fun t nt => by
    have k1 := Same.new (o := .lst (ns'.map V.int)) np2
    have k2 := Same.new (o := .tup (ns'.map V.int)) nt
    exact fin ns ns' t _ hp ha hnd hne hm ((k1.trans k2).src s3) (e3.trans (Exb.of (k1.trans k2))) (SqT.of upd_same)⟩⟩⟩
  have one : ∀ H3, Src H3 p → Exb p H2 H3 → ∀ Z, H3 Z = none → rSorted K [.ref Z] (upd H3 Z (.lst [.int x])) fun v H4 => rTupOf K [v] H4 Q := fun H3 s3 e3 Z nZ => by
    have kZ := Same.new (o := .lst [.int x]) nZ
    exact pick Z [x] _ upd_same (nodup1 _) (by simp) (fun c hc => by rw [List.mem_singleton.mp hc]; exact hx) (by show 1 < 64; decide) (kZ.src s3) ((e2.trans e3).trans (Exb.of kZ))
  refine ⟨.ref E, rfl, E, _, 0, _, rfl, rfl, SqL.of hE, atI0, .ref E, rfl, E, _, 1, _, rfl, rfl, SqL.of hE, atI1, rfl, _, rfl, ?_⟩
  by_cases c : x = y
  · refine itT (by rw [c]; simp) (iteT ?_)
    exact ⟨.ref E, rfl, 1, rfl, E, _, rfl, SqL.of hE, fun Z nZ => one _ s2 Exb.refl Z nZ⟩
  · refine itF (decide_eq_false fun z => c (V.int.inj z)) ?_
    refine ⟨_, rfl, p, 2, rfl, s2, by decide, by decide, fun r H3 r0 r1 s3 e3 => ⟨rfl, _, rfl, ?_⟩⟩
    by_cases c2 : r = 0
    · refine itT (by rw [c2]; rfl) ?_
      exact ⟨.ref E, rfl, 1, rfl, E, _, rfl, SqL.of (e3.lst nEp hE), fun Z nZ => one _ s3 e3 Z nZ⟩
    · refine itF (decide_eq_false fun z => c2 (V.int.inj z)) ?_
      exact ⟨_, rfl, pick E [x, y] H3 (e3.lst nEp hE) (List.nodup_cons.mpr ⟨fun z => c (List.mem_singleton.mp z), nodup1 _⟩) (by simp) (fun c hc => by
        simp only [List.mem_cons, List.not_mem_nil, or_false] at hc
        rcases hc with rfl | rfl
        · exact hx
        · exact hy) (by show 2 < 64; decide) s3 (e2.trans e3)⟩
def sp__law_lets (K : PySem.W.Frag) (cs : CS) : Sp := fun vs H Q E => ∃ (wt t l pg s : Addr) (rows nrs : List (List Int)) (n : Nat) (ths : List (Int × Int)) (ps xs : List Int), vs = [.ref wt, .ref s] ∧ SqT K H wt [.ref t, .ref l, .ref pg] ∧ Bw.TT K H t rows ∧ GoodT rows ∧ LL H l nrs ∧ NearOk n ths nrs ∧ InN n ths ∧ n ≤ 24 ∧ SqT K H pg (ps.map V.int) ∧ SqT K H s (xs.map V.int) ∧ Stand rows n ths xs ∧ ∀ D us H', Same H H' → H D = none → H' D = some (.lst us) → TPs H' us (letsL rows ths ps xs n) → Q (.ref D) H'
theorem ok__law_lets (F : Fun K "_law_lets" "_law_lets" s__law_lets f fd) (T : Txt P w K mg base cs)  : FnOk P w K mg base CX0 1 f fd ["world", "s"] (sp__law_lets K cs) := by
  refine F.ok sc__law_lets (fun vs H Q E h => ?_) (fun cdv A outer s H vs Q E hr h => ?_)
  · obtain ⟨wt, t, l, pg, s, rows, nrs, n, ths, ps, xs, rfl, _⟩ := h
    rfl
  obtain ⟨wt, t, l, pg, s, rows, nrs, n, ths, ps, xs, rfl, hwt, hT, gT, hL, hO, hin, n24, hP, hS, hSt, q⟩ := h
  obtain ⟨ws, hW, hwl, hget⟩ := hT.seq
  obtain ⟨lbs, hl, hll, hlg⟩ := hL
  have hxl := hSt.1
  refine ⟨_, (pss_cons (ps_asg (pv 0) (pg_tup rfl (pgs_cons (pg_name (i := 2) sc__law_lets.nd rfl (Or.inl rfl)) (pgs_cons (pg_name (i := 3) sc__law_lets.nd rfl (Or.inl rfl)) (pgs_cons (pg_name (i := 4) sc__law_lets.nd rfl (Or.inl rfl)) pgs_nil)))))
      (pss_cons (ps_set (i := 5) sc__law_lets.nd rfl (Or.inl rfl) (pe_lst pa_nil))
      (pss_cons (ps_for PassesOwn.never rfl (pi_range1 (by rfl) T.n_range (pa_cons (pe_callB (lenS K) (by rfl) T.n_len PySem.boot_len (pa_cons (pv 1) pa_nil)) pa_nil)) (pg_name (i := 6) sc__law_lets.nd rfl (Or.inr rfl)) (pss_cons (ps_setLc (i := 7) (own := [("j", 8)]) rfl sc__law_lets.nd rfl rfl (sw_true rfl rfl rfl (by decide +kernel)) (piL K (pe_ix (ixL K) (pv 3) (pv 6) (fun _ _ => rfl))) (blkOk_by (own := [("j", 8)]) (N := ["world", "s", "beside", "near", "pegs", "found", "v", "coats", "j", "c"]) (sc := defScope s__law_lets) (by decide +kernel)) (fun _ _ _ _ _ => (pg_name (i := 8) sc__law_lets.nd rfl (Or.inl rfl))) (fun _ _ _ _ _ => pts_nil) (fun _ _ _ _ _ => (pe_ix (ixT K) (pv 1) (pv 8) (fun _ _ => rfl))))
      (pss_one (ps_if (PW.pt (pw_and (pt_cmpR (ninS K) (pv 6) (pv 4) rfl) (pw_and (pt_cmpR (neD K hr.units) (pv 7) (pe_lst pa_nil) (nomark _)) (pw_and1 (pt_cmpR op_eq (pe_callB (minL K rfl) (by rfl) T.n_min (by decide +kernel) (pa_cons (pv 7) pa_nil)) (pe_callB (maxL K rfl) (by rfl) T.n_max (by decide +kernel) (pa_cons (pv 7) pa_nil)) (nomark _)))))) (pss_one (ps_set (i := 5) sc__law_lets.nd rfl (Or.inl rfl) (pe_op op_cat (pv 5) (pe_lc (own := [("c", 9)]) rfl sc__law_lets.nd (piT K (pe_ix (ixT K) (pv 2) (pe_ix (ixL K) (pv 7) pe_int (fun _ _ => rfl)) (fun _ _ => rfl))) (blkOk_by (own := [("c", 9)]) (N := ["world", "s", "beside", "near", "pegs", "found", "v", "coats", "j", "c"]) (sc := defScope s__law_lets) (by decide +kernel)) (fun _ _ _ _ _ => (pg_name (i := 9) sc__law_lets.nd rfl (Or.inl rfl))) (fun _ _ _ _ _ => (pts_one (pt_cmpR op_ne (pv 9) (pe_ix (ixT K) (pv 1) (pv 6) (fun _ _ => rfl)) (nomark _)))) (fun _ _ _ _ _ => (pe_tup (pa_cons (pv 6) (pa_cons (pv 9) pa_nil)))))))) pss_nil))))
      (pss_one (ps_ret (pv 5)))))), ?_⟩
  refine ⟨.ref wt, rfl, wt, _, rfl, hwt, rfl, _, _, rfl, _, _, rfl, _, _, rfl, rfl, ?_⟩
  refine ⟨Nat.zero_le _, fun d nd => ?_⟩
  have sd := Same.new (o := .lst []) nd
  refine ⟨.ref s, rfl, s, _, rfl, .inr (sd.tup hS), n, by rw [List.length_map, hxl], by omega, by omega, ?_⟩
  rw [Int.toNat_natCast]
  refine for_range (fun k σ H' => ∃ d us y5 y6 y7 y8, σ = [some (.ref wt), some (.ref s), some (.ref t), some (.ref l), some (.ref pg), some (.ref d), y5, y6, y7, y8] ∧ H d = none ∧ H' d = some (.lst us) ∧ TPs H' us (letsL rows ths ps xs k) ∧ Same H H') ⟨d, [], _, _, _, _, rfl, nd, upd_same, TPs.nil, sd⟩ ?_ ?_
  · clear sd nd d
    rintro k σ H1 hk ⟨d, us, y5, y6, y7, y8, rfl, nd, hd, hT1, s1⟩
    have hi : k < nrs.length := by rw [hO.len]; exact hk
    have hrow : nrs[k]? = some nrs[k] := List.getElem?_eq_getElem hi
    have hmem := hO.mem _ _ hrow
    have hasc := hO.asc _ (List.mem_of_getElem? hrow)
    have hbi : lbs[k]? = some (lbs[k]'(by omega)) := List.getElem?_eq_getElem (by omega)
    have hrb := hlg _ _ _ hbi hrow
    generalize lbs[k]'(by omega) = rb at hbi hrb
    generalize nrs[k] = near at hrow hmem hasc hrb
    have hnl : near.length ≤ n := nodup_len n near (asc_nd hasc) fun c hc => adj_lt hin ((hmem c).mp hc)
    have grb : (lbs.map V.ref)[k]? = some (.ref rb) := by rw [List.getElem?_map, hbi]; rfl
    refine ⟨.ref l, rfl, _, rfl, l, _, _, .ref rb, rfl, rfl, SqL.of (s1 _ _ hl), atN grb (by omega), rb, rfl, ⟨_, SqL.of (s1 _ _ hrb)⟩, fun D nD => ?_⟩
    refine lc_rd (fun i => .int (near.getD i 0)) (walk_list (xs := near.map V.int)) yInt (fun i v _ => v = .int (xs.getD (near.getD i 0).toNat 0)) nD (by rw [List.length_map]; omega) (fun _ => rfl) (fun H' s => SqL.of (s _ _ (s1 _ _ hrb))) (fun _ _ _ _ _ h => h) (fun i hi2 H' Q' s2 h => ?_) (fun zs H2 hz hD s2 hv => ?_) (fun _ _ _ _ _ h _ => h)
    · rw [List.length_map] at hi2
      have hc2 := adj_lt hin ((hmem _).mp (getD_in hi2))
      have g : (xs.map V.int)[(near.getD i 0).toNat]? = some (.int (xs.getD (near.getD i 0).toNat 0)) := by rw [List.getElem?_map, getD_some (by omega)]; rfl
      exact ⟨.ref s, rfl, _, rfl, s, _, _, _, rfl, rfl, s2.tup (s1.tup hS), atN g (by omega), h _ _ (Same.refl _) rfl⟩
    rw [ints_of (xs := zs) (f := fun i => xs.getD (near.getD i 0).toNat 0) 0 fun i v e => by rw [Nat.zero_add]; exact hv i v e, hz, List.length_map, map_getD fun c => xs.getD c.toNat 0] at hD
    generalize hcs : near.map (fun c => xs.getD c.toNat 0) = coats at hD
    have hmc : ∀ y, y ∈ coats ↔ ∃ c, Adj ths (k : Nat) c ∧ xs.getD c.toNat 0 = y := fun y => by
      rw [← hcs, List.mem_map]
      constructor
      · rintro ⟨c, hc, rfl⟩
        exact ⟨c, (hmem c).mp hc, rfl⟩
      · rintro ⟨c, h1, rfl⟩
        exact ⟨c, (hmem c).mpr h1, rfl⟩
    have hcl : coats.length ≤ 24 := by rw [← hcs, List.length_map]; omega
    have s12 := s1.trans s2
    -- no deed here
    have skip : coatsL rows ths ps xs (k : Nat) = [] → ∀ (H3 : Hp) (z : Option V) (y7 y8 : Option V), Same H2 H3 → ∃ d' us' y5 y6 y7' y8', [some (V.ref wt), some (.ref s), some (.ref t), some (.ref l), some (.ref pg), some (.ref d), some (.int (0 + (k : Int))), z, y7, y8] = [some (.ref wt), some (.ref s), some (.ref t), some (.ref l), some (.ref pg), some (.ref d'), y5, y6, y7', y8'] ∧ H d' = none ∧ H3 d' = some (.lst us') ∧ TPs H3 us' (letsL rows ths ps xs (k + 1)) ∧ Same H H3 := fun h0 H3 z y7 y8 s3 =>
      ⟨d, us, _, _, _, _, rfl, nd, s3 _ _ (s2 _ _ hd), by rw [letsL_succ, h0, List.map_nil, List.append_nil]; exact (hT1.same s2).same s3, s12.trans s3⟩
    refine ⟨_, rfl, .ref pg, rfl, pg, _, rfl, .inr (s12.tup hP), rfl, flat_ints _, _, rfl, ?_⟩
    rw [inV_dec]
    have ek : (0 : Int) + (k : Int) = ((k : Nat) : Int) := by omega
    by_cases c1 : (0 : Int) + (k : Int) ∈ ps
    · rw [decide_eq_true c1]
      have h0 : coatsL rows ths ps xs (k : Nat) = [] := by
        unfold coatsL
        rw [if_pos (ek ▸ c1)]
      exact iteF (iteF (skip h0 H2 (some (.ref D)) y7 y8 (Same.refl _)))
    rw [decide_eq_false c1]
    refine iteT ?_
    refine ⟨_, rfl, Nat.zero_le _, fun e ne => ?_⟩
    have se := Same.new (o := .lst []) ne
    refine neL (ns := coats) (ms := []) (SqL.of (se _ _ hD)) (SqL.of upd_same) ⟨_, rfl, ?_⟩
    by_cases c2 : coats = []
    · refine itF (by rw [decide_eq_true c2]; rfl) (iteF (skip ?_ _ (some (.ref D)) y7 y8 se))
      have hn : ¬ ∃ q, (∃ o, Adj ths (k : Nat) o) ∧ ∀ o, Adj ths (k : Nat) o → xs.getD o.toNat 0 = q := fun ⟨q0, ⟨o, ho⟩, _⟩ => by
        have := (hmc _).mpr ⟨o, ho, rfl⟩
        rw [c2] at this
        cases this
      unfold coatsL
      rw [if_neg (ek ▸ c1), around_none hn]
    refine itT (by rw [decide_eq_false c2]; rfl) ?_
    have hcp : 0 < coats.length := List.length_pos_iff.mpr c2
    have hD3 := se _ _ hD
    generalize upd H2 e (.lst []) = H3 at *
    have g0 : (coats.map V.int)[0]? = some (.int (coats.getD 0 0)) := by rw [List.getElem?_map, getD_some hcp]; rfl
    refine ⟨_, rfl, D, coats, rfl, SqL.of hD3, hcp, fun mn hmn hmn2 => ⟨_, rfl, D, coats, rfl, SqL.of hD3, hcp, fun mx hmx hmx2 => ⟨rfl, _, rfl, ?_⟩⟩⟩
    have hD5 := hD3
    have s13 := se
    by_cases c3 : mn = mx
    case neg =>
      refine itF (decide_eq_false fun z => c3 (V.int.inj z)) (skip ?_ _ (some (.ref D)) y7 y8 s13)
      have hn : ¬ ∃ q, (∃ o, Adj ths (k : Nat) o) ∧ ∀ o, Adj ths (k : Nat) o → xs.getD o.toNat 0 = q := fun ⟨q0, ⟨o, ho⟩, hq⟩ => c3 (by
        obtain ⟨c, hc, e⟩ := (hmc _).mp hmn
        obtain ⟨c', hc', e'⟩ := (hmc _).mp hmx
        rw [← e, ← e', hq c hc, hq c' hc'])
      unfold coatsL
      rw [if_neg (ek ▸ c1), around_none hn]
    refine itT (by rw [c3]; simp) ?_
    have har : aroundP ths xs (k : Nat) = some (coats.getD 0 0) := by
      obtain ⟨c', hc', e'⟩ := (hmc _).mp (getD_in hcp)
      refine around_some ⟨c', hc'⟩ fun o ho => ?_
      have hm := (hmc _).mpr ⟨o, ho, rfl⟩
      have k1 := hmn2 _ hm
      have k2 := hmx2 _ hm
      have k3 := hmn2 _ (getD_in hcp)
      have k4 := hmx2 _ (getD_in hcp)
      omega
    have hcr : 0 ≤ coats.getD 0 0 ∧ coats.getD 0 0 < (rows.length : Nat) := by
      obtain ⟨c', hc', e'⟩ := (hmc _).mp (getD_in hcp)
      have := adj_lt hin hc'
      rw [← e']
      exact hSt.coat (by omega)
    have hrw : rows[(coats.getD 0 0).toNat]? = some (rows[(coats.getD 0 0).toNat]'(by omega)) := List.getElem?_eq_getElem (by omega)
    have hro := row_of hrw
    obtain ⟨b, hb, hbs⟩ := hget _ _ hrw
    have h8 := asc_len gT (List.getElem_mem (l := rows) (n := (coats.getD 0 0).toNat) (by omega))
    generalize rows[(coats.getD 0 0).toNat]'(by omega) = br at hrw hro hbs h8
    have s05 := s12.trans s13
    have gk : (xs.map V.int)[k]? = some (.int (xs.getD k 0)) := by rw [List.getElem?_map, getD_some (by omega)]; rfl
    have hcoats : coatsL rows ths ps xs (k : Nat) = br.filter fun c => decide (c ≠ xs.getD k 0) := by
      unfold coatsL
      rw [if_neg (ek ▸ c1), har]
      show (rowOf rows _).filter _ = _
      rw [hro]
      rfl
    refine ⟨.ref d, rfl, .ref t, rfl, _, rfl, D, _, 0, _, rfl, rfl, SqL.of hD5, atI_nat g0, t, ws, _, .ref b, rfl, rfl, s05.tup hW, atN hb (by omega), b, rfl, ⟨_, s05.tup hbs⟩, fun D2 nD2 => ?_⟩
    refine lc_it walk_tup (fun i H' => ∃ us2, H' D2 = some (.lst us2) ∧ TPs H' us2 (((br.take i).filter fun c => decide (c ≠ xs.getD k 0)).map fun c => ((k : Int), c)) ∧ Same H3 H') ⟨[], upd_same, TPs.nil, Same.new nD2⟩ (fun i H' _ h => by
      obtain ⟨_, _, _, s⟩ := h
      exact s.tup (s05.tup hbs)) ?_ ?_
    · rintro i x H6 H7 hi2 ⟨us2, g1, g2, g3⟩ ⟨rfl, hx⟩
      obtain ⟨hi3, rfl⟩ := num_map i br x hx
      have hul := g2.1
      rw [List.length_map] at hul
      have hfl : ((br.take i).filter fun c => decide (c ≠ xs.getD k 0)).length ≤ 8 := by
        refine Nat.le_trans (List.length_filter_le _ _) ?_
        rw [List.length_take]
        omega
      have htk : br.take (i + 1) = br.take i ++ [br[i]] := by rw [List.take_add_one, List.getElem?_eq_getElem hi3]; rfl
      refine ⟨rfl, ?_⟩
      refine ⟨_, rfl, .ref s, rfl, _, rfl, s, _, _, _, rfl, rfl, g3.tup (s05.tup hS), atN gk (by omega), rfl, _, rfl, ?_⟩
      have ene : (!decide (V.int br[i] = V.int (xs.getD k 0))) = decide (br[i] ≠ xs.getD k 0) := by
        rw [← decide_not]
        exact decide_eq_decide.mpr ⟨fun z z2 => z (by rw [z2]), fun z z2 => z (V.int.inj z2)⟩
      rw [ene]
      by_cases c4 : br[i] ≠ xs.getD k 0
      · rw [decide_eq_true c4]
        refine iteT ?_
        refine ⟨_, rfl, _, rfl, by show 2 ≤ sizeLine; decide, fun u nu => ?_⟩
        have su := Same.new (o := .tup [.int (0 + (k : Int)), .int br[i]]) nu
        refine ⟨us2, su _ _ g1, smallLt (by omega), us2 ++ [.ref u], upd_same, ?_, (g3.trans su).mut nD2⟩
        rw [htk, List.filter_append, List.map_append, List.filter_cons, if_pos (decide_eq_true c4)]
        refine ((g2.same su).snoc ⟨u, rfl, ?_⟩).upd (su _ _ g1)
        rw [upd_same, Int.zero_add]
      · rw [decide_eq_false c4]
        refine iteF ⟨us2, g1, ?_, g3⟩
        rw [htk, List.filter_append, List.filter_cons, if_neg (by simpa using c4), List.filter_nil, List.append_nil]
        exact g2
    · rintro H6 ⟨us2, g1, g2, g3⟩
      rw [List.length_map, List.take_length, ← hcoats] at g2
      have s06 := s05.trans g3
      have hlen1 := hT1.1
      have hlen2 := letsL_len (rows := rows) (ths := ths) (ps := ps) (xs := xs) gT k
      have hlen3 := g2.1
      rw [List.length_map] at hlen3
      have hlen4 := coatsL_len (rows := rows) (ths := ths) (ps := ps) (xs := xs) (v := ((k : Nat) : Int)) gT
      have hd6 := g3 _ _ (s13 _ _ (s2 _ _ hd))
      refine ⟨d, D2, us, us2, rfl, rfl, hd6, g1, small (by omega), fun d2 nd2 => ?_⟩
      have s7 := Same.new (o := .lst (us ++ us2)) nd2
      refine ⟨d2, us ++ us2, _, _, _, _, rfl, s06.free nd2, upd_same, ?_, s06.trans s7⟩
      rw [letsL_succ]
      exact (TPs.app (((hT1.same s2).same s13).same g3) g2).same s7
  · rintro σ H1 ⟨d, us, y5, y6, y7, y8, rfl, nd, hd, hT1, s1⟩
    exact ⟨.ref d, rfl, q d us H1 s1 nd hd hT1⟩
def sp__law_put (K : PySem.W.Frag) (cs : CS) : Sp := fun vs H Q E => ∃ (a d : Addr) (xs : List Int) (v : Nat) (c : Int), vs = [.ref a, .ref d] ∧ SqT K H a (xs.map V.int) ∧ SqT K H d [.int (v : Nat), .int c] ∧ v < xs.length ∧ xs.length ≤ 1000 ∧ ∀ t H', Same H H' → H' t = some (.tup ((xs.set v c).map V.int)) → Q (.ref t) H'
theorem ok__law_put (F : Fun K "_law_put" "_law_put" s__law_put f fd) (T : Txt P w K mg base cs)  : FnOk P w K mg base CX0 1 f fd ["s", "deed"] (sp__law_put K cs) := by
  refine F.ok sc__law_put (fun vs H Q E h => ?_) (fun cdv A outer s H vs Q E hr h => ?_)
  · obtain ⟨a, d, xs, v, c, rfl, _⟩ := h
    rfl
  obtain ⟨a, d, xs, v, c, rfl, hS, hd, hv, hl, q⟩ := h
  refine ⟨_, (pss_one (ps_ret (pe_op (catA K) (pe_op (catA K) (pe_slice (slT K) (pv 0) poN (po_some (pe_ix (ixT K) (pv 1) pe_int (fun _ _ => rfl)))) (pe_tup (pa_cons (pe_ix (ixT K) (pv 1) pe_int (fun _ _ => rfl)) pa_nil))) (pe_slice (slT K) (pv 0) (po_some (pe_op op_add (pe_ix (ixT K) (pv 1) pe_int (fun _ _ => rfl)) pe_int)) poN)))), ?_⟩
  refine ⟨.ref a, rfl, .ref d, rfl, d, _, 0, _, rfl, rfl, hd, atI0, _, rfl, slA hS fun x1 H1 m1 h1 => ?_⟩
  rw [cutV_to, ← List.map_take] at h1
  refine ⟨.ref d, rfl, d, _, 1, _, rfl, rfl, m1.tup hd, atI1, by show 1 ≤ sizeLine; decide, fun u nu => ?_⟩
  have su := Same.new (o := .tup [.int c]) nu
  refine ctO (ys := [.int c]) (su.tup h1) (SqT.of upd_same) (fun z => nomatch z) (fun _ => upd_same) (by rw [List.length_map, List.length_take]; show _ + 1 ≤ _; omega) fun x2 H2 m2 h2 => ?_
  have m02 := (m1.trans su).trans m2
  refine ⟨.ref a, rfl, .ref d, rfl, d, _, 0, _, rfl, rfl, m02.tup hd, atI0, _, 1, rfl, rfl, _, rfl, slA (m02.tup hS) fun x3 H3 m3 h3 => ?_⟩
  rw [show (((v : Nat) : Int) + 1) = (((v + 1 : Nat)) : Int) by omega, cutV_from, ← List.map_drop] at h3
  refine ctO (SqT.of (m3 _ _ h2)) h3 (fun _ => m3 _ _ h2) (fun z => absurd z (by simp)) (by rw [List.length_append, List.length_map, List.length_map, List.length_take, List.length_drop]; show _ + 1 + _ ≤ _; omega) fun x4 H4 m4 h4 => ?_
  refine q x4 H4 ((m02.trans m3).trans m4) ?_
  have e : xs.set v c = xs.take v ++ [c] ++ xs.drop (v + 1) := by
    rw [List.set_eq_take_append_cons_drop, if_pos hv, List.append_assoc]
    rfl
  rw [e, List.map_append, List.map_append]
  exact h4
def sp__law_led (K : PySem.W.Frag) (cs : CS) : Sp := fun vs H Q E => ∃ (p wt t l pg s : Addr) (rows nrs : List (List Int)) (n : Nat) (ths : List (Int × Int)) (ps xs : List Int) (m : Nat), vs = [.ref p, .ref wt, .ref s, .int (m : Nat)] ∧ Src H p ∧ SqT K H wt [.ref t, .ref l, .ref pg] ∧ Bw.TT K H t rows ∧ GoodT rows ∧ LLp p H l nrs ∧ NearOk n ths nrs ∧ InN n ths ∧ n ≤ 24 ∧ SqT K H pg (ps.map V.int) ∧ H s = some (.tup (xs.map V.int)) ∧ Stand rows n ths xs ∧ m ≤ 1000 ∧ ∀ t2 ys H', H' t2 = some (.tup (ys.map V.int)) → Led rows n ths ps xs ys → Src H' p → Exb p H H' → Q (.ref t2) H'
theorem ok__law_led (F : Fun K "_law_led" "_law_led" s__law_led f fd) (T : Txt P w K mg base cs) (c__law_one : Cal P w K mg base CX0 2 "_law_one" ["source", "things"] s__law_one (sp__law_one K cs)) (c__law_lets : Cal P w K mg base CX0 1 "_law_lets" ["world", "s"] s__law_lets (sp__law_lets K cs)) (c__law_put : Cal P w K mg base CX0 1 "_law_put" ["s", "deed"] s__law_put (sp__law_put K cs)) : FnOk P w K mg base CX0 3 f fd ["source", "world", "s", "many"] (sp__law_led K cs) := by
  refine F.ok sc__law_led (fun vs H Q E h => ?_) (fun cdv A outer s H vs Q E hr h => ?_)
  · obtain ⟨p, wt, t, l, pg, s, rows, nrs, n, ths, ps, xs, m, rfl, _⟩ := h
    rfl
  obtain ⟨p, wt, t, l, pg, s, rows, nrs, n, ths, ps, xs, m, rfl, hs, hwt, hT, gT, hL, hO, hin, n24, hP, hS, hSt, hm, q⟩ := h
  refine ⟨_, (pss_cons (ps_for PassesOwn.never rfl (pi_range1 (by rfl) T.n_range (pa_cons (pv 3) pa_nil)) (pg_name (i := 4) sc__law_led.nd rfl (Or.inl rfl)) (pss_cons (ps_set (i := 5) sc__law_led.nd rfl (Or.inl rfl) (pe_cal c__law_lets (hr.mono (by decide)) pass0 (pa_cons (pv 1) (pa_cons (pv 2) pa_nil))))
      (pss_one (ps_if (pt_cmpR (neD K hr.units) (pv 5) (pe_lst pa_nil) (nomark _)) (pss_one (ps_set (i := 2) sc__law_led.nd rfl (Or.inl rfl) (pe_cal c__law_put (hr.mono (by decide)) pass0 (pa_cons (pv 2) (pa_cons (pe_cal c__law_one (hr.mono (by decide)) pass0 (pa_cons (pv 0) (pa_cons (pv 5) pa_nil))) pa_nil))))) pss_nil))))
      (pss_one (ps_ret (pv 2)))), ?_⟩
  refine ⟨_, rfl, _, rfl, by omega, by omega, ?_⟩
  rw [Int.toNat_natCast]
  refine for_range (fun k σ H' => ∃ s ys y4 y5, σ = [some (.ref p), some (.ref wt), some (.ref s), some (.int (m : Nat)), y4, y5] ∧ H' s = some (.tup (ys.map V.int)) ∧ Led rows n ths ps xs ys ∧ Src H' p ∧ Exb p H H') ⟨s, xs, _, _, rfl, hS, .refl, hs, Exb.refl⟩ ?_ ?_
  · clear hS
    rintro k σ H1 hk ⟨s, ys, y4, y5, rfl, hS, hLed, s1, e1⟩
    have hK := hLed.kept gT hin hSt
    have hyl := hK.st.1
    refine ⟨_, rfl, _, rfl, wt, t, l, pg, s, rows, nrs, n, ths, ps, ys, rfl, e1.tup hs hwt, tt_exb hs e1 hT, gT, (hL.exb e1).ll, hO, hin, n24, e1.tup hs hP, SqT.of hS, hK.st, fun D us H2 s2 nD hD hT2 => ?_⟩
    refine ⟨_, rfl, Nat.zero_le _, fun e ne => ?_⟩
    have se := Same.new (o := .lst []) ne
    have hD3 := se _ _ hD
    have hP3 : PL K (upd H2 e (.lst [])) D (letsL rows ths ps ys n) := TPs.pl hD3 (hT2.same se)
    refine ⟨_, _, hP3, .lst (ds := []) (SqL.of upd_same) .nil, shPL _, rfl, ?_⟩
    rw [eqv_nil]
    have s13 := s2.trans se
    have hT3 := hT2.same se
    have s3 := s13.src s1
    have e3 := e1.trans (Exb.of s13)
    have hS3 := s13 _ _ hS
    generalize upd H2 e (.lst []) = H3 at *
    by_cases c : letsL rows ths ps ys n = []
    · refine ⟨_, rfl, itF (by rw [c]; rfl) ?_⟩
      exact ⟨s, ys, _, _, rfl, hS3, hLed, s3, e3⟩
    · refine ⟨_, rfl, itT (by rw [decide_eq_false (fun z => c (List.map_eq_nil_iff.mp z))]; rfl) ?_⟩
      have hul := hT3.1
      have hlp : 0 < (letsL rows ths ps ys n).length := List.length_pos_iff.mpr c
      have hl8 := letsL_len (rows := rows) (ths := ths) (ps := ps) (xs := ys) gT n
      refine ⟨_, rfl, _, rfl, _, rfl, p, D, us, rfl, s3, .inl ⟨hD3, s1.ne nD⟩, by omega, by omega, fun v H4 hv s4 e4 => ?_⟩
      obtain ⟨e, he, hte⟩ := hT3.mem v hv
      obtain ⟨h0, h1, hlet⟩ := mem_letsL.mp he
      obtain ⟨u, rfl, hu⟩ := hte
      obtain ⟨v, hv⟩ : ∃ v : Nat, e.1 = (v : Int) := ⟨e.1.toNat, by omega⟩
      rw [hv] at hu hlet h1
      refine ⟨s, u, ys, v, e.2, rfl, SqT.of (ow_exb e4 s3 hS3), e4.tup s3 (SqT.of hu), by omega, by omega, fun t2 H5 s5 ht2 => ?_⟩
      exact ⟨t2, _, _, _, rfl, ht2, hLed.step (by omega) hlet, s5.src s4, (e3.trans e4).trans (Exb.of s5)⟩
  · rintro σ H1 ⟨s, ys, y4, y5, rfl, hS, hLed, s1, e1⟩
    exact ⟨_, rfl, q s ys _ hS hLed s1 e1⟩
def sp__law_made (K : PySem.W.Frag) (cs : CS) : Sp := fun vs H Q E => ∃ (wt t l pg d : Addr) (rows nrs : List (List Int)) (n : Nat) (ths : List (Int × Int)) (ps : List Int) (us : List V), vs = [.ref wt, .ref d] ∧ SqT K H wt [.ref t, .ref l, .ref pg] ∧ Bw.TT K H t rows ∧ GoodT rows ∧ LL H l nrs ∧ NearOk n ths nrs ∧ GoodN n ths ∧ SqT K H pg (ps.map V.int) ∧ (∀ i, okAt ps (n : Nat) i) ∧ H d = some (.lst us) ∧ TPs H us ths ∧ ∀ x H', Same H H' → WB K cs.Table cs.Net cs.World H' x rows n ths ps → Q (.ref x) H'
theorem ok__law_made (F : Fun K "_law_made" "_law_made" s__law_made f fd) (T : Txt P w K mg base cs) (c_made_table : Cal P w K mg base CX0 3 "made_table" ["rows"] s_made_table (sp_made_table K cs)) (c_made_net : Cal P w K mg base CX0 5 "made_net" ["many", "threads"] s_made_net (sp_made_net K cs)) (c_made_world : CalW P w K mg base CX0 3 "made_world" ["table", "net", "pegs"] s_made_world (sp_made_world K cs)) : FnOk P w K mg base CX0 6 f fd ["world", "threads"] (sp__law_made K cs) := by
  refine F.ok sc__law_made (fun vs H Q E h => ?_) (fun cdv A outer s H vs Q E hr h => ?_)
  · obtain ⟨wt, t, l, pg, d, rows, nrs, n, ths, ps, us, rfl, _⟩ := h
    rfl
  obtain ⟨wt, t, l, pg, d, rows, nrs, n, ths, ps, us, rfl, hwt, hT, gT, hL, hO, gN, hp, ok, hd, hU, q⟩ := h
  obtain ⟨lbs, hl, hll, _⟩ := id hL
  refine ⟨_, (pss_cons (ps_asg (pv 0) (pg_tup rfl (pgs_cons (pg_name (i := 2) sc__law_made.nd rfl (Or.inl rfl)) (pgs_cons (pg_name (i := 3) sc__law_made.nd rfl (Or.inl rfl)) (pgs_cons (pg_name (i := 4) sc__law_made.nd rfl (Or.inl rfl)) pgs_nil)))))
      (pss_one (ps_ret (pe_calKw c_made_world kb_made_world_pegs (hr.mono (by decide)) pass0 (pa_cons (pe_cal c_made_table (hr.mono (by decide)) pass0 (pa_cons (pv 2) pa_nil)) (pa_cons (pe_cal c_made_net (hr.mono (by decide)) pass0 (pa_cons (pe_callB (lenS K) (by rfl) T.n_len PySem.boot_len (pa_cons (pv 3) pa_nil)) (pa_cons (pe_callTy (tupOf K) (by rfl) T.n_tuple (by decide +kernel) (pa_cons (pv 1) pa_nil)) pa_nil))) pa_nil)) (pk_cons (pv 4) pk_nil))))), ?_⟩
  refine ⟨.ref wt, rfl, wt, _, rfl, hwt, rfl, _, _, rfl, _, _, rfl, _, _, rfl, rfl, ?_⟩
  refine ⟨_, rfl, t, rows, rfl, hT, gT, fun a H1 s1 hB => ⟨.ref l, rfl, l, _, rfl, .inl (SqL.of (s1 _ _ hl)), .ref d, rfl, d, us, rfl, .inl ⟨SqL.of (s1 _ _ hd), fun r nr => ?_⟩⟩⟩
  have k1 := Same.new (o := .tup us) nr
  have s2 := s1.trans k1
  have hr := TPs.tt (K := K) (hU.same s2) (SqT.of upd_same)
  refine ⟨r, n, ths, by rw [List.length_map, hll, hO.len]; rfl, hr, gN, fun b H2 s3 hN => ⟨_, rfl, a, b, pg, rows, n, ths, ps, rfl, (hB.same k1).same s3, hN, (s2.trans s3).tup hp, ok, fun x H3 s4 hW => q x H3 ((s2.trans s3).trans s4) hW⟩⟩
structure CW (K : PySem.W.Frag) (H : Hp) (p wt t l pg d : Addr) (rows nrs : List (List Int)) (n : Nat) (ths : List (Int × Int)) (ps : List Int) (us : List V) : Prop where
  hwt : SqT K H wt [.ref t, .ref l, .ref pg]
  tt : Bw.TT K H t rows
  gT : GoodT rows
  ll : LLp p H l nrs
  nr : NearOk n ths nrs
  gN : GoodN n ths
  con : Conn n ths
  hpg : SqT K H pg (ps.map V.int)
  ok : ∀ i, okAt ps (n : Nat) i
  ne : ps ≠ []
  dl : H d = some (.lst us)
  dp : d ≠ p
  tps : TPs H us ths
  few : rows.length ^ n ≤ 256
  n2 : 2 ≤ n
theorem CW.exb {K : PySem.W.Frag} {H H1 : Hp} {p wt t l pg d : Addr} {rows nrs : List (List Int)} {n : Nat} {ths : List (Int × Int)} {ps : List Int} {us : List V} (h : CW K H p wt t l pg d rows nrs n ths ps us) (s : Src H p) (e : Exb p H H1) : CW K H1 p wt t l pg d rows nrs n ths ps us :=
  ⟨e.tup s h.hwt, tt_exb s e h.tt, h.gT, h.ll.exb e, h.nr, h.gN, h.con, e.tup s h.hpg, h.ok, h.ne, e.lst h.dp h.dl, h.dp, h.tps.exb s e, h.few, h.n2⟩
def Fz (row : List Int) (v : Int) : Option Int := if v ∈ row then some 0 else none
theorem valV_zero : ∀ (row : List Int) (acc : List (Key × V)) (v : Int), valV (mergeK acc (row.map fun j => ((.inl j : Key), V.int 0))) (.inl v) = if v ∈ row then some (.int 0) else valV acc (.inl v)
  | [], acc, v => by rw [if_neg List.not_mem_nil]; rfl
  | j :: row, acc, v => by
    have e : mergeK acc ((j :: row).map fun j => ((.inl j : Key), V.int 0)) = mergeK (putK acc (.inl j) (.int 0)) (row.map fun j => ((.inl j : Key), V.int 0)) := rfl
    rw [e, valV_zero row, valV_put]
    by_cases h1 : v ∈ row
    · rw [if_pos h1, if_pos (List.mem_cons_of_mem _ h1)]
    · rw [if_neg h1]
      by_cases h2 : v = j
      · subst h2
        rw [if_pos rfl, if_pos List.mem_cons_self]
      · rw [if_neg (fun z => h2 (Sum.inl.inj z)), if_neg (fun z => (List.mem_cons.mp z).elim h2 h1)]
theorem valV_Fz (row : List Int) (v : Int) : valV (mergeK [] (row.map fun j => ((.inl j : Key), V.int 0))) (.inl v) = (Fz row v).map V.int := by
  rw [valV_zero]
  unfold Fz
  split <;> rfl
theorem pairs_zero {K : PySem.W.Frag} {H : Hp} : ∀ (row : List Int) (us : List V), us.length = row.length → (∀ (i : Nat) v, us[i]? = some v → ∃ b, v = .ref b ∧ H b = some (.tup [.int (row.getD i 0), .int 0])) → ∃ ps : List Addr, us = ps.map V.ref ∧ PySem.Paired (fun p (kv : Key × V) => SqT K H p [kV kv.1, kv.2]) ps (row.map fun j => ((.inl j : Key), V.int 0))
  | [], us, hl, _ => ⟨[], List.eq_nil_of_length_eq_zero hl, .nil⟩
  | j :: row, [], hl, _ => by cases hl
  | j :: row, u :: us, hl, h => by
    obtain ⟨b, rfl, hb⟩ := h 0 u rfl
    obtain ⟨ps, e, hp⟩ := pairs_zero row us (Nat.succ.inj hl) fun i v hv => h (i + 1) v hv
    exact ⟨b :: ps, by rw [e]; rfl, .cons (SqT.of hb) hp⟩
def fullT (q : Nat) : List (List Int) := (List.range q).map fun _ => (List.range q).map Int.ofNat
theorem fullT_row {q p : Nat} (h : p < q) : rowOf (fullT q) p = (List.range q).map Int.ofNat := by
  unfold rowOf fullT
  rw [List.getD_eq_getElem?_getD, List.getElem?_map, List.getElem?_range h]
  rfl
theorem mem_rng {q : Nat} {c : Int} : c ∈ (List.range q).map Int.ofNat ↔ 0 ≤ c ∧ c < (q : Nat) := by
  rw [List.mem_map]
  constructor
  · rintro ⟨k, hk, rfl⟩
    have := List.mem_range.mp hk
    exact ⟨by show (0 : Int) ≤ (k : Nat); omega, by show ((k : Nat) : Int) < _; omega⟩
  · rintro ⟨h0, h1⟩
    exact ⟨c.toNat, List.mem_range.mpr (by omega), by show ((c.toNat : Nat) : Int) = c; omega⟩
theorem fullT_besd (q : Nat) : fullT q = besd q ((List.range q).flatMap fun a : Nat => (List.range q).map fun b : Nat => ((a : Int), (b : Int))) := by
  unfold fullT besd
  refine List.map_congr_left fun p hp => ?_
  have hp := List.mem_range.mp hp
  unfold bsr
  refine (List.filter_eq_self.mpr fun s hs => ?_).symm
  obtain ⟨k, hk, rfl⟩ := List.mem_map.mp hs
  exact decide_eq_true (.inl (List.mem_flatMap.mpr ⟨p, List.mem_range.mpr hp, List.mem_map.mpr ⟨k, hk, rfl⟩⟩))
theorem fullT_good {q : Nat} (h1 : 1 ≤ q) (h8 : q ≤ 8) : GoodT (fullT q) := by rw [fullT_besd]; exact good_besd h1 h8
theorem fullT_len (q : Nat) : (fullT q).length = q := by unfold fullT; rw [List.length_map, List.length_range]
theorem fullT_zero {q n : Nat} {ths : List (Int × Int)} (hq : 1 ≤ q) (hi : InN n ths) : Stand (fullT q) n ths (List.replicate n 0) := by
  have h0 : ∀ p : Nat, (List.replicate n (0 : Int)).getD p 0 = 0 := fun p => by
    rw [List.getD_eq_getElem?_getD, List.getElem?_replicate]
    split <;> rfl
  refine Stand.of_adj hi List.length_replicate (fun p hp => ?_) fun p o ha => ?_
  · rw [h0, fullT_len]; omega
  · rw [h0, h0, show ((0 : Int)).toNat = 0 from rfl, fullT_row (by omega)]
    exact mem_rng.mpr ⟨by omega, by omega⟩
def sp__law_fork_world (K : PySem.W.Frag) (cs : CS) : Sp := fun vs H Q E => ∃ (p : Addr), vs = [.ref p] ∧ Src H p ∧ ∀ z wt t l pg d s rows nrs n ths ps us (pl : Nat) xs H', SqT K H' z [.ref wt, .ref d, .int (pl : Nat), .ref s] → CW K H' p wt t l pg d rows nrs n ths ps us → pl < n → ((pl : Nat) : Int) ∉ ps → H' s = some (.tup (xs.map V.int)) → Stand rows n ths xs → (∀ o, Adj ths (pl : Nat) o → xs.getD o.toNat 0 = 0) → 3 ≤ rows.length → Wide rows.length rows → Src H' p → Exb p H H' → Q (.ref z) H'
theorem ok__law_fork_world (F : Fun K "_law_fork_world" "_law_fork_world" s__law_fork_world f fd) (T : Txt P w K mg base cs) (c__law_take : Cal P w K mg base CX0 1 "_law_take" ["source", "top"] s__law_take (sp__law_take K cs)) (c__law_one : Cal P w K mg base CX0 2 "_law_one" ["source", "things"] s__law_one (sp__law_one K cs)) (c__law_beside : Cal P w K mg base CX0 2 "_law_beside" ["source", "many", "wide"] s__law_beside (sp__law_beside K cs)) (c__law_threads : Cal P w K mg base CX0 2 "_law_threads" ["source", "n", "more"] s__law_threads (sp__law_threads K cs)) (c__law_near : Cal P w K mg base CX0 1 "_law_near" ["n", "threads"] s__law_near (sp__law_near K cs)) (c__law_standing : Cal P w K mg base CX0 28 "_law_standing" ["source", "beside", "near", "fixed"] s__law_standing (sp__law_standing K cs)) (c__law_pegs : Cal P w K mg base CX0 3 "_law_pegs" ["source", "n", "free"] s__law_pegs (sp__law_pegs K cs)) : FnOk P w K mg base CX0 29 f fd ["source"] (sp__law_fork_world K cs) := by
  refine F.ok sc__law_fork_world (fun vs H Q E h => ?_) (fun cdv A outer s H vs Q E hr h => ?_)
  · obtain ⟨p, rfl, _⟩ := h
    rfl
  obtain ⟨p, rfl, hs, q⟩ := h
  refine ⟨_, (pss_cons (ps_set (i := 1) sc__law_fork_world.nd rfl (Or.inr rfl) (pe_cal c__law_one (hr.mono (by decide)) pass0 (pa_cons (pv 0) (pa_cons (pe_lst (pa_cons pe_int (pa_cons pe_int pa_nil))) pa_nil))))
      (pss_cons (ps_set (i := 2) sc__law_fork_world.nd rfl (Or.inl rfl) (pe_ifExp (pt_cmpR op_eq (pv 1) pe_int (nomark _)) (pe_cal c__law_one (hr.mono (by decide)) pass0 (pa_cons (pv 0) (pa_cons (pe_lst (pa_cons pe_int (pa_cons pe_int (pa_cons pe_int (pa_cons pe_int (pa_cons pe_int pa_nil)))))) pa_nil))) (pe_cal c__law_one (hr.mono (by decide)) pass0 (pa_cons (pv 0) (pa_cons (pe_lst (pa_cons pe_int (pa_cons pe_int (pa_cons pe_int (pa_cons pe_int (pa_cons pe_int pa_nil)))))) pa_nil)))))
      (pss_cons (ps_par (i := 3) (j := 4) (by rfl) sc__law_fork_world.nd rfl rfl (by decide) rfl rfl (pa_cons (pe_cal c__law_beside (hr.mono (by decide)) pass0 (pa_cons (pv 0) (pa_cons (pv 1) (pa_cons pe_bl pa_nil)))) (pa_cons (pe_cal c__law_threads (hr.mono (by decide)) pass0 (pa_cons (pv 0) (pa_cons (pv 2) (pa_cons pe_int pa_nil)))) pa_nil)) (by rfl))
      (pss_cons (ps_par (i := 5) (j := 6) (by rfl) sc__law_fork_world.nd rfl rfl (by decide) rfl rfl (pa_cons (pe_cal c__law_near (hr.mono (by decide)) pass0 (pa_cons (pv 2) (pa_cons (pv 4) pa_nil))) (pa_cons (pe_cal c__law_take (hr.mono (by decide)) pass0 (pa_cons (pv 0) (pa_cons (pv 2) pa_nil))) pa_nil)) (by rfl))
      (pss_cons (ps_set (i := 7) sc__law_fork_world.nd rfl (Or.inl rfl) (pe_callTy (dictP K rfl) (by rfl) T.n_dict (by decide +kernel) (pa_cons (pe_lc (own := [("j", 9)]) rfl sc__law_fork_world.nd (piL K (pe_ix (ixL K) (pv 5) (pv 6) (fun _ _ => rfl))) (blkOk_by (own := [("j", 9)]) (N := ["source", "many", "n", "beside", "threads", "near", "place", "fixed", "s", "j", "y", "p"]) (sc := defScope s__law_fork_world) (by decide +kernel)) (fun _ _ _ _ _ => (pg_name (i := 9) sc__law_fork_world.nd rfl (Or.inl rfl))) (fun _ _ _ _ _ => pts_nil) (fun _ _ _ _ _ => (pe_tup (pa_cons (pv 9) (pa_cons pe_int pa_nil))))) pa_nil)))
      (pss_cons (ps_set (i := 8) sc__law_fork_world.nd rfl (Or.inl rfl) (pe_cal c__law_standing (hr.mono (by decide)) pass0 (pa_cons (pv 0) (pa_cons (pv 3) (pa_cons (pv 5) (pa_cons (pv 7) pa_nil))))))
      (pss_cons (ps_if (pt_cmpR op_isN (pv 8) pe_non (nomark _)) (pss_cons (ps_par (i := 4) (j := 3) (by rfl) sc__law_fork_world.nd rfl rfl (by decide) rfl rfl (pa_cons (pe_lc (own := [("y", 10)]) rfl sc__law_fork_world.nd (pi_range2 (by rfl) T.n_range (pa_cons pe_int (pa_cons (pv 2) pa_nil))) (blkOk_by (own := [("y", 10)]) (N := ["source", "many", "n", "beside", "threads", "near", "place", "fixed", "s", "j", "y", "p"]) (sc := defScope s__law_fork_world) (by decide +kernel)) (fun _ _ _ _ _ => (pg_name (i := 10) sc__law_fork_world.nd rfl (Or.inl rfl))) (fun _ _ _ _ _ => pts_nil) (fun _ _ _ _ _ => (pe_tup (pa_cons (pe_op op_sub (pv 10) pe_int) (pa_cons (pv 10) pa_nil))))) (pa_cons (pe_callTy (tupOf K) (by rfl) T.n_tuple (by decide +kernel) (pa_cons (pe_lc (own := [("p", 11)]) rfl sc__law_fork_world.nd (pi_range1 (by rfl) T.n_range (pa_cons (pv 1) pa_nil)) (blkOk_by (own := [("p", 11)]) (N := ["source", "many", "n", "beside", "threads", "near", "place", "fixed", "s", "j", "y", "p"]) (sc := defScope s__law_fork_world) (by decide +kernel)) (fun _ _ _ _ _ => (pg_name (i := 11) sc__law_fork_world.nd rfl (Or.inl rfl))) (fun _ _ _ _ _ => pts_nil) (fun _ _ _ _ _ => (pe_tupRg rfl (by rfl) T.n_tuple (prg_1 (by rfl) T.n_range (pv 1))))) pa_nil)) pa_nil)) (by rfl))
      (pss_cons (ps_set (i := 5) sc__law_fork_world.nd rfl (Or.inl rfl) (pe_cal c__law_near (hr.mono (by decide)) pass0 (pa_cons (pv 2) (pa_cons (pv 4) pa_nil))))
      (pss_cons (ps_set (i := 7) sc__law_fork_world.nd rfl (Or.inl rfl) (pe_callTy (dictP K rfl) (by rfl) T.n_dict (by decide +kernel) (pa_cons (pe_lc (own := [("j", 9)]) rfl sc__law_fork_world.nd (piL K (pe_ix (ixL K) (pv 5) (pv 6) (fun _ _ => rfl))) (blkOk_by (own := [("j", 9)]) (N := ["source", "many", "n", "beside", "threads", "near", "place", "fixed", "s", "j", "y", "p"]) (sc := defScope s__law_fork_world) (by decide +kernel)) (fun _ _ _ _ _ => (pg_name (i := 9) sc__law_fork_world.nd rfl (Or.inl rfl))) (fun _ _ _ _ _ => pts_nil) (fun _ _ _ _ _ => (pe_tup (pa_cons (pv 9) (pa_cons pe_int pa_nil))))) pa_nil)))
      (pss_one (ps_set (i := 8) sc__law_fork_world.nd rfl (Or.inl rfl) (pe_cal c__law_standing (hr.mono (by decide)) pass0 (pa_cons (pv 0) (pa_cons (pv 3) (pa_cons (pv 5) (pa_cons (pv 7) pa_nil)))))))))) pss_nil)
      (pss_one (ps_ret (pe_tup (pa_cons (pe_tup (pa_cons (pv 3) (pa_cons (pv 5) (pa_cons (pe_cal c__law_pegs (hr.mono (by decide)) pass0 (pa_cons (pv 0) (pa_cons (pv 2) (pa_cons (pe_lst (pa_cons (pv 6) pa_nil)) pa_nil)))) pa_nil)))) (pa_cons (pv 4) (pa_cons (pv 6) (pa_cons (pv 8) pa_nil)))))))))))))), ?_⟩
  refine asgK (fun v H' => ∃ k : Nat, v = .int (k : Nat) ∧ (k = 3 ∨ k = 4) ∧ Src H' p ∧ Exb p H H') (fun R hR => ?_) ?_
  · refine ⟨_, rfl, by show 2 ≤ sizeLine; decide, fun L nL => ?_⟩
    have kL := Same.new (o := .lst [.int 3, .int 4]) nL
    refine ⟨p, L, _, rfl, kL.src hs, .inl ⟨upd_same, hs.ne nL⟩, by show 0 < 2; decide, by show 2 < 1000000; decide, fun v H1 hv s1 e1 => ?_⟩
    have e1 := (Exb.of kL).trans e1
    simp only [List.mem_cons, List.not_mem_nil, or_false] at hv
    rcases hv with rfl | rfl
    · exact hR _ _ ⟨3, rfl, .inl rfl, s1, e1⟩
    · exact hR _ _ ⟨4, rfl, .inr rfl, s1, e1⟩
  rintro v H1 ⟨k, rfl, hk, s1, e1⟩
  refine asgK (fun v H' => ∃ n : Nat, v = .int (n : Nat) ∧ 2 ≤ n ∧ n ≤ 5 ∧ k ^ n ≤ 256 ∧ Src H' p ∧ Exb p H H') (fun R hR => ?_) ?_
  · refine ⟨_, rfl, rfl, _, rfl, ?_⟩
    by_cases c : k = 4
    · refine itT (by rw [c]; rfl) ?_
      refine ⟨_, rfl, by show 5 ≤ sizeLine; decide, fun L nL => ?_⟩
      have kL := Same.new (o := .lst [.int 2, .int 3, .int 3, .int 4, .int 4]) nL
      refine ⟨p, L, _, rfl, kL.src s1, .inl ⟨upd_same, s1.ne nL⟩, by show 0 < 5; decide, by show 5 < 1000000; decide, fun v H2 hv s2 e2 => ?_⟩
      have e2 := e1.trans ((Exb.of kL).trans e2)
      subst c
      simp only [List.mem_cons, List.not_mem_nil, or_false] at hv
      rcases hv with rfl | rfl | rfl | rfl | rfl
      · exact hR _ _ ⟨2, rfl, by decide, by decide, by decide, s2, e2⟩
      · exact hR _ _ ⟨3, rfl, by decide, by decide, by decide, s2, e2⟩
      · exact hR _ _ ⟨3, rfl, by decide, by decide, by decide, s2, e2⟩
      · exact hR _ _ ⟨4, rfl, by decide, by decide, by decide, s2, e2⟩
      · exact hR _ _ ⟨4, rfl, by decide, by decide, by decide, s2, e2⟩
    · refine itF (decide_eq_false fun z => c (by have := V.int.inj z; omega)) ?_
      refine ⟨_, rfl, by show 5 ≤ sizeLine; decide, fun L nL => ?_⟩
      have kL := Same.new (o := .lst [.int 2, .int 3, .int 4, .int 4, .int 5]) nL
      refine ⟨p, L, _, rfl, kL.src s1, .inl ⟨upd_same, s1.ne nL⟩, by show 0 < 5; decide, by show 5 < 1000000; decide, fun v H2 hv s2 e2 => ?_⟩
      have e2 := e1.trans ((Exb.of kL).trans e2)
      have hk3 : k = 3 := hk.resolve_right c
      subst hk3
      simp only [List.mem_cons, List.not_mem_nil, or_false] at hv
      rcases hv with rfl | rfl | rfl | rfl | rfl
      · exact hR _ _ ⟨2, rfl, by decide, by decide, by decide, s2, e2⟩
      · exact hR _ _ ⟨3, rfl, by decide, by decide, by decide, s2, e2⟩
      · exact hR _ _ ⟨4, rfl, by decide, by decide, by decide, s2, e2⟩
      · exact hR _ _ ⟨4, rfl, by decide, by decide, by decide, s2, e2⟩
      · exact hR _ _ ⟨5, rfl, by decide, by decide, by decide, s2, e2⟩
  rintro v H2 ⟨n, rfl, n2, n5, hfew, s2, e2⟩
  clear s1 e1
  refine ⟨_, rfl, _, rfl, p, k, true, rfl, s2, by omega, by omega, fun t rows H3 hT gT hrl hwd s3 e3 => ?_⟩
  have hwd := hwd rfl
  refine ⟨_, rfl, _, rfl, p, n, 2, rfl, s3, by omega, by omega, by decide, fun d us ths H4 hd0 hd hU gN hC s4 e4 => ⟨_, _, rfl, ?_⟩⟩
  have hT := tt_exb s3 e4 hT
  have hin := gN.rng
  have dp : d ≠ p := s3.ne hd0
  have e24 := e2.trans (e3.trans e4)
  dsimp only [List.set]
  refine ⟨_, rfl, _, rfl, d, n, us, ths, rfl, hd, hU, hin, by omega, fun l nrs H5 m5 hL hO => ?_⟩
  have hL := hL.of s4
  have s5 := m5.src s4
  refine ⟨_, rfl, _, rfl, p, n, rfl, s5, by omega, by omega, fun pl0 H6 pl00 pl01 s6 e6 => ⟨_, _, rfl, ?_⟩⟩
  obtain ⟨pl, rfl⟩ : ∃ m : Nat, pl0 = (m : Int) := ⟨pl0.toNat, by omega⟩
  have hL := hL.exb e6
  have e46 : Exb p H4 H6 := (Exb.of m5).trans e6
  have hT := tt_exb s4 e46 hT
  have hd := e46.lst dp hd
  have hU := hU.exb s4 e46
  have e26 := e24.trans e46
  have hpl : pl < n := by omega
  dsimp only [List.set]
  refine asgK (fun v H' => ∃ fx kvs row, v = .ref fx ∧ fx ≠ p ∧ H' fx = some (.dK kvs) ∧ (∀ v : Int, valV kvs (.inl v) = (Fz row v).map V.int) ∧ (∀ o, o ∈ row ↔ Adj ths (pl : Nat) o) ∧ Same H6 H') (fun R hR => ?_) ?_
  · obtain ⟨nlp, lbs, hl, hll, hlg, hlp⟩ := id hL
    have hi : pl < nrs.length := by rw [hO.len]; exact hpl
    have hrow : nrs[pl]? = some nrs[pl] := List.getElem?_eq_getElem hi
    have hm := hO.mem _ _ hrow
    have hbi : lbs[pl]? = some (lbs[pl]'(by omega)) := List.getElem?_eq_getElem (by omega)
    have hrb := hlg _ _ _ hbi hrow
    have hnl : (nrs[pl]).length ≤ n := nodup_len n _ (asc_nd (hO.asc _ (List.getElem_mem _))) fun c hc => adj_lt hin ((hm c).mp hc)
    generalize nrs[pl] = row at hm hrb hrow hnl
    generalize lbs[pl]'(by omega) = rb at hbi hrb
    have grb : (lbs.map V.ref)[pl]? = some (.ref rb) := by rw [List.getElem?_map, hbi]; rfl
    refine ⟨.ref l, rfl, _, rfl, l, _, _, .ref rb, rfl, rfl, SqL.of hl, atN grb (by omega), rb, rfl, ⟨_, SqL.of hrb⟩, fun D nD => ?_⟩
    refine lc_it (walk_list (xs := row.map V.int)) (fun i H' => ∃ ys : List V, H' D = some (.lst ys) ∧ ys.length = i ∧ (∀ (k : Nat) v, ys[k]? = some v → ∃ b, v = .ref b ∧ b ≠ D ∧ H' b = some (.tup [.int (row.getD k 0), .int 0])) ∧ Same H6 H') ⟨[], upd_same, rfl, fun k v z => by simp at z, Same.new nD⟩ (fun i H' _ h => by obtain ⟨_, _, _, _, s⟩ := h; exact SqL.of (s _ _ hrb)) ?_ ?_
    · rintro i x H7 H7' hi7 ⟨ys, g1, g2, g3, g4⟩ ⟨rfl, hx⟩
      obtain ⟨hi3, rfl⟩ := num_map i row x hx
      refine ⟨wipe1, ?_⟩
      refine tYes_i (iteT ?_)
      refine ⟨_, rfl, by show 2 ≤ sizeLine; decide, fun u nu => ?_⟩
      have ku := Same.new (o := .tup [.int row[i], .int 0]) nu
      have nuD : u ≠ D := fun z => by rw [z, g1] at nu; cases nu
      refine ⟨ys, ku _ _ g1, smallLt (by omega), ys ++ [.ref u], upd_same, by rw [List.length_append, g2]; rfl, fun k v hv => ?_, (g4.trans ku).mut nD⟩
      by_cases hk : k < ys.length
      · rw [List.getElem?_append_left hk] at hv
        obtain ⟨b, z1, z2, z3⟩ := g3 k v hv
        exact ⟨b, z1, z2, by rw [upd_ne z2]; exact ku _ _ z3⟩
      · have hk2 := (List.getElem?_eq_some_iff.mp hv).1
        rw [List.length_append] at hk2
        have hk2 : k < ys.length + 1 := hk2
        obtain rfl : k = ys.length := by omega
        rw [List.getElem?_append_right (Nat.le_refl _), Nat.sub_self] at hv
        cases Option.some.inj hv
        refine ⟨u, rfl, nuD, ?_⟩
        rw [upd_ne nuD, upd_same, g2, List.getD_eq_getElem?_getD, List.getElem?_eq_getElem hi3]
        rfl
    · rintro H7 ⟨ys, g1, g2, g3, g4⟩
      rw [List.length_map] at g2
      obtain ⟨ps, e, hp⟩ := pairs_zero (K := K) row ys g2 fun i v hv => (g3 i v hv).elim fun b hb => ⟨b, hb.1, hb.2.2⟩
      rw [e] at g1
      refine ⟨D, ps, _, rfl, SqL.of g1, hp, fun fx nfx => ?_⟩
      have kf := Same.new (o := .dK (mergeK [] (row.map fun j => ((.inl j : Key), V.int 0)))) nfx
      exact hR _ _ ⟨fx, _, row, rfl, (g4.src s6).ne nfx, upd_same, valV_Fz row, hm, g4.trans kf⟩
  rintro v H7 ⟨fx, kvs, row, rfl, nfx, hfx, hFz, hrow, m7⟩
  have s7 := m7.src s6
  have hT := hT.same m7
  have hL := hL.same m7
  have hd := m7 _ _ hd
  have hU := hU.same m7
  have e27 := e26.trans (Exb.of m7)
  have fixz : ∀ st : List Int, st.length = n → FixOk (Fz row) st → ∀ o, Adj ths (pl : Nat) o → st.getD o.toNat 0 = 0 := fun st hl hf o ho => by
    have hr := adj_lt hin ho
    refine hf o.toNat (by omega) 0 ?_
    unfold Fz
    rw [if_pos]
    rw [Int.toNat_of_nonneg hr.1]
    exact (hrow o).mpr ho
  refine asgK (fun v H' => Src H' p ∧ Exb p H7 H' ∧ (v = .non ∨ ∃ s xs, v = .ref s ∧ H' s = some (.tup (xs.map V.int)) ∧ Stand rows n ths xs ∧ ∀ o, Adj ths (pl : Nat) o → xs.getD o.toNat 0 = 0)) (fun R hR => ?_) ?_
  · refine ⟨_, rfl, _, rfl, _, rfl, _, rfl, p, t, l, fx, rows, n, ths, nrs, kvs, Fz row, rfl, s7, hT, gT, hL, hO, hin, by omega, hfx, nfx, hFz, fun r st H8 hr hst hf s8 e8 => hR _ _ ⟨s8, e8, .inr ⟨r, st, rfl, hr, hst, fixz st hst.1 hf⟩⟩, fun _ H8 s8 e8 => hR _ _ ⟨s8, e8, .inl rfl⟩⟩
  rintro v H8 ⟨s8, e8, hv⟩
  have e28 := e27.trans e8
  refine seqK (fun σ' H' => ∃ (t l d s : Addr) (rows nrs : List (List Int)) (ths : List (Int × Int)) (us : List V) (xs : List Int) (y7 y9 y10 y11 : Option V), σ' = [some (.ref p), some (.int (k : Nat)), some (.int (n : Nat)), some (.ref t), some (.ref d), some (.ref l), some (.int (pl : Nat)), y7, some (.ref s), y9, y10, y11] ∧ Bw.TT K H' t rows ∧ GoodT rows ∧ rows.length = k ∧ Wide k rows ∧ LLp p H' l nrs ∧ NearOk n ths nrs ∧ GoodN n ths ∧ Conn n ths ∧ H' d = some (.lst us) ∧ d ≠ p ∧ TPs H' us ths ∧ H' s = some (.tup (xs.map V.int)) ∧ Stand rows n ths xs ∧ (∀ o, Adj ths (pl : Nat) o → xs.getD o.toNat 0 = 0) ∧ Src H' p ∧ Exb p H H') (fun N hN => ?_) ?_
  · rcases hv with rfl | ⟨s, xs, rfl, hss, hst, hz⟩
    rotate_left
    · refine ⟨_, rfl, rfl, _, rfl, itF (by simp) ?_⟩
      exact hN _ _ ⟨t, l, d, s, rows, nrs, ths, us, xs, _, _, _, _, rfl, tt_exb s7 e8 hT, gT, hrl, hwd, hL.exb e8, hO, gN, hC, e8.lst dp hd, dp, hU.exb s7 e8, hss, hst, hz, s8, e28⟩
    refine ⟨_, rfl, rfl, _, rfl, itT (by simp) ?_⟩
    clear hT gT hrl hwd hL hO hrow hFz fixz hfx m7 hU hd dp hC hin
    have gN := lineL_good (n := n) (by omega) (by omega)
    have tK := lineL_tree (n := n) (by omega)
    have hC := conn_tree tK.tree
    have hin := gN.rng
    have e0 : (((n : Nat) : Int) - 1).toNat = n - 1 := by omega
    refine ⟨_, rfl, 1, _, rfl, ⟨by omega, by omega, by omega, by omega⟩, fun d nd => ?_⟩
    rw [e0]
    refine lc_it walk_range (fun i H' => ∃ us, H' d = some (.lst us) ∧ TPs H' us (lineL i) ∧ Same H8 H') ⟨[], upd_same, TPs.nil, Same.new nd⟩ (fun _ _ _ _ => trivial) ?_ ?_
    · rintro i x H9 H9' hi ⟨us, g1, g2, g3⟩ ⟨rfl, rfl⟩
      refine ⟨wipe1, ?_⟩
      refine tYes_i (iteT ?_)
      refine ⟨_, rfl, _, 1, rfl, rfl, _, rfl, by show 2 ≤ sizeLine; decide, fun t nt => ?_⟩
      have st := Same.new (H := H9') (o := .tup [.int (1 + (i : Int) - 1), .int (1 + (i : Int))]) nt
      have hl2 := lineL_len i
      have hul := g2.1
      refine ⟨us, st _ _ g1, smallLt (by omega), us ++ [.ref t], upd_same, ?_, (g3.trans st).mut nd⟩
      rw [lineL_snoc]
      refine ((g2.same st).snoc ⟨t, rfl, ?_⟩).upd (st _ _ g1)
      rw [upd_same]
      dsimp only
      rw [show (1 + (i : Int) - 1) = (i : Int) by omega, show (1 + (i : Int)) = (i : Int) + 1 by omega]
    rintro H9 ⟨us, hd, hU, m9⟩
    have dp : d ≠ p := s8.ne nd
    refine ⟨_, rfl, k, rfl, by omega, by omega, fun E nE => ?_⟩
    rw [Int.toNat_natCast]
    refine lc_rd (fun i => .int (0 + (i : Int))) walk_range (fun _ _ _ _ y _ => y) (fun i v H' => ∃ b, v = .ref b ∧ SqT K H' b (((List.range k).map Int.ofNat).map V.int)) nE (by omega) (fun _ => wipe1) (fun _ _ => trivial) (fun i v Ha Hb s h => h.elim fun b hb => ⟨b, hb.1, s.tup hb.2⟩) (fun i hi H' Q' s h => ?_) (fun ys H10 hyl hE m10 hv => ?_) (fun i v Ha x y h hx => h.elim fun b hb => ⟨b, hb.1, tup_upd hb.2 hx⟩)
    · refine ⟨_, rfl, k, rfl, RgOk.of_le (by omega) (by omega) (by omega) (by omega), fun z nz => h _ _ (Same.new nz) ⟨z, rfl, SqT.of ?_⟩⟩
      rw [upd_same, List.map_map]
      unfold rgV
      rw [show (((k : Nat) : Int) - 0).toNat = k by omega]
      congr 2
      refine List.map_congr_left fun i _ => ?_
      rw [Int.zero_add]
      rfl
    refine ⟨E, _, rfl, .inl ⟨SqL.of hE, fun t nt => ⟨_, _, rfl, ?_⟩⟩⟩
    have kt := Same.new (o := .tup ys) nt
    have hT : Bw.TT K (upd H10 t (.tup ys)) t (fullT k) := TT.of (SqT.of upd_same) (by rw [hyl, fullT_len]) fun i v r h1 h2 => by
      obtain ⟨b, rfl, hb⟩ := hv i v h1
      refine ⟨b, rfl, kt.tup ?_⟩
      have hi := (List.getElem?_eq_some_iff.mp h1).1
      unfold fullT at h2
      rw [List.getElem?_map, List.getElem?_range (by omega)] at h2
      cases Option.some.inj h2
      exact hb
    have m911 := m10.trans kt
    have hd := m911 _ _ hd
    have hU := hU.same m911
    have s11 := (m9.trans m911).src s8
    have e211 := e28.trans (Exb.of (m9.trans m911))
    have gT := fullT_good (q := k) (by omega) (by omega)
    clear hE hv kt
    generalize upd H10 t (.tup ys) = H11 at *
    dsimp only [List.set]
    refine asgK (fun v H' => ∃ l nrs, v = .ref l ∧ LLp p H' l nrs ∧ NearOk n (lineL (n - 1)) nrs ∧ Same H11 H') (fun R hR => ?_) ?_
    · exact ⟨_, rfl, _, rfl, d, n, us, lineL (n - 1), rfl, hd, hU, hin, by omega, fun l nrs H12 m12 hL hO => hR _ _ ⟨l, nrs, rfl, hL.of s11, hO, m12⟩⟩
    rintro v H12 ⟨l, nrs, rfl, hL, hO, m12⟩
    have hT := hT.same m12
    have hd := m12 _ _ hd
    have hU := hU.same m12
    have s12 := m12.src s11
    have e212 := e211.trans (Exb.of m12)
    refine asgK (fun v H' => ∃ fx kvs row, v = .ref fx ∧ fx ≠ p ∧ H' fx = some (.dK kvs) ∧ (∀ v : Int, valV kvs (.inl v) = (Fz row v).map V.int) ∧ (∀ o, o ∈ row ↔ Adj (lineL (n - 1)) (pl : Nat) o) ∧ Same H12 H') (fun R hR => ?_) ?_
    · obtain ⟨nlp, lbs, hl, hll, hlg, hlp⟩ := id hL
      have hi : pl < nrs.length := by rw [hO.len]; exact hpl
      have hrow : nrs[pl]? = some nrs[pl] := List.getElem?_eq_getElem hi
      have hm := hO.mem _ _ hrow
      have hbi : lbs[pl]? = some (lbs[pl]'(by omega)) := List.getElem?_eq_getElem (by omega)
      have hrb := hlg _ _ _ hbi hrow
      have hnl : (nrs[pl]).length ≤ n := nodup_len n _ (asc_nd (hO.asc _ (List.getElem_mem _))) fun c hc => adj_lt hin ((hm c).mp hc)
      generalize nrs[pl] = row at hm hrb hrow hnl
      generalize lbs[pl]'(by omega) = rb at hbi hrb
      have grb : (lbs.map V.ref)[pl]? = some (.ref rb) := by rw [List.getElem?_map, hbi]; rfl
      refine ⟨.ref l, rfl, _, rfl, l, _, _, .ref rb, rfl, rfl, SqL.of hl, atN grb (by omega), rb, rfl, ⟨_, SqL.of hrb⟩, fun D nD => ?_⟩
      refine lc_it (walk_list (xs := row.map V.int)) (fun i H' => ∃ ys : List V, H' D = some (.lst ys) ∧ ys.length = i ∧ (∀ (k : Nat) v, ys[k]? = some v → ∃ b, v = .ref b ∧ b ≠ D ∧ H' b = some (.tup [.int (row.getD k 0), .int 0])) ∧ Same H12 H') ⟨[], upd_same, rfl, fun k v z => by simp at z, Same.new nD⟩ (fun i H' _ h => by obtain ⟨_, _, _, _, s⟩ := h; exact SqL.of (s _ _ hrb)) ?_ ?_
      · rintro i x H7 H7' hi7 ⟨ys, g1, g2, g3, g4⟩ ⟨rfl, hx⟩
        obtain ⟨hi3, rfl⟩ := num_map i row x hx
        refine ⟨wipe1, ?_⟩
        refine tYes_i (iteT ?_)
        refine ⟨_, rfl, by show 2 ≤ sizeLine; decide, fun u nu => ?_⟩
        have ku := Same.new (o := .tup [.int row[i], .int 0]) nu
        have nuD : u ≠ D := fun z => by rw [z, g1] at nu; cases nu
        refine ⟨ys, ku _ _ g1, smallLt (by omega), ys ++ [.ref u], upd_same, by rw [List.length_append, g2]; rfl, fun k v hv => ?_, (g4.trans ku).mut nD⟩
        by_cases hk : k < ys.length
        · rw [List.getElem?_append_left hk] at hv
          obtain ⟨b, z1, z2, z3⟩ := g3 k v hv
          exact ⟨b, z1, z2, by rw [upd_ne z2]; exact ku _ _ z3⟩
        · have hk2 := (List.getElem?_eq_some_iff.mp hv).1
          rw [List.length_append] at hk2
          have hk2 : k < ys.length + 1 := hk2
          obtain rfl : k = ys.length := by omega
          rw [List.getElem?_append_right (Nat.le_refl _), Nat.sub_self] at hv
          cases Option.some.inj hv
          refine ⟨u, rfl, nuD, ?_⟩
          rw [upd_ne nuD, upd_same, g2, List.getD_eq_getElem?_getD, List.getElem?_eq_getElem hi3]
          rfl
      · rintro H7 ⟨ys, g1, g2, g3, g4⟩
        rw [List.length_map] at g2
        obtain ⟨ps, e, hp⟩ := pairs_zero (K := K) row ys g2 fun i v hv => (g3 i v hv).elim fun b hb => ⟨b, hb.1, hb.2.2⟩
        rw [e] at g1
        refine ⟨D, ps, _, rfl, SqL.of g1, hp, fun fx nfx => ?_⟩
        have kf := Same.new (o := .dK (mergeK [] (row.map fun j => ((.inl j : Key), V.int 0)))) nfx
        exact hR _ _ ⟨fx, _, row, rfl, (g4.src s12).ne nfx, upd_same, valV_Fz row, hm, g4.trans kf⟩
    rintro v H13 ⟨fx, kvs, row, rfl, nfx, hfx, hFz, hrow, m13⟩
    have hT := hT.same m13
    have hd := m13 _ _ hd
    have hU := hU.same m13
    have hL := hL.same m13
    have s13 := m13.src s12
    have e213 := e212.trans (Exb.of m13)
    refine ⟨_, rfl, _, rfl, _, rfl, _, rfl, p, t, l, fx, fullT k, n, lineL (n - 1), nrs, kvs, Fz row, rfl, s13, hT, gT, hL, hO, hin, by omega, hfx, nfx, hFz, fun r st H14 hr hst hf s14 e14 => ?_, fun no => absurd (fun v hv c hc => ?_) (no _ (fullT_zero (q := k) (n := n) (by omega) hin))⟩
    · refine hN _ _ ⟨t, l, d, r, fullT k, nrs, lineL (n - 1), us, st, _, _, _, _, rfl, tt_exb s13 e14 hT, gT, fullT_len k, ⟨fun s s0 sk => ?_, fun e3 => ?_⟩, hL.exb e14, hO, gN, hC, e14.lst dp hd, dp, hU.exb s13 e14, hr, hst, fun o ho => ?_, s14, e213.trans e14⟩
      · rw [fullT_row (by omega)]
        exact mem_rng.mpr ⟨by omega, by omega⟩
      · rw [fullT_row (by omega)]
        exact mem_rng.mpr ⟨by omega, by omega⟩
      · have hrr := adj_lt hin ho
        refine hf o.toNat (by have := hst.1; omega) 0 ?_
        unfold Fz
        rw [if_pos]
        rw [Int.toNat_of_nonneg hrr.1]
        exact (hrow o).mpr ho
    · unfold Fz at hc
      split at hc
      · cases Option.some.inj hc
        rw [List.getD_eq_getElem?_getD, List.getElem?_replicate]
        split <;> rfl
      · cases hc
  clear hv hU hd hL hT hfx m7 s7 hwd
  rintro σ' H9 ⟨t, l, d, s, rows, nrs, ths, us, xs, y7, y9, y10, y11, rfl, hT, gT, hrl, hwd, hL, hO, gN, hC, hd, dp, hU, hs9, hSt, hz, s9, e9⟩
  refine ⟨_, rfl, _, rfl, _, rfl, _, rfl, _, rfl, by show 1 ≤ sizeLine; decide, fun L nL => ?_⟩
  have kL := Same.new (o := .lst [.int (pl : Nat)]) nL
  refine ⟨p, L, n, [((pl : Nat) : Int)], rfl, kL.src s9, upd_same, s9.ne nL, by omega, by show 1 ≤ 100; decide, ?_, fun pg ps H10 hpg hok hne hnp s10 e10 => ?_⟩
  · by_cases c : pl = 0
    · exact ⟨1, by omega, fun z => by have := List.mem_singleton.mp z; omega⟩
    · exact ⟨0, by omega, fun z => by have := List.mem_singleton.mp z; omega⟩
  refine ⟨by show 3 ≤ sizeLine; decide, fun wt nwt => ?_⟩
  have kw := Same.new (o := .tup [.ref t, .ref l, .ref pg]) nwt
  refine ⟨_, rfl, _, rfl, _, rfl, by show 4 ≤ sizeLine; decide, fun z nz => ?_⟩
  have kz := Same.new (o := .tup [.ref wt, .ref d, .int (pl : Nat), .ref s]) nz
  have e910 := (Exb.of kL).trans e10
  have kk := kw.trans kz
  have ee := e910.trans (Exb.of kk)
  refine q z wt t l pg d s rows nrs n ths ps us pl xs _ (SqT.of upd_same) ⟨kz.tup (SqT.of upd_same), tt_exb s9 ee hT, gT, hL.exb ee, hO, gN, hC, kk.tup hpg, hok, hne, ee.lst dp hd, dp, hU.exb s9 ee, by rw [hrl]; exact hfew, n2⟩ hpl (fun z => hnp _ z (List.mem_singleton_self _)) (ow_exb ee s9 hs9) hSt hz (by omega) (by rw [hrl]; exact hwd) (kk.src s10) (e9.trans ee)
theorem neTT {K : PySem.W.Frag} {H : Hp} {a b : Addr} {r1 r2 : List (List Int)} {Q : VK} (ha : Bw.TT K H a r1) (hb : Bw.TT K H b r2) (q : Q (.bl (!decide (r1 = r2))) H) : rNeD K (.ref a) (.ref b) H Q :=
  ⟨_, _, ha, hb, shRows _, shRows _, by rw [PyData.eqv, eqvRows]; exact q⟩
theorem CW.same {K : PySem.W.Frag} {H H1 : Hp} {p wt t l pg d : Addr} {rows nrs : List (List Int)} {n : Nat} {ths : List (Int × Int)} {ps : List Int} {us : List V} (h : CW K H p wt t l pg d rows nrs n ths ps us) (e : Same H H1) : CW K H1 p wt t l pg d rows nrs n ths ps us :=
  ⟨e.tup h.hwt, h.tt.same e, h.gT, h.ll.same e, h.nr, h.gN, h.con, e.tup h.hpg, h.ok, h.ne, e _ _ h.dl, h.dp, h.tps.same e, h.few, h.n2⟩
theorem adj_some2 {n : Nat} {ths : List (Int × Int)} (hC : Conn n ths) (h2 : 2 ≤ n) {p : Int} (hp : 0 ≤ p ∧ p < (n : Nat)) : ∃ c, Adj ths p c := by
  refine Classical.byContradiction fun no => ?_
  by_cases h0 : p = 0
  · have := hC (fun x => x = 0) rfl (fun q c hq ha => absurd ⟨c, by rw [h0, ← hq]; exact ha⟩ no) 1 (by omega)
    exact absurd this (by decide)
  · have := hC (fun x => x ≠ p) (fun z => h0 z.symm) (fun q c hq ha z => no ⟨q, by rw [← z]; exact ha.symm⟩) p.toNat (by omega)
    exact this (by omega)
theorem three_len {l : List Int} {u v w : Int} (hu : u ∈ l) (hv : v ∈ l) (hw : w ∈ l) (h1 : u ≠ v) (h2 : u ≠ w) (h3 : v ≠ w) : 3 ≤ l.length := by
  match l, hu, hv, hw with
  | [], hu, _, _ => cases hu
  | [x], hu, hv, _ => exact absurd ((List.mem_singleton.mp hu).trans (List.mem_singleton.mp hv).symm) h1
  | [x, y], hu, hv, hw =>
    simp only [List.mem_cons, List.not_mem_nil, or_false] at hu hv hw
    omega
  | x :: y :: z :: l, _, _, _ => simp only [List.length_cons]; omega
def sp__law_three (K : PySem.W.Frag) (cs : CS) : Sp := fun vs H Q E => ∃ (p : Addr), vs = [.ref p] ∧ Src H p ∧ ∀ z E a b c wt t l pg d rows nrs n ths ps us xs ys zs H', SqT K H' z [.ref wt, .ref d, .ref E] → H' E = some (.lst [.ref a, .ref b, .ref c]) → E ≠ p → CW K H' p wt t l pg d rows nrs n ths ps us → H' a = some (.tup (xs.map V.int)) → H' b = some (.tup (ys.map V.int)) → H' c = some (.tup (zs.map V.int)) → Stand rows n ths xs → Led rows n ths ps xs ys → Led rows n ths ps xs zs → Src H' p → Exb p H H' → Q (.ref z) H'
theorem ok__law_three (F : Fun K "_law_three" "_law_three" s__law_three f fd) (T : Txt P w K mg base cs) (c__law_take : Cal P w K mg base CX0 1 "_law_take" ["source", "top"] s__law_take (sp__law_take K cs)) (c__law_one : Cal P w K mg base CX0 2 "_law_one" ["source", "things"] s__law_one (sp__law_one K cs)) (c__law_put : Cal P w K mg base CX0 1 "_law_put" ["s", "deed"] s__law_put (sp__law_put K cs)) (c__law_led : Cal P w K mg base CX0 3 "_law_led" ["source", "world", "s", "many"] s__law_led (sp__law_led K cs)) (c__law_fork_world : Cal P w K mg base CX0 29 "_law_fork_world" ["source"] s__law_fork_world (sp__law_fork_world K cs)) : FnOk P w K mg base CX0 30 f fd ["source"] (sp__law_three K cs) := by
  refine F.ok sc__law_three (fun vs H Q E h => ?_) (fun cdv A outer s H vs Q E hr h => ?_)
  · obtain ⟨p, rfl, _⟩ := h
    rfl
  obtain ⟨p, rfl, hs, q⟩ := h
  refine ⟨_, (pss_cons (ps_asg (pe_cal c__law_fork_world (hr.mono (by decide)) pass0 (pa_cons (pv 0) pa_nil)) (pg_tup rfl (pgs_cons (pg_name (i := 1) sc__law_three.nd rfl (Or.inl rfl)) (pgs_cons (pg_name (i := 2) sc__law_three.nd rfl (Or.inl rfl)) (pgs_cons (pg_name (i := 3) sc__law_three.nd rfl (Or.inl rfl)) (pgs_cons (pg_name (i := 4) sc__law_three.nd rfl (Or.inl rfl)) pgs_nil))))))
      (pss_cons (ps_par (i := 5) (j := 6) (by rfl) sc__law_three.nd rfl rfl (by decide) rfl rfl (pa_cons (pe_callTy (listOf K) (by rfl) T.n_list (by decide +kernel) (pa_cons (pe_ix (ixT K) (pe_ix (ixT K) (pv 1) pe_int (fun _ _ => rfl)) pe_int (fun _ _ => rfl)) pa_nil)) (pa_cons (pe_lst pa_nil) pa_nil)) (by rfl))
      (pss_cons (ps_for PassesOwn.never rfl (pi_range1 (by rfl) T.n_range (pa_cons pe_int pa_nil)) (pg_name (i := 7) sc__law_three.nd rfl (Or.inl rfl)) (pss_cons (ps_set (i := 8) sc__law_three.nd rfl (Or.inl rfl) (pe_bm PySem.F.plainAttrs_list PySem.F.slot_list_pop PySem.F.type_list_pop mt_popAt (pv 5) (pa_cons (pe_cal c__law_take (hr.mono (by decide)) pass0 (pa_cons (pv 0) (pa_cons (pe_callB (lenS K) (by rfl) T.n_len PySem.boot_len (pa_cons (pv 5) pa_nil)) pa_nil))) pa_nil)))
      (pss_cons (ps_if (pt_cmpR op_eq (pe_cal c__law_take (hr.mono (by decide)) pass0 (pa_cons (pv 0) (pa_cons pe_int pa_nil))) pe_int (nomark _)) (pss_one (ps_set (i := 8) sc__law_three.nd rfl (Or.inl rfl) (pe_ix (ixT K) (pv 4) (pv 3) (fun _ _ => rfl)))) pss_nil)
      (pss_one (ps_expr (pe_bm PySem.F.plainAttrs_list PySem.F.slot_list_append PySem.F.type_list_append mt_append (pv 6) (pa_cons (pe_cal c__law_led (hr.mono (by decide)) pass0 (pa_cons (pv 0) (pa_cons (pv 1) (pa_cons (pe_cal c__law_put (hr.mono (by decide)) pass0 (pa_cons (pv 4) (pa_cons (pe_tup (pa_cons (pv 3) (pa_cons (pv 8) pa_nil))) pa_nil))) (pa_cons (pe_cal c__law_one (hr.mono (by decide)) pass0 (pa_cons (pv 0) (pa_cons (pe_lst (pa_cons pe_int (pa_cons pe_int (pa_cons pe_int (pa_cons pe_int (pa_cons pe_int pa_nil)))))) pa_nil))) pa_nil))))) pa_nil)))))))
      (pss_one (ps_ret (pe_tup (pa_cons (pv 1) (pa_cons (pv 2) (pa_cons (pv 6) pa_nil))))))))), ?_⟩
  refine ⟨_, rfl, p, rfl, hs, fun z wt t l pg d s rows nrs n ths ps us pl xs H1 hz hCW hpl hnp hss hst hz0 h3 hwd s1 e1 => ?_⟩
  refine ⟨z, _, rfl, hz, rfl, _, _, rfl, _, _, rfl, _, _, rfl, _, _, rfl, rfl, ?_⟩
  dsimp only [List.set]
  have gT := hCW.gT
  have gN := hCW.gN
  have hin := gN.rng
  have n24 := gN.n24
  obtain ⟨ws, hW, hwl, hget⟩ := hCW.tt.seq
  have hrow : rows[0]? = some (rows[0]'(by omega)) := List.getElem?_eq_getElem _
  obtain ⟨b0, hb0, hb0s⟩ := hget _ _ hrow
  have hr0 : rowOf rows 0 = rows[0]'(by omega) := row_of hrow
  have hr8 := asc_len gT (List.getElem_mem (l := rows) (n := 0) (by omega))
  have hnd := asc_nd (gT.asc _ (List.getElem_mem (l := rows) (n := 0) (by omega)))
  have hr3 : 3 ≤ (rows[0]'(by omega)).length := by
    rw [← hr0]
    obtain ⟨w1, w2⟩ := hwd
    by_cases c3 : rows.length = 3
    · exact three_len (w2 c3) (w1 1 (by omega) (by omega)) (w1 2 (by omega) (by omega)) (by decide) (by decide) (by decide)
    · exact three_len (w1 1 (by omega) (by omega)) (w1 2 (by omega) (by omega)) (w1 3 (by omega) (by omega)) (by decide) (by decide) (by decide)
  generalize rows[0]'(by omega) = r0 at hrow hb0s hr0 hr8 hnd hr3
  refine ⟨_, rfl, wt, _, 0, _, rfl, rfl, hCW.hwt, atI0, t, ws, 0, .ref b0, rfl, rfl, hW, atI_nat hb0, b0, _, rfl, .inr hb0s, fun R nR => ⟨Nat.zero_le _, fun E nE => ⟨_, _, rfl, ?_⟩⟩⟩
  have kR := Same.new (o := .lst (r0.map V.int)) nR
  have kE := Same.new (o := .lst []) nE
  have k12 := kR.trans kE
  have s2 := k12.src s1
  have hR : (upd (upd H1 R (.lst (r0.map V.int))) E (.lst [])) R = some (.lst (r0.map V.int)) := kE _ _ upd_same
  have hE : (upd (upd H1 R (.lst (r0.map V.int))) E (.lst [])) E = some (.lst []) := upd_same
  have nRp := s1.ne nR
  have nEp := (kR.src s1).ne nE
  have nE1 := kR.free nE
  have RE : R ≠ E := fun z => by rw [← z, upd_same] at nE; cases nE
  have e12 : Exb p H1 (upd (upd H1 R (.lst (r0.map V.int))) E (.lst [])) := Exb.of k12
  generalize upd (upd H1 R (.lst (r0.map V.int))) E (.lst []) = H2 at *
  dsimp only [List.set]
  refine ⟨3, rfl, by decide, by decide, ?_⟩
  refine for_range (n := 3) (fun i σ H' => ∃ (y7 y8 : Option V) (rs : List Int) (as : List Addr) (sts : List (List Int)), σ = [some (.ref p), some (.ref wt), some (.ref d), some (.int (pl : Nat)), some (.ref s), some (.ref R), some (.ref E), y7, y8] ∧ H' R = some (.lst (rs.map V.int)) ∧ 3 ≤ rs.length + i ∧ rs.length ≤ 8 ∧ (∀ c ∈ rs, c ∈ r0) ∧ H' E = some (.lst (as.map V.ref)) ∧ as.length = i ∧ sts.length = i ∧ (∀ (k : Nat) a st, as[k]? = some a → sts[k]? = some st → H' a = some (.tup (st.map V.int)) ∧ Led rows n ths ps xs st) ∧ Src H' p ∧ Exb p H1 H') ⟨none, none, r0, [], [], rfl, hR, by omega, hr8, fun c hc => hc, hE, rfl, rfl, fun k a st ha => by simp at ha, s2, e12⟩ ?_ ?_
  · clear hR hE s2 e12 k12 kR kE
    rintro i σ H3 hi ⟨y7, y8, rs, as, sts, rfl, hR, hrl, hrl8, hrs, hE, hal, hsl, hats, s3, e3⟩
    dsimp only [List.set]
    refine asgK (fun v H' => ∃ (c : Int) (rs' : List Int), v = .int c ∧ c ∈ r0 ∧ H' R = some (.lst (rs'.map V.int)) ∧ rs.length = rs'.length + 1 ∧ (∀ c ∈ rs', c ∈ r0) ∧ H' E = some (.lst (as.map V.ref)) ∧ (∀ (k : Nat) a st, as[k]? = some a → sts[k]? = some st → H' a = some (.tup (st.map V.int)) ∧ Led rows n ths ps xs st) ∧ Src H' p ∧ Exb p H1 H') (fun R' hR' => ?_) ?_
    · refine ⟨.ref R, rfl, .inl ⟨rfl, _, SqL.of hR⟩, _, rfl, .ref R, rfl, R, _, rfl, .inl (SqL.of hR), p, _, rfl, s3, by rw [List.length_map]; omega, by rw [List.length_map]; omega, fun r H4 r0' r1' s4 e4 => ?_⟩
      rw [List.length_map] at r1'
      have hR4 := e4.lst nRp hR
      have gk : (rs.map V.int)[r.toNat]? = some (.int (rs.getD r.toNat 0)) := by rw [List.getElem?_map, getD_some (by omega)]; rfl
      refine ⟨R, _, r, r.toNat, _, rfl, rfl, hR4, by omega, by omega, by rw [List.length_map]; exact seqIx r0' (by omega), gk, hR' _ _ ⟨_, rs.eraseIdx r.toNat, rfl, hrs _ (getD_in (by omega)), by rw [upd_same, map_erase], by rw [List.length_eraseIdx, if_pos (by omega)]; omega, fun c hc => hrs c (List.mem_of_mem_eraseIdx hc), by rw [upd_ne (fun z => RE z.symm)]; exact e4.lst nEp hE, fun k a st ha hst2 => ?_, s4.put nRp, (e3.trans e4).mut nR⟩⟩
      obtain ⟨h1, h2⟩ := hats k a st ha hst2
      exact ⟨ow_upd (ow_exb e4 s3 h1) hR4, h2⟩
    clear hR hE hats hrs s3 e3
    rintro v H4 ⟨c, rs', rfl, hc, hR, hrl', hrs, hE, hats, s4, e4⟩
    refine seqK (fun σ' H' => ∃ c' : Int, σ' = [some (.ref p), some (.ref wt), some (.ref d), some (.int (pl : Nat)), some (.ref s), some (.ref R), some (.ref E), some (.int (0 + (i : Int))), some (.int c')] ∧ (c' = xs.getD pl 0 ∨ c' ∈ r0) ∧ Src H' p ∧ Exb p H4 H') (fun N hN => ?_) ?_
    · refine ⟨_, rfl, p, 6, rfl, s4, by decide, by decide, fun r H5 r0' r1' s5 e5 => ⟨rfl, _, rfl, ?_⟩⟩
      by_cases cr : r = 0
      · refine itT (by rw [cr]; rfl) ?_
        have gx : (xs.map V.int)[pl]? = some (.int (xs.getD pl 0)) := by rw [List.getElem?_map, getD_some (by have := hst.1; omega)]; rfl
        refine ⟨.ref s, rfl, _, rfl, s, _, _, _, rfl, rfl, SqT.of (ow_exb (e4.trans e5) s1 hss), atN gx (by omega), ?_⟩
        exact hN _ _ ⟨_, rfl, .inl rfl, s5, e5⟩
      · refine itF (decide_eq_false fun z => cr (V.int.inj z)) ?_
        exact hN _ _ ⟨c, rfl, .inr hc, s5, e5⟩
    rintro σ' H5 ⟨c', rfl, hc', s5, e5⟩
    have e15 := e4.trans e5
    have hCW5 := hCW.exb s1 e15
    have hE5 := e5.lst nEp hE
    refine ⟨.ref E, rfl, .inl ⟨rfl, _, SqL.of hE5⟩, _, rfl, _, rfl, _, rfl, _, rfl, _, rfl, by show 2 ≤ sizeLine; decide, fun u nu => ?_⟩
    have ku := Same.new (o := .tup [.int (pl : Nat), .int c']) nu
    have hxl := hst.1
    refine ⟨s, u, xs, pl, c', rfl, SqT.of (ku _ _ (ow_exb e15 s1 hss)), SqT.of upd_same, by omega, by omega, fun s2 H6 m6 hs2 => ?_⟩
    have m56 := ku.trans m6
    have s6 := m56.src s5
    have hled : Led rows n ths ps xs (xs.set pl c') := by
      by_cases ce : c' = xs.getD pl 0
      · have : xs.set pl c' = xs := by
          refine List.ext_getElem (by rw [List.length_set]) fun k h1 h2 => ?_
          rw [List.getElem_set]
          split
          · rename_i z
            subst z
            rw [ce, List.getD_eq_getElem?_getD, List.getElem?_eq_getElem h2]
            rfl
          · rfl
        rw [this]
        exact .refl
      · have hc2 := hc'.resolve_left ce
        obtain ⟨o, ho⟩ := adj_some2 hCW.con hCW.n2 (p := ((pl : Nat) : Int)) ⟨by omega, by omega⟩
        exact Led.step .refl hpl ⟨hnp, by rw [Int.toNat_natCast]; exact ce, 0, ⟨o, ho⟩, hz0, by rw [show ((0 : Int)).toNat = 0 from rfl, hr0]; exact hc2⟩
    have st2 := (hled.kept gT hin hst).st
    refine ⟨_, rfl, by show 5 ≤ sizeLine; decide, fun L nL => ?_⟩
    have kL := Same.new (o := .lst [.int 0, .int 0, .int 1, .int 2, .int 5]) nL
    refine ⟨p, L, _, rfl, kL.src s6, .inl ⟨upd_same, s6.ne nL⟩, by show 0 < 5; decide, by show 5 < 1000000; decide, fun v H7 hv s7 e7 => ?_⟩
    obtain ⟨m, rfl, hm⟩ : ∃ m : Nat, v = .int (m : Nat) ∧ m ≤ 5 := by
      simp only [List.mem_cons, List.not_mem_nil, or_false] at hv
      rcases hv with rfl | rfl | rfl | rfl | rfl
      · exact ⟨0, rfl, by omega⟩
      · exact ⟨0, rfl, by omega⟩
      · exact ⟨1, rfl, by omega⟩
      · exact ⟨2, rfl, by omega⟩
      · exact ⟨5, rfl, by omega⟩
    have e57 : Exb p H5 H7 := (Exb.of (m56.trans kL)).trans e7
    have hCW7 := hCW5.exb s5 e57
    have hs7 := ow_exb ((Exb.of kL).trans e7) s6 hs2
    refine ⟨p, wt, t, l, pg, s2, rows, nrs, n, ths, ps, _, m, rfl, s7, hCW7.hwt, hCW7.tt, gT, hCW7.ll, hCW7.nr, hin, n24, hCW7.hpg, hs7, st2, by omega, fun a2 ys H8 ha2 hLed2 s8 e8 => ?_⟩
    have e48 := e5.trans (e57.trans e8)
    have hE8 := e48.lst nEp hE
    refine ⟨E, _, _, rfl, rfl, hE8, smallLt (by rw [List.length_map]; omega), ?_⟩
    refine ⟨_, _, rs', as ++ [a2], sts ++ [ys], rfl, by rw [upd_ne RE]; exact e48.lst nRp hR, by omega, by omega, hrs, by rw [upd_same, List.map_append]; rfl, by rw [List.length_append, hal]; rfl, by rw [List.length_append, hsl]; rfl, fun k a st ha hst3 => ?_, s8.put nEp, (e4.trans e48).mut nE1⟩
    by_cases hk : k < as.length
    · rw [List.getElem?_append_left hk] at ha
      rw [List.getElem?_append_left (by omega)] at hst3
      obtain ⟨h1, h2⟩ := hats k a st ha hst3
      exact ⟨ow_upd (ow_exb e48 s4 h1) hE8, h2⟩
    · have hk2 := (List.getElem?_eq_some_iff.mp ha).1
      rw [List.length_append] at hk2
      have hk2 : k < as.length + 1 := hk2
      obtain rfl : k = as.length := by omega
      rw [List.getElem?_append_right (Nat.le_refl _), Nat.sub_self] at ha
      rw [List.getElem?_append_right (by omega), show as.length - sts.length = 0 by omega] at hst3
      cases Option.some.inj ha
      cases Option.some.inj hst3
      exact ⟨ow_upd ha2 hE8, hled.trans hLed2⟩
  · rintro σ H3 ⟨y7, y8, rs, as, sts, rfl, hR, hrl, hrl8, hrs, hE, hal, hsl, hats, s3, e3⟩
    match as, hal, sts, hsl with
    | [a, b, c], _, [xs1, ys1, zs1], _ =>
      refine ⟨_, rfl, _, rfl, _, rfl, by show 3 ≤ sizeLine; decide, fun z2 nz2 => ?_⟩
      have kz := Same.new (o := .tup [.ref wt, .ref d, .ref E]) nz2
      obtain ⟨h1, l1⟩ := hats 0 a xs1 rfl rfl
      obtain ⟨h2, l2⟩ := hats 1 b ys1 rfl rfl
      obtain ⟨h4, l3⟩ := hats 2 c zs1 rfl rfl
      have st1 := (l1.kept gT hin hst).st
      have bk := l1.back gT hin hst
      exact q z2 E a b c wt t l pg d rows nrs n ths ps us xs1 ys1 zs1 _ (SqT.of upd_same) (kz _ _ hE) nEp ((hCW.exb s1 e3).same kz) (kz _ _ h1) (kz _ _ h2) (kz _ _ h4) st1 (bk.trans l2) (bk.trans l3) (kz.src s3) ((e1.trans e3).trans (Exb.of kz))
def kyF (w : List Int) : List L2.Key := w.map Sum.inl
theorem kyF_inj {v w : List Int} (h : kyF v = kyF w) : v = w := (List.map_inj_right fun a b z => Sum.inl.inj z).mp h
theorem kyF_val (w : List Int) : (kyF w).map kV = w.map V.int := by
  unfold kyF
  rw [List.map_map]
  rfl
/-- what is found so far, and how far it is -/
structure FarW (n : Nat) (ths : List (Int × Int)) (ps : List Int) (bs : Nat) (xs : List Int) (ws : List (List Int)) (kvs : List (List L2.Key × V)) : Prop where
  here : ∀ w ∈ ws, valV kvs (kyF w) = some (.int ((dst n ths ps bs xs w : Nat) : Int))
  not : ∀ w, w ∉ ws → valV kvs (kyF w) = none
  keys : kvs.map (·.1) = ws.map kyF
theorem FarW.len {n : Nat} {ths : List (Int × Int)} {ps xs : List Int} {bs : Nat} {ws : List (List Int)} {kvs : List (List L2.Key × V)} (h : FarW n ths ps bs xs ws kvs) : kvs.length = ws.length := by
  rw [← List.length_map (f := (·.1)), h.keys, List.length_map]
theorem FarW.get {n : Nat} {ths : List (Int × Int)} {ps xs : List Int} {bs : Nat} {ws : List (List Int)} {kvs : List (List L2.Key × V)} (h : FarW n ths ps bs xs ws kvs) (w : List Int) : (valV kvs (kyF w)).isSome = decide (w ∈ ws) := by
  by_cases c : w ∈ ws
  · rw [h.here w c, decide_eq_true c]; rfl
  · rw [h.not w c, decide_eq_false c]; rfl
theorem FarW.put {n : Nat} {ths : List (Int × Int)} {ps xs : List Int} {bs : Nat} {ws : List (List Int)} {kvs : List (List L2.Key × V)} (h : FarW n ths ps bs xs ws kvs) {w : List Int} (hw : w ∉ ws) : FarW n ths ps bs xs (ws ++ [w]) (putK kvs (kyF w) (.int ((dst n ths ps bs xs w : Nat) : Int))) := by
  refine ⟨fun v hv => ?_, fun v hv => ?_, ?_⟩
  · rw [valV_put]
    by_cases e : v = w
    · subst e
      rw [if_pos rfl]
    · rw [if_neg (fun z => e (kyF_inj z))]
      rcases List.mem_append.mp hv with hv | hv
      · exact h.here v hv
      · exact absurd (List.mem_singleton.mp hv) e
  · rw [valV_put, if_neg (fun z => hv (List.mem_append_right _ (List.mem_singleton.mpr (kyF_inj z))))]
    exact h.not v fun z => hv (List.mem_append_left _ z)
  · rcases putK_keys kvs (kyF w) (.int ((dst n ths ps bs xs w : Nat) : Int)) with ⟨h1, _⟩ | ⟨_, h2⟩
    · rw [h.keys] at h1
      obtain ⟨v, hv, z⟩ := List.mem_map.mp h1
      exact absurd (kyF_inj z ▸ hv) hw
    · rw [h2, h.keys, List.map_append]
      rfl
theorem tps_updX {H : Hp} {us : List V} {prs : List (Int × Int)} {q : Addr} {o : HO} (h : TPs H us prs) (hq : ∀ zs, H q ≠ some (.tup zs)) : TPs (upd H q o) us prs :=
  ⟨h.1, fun i v e hv he => (h.2 i v e hv he).elim fun u hu => ⟨u, hu.1, by rw [upd_ne (fun z => hq _ (z ▸ hu.2))]; exact hu.2⟩⟩
def sp__law_reach (K : PySem.W.Frag) (cs : CS) : Sp := fun vs H Q E => ∃ (wt t l pg s : Addr) (rows nrs : List (List Int)) (n : Nat) (ths : List (Int × Int)) (ps xs : List Int) (bs : Nat), vs = [.ref wt, .ref s] ∧ SqT K H wt [.ref t, .ref l, .ref pg] ∧ Bw.TT K H t rows ∧ GoodT rows ∧ LL H l nrs ∧ NearOk n ths nrs ∧ InN n ths ∧ n ≤ 24 ∧ Conn n ths ∧ ((bs : Nat) : Int) ∈ ps ∧ bs < n ∧ SqT K H pg (ps.map V.int) ∧ H s = some (.tup (xs.map V.int)) ∧ Stand rows n ths xs ∧ rows.length ^ n ≤ 256 ∧ ∀ D kvs ws H', Same H H' → H D = none → H' D = some (.dT kvs) → FarW n ths ps bs xs ws kvs → (∀ w, w ∈ ws ↔ Led rows n ths ps xs w) → Q (.ref D) H'
theorem ok__law_reach (F : Fun K "_law_reach" "_law_reach" s__law_reach f fd) (T : Txt P w K mg base cs) (c__law_lets : Cal P w K mg base CX0 1 "_law_lets" ["world", "s"] s__law_lets (sp__law_lets K cs)) (c__law_put : Cal P w K mg base CX0 1 "_law_put" ["s", "deed"] s__law_put (sp__law_put K cs)) : FnOk P w K mg base CX0 2 f fd ["world", "a"] (sp__law_reach K cs) := by
  refine F.ok sc__law_reach (fun vs H Q E h => ?_) (fun cdv A outer s H vs Q E hr h => ?_)
  · obtain ⟨wt, t, l, pg, s, rows, nrs, n, ths, ps, xs, bs, rfl, _⟩ := h
    rfl
  obtain ⟨wt, t, l, pg, s, rows, nrs, n, ths, ps, xs, bs, rfl, hwt, hT, gT, hL, hO, hin, n24, hC, hbp, hbn, hP, hS, hSt, hfew, q⟩ := h
  refine ⟨_, (pss_cons (ps_par (i := 2) (j := 3) (by rfl) sc__law_reach.nd rfl rfl (by decide) rfl rfl (pa_cons (pe_callTy (dictT1 K rfl (hu2 hr)) (by rfl) T.n_dict (by decide +kernel) (pa_cons (pe_lst (pa_cons (pe_tup (pa_cons (pv 1) (pa_cons pe_int pa_nil))) pa_nil)) pa_nil)) (pa_cons (pe_lst (pa_cons (pv 1) pa_nil)) pa_nil)) (by rfl))
      (pss_cons (ps_for PassesOwn.never rfl (pi_range1 (by rfl) T.n_range (pa_cons pe_int pa_nil)) (pg_name (i := 4) sc__law_reach.nd rfl (Or.inl rfl)) (pss_cons (ps_if (pt_cmpR op_eq (pv 4) (pe_callB (lenS K) (by rfl) T.n_len PySem.boot_len (pa_cons (pv 3) pa_nil)) (nomark _)) (pss_one ps_break) pss_nil)
      (pss_cons (ps_set (i := 5) sc__law_reach.nd rfl (Or.inl rfl) (pe_ix (ixL K) (pv 3) (pv 4) (fun _ _ => rfl)))
      (pss_one (ps_for PassesOwn.never rfl (piL K (pe_cal c__law_lets (hr.mono (by decide)) pass0 (pa_cons (pv 0) (pa_cons (pv 5) pa_nil)))) (pg_name (i := 6) sc__law_reach.nd rfl (Or.inl rfl)) (pss_cons (ps_set (i := 7) sc__law_reach.nd rfl (Or.inl rfl) (pe_cal c__law_put (hr.mono (by decide)) pass0 (pa_cons (pv 5) (pa_cons (pv 6) pa_nil))))
      (pss_one (ps_if (pt_cmp (pc_dnotin (hu1 hr) (pv 7) (pv 2))) (pss_cons (ps_dput (hu1 hr) (pv 2) (pv 7) (pe_op op_add (pe_dget (hu1 hr) (pv 2) (pv 5) (fun _ _ => rfl)) pe_int) rfl)
      (pss_one (ps_expr (pe_bm PySem.F.plainAttrs_list PySem.F.slot_list_append PySem.F.type_list_append mt_append (pv 3) (pa_cons (pv 7) pa_nil))))) pss_nil))))))))
      (pss_one (ps_ret (pv 2))))), ?_⟩
  dsimp only [L2.start, List.set, List.map, List.cons_append, List.nil_append]
  refine ⟨.ref s, rfl, by show 2 ≤ sizeLine; decide, fun b nb => ?_⟩
  refine ⟨by show 1 ≤ sizeLine; decide, fun L nL => ?_⟩
  have kb := Same.new (o := .tup [.ref s, .int 0]) nb
  have kL := Same.new (o := .lst [.ref b]) nL
  refine ⟨L, b, s, kyF xs, .int 0, rfl, SqL.of upd_same, SqT.of (kL _ _ upd_same), by rw [kyF_val]; exact kL _ _ (kb _ _ hS), fun d nd => ?_⟩
  have kd := Same.new (o := .dT [(kyF xs, .int 0)]) nd
  refine ⟨.ref s, rfl, by show 1 ≤ sizeLine; decide, fun E nE => ⟨_, _, rfl, ?_⟩⟩
  have kE := Same.new (o := .lst [.ref s]) nE
  have m0 := ((kb.trans kL).trans kd).trans kE
  have hd0 : upd (upd (upd (upd H b (.tup [.ref s, .int 0])) L (.lst [.ref b])) d (.dT [(kyF xs, .int 0)])) E (.lst [.ref s]) d = some (.dT [(kyF xs, .int 0)]) := kE _ _ upd_same
  have hE0 : upd (upd (upd (upd H b (.tup [.ref s, .int 0])) L (.lst [.ref b])) d (.dT [(kyF xs, .int 0)])) E (.lst [.ref s]) E = some (.lst [.ref s]) := upd_same
  have nd0 : H d = none := (kb.trans kL).free nd
  have nE0 : H E = none := ((kb.trans kL).trans kd).free nE
  have dE : d ≠ E := fun z => by rw [← z, upd_same] at nE; cases nE
  generalize upd (upd (upd (upd H b (.tup [.ref s, .int 0])) L (.lst [.ref b])) d (.dT [(kyF xs, .int 0)])) E (.lst [.ref s]) = H1 at *
  clear kb kL kd kE nb nL nd nE
  have hF0 : FarW n ths ps bs xs [xs] [(kyF xs, .int 0)] := by
    refine ⟨fun w hw => ?_, fun w hw => ?_, rfl⟩
    · rw [List.mem_singleton.mp hw, dst_self hC hbn]
      have := valV_put [] (kyF xs) (kyF xs) (V.int 0)
      rw [if_pos rfl] at this
      exact this
    · have := valV_put [] (kyF xs) (kyF w) (V.int 0)
      rw [if_neg (fun z => hw (List.mem_singleton.mpr (kyF_inj z)))] at this
      exact this
  refine ⟨1200, rfl, by decide, by decide, ?_⟩
  have bnd : ∀ ws k, Bsd rows n ths ps xs bs ws k → ws.length ≤ 256 := fun ws k h => Nat.le_trans (stands_len rfl h.nd fun w hw => ((h.led w hw).kept gT hin hSt).st) hfew
  have fin : ∀ ws kvs (k : Nat) H2, Same H H2 → H2 d = some (.dT kvs) → FarW n ths ps bs xs ws kvs → Bsd rows n ths ps xs bs ws k → ws.length ≤ k → Q (.ref d) H2 := fun ws kvs k H2 m2 hd hF hB hk => q d kvs ws H2 m2 nd0 hd hF fun w => hB.fin hk
  refine for_range (n := 1200) (fun k σ H' => ∃ (y5 y6 y7 y8 : Option V) (as : List Addr) (ws : List (List Int)) (kvs : List (List L2.Key × V)), σ = [some (.ref wt), some (.ref s), some (.ref d), some (.ref E), y5, y6, y7, y8] ∧ Same H H' ∧ H' d = some (.dT kvs) ∧ H' E = some (.lst (as.map V.ref)) ∧ as.length = ws.length ∧ (∀ (i : Nat) a w, as[i]? = some a → ws[i]? = some w → H' a = some (.tup (w.map V.int))) ∧ FarW n ths ps bs xs ws kvs ∧ Bsd rows n ths ps xs bs ws k ∧ k ≤ ws.length) ⟨none, none, none, none, [s], [xs], _, rfl, m0, hd0, hE0, rfl, fun i a w h1 h2 => ?_, hF0, Bsd.start gT hin hC hSt hbp hbn, Nat.zero_le _⟩ ?_ ?_
  · have hi := (List.getElem?_eq_some_iff.mp h1).1
    have hi : i < 1 := hi
    obtain rfl : i = 0 := by omega
    cases Option.some.inj h1
    cases Option.some.inj h2
    exact m0 _ _ hS
  rotate_left
  · rintro σ H2 ⟨y5, y6, y7, y8, as, ws, kvs, rfl, m2, hd, hE, hal, hat, hF, hB, hk⟩
    have := bnd _ _ hB
    omega
  rintro k σ H2 hk ⟨y5, y6, y7, y8, as, ws, kvs, rfl, m2, hd, hE, hal, hat, hF, hB, hkl⟩
  dsimp only [List.set]
  have hz := bnd _ _ hB
  refine ⟨_, rfl, .ref E, rfl, E, _, rfl, .inl (SqL.of hE), rfl, _, rfl, ?_⟩
  by_cases c : k = ws.length
  · refine itT (decide_eq_true (by rw [List.length_map, hal, ← c, Int.zero_add])) ?_
    exact ⟨_, rfl, fin ws kvs k H2 m2 hd hF hB (by omega)⟩
  refine itF (decide_eq_false fun z => c (by have z := V.int.inj z; rw [List.length_map, hal] at z; omega)) ?_
  have hkw : k < ws.length := by omega
  have gw : ws[k]? = some ws[k] := List.getElem?_eq_getElem hkw
  have ga : as[k]? = some (as[k]'(by omega)) := List.getElem?_eq_getElem (by omega)
  have hnow := hat _ _ _ ga gw
  have gE : (as.map V.ref)[k]? = some (.ref (as[k]'(by omega))) := by rw [List.getElem?_map, ga]; rfl
  generalize ws[k] = now at gw hnow
  generalize as[k]'(by omega) = na at ga hnow gE
  refine ⟨.ref E, rfl, _, rfl, E, _, _, _, rfl, rfl, SqL.of hE, atN gE (by omega), ?_⟩
  have hled := hB.led now (List.mem_of_getElem? gw)
  have hst := (hled.kept gT hin hSt).st
  refine gN ?_
  dsimp only [List.set]
  refine ⟨_, rfl, _, rfl, wt, t, l, pg, na, rows, nrs, n, ths, ps, now, rfl, m2.tup hwt, hT.same m2, gT, hL.same m2, hO, hin, n24, m2.tup hP, SqT.of hnow, hst, fun D us H3 m3 nD hD hT3 => ?_⟩
  have hll : us.length = (letsL rows ths ps now n).length := hT3.1
  have nD1 : H D = none := m2.free nD
  have nDd : D ≠ d := fun z => by rw [z, hd] at nD; cases nD
  have nDE : D ≠ E := fun z => by rw [z, hE] at nD; cases nD
  have hlet_len := letsL_len (rows := rows) (ths := ths) (ps := ps) (xs := now) gT n
  refine ⟨D, rfl, ⟨_, SqL.of hD⟩, ?_⟩
  refine for_list (xs := us) (fun j σ H' => ∃ (y7 y8 : Option V) (as : List Addr) (ws : List (List Int)) (kvs : List (List L2.Key × V)), σ = [some (.ref wt), some (.ref s), some (.ref d), some (.ref E), some (.int (0 + (k : Int))), some (.ref na), y7, y8] ∧ Same H H' ∧ H' d = some (.dT kvs) ∧ H' E = some (.lst (as.map V.ref)) ∧ as.length = ws.length ∧ (∀ (i : Nat) a w, as[i]? = some a → ws[i]? = some w → H' a = some (.tup (w.map V.int))) ∧ FarW n ths ps bs xs ws kvs ∧ Bsd rows n ths ps xs bs ws k ∧ ws[k]? = some now ∧ H' na = some (.tup (now.map V.int)) ∧ H' D = some (.lst us) ∧ TPs H' us (letsL rows ths ps now n) ∧ ∀ (i : Nat) e, i < j → (letsL rows ths ps now n)[i]? = some e → now.set e.1.toNat e.2 ∈ ws) ⟨_, _, as, ws, kvs, rfl, m2.trans m3, m3 _ _ hd, m3 _ _ hE, hal, fun i a w h1 h2 => m3 _ _ (hat i a w h1 h2), hF, hB, gw, m3 _ _ hnow, hD, hT3, fun i e hi => absurd hi (Nat.not_lt_zero _)⟩ (fun j σ H' _ h => ?_) ?_ ?_
  · obtain ⟨_, _, _, _, _, _, _, _, _, _, _, _, _, _, _, h, _⟩ := h
    exact SqL.of h
  · clear hd hE hal hat hF hB hkl c hkw ga gE gw hnow hD hT3 hz y5 y6 y7 y8 hled ws as kvs
    rintro j x σ H4 hj ⟨y7, y8, as, ws, kvs, rfl, m4, hd, hE, hal, hat, hF, hB, gw, hnow, hD, hT4, hdn⟩
    have hjl : j < (letsL rows ths ps now n).length := by rw [← hll]; exact (List.getElem?_eq_some_iff.mp hj).1
    have he : (letsL rows ths ps now n)[j]? = some (letsL rows ths ps now n)[j] := List.getElem?_eq_getElem hjl
    obtain ⟨u, rfl, hu⟩ := hT4.2 j x _ hj he
    obtain ⟨h0, h1, hlet⟩ := mem_letsL.mp (List.mem_of_getElem? he)
    generalize (letsL rows ths ps now n)[j] = e at he hu h0 h1 hlet
    obtain ⟨e1, e2⟩ := e
    obtain ⟨v, rfl⟩ : ∃ v : Nat, e1 = (v : Int) := ⟨e1.toNat, by have h0 : 0 ≤ e1 := h0; omega⟩
    have h1 : ((v : Nat) : Int) < (n : Nat) := h1
    have hlet : LetP rows ths ps now (v : Nat) e2 := hlet
    refine gN ?_
    dsimp only [List.set]
    refine ⟨_, rfl, _, rfl, na, u, now, v, e2, rfl, SqT.of hnow, SqT.of hu, by rw [hst.1]; omega, by rw [hst.1]; omega, fun t2 H5 m5 ht2 => ?_⟩
    refine gN ?_
    dsimp only [List.set]
    have hd5 := m5 _ _ hd
    have hE5 := m5 _ _ hE
    have hz := bnd _ _ hB
    have hkv := hF.len
    have step : ∀ (i : Nat) e, i < j + 1 → (letsL rows ths ps now n)[i]? = some e → e = (((v : Nat) : Int), e2) ∨ now.set e.1.toNat e.2 ∈ ws := fun i e hi hie => by
      by_cases c3 : i = j
      · subst c3
        rw [he] at hie
        exact .inl (Option.some.inj hie).symm
      · exact .inr (hdn i e (by omega) hie)
    refine ⟨.ref t2, rfl, .ref d, rfl, d, _, rfl, DGet.t (k := kyF (now.set v e2)) hd5 (by rw [kyF_val]; exact ht2), _, rfl, ?_⟩
    rw [hF.get]
    by_cases c2 : now.set v e2 ∈ ws
    · rw [decide_eq_true c2]
      refine iteF ⟨_, _, as, ws, kvs, rfl, m4.trans m5, hd5, hE5, hal, fun i a w k1 k2 => m5 _ _ (hat i a w k1 k2), hF, hB, gw, m5 _ _ hnow, m5 _ _ hD, hT4.same m5, fun i e hi hie => (step i e hi hie).elim (fun z => by rw [z]; exact c2) id⟩
    · rw [decide_eq_false c2]
      obtain ⟨hB2, hd2⟩ := hB.add gT hin hC hSt hbp hbn gw (by omega) hlet c2
      have hnm := List.mem_of_getElem? gw
      have hg : DGet H5 d (.ref na) (some (.int ((dst n ths ps bs xs now : Nat) : Int))) := by
        have := DGet.t (k := kyF now) hd5 (by rw [kyF_val]; exact m5 _ _ hnow)
        rw [hF.here now hnm] at this
        exact this
      refine iteT ⟨.ref d, rfl, .ref na, rfl, d, _, rfl, hg, _, _, rfl, rfl, .ref d, rfl, .ref t2, rfl, d, _, rfl, DPut.t (k := kyF (now.set v e2)) hd5 (by rw [kyF_val]; exact ht2) (smallLt (by omega)), ?_⟩
      have hval : V.int (((dst n ths ps bs xs now : Nat) : Int) + 1) = .int ((dst n ths ps bs xs (now.set v e2) : Nat) : Int) := by rw [hd2, Int.natCast_add]; rfl
      rw [show (fun i j : Int => V.int (i + j)) ((dst n ths ps bs xs now : Nat) : Int) 1 = _ from hval]
      have hF2 := hF.put c2
      have up : ∀ {a : Addr} {o : HO}, a ≠ d → H5 a = some o → upd H5 d (.dT (putK kvs (kyF (now.set v e2)) (.int ((dst n ths ps bs xs (now.set v e2) : Nat) : Int)))) a = some o := fun ne h => by rw [upd_ne ne]; exact h
      have tne : ∀ {a : Addr} {zs : List V}, H5 a = some (.tup zs) → a ≠ d := fun h z => by rw [z, hd5] at h; cases h
      have m6 : Same H (upd H5 d (.dT (putK kvs (kyF (now.set v e2)) (.int ((dst n ths ps bs xs (now.set v e2) : Nat) : Int))))) := (m4.trans m5).mut nd0
      have hd6 : upd H5 d (.dT (putK kvs (kyF (now.set v e2)) (.int ((dst n ths ps bs xs (now.set v e2) : Nat) : Int)))) d = _ := upd_same
      have hE6 := up (fun z => dE z.symm) hE5
      have hT6 := tps_updX (q := d) (o := .dT (putK kvs (kyF (now.set v e2)) (.int ((dst n ths ps bs xs (now.set v e2) : Nat) : Int)))) (hT4.same m5) fun zs z => by rw [hd5] at z; cases z
      have hD6 := up nDd (m5 _ _ hD)
      have ht6 := up (tne ht2) ht2
      have hn6 := up (tne (m5 _ _ hnow)) (m5 _ _ hnow)
      have hat6 : ∀ (i : Nat) a w, as[i]? = some a → ws[i]? = some w → _ := fun i a w k1 k2 => up (tne (m5 _ _ (hat i a w k1 k2))) (m5 _ _ (hat i a w k1 k2))
      generalize upd H5 d (.dT (putK kvs (kyF (now.set v e2)) (.int ((dst n ths ps bs xs (now.set v e2) : Nat) : Int)))) = H6 at *
      clear up tne
      refine ⟨.ref E, rfl, .inl ⟨rfl, _, SqL.of hE6⟩, _, rfl, E, _, _, rfl, rfl, hE6, smallLt (by rw [List.length_map]; omega), ?_⟩
      have tne : ∀ {a : Addr} {zs : List V}, H6 a = some (.tup zs) → upd H6 E (.lst (as.map V.ref ++ [.ref t2])) a = some (.tup zs) := fun h => ow_upd h hE6
      refine ⟨_, _, as ++ [t2], ws ++ [now.set v e2], _, rfl, m6.mut nE0, by rw [upd_ne dE]; exact hd6, by rw [upd_same, List.map_append]; rfl, by rw [List.length_append, List.length_append, hal]; rfl, fun i a w k1 k2 => ?_, hF2, hB2, by rw [List.getElem?_append_left (List.getElem?_eq_some_iff.mp gw).1]; exact gw, tne hn6, by rw [upd_ne nDE]; exact hD6, tps_updX hT6 (fun zs z => by rw [hE6] at z; cases z), fun i e hi hie => (step i e hi hie).elim (fun z => by rw [z]; exact List.mem_append_right _ (List.mem_singleton_self _)) fun z => List.mem_append_left _ z⟩
      by_cases ci : i < as.length
      · rw [List.getElem?_append_left ci] at k1
        rw [List.getElem?_append_left (by omega)] at k2
        exact tne (hat6 i a w k1 k2)
      · have hi2 := (List.getElem?_eq_some_iff.mp k1).1
        rw [List.length_append] at hi2
        have hi2 : i < as.length + 1 := hi2
        obtain rfl : i = as.length := by omega
        rw [List.getElem?_append_right (Nat.le_refl _), Nat.sub_self] at k1
        rw [List.getElem?_append_right (by omega), show as.length - ws.length = 0 by omega] at k2
        cases Option.some.inj k1
        cases Option.some.inj k2
        exact tne ht6
  · rintro σ H4 ⟨y7', y8', as', ws', kvs', rfl, m4, hd4, hE4, hal4, hat4, hF4, hB4, gw4, hnow4, hD4, hT4, hdn⟩
    refine ⟨_, _, _, _, as', ws', kvs', rfl, m4, hd4, hE4, hal4, hat4, hF4, hB4.next gT hin hC hSt hbp hbn gw4 fun v x hv hl => ?_, by have := (List.getElem?_eq_some_iff.mp gw4).1; omega⟩
    have hm : (((v : Nat) : Int), x) ∈ letsL rows ths ps now n := mem_letsL.mpr ⟨by show (0 : Int) ≤ (v : Nat); omega, by show ((v : Nat) : Int) < (n : Nat); omega, hl⟩
    obtain ⟨i, hi, e⟩ := List.getElem_of_mem hm
    have := hdn i _ (by rw [hll]; exact hi) (by rw [List.getElem?_eq_getElem hi, e])
    exact this
theorem cutV_neg2 {xs : List V} {ys : List V} {a b : V} (h : xs = ys ++ [a, b]) : cutV xs none (some (-2)) = ys := by
  subst h
  unfold cutV
  rw [HT.sIx_none]
  have hl : (ys ++ [a, b]).length = ys.length + 2 := by rw [List.length_append]; rfl
  have e : HT.sIx (ys ++ [a, b]).length (ys ++ [a, b]).length (some (-2)) = ys.length := by
    rw [hl]
    show (if (-2 : Int) < 0 then (-2 + ((ys.length + 2 : Nat) : Int)).toNat else min (-2 : Int).toNat (ys.length + 2)) = ys.length
    rw [if_pos (by decide)]
    omega
  rw [e, List.drop_zero, Nat.sub_zero, List.take_left']
  rfl
def sp__law_rest (K : PySem.W.Frag) (cs : CS) : Sp := fun vs H Q E => ∃ (a : Addr) (ns : List Int), vs = [.ref a] ∧ SqT K H a (ns.map V.int) ∧ ns.length < 100000 ∧ ∀ p H', Same H H' → H' p = some (.tup ((strk ns).map V.int)) → Q (.ref p) H'
theorem ok__law_rest (F : Fun K "_law_rest" "_law_rest" s__law_rest f fd) (T : Txt P w K mg base cs)  : FnOk P w K mg base CX0 1 f fd ["row"] (sp__law_rest K cs) := by
  refine F.ok sc__law_rest (fun vs H Q E h => ?_) (fun cdv A outer s H vs Q E hr h => ?_)
  · obtain ⟨a, ns, rfl, _⟩ := h
    rfl
  obtain ⟨a, ns, rfl, hS, hlen, q⟩ := h
  refine ⟨_, (pss_cons (ps_set (i := 1) sc__law_rest.nd rfl (Or.inl rfl) (pe_lst pa_nil))
      (pss_cons (ps_for PassesOwn.never rfl (piT K (pv 0)) (pg_name (i := 2) sc__law_rest.nd rfl (Or.inl rfl)) (pss_cons (ps_expr (pe_bm PySem.F.plainAttrs_list PySem.F.slot_list_append PySem.F.type_list_append mt_append (pv 1) (pa_cons (pv 2) pa_nil)))
      (pss_one (ps_if (PW.pt (pw_and (pt_cmpR op_gt (pe_callB (lenS K) (by rfl) T.n_len PySem.boot_len (pa_cons (pv 1) pa_nil)) pe_int (nomark _)) (pw_and1 (pt_cmpR op_eq (pe_ix (ixL K) (pv 1) (pe_un un_neg pe_int) (fun _ _ => rfl)) (pe_ix (ixL K) (pv 1) (pe_un un_neg pe_int) (fun _ _ => rfl)) (nomark _))))) (pss_one (ps_set (i := 1) sc__law_rest.nd rfl (Or.inl rfl) (pe_slice (slL K) (pv 1) poN (po_some (pe_un un_neg pe_int))))) pss_nil))))
      (pss_one (ps_ret (pe_callTy (tupOf K) (by rfl) T.n_tuple (by decide +kernel) (pa_cons (pv 1) pa_nil)))))), ?_⟩
  refine ⟨Nat.zero_le _, fun l0 nl0 => ?_⟩
  refine ⟨.ref a, rfl, a, rfl, ⟨_, (Same.new nl0).tup hS⟩, for_tup (xs := ns.map V.int) (fun i σ H' => (∃ l y, σ = [some (.ref a), some (.ref l), y] ∧ H l = none ∧ H' l = some (.lst ((strk (ns.take i)).map V.int))) ∧ Same H H') ⟨⟨l0, _, rfl, nl0, upd_same⟩, Same.new nl0⟩ (fun i σ H' _ h => h.2.tup hS) ?_ ?_⟩
  · rintro i x σ H1 hi ⟨⟨l, y, rfl, nl, hl⟩, sm⟩
    obtain ⟨hi2, rfl⟩ := num_map i ns x hi
    have hst : strk (ns.take (i + 1)) = stp (strk (ns.take i)) ns[i] := by
      unfold strk
      rw [List.take_add_one, List.getElem?_eq_getElem hi2, List.foldl_append]
      rfl
    have hz : (strk (ns.take i)).length ≤ i := Nat.le_trans (strk_len _) (by rw [List.length_take]; omega)
    generalize strk (ns.take i) = st at hl hst hz
    refine gN ?_
    dsimp only [List.set]
    refine ⟨.ref l, rfl, .inl ⟨rfl, _, SqL.of hl⟩, _, rfl, l, _, _, rfl, rfl, hl, smallLt (by rw [List.length_map]; omega), ?_⟩
    have sm2 : Same H (upd H1 l (.lst (st.map V.int ++ [V.int ns[i]]))) := sm.mut nl
    have hl2 : upd H1 l (.lst (st.map V.int ++ [V.int ns[i]])) l = some (.lst ((st ++ [ns[i]]).map V.int)) := by rw [upd_same, List.map_append]; rfl
    generalize upd H1 l (.lst (st.map V.int ++ [V.int ns[i]])) = H2 at *
    refine ⟨.ref l, rfl, l, _, rfl, .inl (SqL.of hl2), _, 2, rfl, rfl, _, rfl, ?_⟩
    by_cases h1 : 2 ≤ st.length
    · refine itT (decide_eq_true (by rw [List.length_map, List.length_append]; show (2 : Int) < ((st.length + 1 : Nat) : Int); omega)) ?_
      have g1 : ((st ++ [ns[i]]).map V.int)[st.length]? = some (.int ns[i]) := by
        rw [List.getElem?_map, List.getElem?_append_right (Nat.le_refl _), Nat.sub_self]
        rfl
      have g3 : ((st ++ [ns[i]]).map V.int)[st.length - 2]? = some (.int (st[st.length - 2]'(by omega))) := by
        rw [List.getElem?_map, List.getElem?_append_left (by omega), List.getElem?_eq_getElem (by omega)]
        rfl
      have el : ((st ++ [ns[i]]).map V.int).length = st.length + 1 := by rw [List.length_map, List.length_append]; rfl
      refine ⟨.ref l, rfl, 1, rfl, l, _, _, _, rfl, rfl, SqL.of hl2, atNeg g1 (by rw [el]; omega), .ref l, rfl, 3, rfl, l, _, _, _, rfl, rfl, SqL.of hl2, atNeg g3 (by rw [el]; omega), rfl, _, rfl, ?_⟩
      by_cases e : ns[i] = st[st.length - 2]'(by omega)
      · refine itT (decide_eq_true (by rw [e])) ?_
        refine ⟨.ref l, rfl, 2, rfl, _, rfl, l, _, rfl, SqL.of hl2, fun p np => ?_⟩
        have e' : st[st.length - 2]? = some ns[i] := by rw [List.getElem?_eq_getElem (by omega), e]
        refine ⟨⟨p, _, rfl, sm2.free np, ?_⟩, sm2.trans (Same.new np)⟩
        obtain ⟨s0, z, rfl⟩ : ∃ s0 z, st = s0 ++ [z] := ⟨st.dropLast, st.getLast (fun z => by rw [z] at h1; exact absurd h1 (by decide)), (List.dropLast_concat_getLast _).symm⟩
        rw [upd_same, hst, stp, if_pos ⟨by omega, e'⟩, List.dropLast_concat, cutV_neg2 (ys := s0.map V.int) (a := .int z) (b := .int ns[i]) (by rw [List.map_append, List.map_append, List.append_assoc]; rfl)]
      · refine itF (decide_eq_false fun z => e (V.int.inj z)) ?_
        have e' : ¬ st[st.length - 2]? = some ns[i] := fun z => by
          rw [List.getElem?_eq_getElem (by omega)] at z
          exact e (Option.some.inj z).symm
        exact ⟨⟨l, _, rfl, nl, by rw [hl2, hst, stp, if_neg (fun z => e' z.2)]⟩, sm2⟩
    · refine itF (decide_eq_false (by rw [List.length_map, List.length_append]; show ¬ (2 : Int) < ((st.length + 1 : Nat) : Int); omega)) ?_
      exact ⟨⟨l, _, rfl, nl, by rw [hl2, hst, stp, if_neg (fun z => h1 (by omega))]⟩, sm2⟩
  · rintro σ H1 ⟨⟨l, y, rfl, nl, hl⟩, sm⟩
    rw [List.length_map, List.take_length] at hl
    refine ⟨.ref l, rfl, l, _, rfl, .inl ⟨SqL.of hl, fun t nt => ?_⟩⟩
    exact q t _ (sm.trans (Same.new nt)) upd_same
def fl (kvs : List (L2.Key × V)) (v : Nat) : Bool := (valV kvs (.inl ((v : Nat) : Int))).isSome
def flc (n : Nat) (kvs : List (L2.Key × V)) : Nat := ((List.range n).filter (fl kvs)).length
theorem filt_lt : ∀ (l : List Nat) (p q : Nat → Bool), (∀ x ∈ l, p x = true → q x = true) → (l.filter p).length ≤ (l.filter q).length ∧ ((∃ x ∈ l, q x = true ∧ p x = false) → (l.filter p).length < (l.filter q).length)
  | [], _, _, _ => ⟨Nat.le_refl _, fun h => by obtain ⟨_, hx, _⟩ := h; cases hx⟩
  | x :: l, p, q, h => by
    obtain ⟨h1, h2⟩ := filt_lt l p q fun y hy => h y (List.mem_cons_of_mem _ hy)
    have hx := h x List.mem_cons_self
    rw [List.filter_cons, List.filter_cons]
    by_cases cp : p x = true
    · rw [if_pos cp, if_pos (hx cp), List.length_cons, List.length_cons]
      refine ⟨by omega, fun hh => ?_⟩
      obtain ⟨y, hy, k1, k2⟩ := hh
      rcases List.mem_cons.mp hy with rfl | hy
      · rw [cp] at k2; cases k2
      · have := h2 ⟨y, hy, k1, k2⟩
        omega
    · rw [if_neg cp]
      by_cases cq : q x = true
      · rw [if_pos cq, List.length_cons]
        exact ⟨by omega, fun _ => by omega⟩
      · rw [if_neg cq]
        refine ⟨h1, fun hh => ?_⟩
        obtain ⟨y, hy, k1, k2⟩ := hh
        rcases List.mem_cons.mp hy with rfl | hy
        · exact absurd k1 cq
        · exact h2 ⟨y, hy, k1, k2⟩
theorem flc_le {n : Nat} {kvs : List (L2.Key × V)} : flc n kvs ≤ n := by
  have := List.length_filter_le (fl kvs) (List.range n)
  rw [List.length_range] at this
  exact this
theorem fl_put {kvs : List (L2.Key × V)} {j v : Nat} {y : V} : fl (putK kvs (.inl ((j : Nat) : Int)) y) v = (decide (v = j) || fl kvs v) := by
  unfold fl
  rw [valV_put]
  by_cases e : v = j
  · subst e
    rw [if_pos rfl, decide_eq_true rfl]
    rfl
  · rw [if_neg (fun z => e (by have := Sum.inl.inj z; omega)), decide_eq_false e]
    rfl
structure RowsD (H : Hp) (n : Nat) (bs : Nat) (R : Int → List Int) (kvs : List (L2.Key × V)) : Prop where
  val : ∀ v : Nat, v < n → ∀ y, valV kvs (.inl ((v : Nat) : Int)) = some y → ∃ e, y = .ref e ∧ H e = some (.tup ((R (v : Nat)).map V.int))
  len : kvs.length ≤ flc n kvs
  base : fl kvs bs = true
theorem RowsD.same {H H1 : Hp} {n bs : Nat} {R : Int → List Int} {kvs : List (L2.Key × V)} (h : RowsD H n bs R kvs) (e : Same H H1) : RowsD H1 n bs R kvs :=
  ⟨fun v hv y hy => (h.val v hv y hy).elim fun x hx => ⟨x, hx.1, e _ _ hx.2⟩, h.len, h.base⟩
theorem RowsD.put {H : Hp} {n bs : Nat} {R : Int → List Int} {kvs : List (L2.Key × V)} {d p : Addr} {j : Nat} (h : RowsD H n bs R kvs) (hd : H d = some (.dK kvs)) (hj : j < n) (hn : fl kvs j = false) (hp : H p = some (.tup ((R (j : Nat)).map V.int))) : RowsD (upd H d (.dK (putK kvs (.inl ((j : Nat) : Int)) (.ref p)))) n bs R (putK kvs (.inl ((j : Nat) : Int)) (.ref p)) := by
  have ne : ∀ {e : Addr} {zs : List V}, H e = some (.tup zs) → e ≠ d := fun h z => by rw [z, hd] at h; cases h
  refine ⟨fun v hv y hy => ?_, ?_, by rw [fl_put, h.base, Bool.or_true]⟩
  · rw [valV_put] at hy
    by_cases e : v = j
    · subst e
      rw [if_pos rfl] at hy
      cases Option.some.inj hy
      exact ⟨p, rfl, by rw [upd_ne (ne hp)]; exact hp⟩
    · rw [if_neg (fun z => e (by have := Sum.inl.inj z; omega))] at hy
      obtain ⟨x, hx, hx2⟩ := h.val v hv y hy
      exact ⟨x, hx, by rw [upd_ne (ne hx2)]; exact hx2⟩
  · have h1 := h.len
    have h2 := (filt_lt (List.range n) (fl kvs) (fl (putK kvs (.inl ((j : Nat) : Int)) (.ref p))) fun x _ hx => by rw [fl_put, hx, Bool.or_true]).2 ⟨j, List.mem_range.mpr hj, by rw [fl_put, decide_eq_true rfl, Bool.true_or], hn⟩
    have h3 := length_putK kvs (.inl ((j : Nat) : Int)) (.ref p)
    unfold flc at h1 ⊢
    omega
def sp__law_link (K : PySem.W.Frag) (cs : CS) : Sp := fun vs H Q E => ∃ (wt t l pg a b : Addr) (nrs : List (List Int)) (n : Nat) (ths : List (Int × Int)) (ps xs ys : List Int) (bs : Nat) (R : Int → List Int), vs = [.ref wt, .ref a, .ref b] ∧ SqT K H wt [.ref t, .ref l, .ref pg] ∧ LL H l nrs ∧ NearOk n ths nrs ∧ InN n ths ∧ n ≤ 24 ∧ Conn n ths ∧ ps[0]? = some ((bs : Nat) : Int) ∧ bs < n ∧ SqT K H pg (ps.map V.int) ∧ SqT K H a (xs.map V.int) ∧ SqT K H b (ys.map V.int) ∧ xs.length = n ∧ ys.length = n ∧ LinkR xs ys ths (bs : Nat) [xs.getD bs 0] R ∧ (∀ p : Nat, p < n → (R (p : Nat)).length ≤ 1000) ∧ ∀ D us H', Same H H' → H' D = some (.lst us) → us.length = n → (∀ (i : Nat) v, us[i]? = some v → ∃ e, v = .ref e ∧ SqT K H' e ((R (i : Nat)).map V.int)) → Q (.ref D) H'
theorem ok__law_link (F : Fun K "_law_link" "_law_link" s__law_link f fd) (T : Txt P w K mg base cs) (c__law_rest : Cal P w K mg base CX0 1 "_law_rest" ["row"] s__law_rest (sp__law_rest K cs)) : FnOk P w K mg base CX0 2 f fd ["world", "a", "b"] (sp__law_link K cs) := by
  refine F.ok sc__law_link (fun vs H Q E h => ?_) (fun cdv A outer s H vs Q E hr h => ?_)
  · obtain ⟨wt, t, l, pg, a, b, nrs, n, ths, ps, xs, ys, bs, R, rfl, _⟩ := h
    rfl
  obtain ⟨wt, t, l, pg, a, b, nrs, n, ths, ps, xs, ys, bs, R, rfl, hwt, hL, hO, hin, n24, hC, hb0, hbn, hpg, ha, hb, hxl, hyl, hR, hRl, q⟩ := h
  obtain ⟨lbs, hl, hll, hlg⟩ := hL
  have g0 : (ps.map V.int)[0]? = some (.int ((bs : Nat) : Int)) := by rw [List.getElem?_map, hb0]; rfl
  have gx : ∀ {zs : List Int} (j : Nat), zs.length = n → j < n → (zs.map V.int)[j]? = some (.int (zs.getD j 0)) := fun j h1 h2 => by rw [List.getElem?_map, getD_some (by omega)]; rfl
  have at2 : ([V.ref t, .ref l, .ref pg] : List V)[2]? = some (.ref pg) := rfl
  refine ⟨_, (pss_cons (ps_set (i := 3) sc__law_link.nd rfl (Or.inr rfl) (pe_callTy (dictP K rfl) (by rfl) T.n_dict (by decide +kernel) (pa_cons (pe_lst (pa_cons (pe_tup (pa_cons (pe_ix (ixT K) (pe_ix (ixT K) (pv 0) pe_int (fun _ _ => rfl)) pe_int (fun _ _ => rfl)) (pa_cons (pe_tup (pa_cons (pe_ix (ixT K) (pv 1) (pe_ix (ixT K) (pe_ix (ixT K) (pv 0) pe_int (fun _ _ => rfl)) pe_int (fun _ _ => rfl)) (fun _ _ => rfl)) pa_nil)) pa_nil))) pa_nil)) pa_nil)))
      (pss_cons (ps_for PassesOwn.never rfl (pi_range1 (by rfl) T.n_range (pa_cons (pe_callB (lenS K) (by rfl) T.n_len PySem.boot_len (pa_cons (pv 1) pa_nil)) pa_nil)) (pg_name (i := 4) sc__law_link.nd rfl (Or.inl rfl)) (pss_one (ps_for PassesOwn.never rfl (pi_range1 (by rfl) T.n_range (pa_cons (pe_callB (lenS K) (by rfl) T.n_len PySem.boot_len (pa_cons (pv 1) pa_nil)) pa_nil)) (pg_name (i := 5) sc__law_link.nd rfl (Or.inl rfl)) (pss_one (ps_for PassesOwn.never rfl (piL K (pe_ix (ixL K) (pe_ix (ixT K) (pv 0) pe_int (fun _ _ => rfl)) (pv 5) (fun _ _ => rfl))) (pg_name (i := 6) sc__law_link.nd rfl (Or.inl rfl)) (pss_one (ps_if (PW.pt (pw_and (pt_cmp (pc_din (hu1 hr) (pv 5) (pv 3))) (pw_and1 (pt_cmp (pc_dnotin (hu1 hr) (pv 6) (pv 3)))))) (pss_one (ps_dput (hu1 hr) (pv 3) (pv 6) (pe_cal c__law_rest (hr.mono (by decide)) pass0 (pa_cons (pe_op (catA K) (pe_op (catA K) (pe_tup (pa_cons (pe_ix (ixT K) (pv 1) (pv 6) (fun _ _ => rfl)) pa_nil)) (pe_dget (hu1 hr) (pv 3) (pv 5) (fun _ _ => rfl))) (pe_tup (pa_cons (pe_ix (ixT K) (pv 2) (pv 6) (fun _ _ => rfl)) pa_nil))) pa_nil)) rfl)) pss_nil)))))))
      (pss_one (ps_ret (pe_lc (own := [("v", 5)]) rfl sc__law_link.nd (pi_range1 (by rfl) T.n_range (pa_cons (pe_callB (lenS K) (by rfl) T.n_len PySem.boot_len (pa_cons (pv 1) pa_nil)) pa_nil)) (blkOk_by (own := [("v", 5)]) (N := ["world", "a", "b", "rows", "turn", "v", "j"]) (sc := defScope s__law_link) (by decide +kernel)) (fun _ _ _ _ _ => (pg_name (i := 5) sc__law_link.nd rfl (Or.inl rfl))) (fun _ _ _ _ _ => pts_nil) (fun _ _ _ _ _ => (pe_dget (hu1 hr) (pv 3) (pv 5) (fun _ _ => rfl)))))))), ?_⟩
  dsimp only [L2.start, List.set, List.map, List.cons_append, List.nil_append]
  refine ⟨.ref wt, rfl, wt, _, 2, _, rfl, rfl, hwt, atI_nat at2, pg, _, 0, _, rfl, rfl, hpg, atI_nat g0, ?_⟩
  refine ⟨.ref a, rfl, .ref wt, rfl, wt, _, 2, _, rfl, rfl, hwt, atI_nat at2, pg, _, 0, _, rfl, rfl, hpg, atI_nat g0, a, _, _, _, rfl, rfl, ha, atI_nat (gx bs hxl hbn), by show 1 ≤ sizeLine; decide, fun u nu => ?_⟩
  have ku := Same.new (o := .tup [.int (xs.getD bs 0)]) nu
  refine ⟨by show 2 ≤ sizeLine; decide, fun w_ nw => ⟨by show 1 ≤ sizeLine; decide, fun L nL => ?_⟩⟩
  have kw := Same.new (o := .tup [.int ((bs : Nat) : Int), .ref u]) nw
  have kL := Same.new (o := .lst [.ref w_]) nL
  refine ⟨L, [w_], [(.inl ((bs : Nat) : Int), .ref u)], rfl, SqL.of upd_same, .cons (SqT.of (kL _ _ upd_same)) .nil, fun d nd => ?_⟩
  refine gN ?_
  dsimp only [List.set]
  have m1 : Same H (upd (upd (upd (upd H u (.tup [.int (xs.getD bs 0)])) w_ (.tup [.int ((bs : Nat) : Int), .ref u])) L (.lst [.ref w_])) d (.dK [(.inl ((bs : Nat) : Int), .ref u)])) := ((ku.trans kw).trans kL).trans (Same.new nd)
  have hu0 : (upd H u (.tup [.int (xs.getD bs 0)])) u = some (.tup [.int (xs.getD bs 0)]) := upd_same
  have hu1 := ((kw.trans kL).trans (Same.new (o := .dK [(.inl ((bs : Nat) : Int), .ref u)]) nd)) _ _ hu0
  clear hu0
  have hd1 : (upd (upd (upd (upd H u (.tup [.int (xs.getD bs 0)])) w_ (.tup [.int ((bs : Nat) : Int), .ref u])) L (.lst [.ref w_])) d (.dK [(.inl ((bs : Nat) : Int), .ref u)])) d = some (.dK [(.inl ((bs : Nat) : Int), .ref u)]) := upd_same
  have nd0 : H d = none := ((ku.trans kw).trans kL).free nd
  have eM : mergeK [] [((.inl ((bs : Nat) : Int) : Key), V.ref u)] = [(.inl ((bs : Nat) : Int), .ref u)] := rfl
  rw [eM]
  generalize upd (upd (upd (upd H u (.tup [.int (xs.getD bs 0)])) w_ (.tup [.int ((bs : Nat) : Int), .ref u])) L (.lst [.ref w_])) d (.dK [(.inl ((bs : Nat) : Int), .ref u)]) = H1 at *
  clear ku kw kL nu nw nL nd eM
  have vv : ∀ v : Nat, valV [((.inl ((bs : Nat) : Int) : Key), V.ref u)] (.inl ((v : Nat) : Int)) = if v = bs then some (V.ref u) else none := fun v => by
    have := valV_put [] (.inl ((bs : Nat) : Int) : Key) (.inl ((v : Nat) : Int)) (V.ref u)
    refine this.trans ?_
    by_cases e : v = bs
    · rw [if_pos (by rw [e]), if_pos e]
    · rw [if_neg (fun z => e (by have := Sum.inl.inj z; omega)), if_neg e]
      rfl
  have fb : fl [((.inl ((bs : Nat) : Int) : Key), V.ref u)] bs = true := by unfold fl; rw [vv, if_pos rfl]; rfl
  have hD0 : RowsD H1 n bs R [(.inl ((bs : Nat) : Int), .ref u)] := by
    refine ⟨fun v hv y hy => ?_, ?_, fb⟩
    · rw [vv] at hy
      by_cases e : v = bs
      · subst e
        rw [if_pos rfl] at hy
        cases Option.some.inj hy
        exact ⟨u, rfl, by rw [hu1, hR.1]; rfl⟩
      · rw [if_neg e] at hy
        cases hy
    · have := (filt_lt (List.range n) (fun _ => false) (fl [((.inl ((bs : Nat) : Int) : Key), V.ref u)]) fun x _ z => by cases z).2 ⟨bs, List.mem_range.mpr hbn, fb, rfl⟩
      unfold flc
      show 1 ≤ _
      omega
  have c0 : 1 ≤ flc n [((.inl ((bs : Nat) : Int) : Key), V.ref u)] := Nat.le_trans (by show 1 ≤ 1; decide) hD0.len
  -- the sweeps
  refine ⟨.ref a, rfl, a, _, rfl, .inr (m1.tup ha), ((n : Nat) : Int), by rw [List.length_map, hxl], by omega, by omega, ?_⟩
  rw [Int.toNat_natCast]
  refine for_range (n := n) (fun k σ H' => ∃ (y4 y5 y6 : Option V) (kvs : List (L2.Key × V)), σ = [some (.ref wt), some (.ref a), some (.ref b), some (.ref d), y4, y5, y6] ∧ Same H H' ∧ H' d = some (.dK kvs) ∧ RowsD H' n bs R kvs ∧ min n (k + 1) ≤ flc n kvs) ⟨none, none, none, _, rfl, m1, hd1, hD0, by omega⟩ ?_ ?_
  · rintro k σ H2 hk ⟨y4, y5, y6, kvs0, rfl, m2, hd, hD, hc⟩
    refine gN ?_
    dsimp only [List.set]
    refine ⟨.ref a, rfl, a, _, rfl, .inr (m2.tup ha), ((n : Nat) : Int), by rw [List.length_map, hxl], by omega, by omega, ?_⟩
    rw [Int.toNat_natCast]
    refine for_range (n := n) (fun v σ H' => ∃ (y5 y6 : Option V) (kvs : List (L2.Key × V)), σ = [some (.ref wt), some (.ref a), some (.ref b), some (.ref d), some (.int (0 + (k : Int))), y5, y6] ∧ Same H H' ∧ H' d = some (.dK kvs) ∧ RowsD H' n bs R kvs ∧ (∀ x : Nat, fl kvs0 x = true → fl kvs x = true) ∧ ∀ x : Nat, x < v → fl kvs0 x = true → ∀ j : Nat, Adj ths (x : Nat) (j : Nat) → fl kvs j = true) ⟨y5, y6, kvs0, rfl, m2, hd, hD, fun _ h => h, fun x hx => absurd hx (Nat.not_lt_zero _)⟩ ?_ ?_
    · clear hd hD m2 y5 y6
      rintro v σ H3 hv ⟨y5, y6, kvs, rfl, m3, hd, hD, hup, hdn⟩
      refine gN ?_
      dsimp only [List.set]
      have hvl : v < nrs.length := by rw [hO.len]; exact hv
      have hbi : lbs[v]? = some (lbs[v]'(by omega)) := List.getElem?_eq_getElem (by omega)
      have hrow : nrs[v]? = some nrs[v] := List.getElem?_eq_getElem hvl
      have hlv := hlg v _ _ hbi hrow
      have hmem := hO.mem v _ hrow
      generalize lbs[v]'(by omega) = lb at hbi hlv
      generalize nrs[v] = row at hrow hlv hmem
      have gl : (lbs.map V.ref)[v]? = some (.ref lb) := by rw [List.getElem?_map, hbi]; rfl
      refine ⟨.ref wt, rfl, wt, _, 1, _, rfl, rfl, m3.tup hwt, atI1, _, rfl, l, _, _, _, rfl, rfl, SqL.of (m3 _ _ hl), atN gl (by omega), lb, rfl, ⟨_, SqL.of (m3 _ _ hlv)⟩, ?_⟩
      refine for_list (xs := row.map V.int) (fun i σ H' => ∃ (y6 : Option V) (kvs : List (L2.Key × V)), σ = [some (.ref wt), some (.ref a), some (.ref b), some (.ref d), some (.int (0 + (k : Int))), some (.int (0 + (v : Int))), y6] ∧ Same H H' ∧ H' d = some (.dK kvs) ∧ RowsD H' n bs R kvs ∧ (∀ x : Nat, fl kvs0 x = true → fl kvs x = true) ∧ (∀ x : Nat, x < v → fl kvs0 x = true → ∀ j : Nat, Adj ths (x : Nat) (j : Nat) → fl kvs j = true) ∧ (fl kvs0 v = true → ∀ (i' : Nat) (j : Nat), i' < i → row[i']? = some ((j : Nat) : Int) → fl kvs j = true)) ⟨y6, kvs, rfl, m3, hd, hD, hup, hdn, fun _ i' j hi => absurd hi (Nat.not_lt_zero _)⟩ (fun i σ H' _ h => by
        obtain ⟨_, _, _, m, _⟩ := h
        exact SqL.of (m _ _ hlv)) ?_ ?_
      · clear hd hD hup hdn m3 y6 kvs
        rintro i x σ H4 hi ⟨y6, kvs, rfl, m4, hd, hD, hup, hdn, hin2⟩
        obtain ⟨hi2, rfl⟩ := num_map i row x hi
        have hadj := (hmem row[i]).mp (List.getElem_mem hi2)
        have hjr := adj_lt hin hadj
        have hrj : row[i]? = some row[i] := List.getElem?_eq_getElem hi2
        generalize row[i] = jj at hadj hjr hrj
        obtain ⟨j, rfl⟩ : ∃ j : Nat, jj = (j : Int) := ⟨jj.toNat, by omega⟩
        have hj : j < n := by omega
        have step : ∀ kvs2 : List (L2.Key × V), (∀ x : Nat, fl kvs x = true → fl kvs2 x = true) → (fl kvs v = true → fl kvs2 j = true) → (∀ x : Nat, fl kvs0 x = true → fl kvs2 x = true) ∧ (∀ x : Nat, x < v → fl kvs0 x = true → ∀ j : Nat, Adj ths (x : Nat) (j : Nat) → fl kvs2 j = true) ∧ (fl kvs0 v = true → ∀ (i' : Nat) (j : Nat), i' < i + 1 → row[i']? = some ((j : Nat) : Int) → fl kvs2 j = true) := fun kvs2 h1 h2 => by
          refine ⟨fun x hx => h1 _ (hup x hx), fun x hx h0 j' ha => h1 _ (hdn x hx h0 j' ha), fun h0 i' j' hi' hr => ?_⟩
          by_cases c : i' = i
          · subst c
            rw [hrj] at hr
            have : j = j' := by have := Option.some.inj hr; omega
            subst this
            exact h2 (hup v h0)
          · exact h1 _ (hin2 h0 i' j' (by omega) hr)
        refine gN ?_
        dsimp only [List.set]
        have e0 : (0 : Int) + (v : Int) = ((v : Nat) : Int) := Int.zero_add _
        have hgv : DGet H4 d (.int (0 + (v : Int))) (valV kvs (.inl ((v : Nat) : Int))) := by rw [e0]; exact DGet.k (k := .inl ((v : Nat) : Int)) hd
        have hgj : DGet H4 d (.int ((j : Nat) : Int)) (valV kvs (.inl ((j : Nat) : Int))) := DGet.k (k := .inl ((j : Nat) : Int)) hd
        refine ⟨_, rfl, .ref d, rfl, d, _, rfl, hgv, _, rfl, ?_⟩
        by_cases cv : fl kvs v = true
        · have cv' : (valV kvs (.inl ((v : Nat) : Int))).isSome = true := cv
          rw [cv']
          refine iteT ?_
          refine ⟨_, rfl, .ref d, rfl, d, _, rfl, hgj, _, rfl, ?_⟩
          by_cases cj : fl kvs j = true
          · have cj' : (valV kvs (.inl ((j : Nat) : Int))).isSome = true := cj
            rw [cj']
            refine iteF ?_
            exact ⟨_, kvs, rfl, m4, hd, hD, step kvs (fun _ h => h) fun _ => cj⟩
          · have cj2 : fl kvs j = false := Bool.eq_false_iff.mpr cj
            have cj' : (valV kvs (.inl ((j : Nat) : Int))).isSome = false := cj2
            rw [cj']
            refine iteT ?_
            obtain ⟨y, hy⟩ := Option.isSome_iff_exists.mp cv'
            obtain ⟨e, rfl, he⟩ := hD.val v hv y hy
            rw [hy] at hgv
            have lR := hRl v hv
            refine ⟨.ref a, rfl, _, rfl, a, _, _, _, rfl, rfl, m4.tup ha, atI_nat (gx j hxl hj), by show 1 ≤ sizeLine; decide, fun u1 nu1 => ?_⟩
            have k1 := Same.new (o := .tup [.int (xs.getD j 0)]) nu1
            have ne1 : ∀ {H' : Hp}, Same H4 H' → DGet H' d (.int (0 + (v : Int))) (some (.ref e)) := fun m => by
              rw [e0, ← hy]
              exact DGet.k (k := .inl ((v : Nat) : Int)) (m _ _ hd)
            refine ⟨.ref d, rfl, _, rfl, d, _, rfl, ne1 k1, ctA (xs := [.int (xs.getD j 0)]) (SqT.of upd_same) (SqT.of (k1 _ _ he)) (by rw [List.length_map]; show 1 + _ ≤ _; omega) fun x1 H5 m5 h5 => ?_⟩
            have m45 := k1.trans m5
            refine ⟨.ref b, rfl, _, rfl, b, _, _, _, rfl, rfl, (m4.trans m45).tup hb, atI_nat (gx j hyl hj), by show 1 ≤ sizeLine; decide, fun u2 nu2 => ?_⟩
            have k2 := Same.new (o := .tup [.int (ys.getD j 0)]) nu2
            refine ctA (ys := [.int (ys.getD j 0)]) (k2.tup h5) (SqT.of upd_same) (by rw [List.length_append, List.length_map]; show 1 + _ + 1 ≤ _; omega) fun x2 H6 m6 h6 => ?_
            have m46 := (m45.trans k2).trans m6
            refine ⟨x2, [xs.getD j 0] ++ R (v : Nat) ++ [ys.getD j 0], rfl, by rw [List.map_append, List.map_append]; exact h6, by rw [List.length_append, List.length_append]; show 1 + _ + 1 < _; omega, fun p H7 m7 hp => ?_⟩
            have m47 := m46.trans m7
            have hp2 : H7 p = some (.tup ((R (j : Nat)).map V.int)) := by
              rw [hp, hR.2 _ _ hadj]
              rfl
            have hd7 := m47 _ _ hd
            have hD7 := hD.same m47
            have hlen := hD.len
            have hcl := flc_le (n := n) (kvs := kvs)
            refine ⟨.ref d, rfl, _, rfl, d, _, rfl, DPut.k (k := .inl ((j : Nat) : Int)) hd7 (smallLt (by omega)), ?_⟩
            exact ⟨_, _, rfl, (m4.trans m47).mut nd0, upd_same, hD7.put hd7 hj cj2 hp2, step _ (fun x hx => by rw [fl_put, hx, Bool.or_true]) fun _ => by rw [fl_put, decide_eq_true rfl, Bool.true_or]⟩
        · have cv2 : fl kvs v = false := Bool.eq_false_iff.mpr cv
          have cv' : (valV kvs (.inl ((v : Nat) : Int))).isSome = false := cv2
          rw [cv']
          refine iteF (iteF ?_)
          exact ⟨_, kvs, rfl, m4, hd, hD, step kvs (fun _ h => h) fun z => absurd z cv⟩
      · rintro σ H4 ⟨y6, kvs, rfl, m4, hd, hD, hup, hdn, hin2⟩
        refine ⟨_, _, kvs, rfl, m4, hd, hD, hup, fun x hx h0 j ha => ?_⟩
        by_cases c : x = v
        · subst c
          obtain ⟨i', hi', hj'⟩ := List.getElem_of_mem ((hmem _).mpr ha)
          exact hin2 h0 i' j (by rw [List.length_map]; exact hi') (by rw [List.getElem?_eq_getElem hi', hj'])
        · exact hdn x (by omega) h0 j ha
    · rintro σ H3 ⟨y5', y6', kvs, rfl, m3, hd3, hD3, hup, hdn⟩
      refine ⟨_, _, _, kvs, rfl, m3, hd3, hD3, ?_⟩
      have mono := filt_lt (List.range n) (fl kvs0) (fl kvs) fun x _ h => hup x h
      by_cases all : ∃ x ∈ List.range n, fl kvs x = true ∧ fl kvs0 x = false
      · have := mono.2 all
        unfold flc at hc ⊢
        omega
      · have cl : ∀ x c : Int, (0 ≤ x ∧ x < (n : Nat) ∧ fl kvs0 x.toNat = true) → Adj ths x c → (0 ≤ c ∧ c < (n : Nat) ∧ fl kvs0 c.toNat = true) := fun x c hx ha => by
          have hcr := adj_lt hin ha
          refine ⟨hcr.1, hcr.2, ?_⟩
          have hf := hdn x.toNat (by omega) hx.2.2 c.toNat (by rw [show ((x.toNat : Nat) : Int) = x by omega, show ((c.toNat : Nat) : Int) = c by omega]; exact ha)
          cases e : fl kvs0 c.toNat with
          | true => rfl
          | false => exact absurd ⟨c.toNat, List.mem_range.mpr (by omega), hf, e⟩ all
        have full : ∀ p : Nat, p < n → fl kvs0 p = true := fun p hp => by
          have := (hC.from_ hbn (S := fun x : Int => 0 ≤ x ∧ x < (n : Nat) ∧ fl kvs0 x.toNat = true) ⟨by omega, by omega, by rw [Int.toNat_natCast]; exact hD.base⟩ cl p hp).2.2
          rw [Int.toNat_natCast] at this
          exact this
        have : (List.range n).filter (fl kvs0) = List.range n := List.filter_eq_self.mpr fun x hx => full x (List.mem_range.mp hx)
        have h1 := mono.1
        rw [this, List.length_range] at h1
        unfold flc
        omega
  · rintro σ H2 ⟨y4, y5, y6, kvs, rfl, m2, hd, hD, hc⟩
    have hcn : flc n kvs = n := by have := flc_le (n := n) (kvs := kvs); omega
    have full : ∀ p : Nat, p < n → fl kvs p = true := fun p hp => by
      cases e : fl kvs p with
      | true => rfl
      | false =>
        have := (filt_lt (List.range n) (fl kvs) (fun _ => true) fun _ _ _ => rfl).2 ⟨p, List.mem_range.mpr hp, rfl, e⟩
        unfold flc at hcn
        rw [hcn, show (List.range n).filter (fun _ => true) = List.range n from List.filter_eq_self.mpr fun _ _ => rfl, List.length_range] at this
        omega
    refine ⟨.ref a, rfl, a, _, rfl, .inr (m2.tup ha), ((n : Nat) : Int), by rw [List.length_map, hxl], by omega, by omega, fun D nD => ?_⟩
    rw [Int.toNat_natCast]
    refine lc_rd (fun k => .int (0 + (k : Int))) walk_range (fun _ _ _ _ y _ => y) (fun i v H' => ∃ e, v = .ref e ∧ SqT K H' e ((R (i : Nat)).map V.int)) nD (by omega) (fun _ => wipe1) (fun _ _ => trivial) (fun i v Ha Hb s h => h.elim fun e he => ⟨e, he.1, s.tup he.2⟩) (fun i hi H' Q' s h => ?_) (fun us H3 hul hDu s hv => ?_) (fun i v Ha x y h hx => h.elim fun e he => ⟨e, he.1, tup_upd he.2 hx⟩)
    · obtain ⟨y, hy⟩ := Option.isSome_iff_exists.mp (show (valV kvs (.inl ((i : Nat) : Int))).isSome = true from full i hi)
      obtain ⟨e, rfl, he⟩ := hD.val i hi y hy
      have hg : DGet H' d (.int (0 + (i : Int))) (some (.ref e)) := by
        rw [Int.zero_add, ← hy]
        exact DGet.k (k := .inl ((i : Nat) : Int)) (s _ _ hd)
      exact ⟨.ref d, rfl, _, rfl, d, _, rfl, hg, h _ _ (Same.refl _) ⟨e, rfl, SqT.of (s _ _ he)⟩⟩
    · exact q D us H3 (m2.trans s) hDu hul hv
theorem lcp_take : ∀ (k : Nat) (a b : List Int), k ≤ a.length → k ≤ b.length → (a.take k = b.take k ↔ k ≤ lcp a b)
  | 0, a, b, _, _ => by rw [List.take_zero, List.take_zero]; exact ⟨fun _ => Nat.zero_le _, fun _ => rfl⟩
  | k + 1, [], b, h, _ => absurd h (Nat.not_succ_le_zero _)
  | k + 1, x :: a, [], _, h => absurd h (Nat.not_succ_le_zero _)
  | k + 1, x :: a, y :: b, h1, h2 => by
    rw [List.length_cons] at h1 h2
    have ih := lcp_take k a b (by omega) (by omega)
    rw [List.take_succ_cons, List.take_succ_cons]
    by_cases e : x = y
    · rw [lcp_eq e, List.cons.injEq]
      constructor
      · intro h
        have := ih.mp h.2
        omega
      · intro h
        exact ⟨e, ih.mpr (by omega)⟩
    · rw [lcp_ne e, List.cons.injEq]
      exact ⟨fun h => absurd h.1 e, fun h => absurd h (by omega)⟩
theorem lcp_bnd : ∀ a b : List Int, lcp a b ≤ a.length ∧ lcp a b ≤ b.length
  | [], b => ⟨by unfold lcp; exact Nat.zero_le _, by unfold lcp; exact Nat.zero_le _⟩
  | x :: a, [] => ⟨by unfold lcp; exact Nat.zero_le _, by unfold lcp; exact Nat.zero_le _⟩
  | x :: a, y :: b => by
    by_cases e : x = y
    · have := lcp_bnd a b
      rw [lcp_eq e, List.length_cons, List.length_cons]
      omega
    · rw [lcp_ne e]
      exact ⟨Nat.zero_le _, Nat.zero_le _⟩
def sp__law_common (K : PySem.W.Frag) (cs : CS) : Sp := fun vs H Q E => ∃ (a b : Addr) (ns ms : List Int), vs = [.ref a, .ref b] ∧ SqT K H a (ns.map V.int) ∧ SqT K H b (ms.map V.int) ∧ ns.length ≤ 1000 ∧ ms.length ≤ 1000 ∧ ∀ H', Same H H' → Q (.int ((lcp ns ms - 1 : Nat) : Int)) H'
theorem ok__law_common (F : Fun K "_law_common" "_law_common" s__law_common f fd) (T : Txt P w K mg base cs)  : FnOk P w K mg base CX0 1 f fd ["one", "two"] (sp__law_common K cs) := by
  refine F.ok sc__law_common (fun vs H Q E h => ?_) (fun cdv A outer s H vs Q E hr h => ?_)
  · obtain ⟨a, b, ns, ms, rfl, _⟩ := h
    rfl
  obtain ⟨a, b, ns, ms, rfl, ha, hb, hn, hm, q⟩ := h
  refine ⟨_, (pss_cons (ps_set (i := 2) sc__law_common.nd rfl (Or.inl rfl) pe_int)
      (pss_cons (ps_for PassesOwn.never rfl (pi_range1 (by rfl) T.n_range (pa_cons (pe_callB (call_min2 rfl) (by rfl) T.n_min (by decide +kernel) (pa_cons (pe_callB (lenS K) (by rfl) T.n_len PySem.boot_len (pa_cons (pv 0) pa_nil)) (pa_cons (pe_callB (lenS K) (by rfl) T.n_len PySem.boot_len (pa_cons (pv 1) pa_nil)) pa_nil))) pa_nil)) (pg_name (i := 3) sc__law_common.nd rfl (Or.inl rfl)) (pss_one (ps_if (pt_cmpR (eqD K hr.units) (pe_slice (slT K) (pv 0) poN (po_some (pe_op op_add (pv 3) pe_int))) (pe_slice (slT K) (pv 1) poN (po_some (pe_op op_add (pv 3) pe_int))) (nomark _)) (pss_one (ps_set (i := 2) sc__law_common.nd rfl (Or.inl rfl) (pv 3))) pss_nil)))
      (pss_one (ps_ret (pv 2))))), ?_⟩
  refine gN ?_
  dsimp only [L2.start, List.set, List.map, List.cons_append, List.nil_append]
  have hmin : (if ((ms.map V.int).length : Int) < ((ns.map V.int).length : Int) then ((ms.map V.int).length : Int) else ((ns.map V.int).length : Int)) = ((min ns.length ms.length : Nat) : Int) := by
    rw [List.length_map, List.length_map]
    split <;> omega
  refine ⟨.ref a, rfl, a, _, rfl, .inr ha, .ref b, rfl, b, _, rfl, .inr hb, _, _, rfl, ((min ns.length ms.length : Nat) : Int), by rw [hmin], by omega, by omega, ?_⟩
  rw [Int.toNat_natCast]
  refine for_range (n := min ns.length ms.length) (fun i σ H' => (∃ y, σ = [some (.ref a), some (.ref b), some (.int ((min i (lcp ns ms) - 1 : Nat) : Int)), y]) ∧ Same H H') ⟨⟨_, by rw [Nat.zero_min]; rfl⟩, Same.refl _⟩ ?_ ?_
  · rintro i σ H1 hi ⟨⟨y, rfl⟩, s1⟩
    refine gN ?_
    dsimp only [List.set]
    have hi2 : i + 1 ≤ ns.length ∧ i + 1 ≤ ms.length := by omega
    have key := lcp_take (i + 1) ns ms hi2.1 hi2.2
    have ei : (0 : Int) + (i : Int) + 1 = ((i + 1 : Nat) : Int) := by omega
    refine ⟨.ref a, rfl, _, rfl, _, _, rfl, rfl, _, rfl, slA (s1.tup ha) fun x1 H2 m2 h2 => ?_⟩
    rw [ei, cutV_to, ← List.map_take] at h2
    refine ⟨.ref b, rfl, _, rfl, _, _, rfl, rfl, _, rfl, slA ((s1.trans m2).tup hb) fun x2 H3 m3 h3 => ?_⟩
    rw [ei, cutV_to, ← List.map_take] at h3
    refine eqT (m3.tup h2) h3 ⟨_, rfl, ?_⟩
    have s3 := s1.trans (m2.trans m3)
    by_cases c : i + 1 ≤ lcp ns ms
    · refine itT (decide_eq_true (key.mpr c)) ?_
      refine ⟨_, rfl, ?_⟩
      refine gN ?_
      dsimp only [List.set]
      exact ⟨⟨_, by rw [Nat.min_eq_left c, Nat.add_sub_cancel, Int.zero_add]⟩, s3⟩
    · refine itF (decide_eq_false fun z => c (key.mp z)) ?_
      exact ⟨⟨_, by rw [Nat.min_eq_right (by omega), Nat.min_eq_right (by omega)]⟩, s3⟩
  · rintro σ H1 ⟨⟨y, rfl⟩, s1⟩
    have hl := lcp_bnd ns ms
    rw [Nat.min_eq_right (by omega)]
    exact ⟨_, rfl, q _ s1⟩
theorem any_falses : ∀ k : Nat, (List.replicate k false).any id = false
  | 0 => rfl
  | k + 1 => by rw [List.replicate_succ, List.any_cons, any_falses k]; rfl
theorem fk_none {n : Nat} {U W : Int → List Int} (h : ∀ p : Nat, p < n → lcp (U (p : Nat)) (W (p : Nat)) % 2 = 1) : fkL n U W = [] := by
  unfold fkL
  rw [List.filter_eq_nil_iff.mpr fun p hp => ?_]
  · rfl
  · have := h p (List.mem_range.mp hp)
    unfold isFk
    simp only [decide_eq_true_eq]
    omega
theorem self_link {n bs : Nat} {ths : List (Int × Int)} {ps x : List Int} {U : Int → List Int} (hC : Conn n ths) (hbn : bs < n) (hU : Comes n ths ps x x bs U) : ∀ p : Nat, p < n → U (p : Nat) = [x.getD p 0] := fun p hp => by
  have := LinkR.one hC hbn hU.link (R' := fun p => [x.getD p.toNat 0]) ⟨by show [x.getD ((bs : Nat) : Int).toNat 0] = _; rw [Int.toNat_natCast], fun p c ha => by unfold carr; exact (strk_aba _ _).symm⟩ p hp
  rw [this, Int.toNat_natCast]
def sp_law (K : PySem.W.Frag) (cs : CS) : Sp := fun vs H Q E => ∃ (a : Addr) (ns : List Int), vs = [.ref a] ∧ SqL K H a (ns.map V.int) ∧ ns.length ≤ 63 ∧ ∀ H', Q (.bl true) H'
theorem ok_law (F : Fun K "law" "law" s_law f fd) (T : Txt P w K mg base cs) (c_forks : Cal P w K mg base CX0 8 "forks" ["world", "a", "b", "c"] s_forks (sp_forks K cs)) (c__law_pool : Cal P w K mg base CX0 1 "_law_pool" ["script", "k"] s__law_pool (sp__law_pool K cs)) (c__law_standing : Cal P w K mg base CX0 28 "_law_standing" ["source", "beside", "near", "fixed"] s__law_standing (sp__law_standing K cs)) (c__law_made : Cal P w K mg base CX0 6 "_law_made" ["world", "threads"] s__law_made (sp__law_made K cs)) (c__law_three : Cal P w K mg base CX0 30 "_law_three" ["source"] s__law_three (sp__law_three K cs)) (c__law_reach : Cal P w K mg base CX0 2 "_law_reach" ["world", "a"] s__law_reach (sp__law_reach K cs)) (c__law_link : Cal P w K mg base CX0 2 "_law_link" ["world", "a", "b"] s__law_link (sp__law_link K cs)) (c__law_common : Cal P w K mg base CX0 1 "_law_common" ["one", "two"] s__law_common (sp__law_common K cs)) : FnOk P w K mg base CX0 31 f fd ["script"] (sp_law K cs) := by
  refine F.ok sc_law (fun vs H Q E h => ?_) (fun cdv A outer s H vs Q E hr h => ?_)
  · obtain ⟨a, ns, rfl, _⟩ := h
    rfl
  obtain ⟨sc_, ns, rfl, hS, hz63, q⟩ := h
  refine ⟨_, (pss_cons (ps_for PassesOwn.never rfl (pi_range1 (by rfl) T.n_range (pa_cons pe_int pa_nil)) (pg_name (i := 1) sc_law.nd rfl (Or.inl rfl)) (pss_cons (ps_set (i := 2) sc_law.nd rfl (Or.inl rfl) (pe_cal c__law_pool (hr.mono (by decide)) pass0 (pa_cons (pv 0) (pa_cons (pv 1) pa_nil))))
      (pss_cons (ps_asg (pe_cal c__law_three (hr.mono (by decide)) pass0 (pa_cons (pv 2) pa_nil)) (pg_tup rfl (pgs_cons (pg_name (i := 3) sc_law.nd rfl (Or.inr rfl)) (pgs_cons (pg_name (i := 4) sc_law.nd rfl (Or.inl rfl)) (pgs_cons (pg_name (i := 5) sc_law.nd rfl (Or.inl rfl)) pgs_nil)))))
      (pss_cons (ps_asg (pv 5) (pg_lst rfl (pgs_cons (pg_name (i := 6) sc_law.nd rfl (Or.inl rfl)) (pgs_cons (pg_name (i := 7) sc_law.nd rfl (Or.inl rfl)) (pgs_cons (pg_name (i := 8) sc_law.nd rfl (Or.inl rfl)) pgs_nil)))))
      (pss_cons (ps_asg (pe_tup (pa_cons (pe_cal c__law_made (hr.mono (by decide)) pass0 (pa_cons (pv 3) (pa_cons (pv 4) pa_nil))) (pa_cons (pe_cal c__law_link (hr.mono (by decide)) pass0 (pa_cons (pv 3) (pa_cons (pv 6) (pa_cons (pv 7) pa_nil)))) (pa_cons (pe_cal c__law_link (hr.mono (by decide)) pass0 (pa_cons (pv 3) (pa_cons (pv 6) (pa_cons (pv 8) pa_nil)))) pa_nil)))) (pg_tup rfl (pgs_cons (pg_name (i := 9) sc_law.nd rfl (Or.inl rfl)) (pgs_cons (pg_name (i := 10) sc_law.nd rfl (Or.inr rfl)) (pgs_cons (pg_name (i := 11) sc_law.nd rfl (Or.inr rfl)) pgs_nil)))))
      (pss_cons (ps_set (i := 12) sc_law.nd rfl (Or.inr rfl) (pe_lc (own := [("v", 15)]) rfl sc_law.nd (pi_range1 (by rfl) T.n_range (pa_cons (pe_callB (lenS K) (by rfl) T.n_len PySem.boot_len (pa_cons (pv 6) pa_nil)) pa_nil)) (blkOk_by (own := [("v", 15)]) (N := ["script", "turn", "source", "world", "threads", "some", "a", "b", "c", "made", "first", "second", "due", "told", "other", "v", "j"]) (sc := defScope s_law) (by decide +kernel)) (fun _ _ _ _ _ => (pg_name (i := 15) sc_law.nd rfl (Or.inl rfl))) (fun _ _ _ _ _ => (pts_one (pt_cmpR op_eq (pe_op op_mod (pe_callTy call_int1 (by rfl) T.n_int (by decide +kernel) (pa_cons (pe_cal c__law_common (hr.mono (by decide)) pass0 (pa_cons (pe_ix (ixL K) (pv 10) (pv 15) (fun _ _ => rfl)) (pa_cons (pe_ix (ixL K) (pv 11) (pv 15) (fun _ _ => rfl)) pa_nil))) pa_nil)) pe_int) pe_int (nomark _)))) (fun _ _ _ _ _ => (pv 15))))
      (pss_cons (ps_set (i := 13) sc_law.nd rfl (Or.inl rfl) (pe_calK0 c_forks kb_forks_c_b_a_world (hr.mono (by decide)) pass0 (pk_cons (pv 8) (pk_cons (pv 7) (pk_cons (pv 6) (pk_cons (pv 9) pk_nil))))))
      (pss_cons (ps_if (PW.pt (pw_or (pt_cmpR (neD K hr.units) (pv 13) (pe_callTy (tupOf K) (by rfl) T.n_tuple (by decide +kernel) (pa_cons (pv 12) pa_nil)) (nomark _)) (pw_or1 (pt_val (pe_callB (anyL K rfl) (by rfl) T.n_any (by decide +kernel) (pa_cons (pe_lc (own := [("v", 15)]) rfl sc_law.nd (piL K (pv 12)) (blkOk_by (own := [("v", 15)]) (N := ["script", "turn", "source", "world", "threads", "some", "a", "b", "c", "made", "first", "second", "due", "told", "other", "v", "j"]) (sc := defScope s_law) (by decide +kernel)) (fun _ _ _ _ _ => (pg_name (i := 15) sc_law.nd rfl (Or.inl rfl))) (fun _ _ _ _ _ => pts_nil) (fun _ _ _ _ _ => (pe_or (pe_cmpR (inS K) (pv 15) (pe_ix (ixT K) (pv 3) pe_int (fun _ _ => rfl)) rfl) (pe_one (pe_callB (anyL K rfl) (by rfl) T.n_any (by decide +kernel) (pa_cons (pe_lc (own := [("j", 16)]) rfl sc_law.nd (piL K (pe_ix (ixL K) (pe_ix (ixT K) (pv 3) pe_int (fun _ _ => rfl)) (pv 15) (fun _ _ => rfl))) (blkOk_by (own := [("j", 16)]) (N := ["script", "turn", "source", "world", "threads", "some", "a", "b", "c", "made", "first", "second", "due", "told", "other", "v", "j"]) (sc := ({ kind := PySem.ScopeKind.function, names := [ (PySem.Str.ofString ".0", PySem.NameKind.local), (PySem.Str.ofString "v", PySem.NameKind.local), (PySem.Str.ofString "any", PySem.NameKind.globalImplicit), (PySem.Str.ofString "due", PySem.NameKind.cell), (PySem.Str.ofString "world", PySem.NameKind.cell)], isGenerator := false, isCoroutine := false, more := [] : PySem.Scope })) (by decide +kernel)) (fun _ _ _ _ _ => (pg_name (i := 16) sc_law.nd rfl (Or.inl rfl))) (fun _ _ _ _ _ => pts_nil) (fun _ _ _ _ _ => (pe_cmpR (inS K) (pv 16) (pv 12) rfl))) pa_nil)))))) pa_nil)))))) (pss_one (ps_ret pe_bl)) pss_nil)
      (pss_cons (ps_if (PW.pt (pw_or (pt_cmpR (neD K hr.units) (pe_cal c_forks (hr.mono (by decide)) pass0 (pa_cons (pv 9) (pa_cons (pv 6) (pa_cons (pv 7) (pa_cons (pv 7) pa_nil))))) (pe_tup pa_nil) (nomark _)) (pw_or1 (pt_cmpR (neD K hr.units) (pe_cal c_forks (hr.mono (by decide)) pass0 (pa_cons (pv 9) (pa_cons (pv 6) (pa_cons (pv 6) (pa_cons (pv 8) pa_nil))))) (pe_tup pa_nil) (nomark _))))) (pss_one (ps_ret pe_bl)) pss_nil)
      (pss_cons (ps_set (i := 14) sc_law.nd rfl (Or.inl rfl) (pe_cal c__law_standing (hr.mono (by decide)) pass0 (pa_cons (pv 2) (pa_cons (pe_ix (ixT K) (pv 3) pe_int (fun _ _ => rfl)) (pa_cons (pe_ix (ixT K) (pv 3) pe_int (fun _ _ => rfl)) (pa_cons (pe_callTy (dictP K rfl) (by rfl) T.n_dict (by decide +kernel) (pa_cons (pe_lst pa_nil) pa_nil)) pa_nil))))))
      (pss_one (ps_if (PW.pt (pw_and (pt_cmp (pc_dnotin (hu1 hr) (pv 14) (pe_cal c__law_reach (hr.mono (by decide)) pass0 (pa_cons (pv 3) (pa_cons (pv 6) pa_nil))))) (pw_and1 (pt_cmpR (neD K hr.units) (pe_lst (pa_cons (pe_cal c_forks (hr.mono (by decide)) pass0 (pa_cons (pv 9) (pa_cons (pv 6) (pa_cons (pv 14) (pa_cons (pv 8) pa_nil))))) (pa_cons (pe_cal c_forks (hr.mono (by decide)) pass0 (pa_cons (pv 9) (pa_cons (pv 14) (pa_cons (pv 7) (pa_cons (pv 8) pa_nil))))) pa_nil))) (pe_lst (pa_cons pe_non (pa_cons pe_non pa_nil))) (nomark _))))) (pss_one (ps_ret pe_bl)) pss_nil))))))))))))
      (pss_one (ps_ret pe_bl))), ?_⟩
  refine ⟨3, rfl, by decide, by decide, ?_⟩
  refine for_range (n := 3) (fun i σ H' => (∃ y1 y2 y3 y4 y5 y6 y7 y8 y9 y10 y11 y12 y13 y14, σ = [some (.ref sc_), y1, y2, y3, y4, y5, y6, y7, y8, y9, y10, y11, y12, y13, y14, none, none]) ∧ Same H H') ⟨⟨_, _, _, _, _, _, _, _, _, _, _, _, _, _, rfl⟩, Same.refl _⟩ ?_ ?_
  rotate_left
  · rintro σ H1 ⟨⟨y1, y2, y3, y4, y5, y6, y7, y8, y9, y10, y11, y12, y13, y14, rfl⟩, m1⟩
    exact q _
  rintro i σ H1 hi ⟨⟨y1, y2, y3, y4, y5, y6, y7, y8, y9, y10, y11, y12, y13, y14, rfl⟩, m1⟩
  refine ⟨.ref sc_, rfl, .int (0 + (i : Int)), rfl, sc_, ns, _, rfl, m1.seq hS, by omega, by omega, fun p H2 np m2 s2 => ?_⟩
  refine gN ?_
  dsimp only [List.set]
  refine ⟨_, rfl, p, rfl, s2, fun z E a b c wt t l pg d rows nrs n ths ps us xs ys zs H3 hz hE nEp hCW ha hb hc hSx hl1 hl2 s3 e3 => ?_⟩
  refine ⟨z, _, rfl, hz, rfl, _, _, rfl, _, _, rfl, _, _, rfl, rfl, ?_⟩
  dsimp only [List.set]
  have hE3 := hE
  refine ⟨.ref E, rfl, E, _, rfl, SqL.of hE, rfl, _, _, rfl, _, _, rfl, _, _, rfl, rfl, ?_⟩
  dsimp only [List.set]
  have gT := hCW.gT
  have gN_ := hCW.gN
  have hin := gN_.rng
  have n24 := gN_.n24
  have hC := hCW.con
  have hps := hCW.ne
  have m13 : Same H H3 := Same.used m1 np m2 e3
  have hSy := (hl1.kept gT hin hSx).st
  have hSz := (hl2.kept gT hin hSx).st
  obtain ⟨bs, hbs, hbn, hbp⟩ : ∃ bs : Nat, ps.headD 0 = (bs : Nat) ∧ bs < n ∧ ((bs : Nat) : Int) ∈ ps := by
    have hok := hCW.ok
    cases ps with
    | nil => exact absurd rfl hps
    | cons c t =>
      have := (hok 0 c rfl).1
      exact ⟨c.toNat, by show c = _; omega, by omega, by rw [show ((c.toNat : Nat) : Int) = c by omega]; exact List.mem_cons_self⟩
  obtain ⟨M, A, B, C, hZ⟩ := LegsZ.of (bs := bs) gT hin hC hSx hbp hbn hl1 hl2
  have hps0 : ps[0]? = some ((bs : Nat) : Int) := by
    cases ps with
    | nil => exact absurd rfl hps
    | cons c t => rw [← hbs]; rfl
  obtain ⟨U, hU⟩ := hl1.comes gT hin hC hSx hbp hbn
  obtain ⟨W, hW⟩ := hl2.comes gT hin hC hSx hbp hbn
  have eU := hZ.ab hin hC hbp hbn hU
  have eW := hZ.ac hin hC hbp hbn hW
  have hlc : ∀ p : Nat, p < n → lcp (U (p : Nat)) (W (p : Nat)) = (A (p : Nat)).length ∧ 1 ≤ (A (p : Nat)).length := fun p hp => by
    have k := hZ.legs.tri (p : Nat) ⟨by omega, by omega⟩
    rw [eU p hp, eW p hp, k.lcp]
    exact ⟨rfl, k.pos⟩
  have s3' := s3
  refine ⟨_, rfl, _, rfl, wt, t, l, pg, d, rows, nrs, n, ths, ps, us, rfl, hCW.hwt, hCW.tt, gT, hCW.ll.ll, hCW.nr, gN_, hCW.hpg, hCW.ok, hCW.dl, hCW.tps, fun w_ H4 m4 hWB => ?_⟩
  have hCW4 := hCW.same m4
  refine ⟨_, rfl, _, rfl, _, rfl, wt, t, l, pg, a, b, nrs, n, ths, ps, xs, ys, bs, U, rfl, hCW4.hwt, hCW4.ll.ll, hCW4.nr, hin, n24, hC, hps0, hbn, hCW4.hpg, SqT.of (m4 _ _ ha), SqT.of (m4 _ _ hb), hSx.1, hSy.1, hU.link, fun p hp => by have := LinkR.len hin hC hbn hU.link p hp; omega, fun F fs H5 m5 hF hfl hfv => ?_⟩
  have hCW5 := hCW4.same m5
  have m35 := m4.trans m5
  refine ⟨_, rfl, _, rfl, _, rfl, wt, t, l, pg, a, c, nrs, n, ths, ps, xs, zs, bs, W, rfl, hCW5.hwt, hCW5.ll.ll, hCW5.nr, hin, n24, hC, hps0, hbn, hCW5.hpg, SqT.of (m35 _ _ ha), SqT.of (m35 _ _ hc), hSx.1, hSz.1, hW.link, fun p hp => by have := LinkR.len hin hC hbn hW.link p hp; omega, fun G gs H6a m6a hGa hgl hgv => ?_⟩
  refine ⟨by show 3 ≤ sizeLine; decide, fun T nT => ?_⟩
  refine ⟨T, _, rfl, SqT.of upd_same, rfl, _, _, rfl, _, _, rfl, _, _, rfl, rfl, ?_⟩
  dsimp only [List.set]
  have kT := Same.new (o := .tup [.ref w_, .ref F, .ref G]) nT
  have hG := kT _ _ hGa
  have m6 := m6a.trans kT
  have hgv : ∀ (i : Nat) v, gs[i]? = some v → ∃ e, v = .ref e ∧ SqT K (upd H6a T (.tup [.ref w_, .ref F, .ref G])) e ((W (i : Nat)).map V.int) := fun i v hv => (hgv i v hv).elim fun e he => ⟨e, he.1, kT.tup he.2⟩
  have hfv : ∀ (i : Nat) v, fs[i]? = some v → ∃ e, v = .ref e ∧ SqT K (upd H6a T (.tup [.ref w_, .ref F, .ref G])) e ((U (i : Nat)).map V.int) := fun i v hv => (hfv i v hv).elim fun e he => ⟨e, he.1, m6.tup he.2⟩
  clear hGa kT
  generalize upd H6a T (.tup [.ref w_, .ref F, .ref G]) = H6 at *
  clear nT m6a
  have m36 := m35.trans m6
  have m46 := m5.trans m6
  have hF := m6 _ _ hF
  have hWB := hWB.same m46
  have oa := m36 _ _ ha
  have ob := m36 _ _ hb
  have oc := m36 _ _ hc
  have hCW6 := hCW.same m36
  have s6 := m36.src s3
  have mH6 := m13.trans m36
  have base : ∀ H', Exb p H6 H' → Same H H' := fun H' e => Same.used m1 np m2 (e3.trans ((Exb.of m36).trans e))
  clear hz hCW hCW4 hCW5 e3 hS m13 ha hb hc
  -- due
  refine ⟨.ref a, rfl, a, _, rfl, .inr (SqT.of oa), ((n : Nat) : Int), by rw [List.length_map, hSx.1], by omega, by omega, fun D nD => ?_⟩
  rw [Int.toNat_natCast]
  have at1 : ∀ p : Nat, p < n → ∃ e, fs[p]? = some (.ref e) ∧ SqT K H6 e ((U (p : Nat)).map V.int) := fun p hp => by
    have g : fs[p]? = some (fs[p]'(by omega)) := List.getElem?_eq_getElem _
    obtain ⟨e, h1, h2⟩ := hfv p _ g
    exact ⟨e, by rw [g, h1], h2⟩
  have at2 : ∀ p : Nat, p < n → ∃ e, gs[p]? = some (.ref e) ∧ SqT K H6 e ((W (p : Nat)).map V.int) := fun p hp => by
    have g : gs[p]? = some (gs[p]'(by omega)) := List.getElem?_eq_getElem _
    obtain ⟨e, h1, h2⟩ := hgv p _ g
    exact ⟨e, by rw [g, h1], h2⟩
  refine lc_fs ((List.range n).map Int.ofNat) walk_range (by rw [List.length_map, List.length_range]) yRng (fun c => decide ((A c).length % 2 = 0)) V.int nD (by omega) (fun _ => wipe1) (fun _ _ => trivial) (fun c hc H2 Q2 s2 hq => ?_) (fun c _ _ H2 Q2 _ hq => ⟨_, rfl, hq _ (Same.refl _)⟩) (fun H7 hD7 m7 => ?_)
  · obtain ⟨p', hp', rfl⟩ := List.mem_map.mp hc
    have hp' := List.mem_range.mp hp'
    obtain ⟨f1, f2, f3⟩ := at1 p' hp'
    obtain ⟨g1, g2, g3⟩ := at2 p' hp'
    refine ⟨.ref F, rfl, _, rfl, F, _, _, _, rfl, rfl, SqL.of (s2 _ _ hF), atN f2 rfl, .ref G, rfl, _, rfl, G, _, _, _, rfl, rfl, SqL.of (s2 _ _ hG), atN g2 rfl, ?_⟩
    dsimp only [tNil, List.cons_append, List.nil_append]
    refine ⟨f1, g1, U (p' : Nat), W (p' : Nat), rfl, s2.tup f3, s2.tup g3, by have := LinkR.len hin hC hbn hU.link p' hp'; omega, by have := LinkR.len hin hC hbn hW.link p' hp'; omega, fun H3 m3 => ?_⟩
    obtain ⟨k1, k2⟩ := hlc p' hp'
    refine .inl ⟨_, rfl, _, _, rfl, rfl, by show (0 : Int) < 2; decide, rfl, _, rfl, ?_⟩
    have e : decide (V.int ((((lcp (U (p' : Nat)) (W (p' : Nat))) - 1 : Nat) : Int) % 2) = V.int 1) = decide ((A (Int.ofNat p')).length % 2 = 0) := decide_eq_decide.mpr ⟨fun z => by
      have z := V.int.inj z
      rw [k1] at z
      show (A ((p' : Nat) : Int)).length % 2 = 0
      omega, fun z => by
      have z : (A ((p' : Nat) : Int)).length % 2 = 0 := z
      rw [k1]
      congr 1
      omega⟩
    rw [e]
    exact hq _ m3
  have hfkA : (((List.range n).map Int.ofNat).filter fun c => decide ((A c).length % 2 = 0)) = fkA n A := by
    rw [List.filter_map]
    rfl
  rw [hfkA] at hD7
  refine gN ?_
  dsimp only [List.set]
  have hk0 : ∀ c, c ∈ fkA n A → ∃ v : Nat, c = (v : Nat) ∧ v < n ∧ (A (v : Nat)).length % 2 = 0 := fun c hc => by
    unfold fkA at hc
    obtain ⟨v, hv, rfl⟩ := List.mem_map.mp hc
    obtain ⟨h1, h2⟩ := List.mem_filter.mp hv
    exact ⟨v, rfl, List.mem_range.mp h1, of_decide_eq_true h2⟩
  have nopeg : ∀ c, c ∈ fkA n A → c ∉ ps := fun c hc hp => by
    obtain ⟨v, rfl, hv, ev⟩ := hk0 c hc
    rw [(hZ.z _ (peg_frz hp hv)).1] at ev
    cases ev
  have noadj : ∀ c j, c ∈ fkA n A → Adj ths c j → j ∉ fkA n A := fun c j hc ha hj => by
    obtain ⟨v, rfl, hv, ev⟩ := hk0 c hc
    obtain ⟨v2, rfl, hv2, ev2⟩ := hk0 j hj
    rcases hZ.legs.cases hin ha with ⟨_, _, k⟩ | ⟨k, _⟩
    · omega
    · omega
  have hfl24 : (fkA n A).length ≤ 24 := by
    unfold fkA
    rw [List.length_map]
    have := List.length_filter_le (fun p : Nat => decide ((A (p : Nat)).length % 2 = 0)) (List.range n)
    rw [List.length_range] at this
    omega
  refine ⟨_, rfl, _, rfl, _, rfl, _, rfl, ?_⟩
  dsimp only [tNil, List.cons_append, List.nil_append]
  refine ⟨w_, a, b, c, rows, n, ths, ps, xs, ys, zs, bs, rfl, hWB.same m7, gT, hin, gN_.len, n24, hC, hps, hbs, hbn, SqT.of (m7 _ _ oa), SqT.of (m7 _ _ ob), SqT.of (m7 _ _ oc), hSx, hSy, hSz, fun U1 W1 hU1 hW1 y H8 m8 hy => ?_, fun no => absurd hU (no.elim (fun z => z U) fun z => absurd hW (z W))⟩
  rw [legsZ_fkL hin hC hZ hbp hbn hU1 hW1] at hy
  refine gN ?_
  dsimp only [List.set]
  have hD8 := m8 _ _ hD7
  refine ⟨_, rfl, .ref D, rfl, D, _, rfl, .inl ⟨SqL.of hD8, fun t1 nt1 => ?_⟩⟩
  have kt := Same.new (o := .tup ((fkA n A).map V.int)) nt1
  refine neT (kt.tup hy) (SqT.of upd_same) ⟨_, rfl, itF (by simp) ?_⟩
  have m68 := m7.trans (m8.trans kt)
  have hD9 := kt _ _ hD8
  generalize upd H8 t1 (.tup ((fkA n A).map V.int)) = H9 at *
  refine ⟨.ref D, rfl, D, rfl, ⟨_, SqL.of hD9⟩, fun X nX => ?_⟩
  have hCW9 := hCW6.same m68
  obtain ⟨lbs, hlb, hll, hlg⟩ := hCW9.ll.ll
  refine lc_rd (fun k => .int ((fkA n A).getD k 0)) (walk_list (xs := (fkA n A).map V.int)) yInt (fun _ v _ => v = .bl false) nX (by rw [List.length_map]; omega) (fun _ => wipe1) (fun _ s => SqL.of (s _ _ hD9)) (fun _ _ _ _ _ h => h) (fun k hk H' Q' s h => ?_) (fun us2 H10 hul hX m10 hv => ?_) (fun _ _ _ _ _ h _ => h)
  · rw [List.length_map] at hk
    have hc : (fkA n A).getD k 0 ∈ fkA n A := getD_in hk
    have hnp := nopeg _ hc
    have hna := fun j => noadj _ j hc
    obtain ⟨v, ev, hv, _⟩ := hk0 _ hc
    rw [ev] at hnp hna ⊢
    have hvl : v < nrs.length := by rw [hCW9.nr.len]; exact hv
    have hbi : lbs[v]? = some (lbs[v]'(by omega)) := List.getElem?_eq_getElem (by omega)
    have hrow : nrs[v]? = some nrs[v] := List.getElem?_eq_getElem hvl
    have hlv := hlg v _ _ hbi hrow
    have hmem := hCW9.nr.mem v _ hrow
    have hnl : nrs[v].length ≤ n := nodup_len n nrs[v] (asc_nd (hCW9.nr.asc _ (List.mem_of_getElem? hrow))) fun o ho => adj_lt hin ((hmem o).mp ho)
    generalize lbs[v]'(by omega) = lb at hbi hlv
    generalize nrs[v] = row at hrow hlv hmem hnl
    have gl : (lbs.map V.ref)[v]? = some (.ref lb) := by rw [List.getElem?_map, hbi]; rfl
    have at2_ : ([V.ref t, .ref l, .ref pg] : List V)[2]? = some (.ref pg) := rfl
    refine ⟨_, rfl, .ref wt, rfl, wt, _, 2, _, rfl, rfl, s.tup hCW9.hwt, atI_nat at2_, pg, _, rfl, .inr (s.tup hCW9.hpg), rfl, flat_ints _, ?_⟩
    rw [inV_dec, decide_eq_false hnp]
    refine ⟨false, rfl, iteF ?_⟩
    refine ⟨.ref wt, rfl, wt, _, 1, _, rfl, rfl, s.tup hCW9.hwt, atI1, _, rfl, l, _, _, _, rfl, rfl, SqL.of (s _ _ hlb), atN gl rfl, lb, rfl, ⟨_, SqL.of (s _ _ hlv)⟩, fun Y nY => ?_⟩
    refine lc_rd (fun k => .int (row.getD k 0)) (walk_list (xs := row.map V.int)) yInt (fun _ v _ => v = .bl false) nY (by rw [List.length_map]; omega) (fun _ => wipe1) (fun _ s' => SqL.of (s' _ _ (s _ _ hlv))) (fun _ _ _ _ _ h => h) (fun k2 hk2 H'' Q'' s' h' => ?_) (fun us3 HB hul3 hY mB hv3 => ?_) (fun _ _ _ _ _ h _ => h)
    · rw [List.length_map] at hk2
      have hj : row.getD k2 0 ∈ row := getD_in hk2
      refine ⟨_, rfl, .ref D, rfl, D, _, rfl, .inl (SqL.of (s' _ _ (s _ _ hD9))), rfl, flat_ints _, ?_⟩
      rw [inV_dec, decide_eq_false (hna _ ((hmem _).mp hj))]
      exact h' _ _ (Same.refl _) rfl
    · refine ⟨Y, List.replicate us3.length false, rfl, SqL.of (by rw [hY, ← all_bl hv3]), ?_⟩
      rw [any_falses]
      exact h _ _ mB rfl
  refine ⟨X, List.replicate us2.length false, rfl, SqL.of (by rw [hX, ← all_bl hv]), ?_⟩
  rw [any_falses]
  refine ⟨false, rfl, iteF ?_⟩
  dsimp only [tNext]
  have m6A := m68.trans m10
  clear hv hX hul hD9 hD8 hD7 hy hlb hlg hll hCW9
  obtain ⟨S0, hS0⟩ := (Led.refl (rows := rows) (n := n) (ths := ths) (ps := ps) (xs := xs)).comes gT hin hC hSx hbp hbn
  refine ⟨_, rfl, _, rfl, _, rfl, _, rfl, ?_⟩
  dsimp only [tNil, List.cons_append, List.nil_append]
  refine ⟨w_, a, b, b, rows, n, ths, ps, xs, ys, ys, bs, rfl, hWB.same m6A, gT, hin, gN_.len, n24, hC, hps, hbs, hbn, SqT.of (m6A _ _ oa), SqT.of (m6A _ _ ob), SqT.of (m6A _ _ ob), hSx, hSy, hSy, fun U2 W2 hU2 hW2 y2 HA mA hy2 => ?_, fun no => absurd hU (no.elim (fun z => z U) fun z => z U)⟩
  rw [fk_none fun p hp => by
    have k := LkRow.of gT hin hC hSx hSy hbn hU2.base hU2.link p hp
    rw [LinkR.one hC hbn hW2.link hU2.link p hp, lcp_self]
    exact k.odd] at hy2
  refine ⟨Nat.zero_le _, fun t2 nt2 => neT (ms := []) ((Same.new nt2).tup hy2) (SqT.of upd_same) ⟨_, rfl, itF (by simp) ?_⟩⟩
  have m6B := (m6A.trans mA).trans (Same.new (o := .tup []) nt2)
  generalize upd HA t2 (.tup []) = HB at *
  refine ⟨_, rfl, _, rfl, _, rfl, _, rfl, ?_⟩
  dsimp only [tNil, List.cons_append, List.nil_append]
  refine ⟨w_, a, a, c, rows, n, ths, ps, xs, xs, zs, bs, rfl, hWB.same m6B, gT, hin, gN_.len, n24, hC, hps, hbs, hbn, SqT.of (m6B _ _ oa), SqT.of (m6B _ _ oa), SqT.of (m6B _ _ oc), hSx, hSx, hSz, fun U2 W2 hU2 hW2 y3 HC mC hy3 => ?_, fun no => absurd hS0 (no.elim (fun z => z S0) fun z => absurd hW (z W))⟩
  rw [fk_none fun p hp => by
    have k := (LkRow.of gT hin hC hSx hSz hbn hW2.base hW2.link p hp).ends.2.1
    rw [Int.toNat_natCast] at k
    rw [self_link hC hbn hU2 p hp, cons_of_head k, lcp_eq rfl]
    have := (lcp_bnd [] (W2 (p : Nat)).tail).1
    rw [List.length_nil] at this
    omega] at hy3
  refine ⟨Nat.zero_le _, fun t3 nt3 => neT (ms := []) ((Same.new nt3).tup hy3) (SqT.of upd_same) ⟨_, rfl, itF (by simp) ?_⟩⟩
  have m6D := (m6B.trans mC).trans (Same.new (o := .tup []) nt3)
  generalize upd HC t3 (.tup []) = HD at *
  -- another one
  have hCWD := hCW6.same m6D
  have sD := m6D.src s6
  refine ⟨_, rfl, .ref wt, rfl, wt, _, 0, _, rfl, rfl, hCWD.hwt, atI0, .ref wt, rfl, wt, _, 1, _, rfl, rfl, hCWD.hwt, atI1, Nat.zero_le _, fun L nL => ?_⟩
  have kL := Same.new (o := .lst []) nL
  refine ⟨L, [], [], rfl, SqL.of upd_same, .nil, fun fx nfx => ?_⟩
  have kf := Same.new (o := .dK (mergeK [] [])) nfx
  have kk := kL.trans kf
  have hCWE := hCWD.same kk
  have sE := kk.src sD
  have m6E := m6D.trans kk
  refine ⟨p, t, l, fx, rows, n, ths, nrs, [], fun _ => none, rfl, sE, hCWE.tt, gT, hCWE.ll, hCWE.nr, hin, n24, upd_same, ((kL.src sD).ne nfx), fun v => rfl, fun r st HF hr hst _ sF eF => ?_, fun no => absurd (fun v _ c hc => nomatch hc) (no xs hSx)⟩
  have e6F : Exb p H6 HF := (Exb.of m6E).trans eF
  have hWF := wb_exb s6 e6F hWB
  have oaF := ow_exb e6F s6 oa
  have obF := ow_exb e6F s6 ob
  have ocF := ow_exb e6F s6 oc
  have hCWF := hCW6.exb s6 e6F
  refine gN ?_
  dsimp only [List.set]
  refine ⟨.ref r, rfl, _, rfl, _, rfl, ?_⟩
  dsimp only [tNil, List.cons_append, List.nil_append]
  refine ⟨wt, t, l, pg, a, rows, nrs, n, ths, ps, xs, bs, rfl, hCWF.hwt, hCWF.tt, gT, hCWF.ll.ll, hCWF.nr, hin, n24, hC, hbp, hbn, hCWF.hpg, oaF, hSx, hCWF.few, fun D1 k1 ws1 HG mG _ hD1 hF1 hw1 => ?_⟩
  refine ⟨D1, _, rfl, DGet.t (k := kyF st) hD1 (by rw [kyF_val]; exact mG _ _ hr), _, rfl, ?_⟩
  rw [hF1.get]
  by_cases cm : st ∈ ws1
  · rw [decide_eq_true cm]
    refine iteF ?_
    exact ⟨⟨_, _, _, _, _, _, _, _, _, _, _, _, _, _, rfl⟩, base _ (e6F.trans (Exb.of mG))⟩
  rw [decide_eq_false cm]
  refine iteT ?_
  have no1 : ∀ R, ¬ Comes n ths ps xs st bs R := fun R hR => cm ((hw1 st).mpr (hR.led gT hin hC hSx hst hbn))
  have no2 : ∀ R, ¬ Comes n ths ps st ys bs R := fun R hR => cm ((hw1 st).mpr (hl1.trans ((hR.led gT hin hC hst hSy hbn).back gT hin hst)))
  refine ⟨_, rfl, _, rfl, _, rfl, _, rfl, ?_⟩
  dsimp only [tNil, List.cons_append, List.nil_append]
  refine ⟨w_, a, r, c, rows, n, ths, ps, xs, st, zs, bs, rfl, hWF.same mG, gT, hin, gN_.len, n24, hC, hps, hbs, hbn, SqT.of (mG _ _ oaF), SqT.of (mG _ _ hr), SqT.of (mG _ _ ocF), hSx, hst, hSz, fun R _ hR _ => absurd hR (no1 R), fun _ HI mI => ?_⟩
  have mGI := mG.trans mI
  refine ⟨_, rfl, _, rfl, _, rfl, _, rfl, ?_⟩
  dsimp only [tNil, List.cons_append, List.nil_append]
  refine ⟨w_, r, b, c, rows, n, ths, ps, st, ys, zs, bs, rfl, hWF.same mGI, gT, hin, gN_.len, n24, hC, hps, hbs, hbn, SqT.of (mGI _ _ hr), SqT.of (mGI _ _ obF), SqT.of (mGI _ _ ocF), hst, hSy, hSz, fun R _ hR _ => absurd hR (no2 R), fun _ HJ mJ => ?_⟩
  refine ⟨by show 2 ≤ sizeLine; decide, fun L1 nL1 => ⟨by show 2 ≤ sizeLine; decide, fun L3 nL3 => ?_⟩⟩
  have kn := (Same.new (o := .lst [.non, .non]) nL1).trans (Same.new (o := .lst [.non, .non]) nL3)
  refine ⟨_, _, .lst (SqL.of ((Same.new nL3) _ _ upd_same)) (.cons .non (.cons .non .nil)), .lst (SqL.of upd_same) (.cons .non (.cons .non .nil)), rfl, rfl, ?_⟩
  refine ⟨_, rfl, itF (by decide) ?_⟩
  exact ⟨⟨_, _, _, _, _, _, _, _, _, _, _, _, _, _, rfl⟩, base _ (e6F.trans (Exb.of ((mGI.trans mJ).trans kn)))⟩
end
theorem law_start {K : PySem.W.Frag} {cs : CS} {H : Hp} (a : Addr) (ns : List Int) (hl : ns.length ≤ 63) (hS : SqL K H a (ns.map V.int)) : sp_law K cs [.ref a] H (fun v _ => v = .bl true) fun _ _ _ => False := ⟨a, ns, rfl, hS, hl, fun _ => rfl⟩
/-! ### what the top has written -/
theorem all_mk {l : PySem.W.OpenLaw} {w : World} {K : PySem.W.Frag} {h : Heap} {mg : Str → Option Value} {fa : Addr} (X : K.In h) (G : h.Ns mainGlobals mg) (hfa : mg "law" = some (.ref fa))
    {od0 an0 : Option Addr} {sl0 : Array (Option Value)} {oc0 kV0 dc0 pm0 cd0 ct0 : Value} {f0 : Addr}
    {od1 an1 : Option Addr} {sl1 : Array (Option Value)} {oc1 kV1 dc1 pm1 cd1 ct1 : Value} {f1 : Addr}
    {od2 an2 : Option Addr} {sl2 : Array (Option Value)} {oc2 kV2 dc2 pm2 cd2 ct2 : Value} {f2 : Addr}
    {od3 an3 : Option Addr} {sl3 : Array (Option Value)} {oc3 kV3 dc3 pm3 cd3 ct3 : Value} {f3 : Addr}
    {od4 an4 : Option Addr} {sl4 : Array (Option Value)} {oc4 kV4 dc4 pm4 cd4 ct4 : Value} {f4 : Addr}
    {od5 an5 : Option Addr} {sl5 : Array (Option Value)} {oc5 kV5 dc5 pm5 cd5 ct5 : Value} {f5 : Addr}
    {od6 an6 : Option Addr} {sl6 : Array (Option Value)} {oc6 kV6 dc6 pm6 cd6 ct6 : Value} {f6 : Addr}
    {od7 an7 : Option Addr} {sl7 : Array (Option Value)} {oc7 kV7 dc7 pm7 cd7 ct7 : Value} {f7 : Addr}
    {od8 an8 : Option Addr} {sl8 : Array (Option Value)} {oc8 kV8 dc8 pm8 cd8 ct8 : Value} {f8 : Addr}
    {od9 an9 : Option Addr} {sl9 : Array (Option Value)} {oc9 kV9 dc9 pm9 cd9 ct9 : Value} {f9 : Addr}
    {od10 an10 : Option Addr} {sl10 : Array (Option Value)} {oc10 kV10 dc10 pm10 cd10 ct10 : Value} {f10 : Addr}
    {od11 an11 : Option Addr} {sl11 : Array (Option Value)} {oc11 kV11 dc11 pm11 cd11 ct11 : Value} {f11 : Addr}
    {od12 an12 : Option Addr} {sl12 : Array (Option Value)} {oc12 kV12 dc12 pm12 cd12 ct12 : Value} {f12 : Addr}
    {od13 an13 : Option Addr} {sl13 : Array (Option Value)} {oc13 kV13 dc13 pm13 cd13 ct13 : Value} {f13 : Addr}
    {od14 an14 : Option Addr} {sl14 : Array (Option Value)} {oc14 kV14 dc14 pm14 cd14 ct14 : Value} {f14 : Addr}
    {od15 an15 : Option Addr} {sl15 : Array (Option Value)} {oc15 kV15 dc15 pm15 cd15 ct15 : Value} {f15 : Addr}
    {od16 an16 : Option Addr} {sl16 : Array (Option Value)} {oc16 kV16 dc16 pm16 cd16 ct16 : Value} {f16 : Addr}
    {od17 an17 : Option Addr} {sl17 : Array (Option Value)} {oc17 kV17 dc17 pm17 cd17 ct17 : Value} {f17 : Addr}
    {od18 an18 : Option Addr} {sl18 : Array (Option Value)} {oc18 kV18 dc18 pm18 cd18 ct18 : Value} {f18 : Addr}
    {od19 an19 : Option Addr} {sl19 : Array (Option Value)} {oc19 kV19 dc19 pm19 cd19 ct19 : Value} {f19 : Addr}
    {od20 an20 : Option Addr} {sl20 : Array (Option Value)} {oc20 kV20 dc20 pm20 cd20 ct20 : Value} {f20 : Addr}
    {od21 an21 : Option Addr} {sl21 : Array (Option Value)} {oc21 kV21 dc21 pm21 cd21 ct21 : Value} {f21 : Addr}
    {od22 an22 : Option Addr} {sl22 : Array (Option Value)} {oc22 kV22 dc22 pm22 cd22 ct22 : Value} {f22 : Addr}
    {od23 an23 : Option Addr} {sl23 : Array (Option Value)} {oc23 kV23 dc23 pm23 cd23 ct23 : Value} {f23 : Addr}
    {od24 an24 : Option Addr} {sl24 : Array (Option Value)} {oc24 kV24 dc24 pm24 cd24 ct24 : Value} {f24 : Addr}
    {od25 an25 : Option Addr} {sl25 : Array (Option Value)} {oc25 kV25 dc25 pm25 cd25 ct25 : Value} {f25 : Addr}
    {od26 an26 : Option Addr} {sl26 : Array (Option Value)} {oc26 kV26 dc26 pm26 cd26 ct26 : Value} {f26 : Addr}
    {od27 an27 : Option Addr} {sl27 : Array (Option Value)} {oc27 kV27 dc27 pm27 cd27 ct27 : Value} {f27 : Addr}
    {od28 an28 : Option Addr} {sl28 : Array (Option Value)} {oc28 kV28 dc28 pm28 cd28 ct28 : Value} {f28 : Addr}
    {od29 an29 : Option Addr} {sl29 : Array (Option Value)} {oc29 kV29 dc29 pm29 cd29 ct29 : Value} {f29 : Addr}
    {od30 an30 : Option Addr} {sl30 : Array (Option Value)} {oc30 kV30 dc30 pm30 cd30 ct30 : Value} {f30 : Addr}
    {od31 an31 : Option Addr} {sl31 : Array (Option Value)} {oc31 kV31 dc31 pm31 cd31 ct31 : Value} {f31 : Addr}
    {od32 an32 : Option Addr} {sl32 : Array (Option Value)} {oc32 kV32 dc32 pm32 cd32 ct32 : Value} {f32 : Addr}
    {od33 an33 : Option Addr} {sl33 : Array (Option Value)} {oc33 kV33 dc33 pm33 cd33 ct33 : Value} {f33 : Addr}
    {od34 an34 : Option Addr} {sl34 : Array (Option Value)} {oc34 kV34 dc34 pm34 cd34 ct34 : Value} {f34 : Addr}
    {od35 an35 : Option Addr} {sl35 : Array (Option Value)} {oc35 kV35 dc35 pm35 cd35 ct35 : Value} {f35 : Addr}
    {od36 an36 : Option Addr} {sl36 : Array (Option Value)} {oc36 kV36 dc36 pm36 cd36 ct36 : Value} {f36 : Addr}
    {od37 an37 : Option Addr} {sl37 : Array (Option Value)} {oc37 kV37 dc37 pm37 cd37 ct37 : Value} {f37 : Addr}
    {od38 an38 : Option Addr} {sl38 : Array (Option Value)} {oc38 kV38 dc38 pm38 cd38 ct38 : Value} {f38 : Addr}
    {od39 an39 : Option Addr} {sl39 : Array (Option Value)} {oc39 kV39 dc39 pm39 cd39 ct39 : Value} {f39 : Addr}
    {od40 an40 : Option Addr} {sl40 : Array (Option Value)} {oc40 kV40 dc40 pm40 cd40 ct40 : Value} {f40 : Addr}
    {od41 an41 : Option Addr} {sl41 : Array (Option Value)} {oc41 kV41 dc41 pm41 cd41 ct41 : Value} {f41 : Addr}
    {od42 an42 : Option Addr} {sl42 : Array (Option Value)} {oc42 kV42 dc42 pm42 cd42 ct42 : Value} {f42 : Addr}
    {od43 an43 : Option Addr} {sl43 : Array (Option Value)} {oc43 kV43 dc43 pm43 cd43 ct43 : Value} {f43 : Addr}
    {od44 an44 : Option Addr} {sl44 : Array (Option Value)} {oc44 kV44 dc44 pm44 cd44 ct44 : Value} {f44 : Addr}
    {od45 an45 : Option Addr} {sl45 : Array (Option Value)} {oc45 kV45 dc45 pm45 cd45 ct45 : Value} {f45 : Addr}
    {od46 an46 : Option Addr} {sl46 : Array (Option Value)} {oc46 kV46 dc46 pm46 cd46 ct46 : Value} {f46 : Addr}
    {od47 an47 : Option Addr} {sl47 : Array (Option Value)} {oc47 kV47 dc47 pm47 cd47 ct47 : Value} {f47 : Addr}
    {od48 an48 : Option Addr} {sl48 : Array (Option Value)} {oc48 kV48 dc48 pm48 cd48 ct48 : Value} {f48 : Addr}
    {od49 an49 : Option Addr} {sl49 : Array (Option Value)} {oc49 kV49 dc49 pm49 cd49 ct49 : Value} {f49 : Addr}
    {C_Net C_Table C_World C_Refused C_BadSize C_BadStone C_NoPeg : Addr}
    {nm_BadSize q_BadSize : Str} {N_BadSize : Addr} {bs_BadSize bm_BadSize : List Value} {sn_BadSize : List Str} {su_BadSize : List Value} {ab_BadSize : Bool} {co_BadSize : Option Bool} {dd_BadSize : Option Addr} {m0_BadSize m1_BadSize m2_BadSize m3_BadSize m5_BadSize : Option Value}
    {nm_BadStone q_BadStone : Str} {N_BadStone : Addr} {bs_BadStone bm_BadStone : List Value} {sn_BadStone : List Str} {su_BadStone : List Value} {ab_BadStone : Bool} {co_BadStone : Option Bool} {dd_BadStone : Option Addr} {m0_BadStone m1_BadStone m2_BadStone m3_BadStone m5_BadStone : Option Value}
    {nm_NoPeg q_NoPeg : Str} {N_NoPeg : Addr} {bs_NoPeg bm_NoPeg : List Value} {sn_NoPeg : List Str} {su_NoPeg : List Value} {ab_NoPeg : Bool} {co_NoPeg : Option Bool} {dd_NoPeg : Option Addr} {m0_NoPeg m1_NoPeg m2_NoPeg m3_NoPeg m5_NoPeg : Option Value}
    
    (A_Net : PySem.W.nsIn K mainGlobals "Net" = some (some (.ref C_Net)))
    (A_Table : PySem.W.nsIn K mainGlobals "Table" = some (some (.ref C_Table)))
    (A_World : PySem.W.nsIn K mainGlobals "World" = some (some (.ref C_World)))
    (A_Refused : PySem.W.nsIn K mainGlobals "Refused" = some (some (.ref C_Refused)))
    (A_BadSize : PySem.W.nsIn K mainGlobals "BadSize" = some (some (.ref C_BadSize)))
    (A_BadStone : PySem.W.nsIn K mainGlobals "BadStone" = some (some (.ref C_BadStone)))
    (A_NoPeg : PySem.W.nsIn K mainGlobals "NoPeg" = some (some (.ref C_NoPeg)))
    (a0 : PySem.W.findIn K (.ref C_Refused) "__init__" = some (some (.ref f0)))
    (t0 : PySem.W.typeIn K (.ref f0) = some (.type "function"))
    (l0 : K.lookup f0 = some ⟨oc0, od0, .func (PySem.W.fnOf "__init__" "Refused.__init__" (defArgs s_Refused_init) (defBody s_Refused_init) (defScope s_Refused_init) .none kV0 dc0 pm0 an0 cd0 ct0), sl0⟩)
    (c0 : PySem.W.codeIn K cd0 "Refused.__init__" = true)
    (k0 : PySem.W.keepIn K (.ref f0) = true)
    (a1 : PySem.W.findIn K (.ref C_Table) "__init__" = some (some (.ref f1)))
    (t1 : PySem.W.typeIn K (.ref f1) = some (.type "function"))
    (l1 : K.lookup f1 = some ⟨oc1, od1, .func (PySem.W.fnOf "__init__" "Table.__init__" (defArgs s_Table_init) (defBody s_Table_init) (defScope s_Table_init) .none kV1 dc1 pm1 an1 cd1 ct1), sl1⟩)
    (c1 : PySem.W.codeIn K cd1 "Table.__init__" = true)
    (k1 : PySem.W.keepIn K (.ref f1) = true)
    (a2 : PySem.W.findIn K (.ref C_Net) "__init__" = some (some (.ref f2)))
    (t2 : PySem.W.typeIn K (.ref f2) = some (.type "function"))
    (l2 : K.lookup f2 = some ⟨oc2, od2, .func (PySem.W.fnOf "__init__" "Net.__init__" (defArgs s_Net_init) (defBody s_Net_init) (defScope s_Net_init) .none kV2 dc2 pm2 an2 cd2 ct2), sl2⟩)
    (c2 : PySem.W.codeIn K cd2 "Net.__init__" = true)
    (k2 : PySem.W.keepIn K (.ref f2) = true)
    (a3 : PySem.W.findIn K (.ref C_World) "__init__" = some (some (.ref f3)))
    (t3 : PySem.W.typeIn K (.ref f3) = some (.type "function"))
    (l3 : K.lookup f3 = some ⟨oc3, od3, .func (PySem.W.fnOf "__init__" "World.__init__" (defArgs s_World_init) (defBody s_World_init) (defScope s_World_init) .none kV3 dc3 pm3 an3 cd3 ct3), sl3⟩)
    (c3 : PySem.W.codeIn K cd3 "World.__init__" = true)
    (k3 : PySem.W.keepIn K (.ref f3) = true)
    (a4 : PySem.W.nsIn K mainGlobals "is_number" = some (some (.ref f4)))
    (l4 : K.lookup f4 = some ⟨oc4, od4, .func (PySem.W.fnOf "is_number" "is_number" (defArgs s_is_number) (defBody s_is_number) (defScope s_is_number) .none kV4 dc4 pm4 an4 cd4 ct4), sl4⟩)
    (c4 : PySem.W.codeIn K cd4 "is_number" = true)
    (k4 : PySem.W.keepIn K (.ref f4) = true)
    (a5 : PySem.W.nsIn K mainGlobals "are_numbers" = some (some (.ref f5)))
    (l5 : K.lookup f5 = some ⟨oc5, od5, .func (PySem.W.fnOf "are_numbers" "are_numbers" (defArgs s_are_numbers) (defBody s_are_numbers) (defScope s_are_numbers) .none kV5 dc5 pm5 an5 cd5 ct5), sl5⟩)
    (c5 : PySem.W.codeIn K cd5 "are_numbers" = true)
    (k5 : PySem.W.keepIn K (.ref f5) = true)
    (a6 : PySem.W.nsIn K mainGlobals "is_pair" = some (some (.ref f6)))
    (l6 : K.lookup f6 = some ⟨oc6, od6, .func (PySem.W.fnOf "is_pair" "is_pair" (defArgs s_is_pair) (defBody s_is_pair) (defScope s_is_pair) .none kV6 dc6 pm6 an6 cd6 ct6), sl6⟩)
    (c6 : PySem.W.codeIn K cd6 "is_pair" = true)
    (k6 : PySem.W.keepIn K (.ref f6) = true)
    (a7 : PySem.W.nsIn K mainGlobals "climb_fault" = some (some (.ref f7)))
    (l7 : K.lookup f7 = some ⟨oc7, od7, .func (PySem.W.fnOf "climb_fault" "climb_fault" (defArgs s_climb_fault) (defBody s_climb_fault) (defScope s_climb_fault) .none kV7 dc7 pm7 an7 cd7 ct7), sl7⟩)
    (c7 : PySem.W.codeIn K cd7 "climb_fault" = true)
    (k7 : PySem.W.keepIn K (.ref f7) = true)
    (a8 : PySem.W.nsIn K mainGlobals "made_table" = some (some (.ref f8)))
    (l8 : K.lookup f8 = some ⟨oc8, od8, .func (PySem.W.fnOf "made_table" "made_table" (defArgs s_made_table) (defBody s_made_table) (defScope s_made_table) .none kV8 dc8 pm8 an8 cd8 ct8), sl8⟩)
    (c8 : PySem.W.codeIn K cd8 "made_table" = true)
    (k8 : PySem.W.keepIn K (.ref f8) = true)
    (a9 : PySem.W.nsIn K mainGlobals "is_thread" = some (some (.ref f9)))
    (l9 : K.lookup f9 = some ⟨oc9, od9, .func (PySem.W.fnOf "is_thread" "is_thread" (defArgs s_is_thread) (defBody s_is_thread) (defScope s_is_thread) .none kV9 dc9 pm9 an9 cd9 ct9), sl9⟩)
    (c9 : PySem.W.codeIn K cd9 "is_thread" = true)
    (k9 : PySem.W.keepIn K (.ref f9) = true)
    (a10 : PySem.W.nsIn K mainGlobals "come_to" = some (some (.ref f10)))
    (l10 : K.lookup f10 = some ⟨oc10, od10, .func (PySem.W.fnOf "come_to" "come_to" (defArgs s_come_to) (defBody s_come_to) (defScope s_come_to) .none kV10 dc10 pm10 an10 cd10 ct10), sl10⟩)
    (c10 : PySem.W.codeIn K cd10 "come_to" = true)
    (k10 : PySem.W.keepIn K (.ref f10) = true)
    (a11 : PySem.W.nsIn K mainGlobals "made_net" = some (some (.ref f11)))
    (l11 : K.lookup f11 = some ⟨oc11, od11, .func (PySem.W.fnOf "made_net" "made_net" (defArgs s_made_net) (defBody s_made_net) (defScope s_made_net) .none kV11 dc11 pm11 an11 cd11 ct11), sl11⟩)
    (c11 : PySem.W.codeIn K cd11 "made_net" = true)
    (k11 : PySem.W.keepIn K (.ref f11) = true)
    (a12 : PySem.W.nsIn K mainGlobals "made_world" = some (some (.ref f12)))
    (l12 : K.lookup f12 = some ⟨oc12, od12, .func (PySem.W.fnOf "made_world" "made_world" (defArgs s_made_world) (defBody s_made_world) (defScope s_made_world) .none kV12 dc12 pm12 an12 cd12 ct12), sl12⟩)
    (c12 : PySem.W.codeIn K cd12 "made_world" = true)
    (k12 : PySem.W.keepIn K (.ref f12) = true)
    (a13 : PySem.W.nsIn K mainGlobals "check_pegged" = some (some (.ref f13)))
    (l13 : K.lookup f13 = some ⟨oc13, od13, .func (PySem.W.fnOf "check_pegged" "check_pegged" (defArgs s_check_pegged) (defBody s_check_pegged) (defScope s_check_pegged) .none kV13 dc13 pm13 an13 cd13 ct13), sl13⟩)
    (c13 : PySem.W.codeIn K cd13 "check_pegged" = true)
    (k13 : PySem.W.keepIn K (.ref f13) = true)
    (a14 : PySem.W.nsIn K mainGlobals "stone_fits" = some (some (.ref f14)))
    (l14 : K.lookup f14 = some ⟨oc14, od14, .func (PySem.W.fnOf "stone_fits" "stone_fits" (defArgs s_stone_fits) (defBody s_stone_fits) (defScope s_stone_fits) .none kV14 dc14 pm14 an14 cd14 ct14), sl14⟩)
    (c14 : PySem.W.codeIn K cd14 "stone_fits" = true)
    (k14 : PySem.W.keepIn K (.ref f14) = true)
    (a15 : PySem.W.nsIn K mainGlobals "check_standing" = some (some (.ref f15)))
    (l15 : K.lookup f15 = some ⟨oc15, od15, .func (PySem.W.fnOf "check_standing" "check_standing" (defArgs s_check_standing) (defBody s_check_standing) (defScope s_check_standing) .none kV15 dc15 pm15 an15 cd15 ct15), sl15⟩)
    (c15 : PySem.W.codeIn K cd15 "check_standing" = true)
    (k15 : PySem.W.keepIn K (.ref f15) = true)
    (a16 : PySem.W.nsIn K mainGlobals "is_held" = some (some (.ref f16)))
    (l16 : K.lookup f16 = some ⟨oc16, od16, .func (PySem.W.fnOf "is_held" "is_held" (defArgs s_is_held) (defBody s_is_held) (defScope s_is_held) .none kV16 dc16 pm16 an16 cd16 ct16), sl16⟩)
    (c16 : PySem.W.codeIn K cd16 "is_held" = true)
    (k16 : PySem.W.keepIn K (.ref f16) = true)
    (a17 : PySem.W.nsIn K mainGlobals "frozen_places" = some (some (.ref f17)))
    (l17 : K.lookup f17 = some ⟨oc17, od17, .func (PySem.W.fnOf "frozen_places" "frozen_places" (defArgs s_frozen_places) (defBody s_frozen_places) (defScope s_frozen_places) .none kV17 dc17 pm17 an17 cd17 ct17), sl17⟩)
    (c17 : PySem.W.codeIn K cd17 "frozen_places" = true)
    (k17 : PySem.W.keepIn K (.ref f17) = true)
    (a18 : PySem.W.nsIn K mainGlobals "struck" = some (some (.ref f18)))
    (l18 : K.lookup f18 = some ⟨oc18, od18, .func (PySem.W.fnOf "struck" "struck" (defArgs s_struck) (defBody s_struck) (defScope s_struck) .none kV18 dc18 pm18 an18 cd18 ct18), sl18⟩)
    (c18 : PySem.W.codeIn K cd18 "struck" = true)
    (k18 : PySem.W.keepIn K (.ref f18) = true)
    (a19 : PySem.W.nsIn K mainGlobals "carried" = some (some (.ref f19)))
    (l19 : K.lookup f19 = some ⟨oc19, od19, .func (PySem.W.fnOf "carried" "carried" (defArgs s_carried) (defBody s_carried) (defScope s_carried) .none kV19 dc19 pm19 an19 cd19 ct19), sl19⟩)
    (c19 : PySem.W.codeIn K cd19 "carried" = true)
    (k19 : PySem.W.keepIn K (.ref f19) = true)
    (a20 : PySem.W.nsIn K mainGlobals "rows_fit" = some (some (.ref f20)))
    (l20 : K.lookup f20 = some ⟨oc20, od20, .func (PySem.W.fnOf "rows_fit" "rows_fit" (defArgs s_rows_fit) (defBody s_rows_fit) (defScope s_rows_fit) .none kV20 dc20 pm20 an20 cd20 ct20), sl20⟩)
    (c20 : PySem.W.codeIn K cd20 "rows_fit" = true)
    (k20 : PySem.W.keepIn K (.ref f20) = true)
    (a21 : PySem.W.nsIn K mainGlobals "link_of" = some (some (.ref f21)))
    (l21 : K.lookup f21 = some ⟨oc21, od21, .func (PySem.W.fnOf "link_of" "link_of" (defArgs s_link_of) (defBody s_link_of) (defScope s_link_of) .none kV21 dc21 pm21 an21 cd21 ct21), sl21⟩)
    (c21 : PySem.W.codeIn K cd21 "link_of" = true)
    (k21 : PySem.W.keepIn K (.ref f21) = true)
    (a22 : PySem.W.nsIn K mainGlobals "base_link" = some (some (.ref f22)))
    (l22 : K.lookup f22 = some ⟨oc22, od22, .func (PySem.W.fnOf "base_link" "base_link" (defArgs s_base_link) (defBody s_base_link) (defScope s_base_link) .none kV22 dc22 pm22 an22 cd22 ct22), sl22⟩)
    (c22 : PySem.W.codeIn K cd22 "base_link" = true)
    (k22 : PySem.W.keepIn K (.ref f22) = true)
    (a23 : PySem.W.nsIn K mainGlobals "check_standings" = some (some (.ref f23)))
    (l23 : K.lookup f23 = some ⟨oc23, od23, .func (PySem.W.fnOf "check_standings" "check_standings" (defArgs s_check_standings) (defBody s_check_standings) (defScope s_check_standings) .none kV23 dc23 pm23 an23 cd23 ct23), sl23⟩)
    (c23 : PySem.W.codeIn K cd23 "check_standings" = true)
    (k23 : PySem.W.keepIn K (.ref f23) = true)
    (a24 : PySem.W.nsIn K mainGlobals "held_back" = some (some (.ref f24)))
    (l24 : K.lookup f24 = some ⟨oc24, od24, .func (PySem.W.fnOf "held_back" "held_back" (defArgs s_held_back) (defBody s_held_back) (defScope s_held_back) .none kV24 dc24 pm24 an24 cd24 ct24), sl24⟩)
    (c24 : PySem.W.codeIn K cd24 "held_back" = true)
    (k24 : PySem.W.keepIn K (.ref f24) = true)
    (a25 : PySem.W.nsIn K mainGlobals "right_link" = some (some (.ref f25)))
    (l25 : K.lookup f25 = some ⟨oc25, od25, .func (PySem.W.fnOf "right_link" "right_link" (defArgs s_right_link) (defBody s_right_link) (defScope s_right_link) .none kV25 dc25 pm25 an25 cd25 ct25), sl25⟩)
    (c25 : PySem.W.codeIn K cd25 "right_link" = true)
    (k25 : PySem.W.keepIn K (.ref f25) = true)
    (a26 : PySem.W.nsIn K mainGlobals "two_links" = some (some (.ref f26)))
    (l26 : K.lookup f26 = some ⟨oc26, od26, .func (PySem.W.fnOf "two_links" "two_links" (defArgs s_two_links) (defBody s_two_links) (defScope s_two_links) .none kV26 dc26 pm26 an26 cd26 ct26), sl26⟩)
    (c26 : PySem.W.codeIn K cd26 "two_links" = true)
    (k26 : PySem.W.keepIn K (.ref f26) = true)
    (a27 : PySem.W.nsIn K mainGlobals "common_steps" = some (some (.ref f27)))
    (l27 : K.lookup f27 = some ⟨oc27, od27, .func (PySem.W.fnOf "common_steps" "common_steps" (defArgs s_common_steps) (defBody s_common_steps) (defScope s_common_steps) .none kV27 dc27 pm27 an27 cd27 ct27), sl27⟩)
    (c27 : PySem.W.codeIn K cd27 "common_steps" = true)
    (k27 : PySem.W.keepIn K (.ref f27) = true)
    (a28 : PySem.W.nsIn K mainGlobals "fork_places" = some (some (.ref f28)))
    (l28 : K.lookup f28 = some ⟨oc28, od28, .func (PySem.W.fnOf "fork_places" "fork_places" (defArgs s_fork_places) (defBody s_fork_places) (defScope s_fork_places) .none kV28 dc28 pm28 an28 cd28 ct28), sl28⟩)
    (c28 : PySem.W.codeIn K cd28 "fork_places" = true)
    (k28 : PySem.W.keepIn K (.ref f28) = true)
    (a29 : PySem.W.nsIn K mainGlobals "forks" = some (some (.ref f29)))
    (l29 : K.lookup f29 = some ⟨oc29, od29, .func (PySem.W.fnOf "forks" "forks" (defArgs s_forks) (defBody s_forks) (defScope s_forks) .none kV29 dc29 pm29 an29 cd29 ct29), sl29⟩)
    (c29 : PySem.W.codeIn K cd29 "forks" = true)
    (k29 : PySem.W.keepIn K (.ref f29) = true)
    (a30 : PySem.W.nsIn K mainGlobals "_law_pool" = some (some (.ref f30)))
    (l30 : K.lookup f30 = some ⟨oc30, od30, .func (PySem.W.fnOf "_law_pool" "_law_pool" (defArgs s__law_pool) (defBody s__law_pool) (defScope s__law_pool) .none kV30 dc30 pm30 an30 cd30 ct30), sl30⟩)
    (c30 : PySem.W.codeIn K cd30 "_law_pool" = true)
    (k30 : PySem.W.keepIn K (.ref f30) = true)
    (a31 : PySem.W.nsIn K mainGlobals "_law_take" = some (some (.ref f31)))
    (l31 : K.lookup f31 = some ⟨oc31, od31, .func (PySem.W.fnOf "_law_take" "_law_take" (defArgs s__law_take) (defBody s__law_take) (defScope s__law_take) .none kV31 dc31 pm31 an31 cd31 ct31), sl31⟩)
    (c31 : PySem.W.codeIn K cd31 "_law_take" = true)
    (k31 : PySem.W.keepIn K (.ref f31) = true)
    (a32 : PySem.W.nsIn K mainGlobals "_law_one" = some (some (.ref f32)))
    (l32 : K.lookup f32 = some ⟨oc32, od32, .func (PySem.W.fnOf "_law_one" "_law_one" (defArgs s__law_one) (defBody s__law_one) (defScope s__law_one) .none kV32 dc32 pm32 an32 cd32 ct32), sl32⟩)
    (c32 : PySem.W.codeIn K cd32 "_law_one" = true)
    (k32 : PySem.W.keepIn K (.ref f32) = true)
    (a33 : PySem.W.nsIn K mainGlobals "_law_beside" = some (some (.ref f33)))
    (l33 : K.lookup f33 = some ⟨oc33, od33, .func (PySem.W.fnOf "_law_beside" "_law_beside" (defArgs s__law_beside) (defBody s__law_beside) (defScope s__law_beside) .none kV33 dc33 pm33 an33 cd33 ct33), sl33⟩)
    (c33 : PySem.W.codeIn K cd33 "_law_beside" = true)
    (k33 : PySem.W.keepIn K (.ref f33) = true)
    (a34 : PySem.W.nsIn K mainGlobals "_law_threads" = some (some (.ref f34)))
    (l34 : K.lookup f34 = some ⟨oc34, od34, .func (PySem.W.fnOf "_law_threads" "_law_threads" (defArgs s__law_threads) (defBody s__law_threads) (defScope s__law_threads) .none kV34 dc34 pm34 an34 cd34 ct34), sl34⟩)
    (c34 : PySem.W.codeIn K cd34 "_law_threads" = true)
    (k34 : PySem.W.keepIn K (.ref f34) = true)
    (a35 : PySem.W.nsIn K mainGlobals "_law_near" = some (some (.ref f35)))
    (l35 : K.lookup f35 = some ⟨oc35, od35, .func (PySem.W.fnOf "_law_near" "_law_near" (defArgs s__law_near) (defBody s__law_near) (defScope s__law_near) .none kV35 dc35 pm35 an35 cd35 ct35), sl35⟩)
    (c35 : PySem.W.codeIn K cd35 "_law_near" = true)
    (k35 : PySem.W.keepIn K (.ref f35) = true)
    (a36 : PySem.W.nsIn K mainGlobals "_law_fill" = some (some (.ref f36)))
    (l36 : K.lookup f36 = some ⟨oc36, od36, .func (PySem.W.fnOf "_law_fill" "_law_fill" (defArgs s__law_fill) (defBody s__law_fill) (defScope s__law_fill) .none kV36 dc36 pm36 an36 cd36 ct36), sl36⟩)
    (c36 : PySem.W.codeIn K cd36 "_law_fill" = true)
    (k36 : PySem.W.keepIn K (.ref f36) = true)
    (a37 : PySem.W.nsIn K mainGlobals "_law_standing" = some (some (.ref f37)))
    (l37 : K.lookup f37 = some ⟨oc37, od37, .func (PySem.W.fnOf "_law_standing" "_law_standing" (defArgs s__law_standing) (defBody s__law_standing) (defScope s__law_standing) .none kV37 dc37 pm37 an37 cd37 ct37), sl37⟩)
    (c37 : PySem.W.codeIn K cd37 "_law_standing" = true)
    (k37 : PySem.W.keepIn K (.ref f37) = true)
    (a38 : PySem.W.nsIn K mainGlobals "_law_pegs" = some (some (.ref f38)))
    (l38 : K.lookup f38 = some ⟨oc38, od38, .func (PySem.W.fnOf "_law_pegs" "_law_pegs" (defArgs s__law_pegs) (defBody s__law_pegs) (defScope s__law_pegs) .none kV38 dc38 pm38 an38 cd38 ct38), sl38⟩)
    (c38 : PySem.W.codeIn K cd38 "_law_pegs" = true)
    (k38 : PySem.W.keepIn K (.ref f38) = true)
    (a39 : PySem.W.nsIn K mainGlobals "_law_lets" = some (some (.ref f39)))
    (l39 : K.lookup f39 = some ⟨oc39, od39, .func (PySem.W.fnOf "_law_lets" "_law_lets" (defArgs s__law_lets) (defBody s__law_lets) (defScope s__law_lets) .none kV39 dc39 pm39 an39 cd39 ct39), sl39⟩)
    (c39 : PySem.W.codeIn K cd39 "_law_lets" = true)
    (k39 : PySem.W.keepIn K (.ref f39) = true)
    (a40 : PySem.W.nsIn K mainGlobals "_law_put" = some (some (.ref f40)))
    (l40 : K.lookup f40 = some ⟨oc40, od40, .func (PySem.W.fnOf "_law_put" "_law_put" (defArgs s__law_put) (defBody s__law_put) (defScope s__law_put) .none kV40 dc40 pm40 an40 cd40 ct40), sl40⟩)
    (c40 : PySem.W.codeIn K cd40 "_law_put" = true)
    (k40 : PySem.W.keepIn K (.ref f40) = true)
    (a41 : PySem.W.nsIn K mainGlobals "_law_led" = some (some (.ref f41)))
    (l41 : K.lookup f41 = some ⟨oc41, od41, .func (PySem.W.fnOf "_law_led" "_law_led" (defArgs s__law_led) (defBody s__law_led) (defScope s__law_led) .none kV41 dc41 pm41 an41 cd41 ct41), sl41⟩)
    (c41 : PySem.W.codeIn K cd41 "_law_led" = true)
    (k41 : PySem.W.keepIn K (.ref f41) = true)
    (a42 : PySem.W.nsIn K mainGlobals "_law_made" = some (some (.ref f42)))
    (l42 : K.lookup f42 = some ⟨oc42, od42, .func (PySem.W.fnOf "_law_made" "_law_made" (defArgs s__law_made) (defBody s__law_made) (defScope s__law_made) .none kV42 dc42 pm42 an42 cd42 ct42), sl42⟩)
    (c42 : PySem.W.codeIn K cd42 "_law_made" = true)
    (k42 : PySem.W.keepIn K (.ref f42) = true)
    (a43 : PySem.W.nsIn K mainGlobals "_law_fork_world" = some (some (.ref f43)))
    (l43 : K.lookup f43 = some ⟨oc43, od43, .func (PySem.W.fnOf "_law_fork_world" "_law_fork_world" (defArgs s__law_fork_world) (defBody s__law_fork_world) (defScope s__law_fork_world) .none kV43 dc43 pm43 an43 cd43 ct43), sl43⟩)
    (c43 : PySem.W.codeIn K cd43 "_law_fork_world" = true)
    (k43 : PySem.W.keepIn K (.ref f43) = true)
    (a44 : PySem.W.nsIn K mainGlobals "_law_three" = some (some (.ref f44)))
    (l44 : K.lookup f44 = some ⟨oc44, od44, .func (PySem.W.fnOf "_law_three" "_law_three" (defArgs s__law_three) (defBody s__law_three) (defScope s__law_three) .none kV44 dc44 pm44 an44 cd44 ct44), sl44⟩)
    (c44 : PySem.W.codeIn K cd44 "_law_three" = true)
    (k44 : PySem.W.keepIn K (.ref f44) = true)
    (a45 : PySem.W.nsIn K mainGlobals "_law_reach" = some (some (.ref f45)))
    (l45 : K.lookup f45 = some ⟨oc45, od45, .func (PySem.W.fnOf "_law_reach" "_law_reach" (defArgs s__law_reach) (defBody s__law_reach) (defScope s__law_reach) .none kV45 dc45 pm45 an45 cd45 ct45), sl45⟩)
    (c45 : PySem.W.codeIn K cd45 "_law_reach" = true)
    (k45 : PySem.W.keepIn K (.ref f45) = true)
    (a46 : PySem.W.nsIn K mainGlobals "_law_rest" = some (some (.ref f46)))
    (l46 : K.lookup f46 = some ⟨oc46, od46, .func (PySem.W.fnOf "_law_rest" "_law_rest" (defArgs s__law_rest) (defBody s__law_rest) (defScope s__law_rest) .none kV46 dc46 pm46 an46 cd46 ct46), sl46⟩)
    (c46 : PySem.W.codeIn K cd46 "_law_rest" = true)
    (k46 : PySem.W.keepIn K (.ref f46) = true)
    (a47 : PySem.W.nsIn K mainGlobals "_law_link" = some (some (.ref f47)))
    (l47 : K.lookup f47 = some ⟨oc47, od47, .func (PySem.W.fnOf "_law_link" "_law_link" (defArgs s__law_link) (defBody s__law_link) (defScope s__law_link) .none kV47 dc47 pm47 an47 cd47 ct47), sl47⟩)
    (c47 : PySem.W.codeIn K cd47 "_law_link" = true)
    (k47 : PySem.W.keepIn K (.ref f47) = true)
    (a48 : PySem.W.nsIn K mainGlobals "_law_common" = some (some (.ref f48)))
    (l48 : K.lookup f48 = some ⟨oc48, od48, .func (PySem.W.fnOf "_law_common" "_law_common" (defArgs s__law_common) (defBody s__law_common) (defScope s__law_common) .none kV48 dc48 pm48 an48 cd48 ct48), sl48⟩)
    (c48 : PySem.W.codeIn K cd48 "_law_common" = true)
    (k48 : PySem.W.keepIn K (.ref f48) = true)
    (a49 : PySem.W.nsIn K mainGlobals "law" = some (some (.ref f49)))
    (l49 : K.lookup f49 = some ⟨oc49, od49, .func (PySem.W.fnOf "law" "law" (defArgs s_law) (defBody s_law) (defScope s_law) .none kV49 dc49 pm49 an49 cd49 ct49), sl49⟩)
    (c49 : PySem.W.codeIn K cd49 "law" = true)
    (k49 : PySem.W.keepIn K (.ref f49) = true)
    (P1_Net : PySem.W.plainGet K C_Net Str.empty = true)
    (P2_Net : PySem.W.hasDictIn K C_Net = true)
    (P3_Net : PySem.W.plainOver K C_Net = true)
    (P4_Net : PySem.W.findIn K (.ref C_Net) "__setattr__" = some (some (.builtin "object.__setattr__")))
    (PN_Net_many : PySem.W.findIn K (.ref C_Net) "many" = some none)
    (PN_Net_threads : PySem.W.findIn K (.ref C_Net) "threads" = some none)
    (PN_Net_near : PySem.W.findIn K (.ref C_Net) "near" = some none)
    (M1_Net : PySem.W.makesIn K C_Net = true)
    (M3_Net : PySem.W.isFn K (.ref f2) = true)
    (M4_Net : PySem.W.keepIn K (.ref C_Net) = true)
    (P1_Table : PySem.W.plainGet K C_Table Str.empty = true)
    (P2_Table : PySem.W.hasDictIn K C_Table = true)
    (P3_Table : PySem.W.plainOver K C_Table = true)
    (P4_Table : PySem.W.findIn K (.ref C_Table) "__setattr__" = some (some (.builtin "object.__setattr__")))
    (PN_Table_many : PySem.W.findIn K (.ref C_Table) "many" = some none)
    (PN_Table_beside : PySem.W.findIn K (.ref C_Table) "beside" = some none)
    (M1_Table : PySem.W.makesIn K C_Table = true)
    (M3_Table : PySem.W.isFn K (.ref f1) = true)
    (M4_Table : PySem.W.keepIn K (.ref C_Table) = true)
    (P1_World : PySem.W.plainGet K C_World Str.empty = true)
    (P2_World : PySem.W.hasDictIn K C_World = true)
    (P3_World : PySem.W.plainOver K C_World = true)
    (P4_World : PySem.W.findIn K (.ref C_World) "__setattr__" = some (some (.builtin "object.__setattr__")))
    (PN_World_table : PySem.W.findIn K (.ref C_World) "table" = some none)
    (PN_World_net : PySem.W.findIn K (.ref C_World) "net" = some none)
    (PN_World_pegs : PySem.W.findIn K (.ref C_World) "pegs" = some none)
    (PN_World_base : PySem.W.findIn K (.ref C_World) "base" = some none)
    (M1_World : PySem.W.makesIn K C_World = true)
    (M3_World : PySem.W.isFn K (.ref f3) = true)
    (M4_World : PySem.W.keepIn K (.ref C_World) = true)
    (E1_BadSize : K.lookup C_BadSize = some (excClassObj nm_BadSize q_BadSize C_BadSize N_BadSize bs_BadSize bm_BadSize true sn_BadSize su_BadSize ab_BadSize co_BadSize dd_BadSize m0_BadSize m1_BadSize m2_BadSize m3_BadSize m5_BadSize "ValueError.__new__"))
    (E4_BadSize : PySem.W.subIn K (.ref C_BadSize) (.type "BaseException") = some true)
    (E5_BadSize : PySem.W.typeIn K (.ref C_BadSize) = some (.type "type"))
    (E9_BadSize : PySem.W.hasDictIn K C_BadSize = true)
    (E2_BadSize : HandSPX.refsVE bm_BadSize = true)
    (E3_BadSize : PySem.W.findIn K (.ref C_BadSize) "__setattr__" = some (some (.builtin "object.__setattr__")))
    (E6_BadSize : PySem.W.keepIn K (.ref C_BadSize) = true)
    (E7_BadSize : PySem.W.findIn K (.ref C_BadSize) "__getattribute__" = some (some (.builtin "BaseException.__getattribute__")))
    (E8_BadSize : PySem.W.findIn K (.ref C_BadSize) "__getattr__" = some none)
    (EA_BadSize : (PySem.W.clsIn K C_BadSize).isSome = true)
    (EB_BadSize : PySem.W.findIn K (.ref C_BadSize) "__class__" = some (some (.builtin "object.__class__")))
    (EC_BadSize : PySem.W.mroIn K C_BadSize (.type "object") = some true)
    (ED_BadSize : PySem.W.findIn K (.ref C_BadSize) "what" = some none)
    (EI_BadSize : PySem.W.findIn K (.ref C_BadSize) "__init__" = some (some (.ref f0)))
    (E1_BadStone : K.lookup C_BadStone = some (excClassObj nm_BadStone q_BadStone C_BadStone N_BadStone bs_BadStone bm_BadStone true sn_BadStone su_BadStone ab_BadStone co_BadStone dd_BadStone m0_BadStone m1_BadStone m2_BadStone m3_BadStone m5_BadStone "ValueError.__new__"))
    (E4_BadStone : PySem.W.subIn K (.ref C_BadStone) (.type "BaseException") = some true)
    (E5_BadStone : PySem.W.typeIn K (.ref C_BadStone) = some (.type "type"))
    (E9_BadStone : PySem.W.hasDictIn K C_BadStone = true)
    (E2_BadStone : HandSPX.refsVE bm_BadStone = true)
    (E3_BadStone : PySem.W.findIn K (.ref C_BadStone) "__setattr__" = some (some (.builtin "object.__setattr__")))
    (E6_BadStone : PySem.W.keepIn K (.ref C_BadStone) = true)
    (E7_BadStone : PySem.W.findIn K (.ref C_BadStone) "__getattribute__" = some (some (.builtin "BaseException.__getattribute__")))
    (E8_BadStone : PySem.W.findIn K (.ref C_BadStone) "__getattr__" = some none)
    (EA_BadStone : (PySem.W.clsIn K C_BadStone).isSome = true)
    (EB_BadStone : PySem.W.findIn K (.ref C_BadStone) "__class__" = some (some (.builtin "object.__class__")))
    (EC_BadStone : PySem.W.mroIn K C_BadStone (.type "object") = some true)
    (ED_BadStone : PySem.W.findIn K (.ref C_BadStone) "what" = some none)
    (EI_BadStone : PySem.W.findIn K (.ref C_BadStone) "__init__" = some (some (.ref f0)))
    (E1_NoPeg : K.lookup C_NoPeg = some (excClassObj nm_NoPeg q_NoPeg C_NoPeg N_NoPeg bs_NoPeg bm_NoPeg true sn_NoPeg su_NoPeg ab_NoPeg co_NoPeg dd_NoPeg m0_NoPeg m1_NoPeg m2_NoPeg m3_NoPeg m5_NoPeg "ValueError.__new__"))
    (E4_NoPeg : PySem.W.subIn K (.ref C_NoPeg) (.type "BaseException") = some true)
    (E5_NoPeg : PySem.W.typeIn K (.ref C_NoPeg) = some (.type "type"))
    (E9_NoPeg : PySem.W.hasDictIn K C_NoPeg = true)
    (E2_NoPeg : HandSPX.refsVE bm_NoPeg = true)
    (E3_NoPeg : PySem.W.findIn K (.ref C_NoPeg) "__setattr__" = some (some (.builtin "object.__setattr__")))
    (E6_NoPeg : PySem.W.keepIn K (.ref C_NoPeg) = true)
    (E7_NoPeg : PySem.W.findIn K (.ref C_NoPeg) "__getattribute__" = some (some (.builtin "BaseException.__getattribute__")))
    (E8_NoPeg : PySem.W.findIn K (.ref C_NoPeg) "__getattr__" = some none)
    (EA_NoPeg : (PySem.W.clsIn K C_NoPeg).isSome = true)
    (EB_NoPeg : PySem.W.findIn K (.ref C_NoPeg) "__class__" = some (some (.builtin "object.__class__")))
    (EC_NoPeg : PySem.W.mroIn K C_NoPeg (.type "object") = some true)
    (ED_NoPeg : PySem.W.findIn K (.ref C_NoPeg) "what" = some none)
    (EI_NoPeg : PySem.W.findIn K (.ref C_NoPeg) "__init__" = some (some (.ref f0)))
    (EG : PySem.W.specialIn K (.builtin "object.__class__") "__get__" = some (some (.builtin "getset_descriptor.__get__")))
    (ET : PySem.W.takesIn K (.builtin "object.__class__") = some true)
    (z_all : PySem.W.nsIn K mainGlobals "all" = some none)
    (z_any : PySem.W.nsIn K mainGlobals "any" = some none)
    (z_bool : PySem.W.nsIn K mainGlobals "bool" = some none)
    (z_dict : PySem.W.nsIn K mainGlobals "dict" = some none)
    (z_enumerate : PySem.W.nsIn K mainGlobals "enumerate" = some none)
    (z_int : PySem.W.nsIn K mainGlobals "int" = some none)
    (z_isinstance : PySem.W.nsIn K mainGlobals "isinstance" = some none)
    (z_len : PySem.W.nsIn K mainGlobals "len" = some none)
    (z_list : PySem.W.nsIn K mainGlobals "list" = some none)
    (z_max : PySem.W.nsIn K mainGlobals "max" = some none)
    (z_min : PySem.W.nsIn K mainGlobals "min" = some none)
    (z_range : PySem.W.nsIn K mainGlobals "range" = some none)
    (z_sorted : PySem.W.nsIn K mainGlobals "sorted" = some none)
    (z_tuple : PySem.W.nsIn K mainGlobals "tuple" = some none)
    (z_zip : PySem.W.nsIn K mainGlobals "zip" = some none)
    (y_MOST_COATS : ∃ t, PySem.W.nsIn K mainGlobals "MOST_COATS" = some (some (.int 8 t)))
    (y_MOST_PLACES : ∃ t, PySem.W.nsIn K mainGlobals "MOST_PLACES" = some (some (.int 24 t)))
    (y_MOST_THREADS : ∃ t, PySem.W.nsIn K mainGlobals "MOST_THREADS" = some (some (.int 60 t))) :
    ∃ fd : FuncData, (∀ (s : Shared) (v : Value), BindsTo s fd ⟨[v], []⟩ [("script", v)]) ∧ ∀ base : Heap, K.In base → base.Ns mainGlobals mg → FnOk l.prog w K mg base CX0 31 fa fd ["script"] (sp_law K ⟨(), 0, 0, 0, 0, 0, 0, 0⟩) := by
  have e := hfa.symm.trans (PySem.W.mg_of X G a49)
  cases e
  have T0 : Txn K mg (⟨(), C_Net, C_Table, C_World, C_Refused, C_BadSize, C_BadStone, C_NoPeg⟩ : CS) := ⟨PySem.W.mg_none_of X G z_all, PySem.W.mg_none_of X G z_any, PySem.W.mg_none_of X G z_bool, PySem.W.mg_none_of X G z_dict, PySem.W.mg_none_of X G z_enumerate, PySem.W.mg_none_of X G z_int, PySem.W.mg_none_of X G z_isinstance, PySem.W.mg_none_of X G z_len, PySem.W.mg_none_of X G z_list, PySem.W.mg_none_of X G z_max, PySem.W.mg_none_of X G z_min, PySem.W.mg_none_of X G z_range, PySem.W.mg_none_of X G z_sorted, PySem.W.mg_none_of X G z_tuple, PySem.W.mg_none_of X G z_zip, (let ⟨t, y⟩ := y_MOST_COATS; ⟨t, PySem.W.mg_of X G y⟩), (let ⟨t, y⟩ := y_MOST_PLACES; ⟨t, PySem.W.mg_of X G y⟩), (let ⟨t, y⟩ := y_MOST_THREADS; ⟨t, PySem.W.mg_of X G y⟩), PySem.W.mg_of X G A_Net, PySem.W.mg_of X G A_Table, PySem.W.mg_of X G A_World, PySem.W.mg_of X G A_Refused, PySem.W.mg_of X G A_BadSize, PySem.W.mg_of X G A_BadStone, PySem.W.mg_of X G A_NoPeg, ⟨P1_Net, P2_Net, P3_Net, P4_Net⟩, PN_Net_many, PN_Net_threads, PN_Net_near, ⟨P1_Table, P2_Table, P3_Table, P4_Table⟩, PN_Table_many, PN_Table_beside, ⟨P1_World, P2_World, P3_World, P4_World⟩, PN_World_table, PN_World_net, PN_World_pegs, PN_World_base, ⟨⟨⟨_, _, _, _, _, _, _, _, _, _, _, _, _, _, _, E1_BadSize, E2_BadSize⟩, E3_BadSize, E4_BadSize, E5_BadSize, E6_BadSize⟩, ED_BadSize, ⟨E7_BadSize, E8_BadSize, E4_BadSize, E9_BadSize⟩, EA_BadSize, EB_BadSize, EG, ET, EC_BadSize⟩, ⟨⟨⟨_, _, _, _, _, _, _, _, _, _, _, _, _, _, _, E1_BadStone, E2_BadStone⟩, E3_BadStone, E4_BadStone, E5_BadStone, E6_BadStone⟩, ED_BadStone, ⟨E7_BadStone, E8_BadStone, E4_BadStone, E9_BadStone⟩, EA_BadStone, EB_BadStone, EG, ET, EC_BadStone⟩, ⟨⟨⟨_, _, _, _, _, _, _, _, _, _, _, _, _, _, _, E1_NoPeg, E2_NoPeg⟩, E3_NoPeg, E4_NoPeg, E5_NoPeg, E6_NoPeg⟩, ED_NoPeg, ⟨E7_NoPeg, E8_NoPeg, E4_NoPeg, E9_NoPeg⟩, EA_NoPeg, EB_NoPeg, EG, ET, EC_NoPeg⟩⟩
  have F0 := fun_mk (x := "__init__") (qual := "Refused.__init__") (st := s_Refused_init) l0 c0 k0
  have b0 := F0.binds (ps := ["self", "what"]) fun _ _ _ _ _ _ us hl => match us, hl with | [_, _], _ => rfl
  have F1 := fun_mk (x := "__init__") (qual := "Table.__init__") (st := s_Table_init) l1 c1 k1
  have b1 := F1.binds (ps := ["self", "beside"]) fun _ _ _ _ _ _ us hl => match us, hl with | [_, _], _ => rfl
  have F2 := fun_mk (x := "__init__") (qual := "Net.__init__") (st := s_Net_init) l2 c2 k2
  have b2 := F2.binds (ps := ["self", "many", "threads"]) fun _ _ _ _ _ _ us hl => match us, hl with | [_, _, _], _ => rfl
  have F3 := fun_mk (x := "__init__") (qual := "World.__init__") (st := s_World_init) l3 c3 k3
  have b3 := F3.binds (ps := ["self", "table", "net", "pegs"]) fun _ _ _ _ _ _ us hl => match us, hl with | [_, _, _, _], _ => rfl
  have F4 := fun_mk (x := "is_number") (qual := "is_number") (st := s_is_number) l4 c4 k4
  have b4 := F4.binds (ps := ["thing"]) fun _ _ _ _ _ _ us hl => match us, hl with | [_], _ => rfl
  have F5 := fun_mk (x := "are_numbers") (qual := "are_numbers") (st := s_are_numbers) l5 c5 k5
  have b5 := F5.binds (ps := ["thing"]) fun _ _ _ _ _ _ us hl => match us, hl with | [_], _ => rfl
  have F6 := fun_mk (x := "is_pair") (qual := "is_pair") (st := s_is_pair) l6 c6 k6
  have b6 := F6.binds (ps := ["thing"]) fun _ _ _ _ _ _ us hl => match us, hl with | [_], _ => rfl
  have F7 := fun_mk (x := "climb_fault") (qual := "climb_fault") (st := s_climb_fault) l7 c7 k7
  have b7 := F7.binds (ps := ["numbers", "many"]) fun _ _ _ _ _ _ us hl => match us, hl with | [_, _], _ => rfl
  have F8 := fun_mk (x := "made_table") (qual := "made_table") (st := s_made_table) l8 c8 k8
  have b8 := F8.binds (ps := ["rows"]) fun _ _ _ _ _ _ us hl => match us, hl with | [_], _ => rfl
  have F9 := fun_mk (x := "is_thread") (qual := "is_thread") (st := s_is_thread) l9 c9 k9
  have b9 := F9.binds (ps := ["thread", "many"]) fun _ _ _ _ _ _ us hl => match us, hl with | [_, _], _ => rfl
  have F10 := fun_mk (x := "come_to") (qual := "come_to") (st := s_come_to) l10 c10 k10
  have b10 := F10.binds (ps := ["net", "x"]) fun _ _ _ _ _ _ us hl => match us, hl with | [_, _], _ => rfl
  have F11 := fun_mk (x := "made_net") (qual := "made_net") (st := s_made_net) l11 c11 k11
  have b11 := F11.binds (ps := ["many", "threads"]) fun _ _ _ _ _ _ us hl => match us, hl with | [_, _], _ => rfl
  have F12 := fun_mk (x := "made_world") (qual := "made_world") (st := s_made_world) l12 c12 k12
  have F13 := fun_mk (x := "check_pegged") (qual := "check_pegged") (st := s_check_pegged) l13 c13 k13
  have b13 := F13.binds (ps := ["world"]) fun _ _ _ _ _ _ us hl => match us, hl with | [_], _ => rfl
  have F14 := fun_mk (x := "stone_fits") (qual := "stone_fits") (st := s_stone_fits) l14 c14 k14
  have b14 := F14.binds (ps := ["world", "stones", "place"]) fun _ _ _ _ _ _ us hl => match us, hl with | [_, _, _], _ => rfl
  have F15 := fun_mk (x := "check_standing") (qual := "check_standing") (st := s_check_standing) l15 c15 k15
  have b15 := F15.binds (ps := ["world", "standing"]) fun _ _ _ _ _ _ us hl => match us, hl with | [_, _], _ => rfl
  have F16 := fun_mk (x := "is_held") (qual := "is_held") (st := s_is_held) l16 c16 k16
  have b16 := F16.binds (ps := ["world", "a", "kept", "place"]) fun _ _ _ _ _ _ us hl => match us, hl with | [_, _, _, _], _ => rfl
  have F17 := fun_mk (x := "frozen_places") (qual := "frozen_places") (st := s_frozen_places) l17 c17 k17
  have b17 := F17.binds (ps := ["world", "a"]) fun _ _ _ _ _ _ us hl => match us, hl with | [_, _], _ => rfl
  have F18 := fun_mk (x := "struck") (qual := "struck") (st := s_struck) l18 c18 k18
  have b18 := F18.binds (ps := ["stones"]) fun _ _ _ _ _ _ us hl => match us, hl with | [_], _ => rfl
  have F19 := fun_mk (x := "carried") (qual := "carried") (st := s_carried) l19 c19 k19
  have b19 := F19.binds (ps := ["a", "b", "row", "place"]) fun _ _ _ _ _ _ us hl => match us, hl with | [_, _, _, _], _ => rfl
  have F20 := fun_mk (x := "rows_fit") (qual := "rows_fit") (st := s_rows_fit) l20 c20 k20
  have b20 := F20.binds (ps := ["net", "a", "b", "rows"]) fun _ _ _ _ _ _ us hl => match us, hl with | [_, _, _, _], _ => rfl
  have F21 := fun_mk (x := "link_of") (qual := "link_of") (st := s_link_of) l21 c21 k21
  have b21 := F21.binds (ps := ["world", "a", "b", "first"]) fun _ _ _ _ _ _ us hl => match us, hl with | [_, _, _, _], _ => rfl
  have F22 := fun_mk (x := "base_link") (qual := "base_link") (st := s_base_link) l22 c22 k22
  have b22 := F22.binds (ps := ["world", "a", "b"]) fun _ _ _ _ _ _ us hl => match us, hl with | [_, _, _], _ => rfl
  have F23 := fun_mk (x := "check_standings") (qual := "check_standings") (st := s_check_standings) l23 c23 k23
  have b23 := F23.binds (ps := ["world", "standings"]) fun _ _ _ _ _ _ us hl => match us, hl with | [_, _], _ => rfl
  have F24 := fun_mk (x := "held_back") (qual := "held_back") (st := s_held_back) l24 c24 k24
  have b24 := F24.binds (ps := ["world", "a", "rows"]) fun _ _ _ _ _ _ us hl => match us, hl with | [_, _, _], _ => rfl
  have F25 := fun_mk (x := "right_link") (qual := "right_link") (st := s_right_link) l25 c25 k25
  have b25 := F25.binds (ps := ["world", "a", "b"]) fun _ _ _ _ _ _ us hl => match us, hl with | [_, _, _], _ => rfl
  have F26 := fun_mk (x := "two_links") (qual := "two_links") (st := s_two_links) l26 c26 k26
  have b26 := F26.binds (ps := ["world", "a", "b", "c"]) fun _ _ _ _ _ _ us hl => match us, hl with | [_, _, _, _], _ => rfl
  have F27 := fun_mk (x := "common_steps") (qual := "common_steps") (st := s_common_steps) l27 c27 k27
  have b27 := F27.binds (ps := ["one", "two"]) fun _ _ _ _ _ _ us hl => match us, hl with | [_, _], _ => rfl
  have F28 := fun_mk (x := "fork_places") (qual := "fork_places") (st := s_fork_places) l28 c28 k28
  have b28 := F28.binds (ps := ["one", "two"]) fun _ _ _ _ _ _ us hl => match us, hl with | [_, _], _ => rfl
  have F29 := fun_mk (x := "forks") (qual := "forks") (st := s_forks) l29 c29 k29
  have b29 := F29.binds (ps := ["world", "a", "b", "c"]) fun _ _ _ _ _ _ us hl => match us, hl with | [_, _, _, _], _ => rfl
  have F30 := fun_mk (x := "_law_pool") (qual := "_law_pool") (st := s__law_pool) l30 c30 k30
  have b30 := F30.binds (ps := ["script", "k"]) fun _ _ _ _ _ _ us hl => match us, hl with | [_, _], _ => rfl
  have F31 := fun_mk (x := "_law_take") (qual := "_law_take") (st := s__law_take) l31 c31 k31
  have b31 := F31.binds (ps := ["source", "top"]) fun _ _ _ _ _ _ us hl => match us, hl with | [_, _], _ => rfl
  have F32 := fun_mk (x := "_law_one") (qual := "_law_one") (st := s__law_one) l32 c32 k32
  have b32 := F32.binds (ps := ["source", "things"]) fun _ _ _ _ _ _ us hl => match us, hl with | [_, _], _ => rfl
  have F33 := fun_mk (x := "_law_beside") (qual := "_law_beside") (st := s__law_beside) l33 c33 k33
  have b33 := F33.binds (ps := ["source", "many", "wide"]) fun _ _ _ _ _ _ us hl => match us, hl with | [_, _, _], _ => rfl
  have F34 := fun_mk (x := "_law_threads") (qual := "_law_threads") (st := s__law_threads) l34 c34 k34
  have b34 := F34.binds (ps := ["source", "n", "more"]) fun _ _ _ _ _ _ us hl => match us, hl with | [_, _, _], _ => rfl
  have F35 := fun_mk (x := "_law_near") (qual := "_law_near") (st := s__law_near) l35 c35 k35
  have b35 := F35.binds (ps := ["n", "threads"]) fun _ _ _ _ _ _ us hl => match us, hl with | [_, _], _ => rfl
  have F36 := fun_mk (x := "_law_fill") (qual := "_law_fill") (st := s__law_fill) l36 c36 k36
  have b36 := F36.binds (ps := ["beside", "near", "fixed", "turns", "had"]) fun _ _ _ _ _ _ us hl => match us, hl with | [_, _, _, _, _], _ => rfl
  have F37 := fun_mk (x := "_law_standing") (qual := "_law_standing") (st := s__law_standing) l37 c37 k37
  have b37 := F37.binds (ps := ["source", "beside", "near", "fixed"]) fun _ _ _ _ _ _ us hl => match us, hl with | [_, _, _, _], _ => rfl
  have F38 := fun_mk (x := "_law_pegs") (qual := "_law_pegs") (st := s__law_pegs) l38 c38 k38
  have b38 := F38.binds (ps := ["source", "n", "free"]) fun _ _ _ _ _ _ us hl => match us, hl with | [_, _, _], _ => rfl
  have F39 := fun_mk (x := "_law_lets") (qual := "_law_lets") (st := s__law_lets) l39 c39 k39
  have b39 := F39.binds (ps := ["world", "s"]) fun _ _ _ _ _ _ us hl => match us, hl with | [_, _], _ => rfl
  have F40 := fun_mk (x := "_law_put") (qual := "_law_put") (st := s__law_put) l40 c40 k40
  have b40 := F40.binds (ps := ["s", "deed"]) fun _ _ _ _ _ _ us hl => match us, hl with | [_, _], _ => rfl
  have F41 := fun_mk (x := "_law_led") (qual := "_law_led") (st := s__law_led) l41 c41 k41
  have b41 := F41.binds (ps := ["source", "world", "s", "many"]) fun _ _ _ _ _ _ us hl => match us, hl with | [_, _, _, _], _ => rfl
  have F42 := fun_mk (x := "_law_made") (qual := "_law_made") (st := s__law_made) l42 c42 k42
  have b42 := F42.binds (ps := ["world", "threads"]) fun _ _ _ _ _ _ us hl => match us, hl with | [_, _], _ => rfl
  have F43 := fun_mk (x := "_law_fork_world") (qual := "_law_fork_world") (st := s__law_fork_world) l43 c43 k43
  have b43 := F43.binds (ps := ["source"]) fun _ _ _ _ _ _ us hl => match us, hl with | [_], _ => rfl
  have F44 := fun_mk (x := "_law_three") (qual := "_law_three") (st := s__law_three) l44 c44 k44
  have b44 := F44.binds (ps := ["source"]) fun _ _ _ _ _ _ us hl => match us, hl with | [_], _ => rfl
  have F45 := fun_mk (x := "_law_reach") (qual := "_law_reach") (st := s__law_reach) l45 c45 k45
  have b45 := F45.binds (ps := ["world", "a"]) fun _ _ _ _ _ _ us hl => match us, hl with | [_, _], _ => rfl
  have F46 := fun_mk (x := "_law_rest") (qual := "_law_rest") (st := s__law_rest) l46 c46 k46
  have b46 := F46.binds (ps := ["row"]) fun _ _ _ _ _ _ us hl => match us, hl with | [_], _ => rfl
  have F47 := fun_mk (x := "_law_link") (qual := "_law_link") (st := s__law_link) l47 c47 k47
  have b47 := F47.binds (ps := ["world", "a", "b"]) fun _ _ _ _ _ _ us hl => match us, hl with | [_, _, _], _ => rfl
  have F48 := fun_mk (x := "_law_common") (qual := "_law_common") (st := s__law_common) l48 c48 k48
  have b48 := F48.binds (ps := ["one", "two"]) fun _ _ _ _ _ _ us hl => match us, hl with | [_, _], _ => rfl
  have F49 := fun_mk (x := "law") (qual := "law") (st := s_law) l49 c49 k49
  refine ⟨PySem.W.fnOf "law" "law" (defArgs s_law) (defBody s_law) (defScope s_law) .none kV49 dc49 pm49 an49 cd49 ct49, fun s v => .of_eq rfl, fun base _ _ => ?_⟩
  have T : Txt l.prog w K mg base (⟨(), C_Net, C_Table, C_World, C_Refused, C_BadSize, C_BadStone, C_NoPeg⟩ : CS) := ⟨T0, trivial, ⟨_, _, ⟨M1_Net, a2, M3_Net, M4_Net⟩, ok_Net_init F2 T0, T0.gm_Net, b2⟩, ⟨_, _, ⟨M1_Table, a1, M3_Table, M4_Table⟩, ok_Table_init F1 T0, T0.gm_Table, b1⟩, ⟨_, _, ⟨M1_World, a3, M3_World, M4_World⟩, ok_World_init F3 T0, T0.gm_World, b3⟩, ⟨T0.gm_BadSize, T0.xc_BadSize, _, _, EI_BadSize, t0, ok_Refused_init F0 T0, b0⟩, ⟨T0.gm_BadStone, T0.xc_BadStone, _, _, EI_BadStone, t0, ok_Refused_init F0 T0, b0⟩, ⟨T0.gm_NoPeg, T0.xc_NoPeg, _, _, EI_NoPeg, t0, ok_Refused_init F0 T0, b0⟩⟩
  have c_is_number : Cal l.prog w K mg base CX0 1 "is_number" ["thing"] s_is_number (sp_is_number K (⟨(), C_Net, C_Table, C_World, C_Refused, C_BadSize, C_BadStone, C_NoPeg⟩ : CS)) := ⟨_, _, ok_is_number F4 T , F4, PySem.W.mg_of X G a4, b4⟩
  have c_are_numbers : Cal l.prog w K mg base CX0 2 "are_numbers" ["thing"] s_are_numbers (sp_are_numbers K (⟨(), C_Net, C_Table, C_World, C_Refused, C_BadSize, C_BadStone, C_NoPeg⟩ : CS)) := ⟨_, _, ok_are_numbers F5 T c_is_number, F5, PySem.W.mg_of X G a5, b5⟩
  have c_is_pair : Cal l.prog w K mg base CX0 3 "is_pair" ["thing"] s_is_pair (sp_is_pair K (⟨(), C_Net, C_Table, C_World, C_Refused, C_BadSize, C_BadStone, C_NoPeg⟩ : CS)) := ⟨_, _, ok_is_pair F6 T c_are_numbers, F6, PySem.W.mg_of X G a6, b6⟩
  have c_climb_fault : Cal l.prog w K mg base CX0 1 "climb_fault" ["numbers", "many"] s_climb_fault (sp_climb_fault K (⟨(), C_Net, C_Table, C_World, C_Refused, C_BadSize, C_BadStone, C_NoPeg⟩ : CS)) := ⟨_, _, ok_climb_fault F7 T , F7, PySem.W.mg_of X G a7, b7⟩
  have c_made_table : Cal l.prog w K mg base CX0 3 "made_table" ["rows"] s_made_table (sp_made_table K (⟨(), C_Net, C_Table, C_World, C_Refused, C_BadSize, C_BadStone, C_NoPeg⟩ : CS)) := ⟨_, _, ok_made_table F8 T c_climb_fault, F8, PySem.W.mg_of X G a8, b8⟩
  have c_is_thread : Cal l.prog w K mg base CX0 4 "is_thread" ["thread", "many"] s_is_thread (sp_is_thread K (⟨(), C_Net, C_Table, C_World, C_Refused, C_BadSize, C_BadStone, C_NoPeg⟩ : CS)) := ⟨_, _, ok_is_thread F9 T c_is_pair, F9, PySem.W.mg_of X G a9, b9⟩
  have c_come_to : Cal l.prog w K mg base CX0 1 "come_to" ["net", "x"] s_come_to (sp_come_to K (⟨(), C_Net, C_Table, C_World, C_Refused, C_BadSize, C_BadStone, C_NoPeg⟩ : CS)) := ⟨_, _, ok_come_to F10 T , F10, PySem.W.mg_of X G a10, b10⟩
  have c_made_net : Cal l.prog w K mg base CX0 5 "made_net" ["many", "threads"] s_made_net (sp_made_net K (⟨(), C_Net, C_Table, C_World, C_Refused, C_BadSize, C_BadStone, C_NoPeg⟩ : CS)) := ⟨_, _, ok_made_net F11 T c_is_thread c_come_to, F11, PySem.W.mg_of X G a11, b11⟩
  have c_made_world : CalW l.prog w K mg base CX0 3 "made_world" ["table", "net", "pegs"] s_made_world (sp_made_world K (⟨(), C_Net, C_Table, C_World, C_Refused, C_BadSize, C_BadStone, C_NoPeg⟩ : CS)) := ⟨_, _, ok_made_world F12 T c_climb_fault, F12, PySem.W.mg_of X G a12⟩
  have c_check_pegged : Cal l.prog w K mg base (L2.CX l.prog w) 3 "check_pegged" ["world"] s_check_pegged (sp_check_pegged K (⟨(), C_Net, C_Table, C_World, C_Refused, C_BadSize, C_BadStone, C_NoPeg⟩ : CS)) := ⟨_, _, ok_check_pegged F13 T , F13, PySem.W.mg_of X G a13, b13⟩
  have c_stone_fits : Cal l.prog w K mg base CX0 1 "stone_fits" ["world", "stones", "place"] s_stone_fits (sp_stone_fits K (⟨(), C_Net, C_Table, C_World, C_Refused, C_BadSize, C_BadStone, C_NoPeg⟩ : CS)) := ⟨_, _, ok_stone_fits F14 T , F14, PySem.W.mg_of X G a14, b14⟩
  have c_check_standing : Cal l.prog w K mg base (L2.CX l.prog w) 3 "check_standing" ["world", "standing"] s_check_standing (sp_check_standing K (⟨(), C_Net, C_Table, C_World, C_Refused, C_BadSize, C_BadStone, C_NoPeg⟩ : CS)) := ⟨_, _, ok_check_standing F15 T c_stone_fits, F15, PySem.W.mg_of X G a15, b15⟩
  have c_is_held : Cal l.prog w K mg base CX0 1 "is_held" ["world", "a", "kept", "place"] s_is_held (sp_is_held K (⟨(), C_Net, C_Table, C_World, C_Refused, C_BadSize, C_BadStone, C_NoPeg⟩ : CS)) := ⟨_, _, ok_is_held F16 T , F16, PySem.W.mg_of X G a16, b16⟩
  have c_frozen_places : Cal l.prog w K mg base CX0 2 "frozen_places" ["world", "a"] s_frozen_places (sp_frozen_places K (⟨(), C_Net, C_Table, C_World, C_Refused, C_BadSize, C_BadStone, C_NoPeg⟩ : CS)) := ⟨_, _, ok_frozen_places F17 T c_is_held, F17, PySem.W.mg_of X G a17, b17⟩
  have c_struck : Cal l.prog w K mg base CX0 1 "struck" ["stones"] s_struck (sp_struck K (⟨(), C_Net, C_Table, C_World, C_Refused, C_BadSize, C_BadStone, C_NoPeg⟩ : CS)) := ⟨_, _, ok_struck F18 T , F18, PySem.W.mg_of X G a18, b18⟩
  have c_carried : Cal l.prog w K mg base CX0 2 "carried" ["a", "b", "row", "place"] s_carried (sp_carried K (⟨(), C_Net, C_Table, C_World, C_Refused, C_BadSize, C_BadStone, C_NoPeg⟩ : CS)) := ⟨_, _, ok_carried F19 T c_struck, F19, PySem.W.mg_of X G a19, b19⟩
  have c_rows_fit : Cal l.prog w K mg base CX0 3 "rows_fit" ["net", "a", "b", "rows"] s_rows_fit (sp_rows_fit K (⟨(), C_Net, C_Table, C_World, C_Refused, C_BadSize, C_BadStone, C_NoPeg⟩ : CS)) := ⟨_, _, ok_rows_fit F20 T c_carried, F20, PySem.W.mg_of X G a20, b20⟩
  have c_link_of : Cal l.prog w K mg base CX0 4 "link_of" ["world", "a", "b", "first"] s_link_of (sp_link_of K (⟨(), C_Net, C_Table, C_World, C_Refused, C_BadSize, C_BadStone, C_NoPeg⟩ : CS)) := ⟨_, _, ok_link_of F21 T c_come_to c_carried c_rows_fit, F21, PySem.W.mg_of X G a21, b21⟩
  have c_base_link : Cal l.prog w K mg base CX0 5 "base_link" ["world", "a", "b"] s_base_link (sp_base_link K (⟨(), C_Net, C_Table, C_World, C_Refused, C_BadSize, C_BadStone, C_NoPeg⟩ : CS)) := ⟨_, _, ok_base_link F22 T c_link_of, F22, PySem.W.mg_of X G a22, b22⟩
  have c_check_standings : Cal l.prog w K mg base CX0 4 "check_standings" ["world", "standings"] s_check_standings (sp_check_standings K (⟨(), C_Net, C_Table, C_World, C_Refused, C_BadSize, C_BadStone, C_NoPeg⟩ : CS)) := ⟨_, _, ok_check_standings F23 T c_check_pegged c_check_standing, F23, PySem.W.mg_of X G a23, b23⟩
  have c_held_back : Cal l.prog w K mg base CX0 3 "held_back" ["world", "a", "rows"] s_held_back (sp_held_back K (⟨(), C_Net, C_Table, C_World, C_Refused, C_BadSize, C_BadStone, C_NoPeg⟩ : CS)) := ⟨_, _, ok_held_back F24 T c_frozen_places, F24, PySem.W.mg_of X G a24, b24⟩
  have c_right_link : Cal l.prog w K mg base CX0 6 "right_link" ["world", "a", "b"] s_right_link (sp_right_link K (⟨(), C_Net, C_Table, C_World, C_Refused, C_BadSize, C_BadStone, C_NoPeg⟩ : CS)) := ⟨_, _, ok_right_link F25 T c_base_link c_held_back, F25, PySem.W.mg_of X G a25, b25⟩
  have c_two_links : Cal l.prog w K mg base CX0 7 "two_links" ["world", "a", "b", "c"] s_two_links (sp_two_links K (⟨(), C_Net, C_Table, C_World, C_Refused, C_BadSize, C_BadStone, C_NoPeg⟩ : CS)) := ⟨_, _, ok_two_links F26 T c_check_standings c_right_link, F26, PySem.W.mg_of X G a26, b26⟩
  have c_common_steps : Cal l.prog w K mg base CX0 1 "common_steps" ["one", "two"] s_common_steps (sp_common_steps K (⟨(), C_Net, C_Table, C_World, C_Refused, C_BadSize, C_BadStone, C_NoPeg⟩ : CS)) := ⟨_, _, ok_common_steps F27 T , F27, PySem.W.mg_of X G a27, b27⟩
  have c_fork_places : Cal l.prog w K mg base CX0 2 "fork_places" ["one", "two"] s_fork_places (sp_fork_places K (⟨(), C_Net, C_Table, C_World, C_Refused, C_BadSize, C_BadStone, C_NoPeg⟩ : CS)) := ⟨_, _, ok_fork_places F28 T c_common_steps, F28, PySem.W.mg_of X G a28, b28⟩
  have c_forks : Cal l.prog w K mg base CX0 8 "forks" ["world", "a", "b", "c"] s_forks (sp_forks K (⟨(), C_Net, C_Table, C_World, C_Refused, C_BadSize, C_BadStone, C_NoPeg⟩ : CS)) := ⟨_, _, ok_forks F29 T c_two_links c_fork_places, F29, PySem.W.mg_of X G a29, b29⟩
  have c__law_pool : Cal l.prog w K mg base CX0 1 "_law_pool" ["script", "k"] s__law_pool (sp__law_pool K (⟨(), C_Net, C_Table, C_World, C_Refused, C_BadSize, C_BadStone, C_NoPeg⟩ : CS)) := ⟨_, _, ok__law_pool F30 T , F30, PySem.W.mg_of X G a30, b30⟩
  have c__law_take : Cal l.prog w K mg base CX0 1 "_law_take" ["source", "top"] s__law_take (sp__law_take K (⟨(), C_Net, C_Table, C_World, C_Refused, C_BadSize, C_BadStone, C_NoPeg⟩ : CS)) := ⟨_, _, ok__law_take F31 T , F31, PySem.W.mg_of X G a31, b31⟩
  have c__law_one : Cal l.prog w K mg base CX0 2 "_law_one" ["source", "things"] s__law_one (sp__law_one K (⟨(), C_Net, C_Table, C_World, C_Refused, C_BadSize, C_BadStone, C_NoPeg⟩ : CS)) := ⟨_, _, ok__law_one F32 T c__law_take, F32, PySem.W.mg_of X G a32, b32⟩
  have c__law_beside : Cal l.prog w K mg base CX0 2 "_law_beside" ["source", "many", "wide"] s__law_beside (sp__law_beside K (⟨(), C_Net, C_Table, C_World, C_Refused, C_BadSize, C_BadStone, C_NoPeg⟩ : CS)) := ⟨_, _, ok__law_beside F33 T c__law_take, F33, PySem.W.mg_of X G a33, b33⟩
  have c__law_threads : Cal l.prog w K mg base CX0 2 "_law_threads" ["source", "n", "more"] s__law_threads (sp__law_threads K (⟨(), C_Net, C_Table, C_World, C_Refused, C_BadSize, C_BadStone, C_NoPeg⟩ : CS)) := ⟨_, _, ok__law_threads F34 T c__law_take, F34, PySem.W.mg_of X G a34, b34⟩
  have c__law_near : Cal l.prog w K mg base CX0 1 "_law_near" ["n", "threads"] s__law_near (sp__law_near K (⟨(), C_Net, C_Table, C_World, C_Refused, C_BadSize, C_BadStone, C_NoPeg⟩ : CS)) := ⟨_, _, ok__law_near F35 T , F35, PySem.W.mg_of X G a35, b35⟩
  have c__law_fill : Cal l.prog w K mg base CX0 27 "_law_fill" ["beside", "near", "fixed", "turns", "had"] s__law_fill (sp__law_fill K (⟨(), C_Net, C_Table, C_World, C_Refused, C_BadSize, C_BadStone, C_NoPeg⟩ : CS) 26) := ⟨_, _, ok__law_fill F36 T  (PySem.W.mg_of X G a36) b36 26, F36, PySem.W.mg_of X G a36, b36⟩
  have c__law_standing : Cal l.prog w K mg base CX0 28 "_law_standing" ["source", "beside", "near", "fixed"] s__law_standing (sp__law_standing K (⟨(), C_Net, C_Table, C_World, C_Refused, C_BadSize, C_BadStone, C_NoPeg⟩ : CS)) := ⟨_, _, ok__law_standing F37 T c__law_take c__law_fill, F37, PySem.W.mg_of X G a37, b37⟩
  have c__law_pegs : Cal l.prog w K mg base CX0 3 "_law_pegs" ["source", "n", "free"] s__law_pegs (sp__law_pegs K (⟨(), C_Net, C_Table, C_World, C_Refused, C_BadSize, C_BadStone, C_NoPeg⟩ : CS)) := ⟨_, _, ok__law_pegs F38 T c__law_take c__law_one, F38, PySem.W.mg_of X G a38, b38⟩
  have c__law_lets : Cal l.prog w K mg base CX0 1 "_law_lets" ["world", "s"] s__law_lets (sp__law_lets K (⟨(), C_Net, C_Table, C_World, C_Refused, C_BadSize, C_BadStone, C_NoPeg⟩ : CS)) := ⟨_, _, ok__law_lets F39 T , F39, PySem.W.mg_of X G a39, b39⟩
  have c__law_put : Cal l.prog w K mg base CX0 1 "_law_put" ["s", "deed"] s__law_put (sp__law_put K (⟨(), C_Net, C_Table, C_World, C_Refused, C_BadSize, C_BadStone, C_NoPeg⟩ : CS)) := ⟨_, _, ok__law_put F40 T , F40, PySem.W.mg_of X G a40, b40⟩
  have c__law_led : Cal l.prog w K mg base CX0 3 "_law_led" ["source", "world", "s", "many"] s__law_led (sp__law_led K (⟨(), C_Net, C_Table, C_World, C_Refused, C_BadSize, C_BadStone, C_NoPeg⟩ : CS)) := ⟨_, _, ok__law_led F41 T c__law_one c__law_lets c__law_put, F41, PySem.W.mg_of X G a41, b41⟩
  have c__law_made : Cal l.prog w K mg base CX0 6 "_law_made" ["world", "threads"] s__law_made (sp__law_made K (⟨(), C_Net, C_Table, C_World, C_Refused, C_BadSize, C_BadStone, C_NoPeg⟩ : CS)) := ⟨_, _, ok__law_made F42 T c_made_table c_made_net c_made_world, F42, PySem.W.mg_of X G a42, b42⟩
  have c__law_fork_world : Cal l.prog w K mg base CX0 29 "_law_fork_world" ["source"] s__law_fork_world (sp__law_fork_world K (⟨(), C_Net, C_Table, C_World, C_Refused, C_BadSize, C_BadStone, C_NoPeg⟩ : CS)) := ⟨_, _, ok__law_fork_world F43 T c__law_take c__law_one c__law_beside c__law_threads c__law_near c__law_standing c__law_pegs, F43, PySem.W.mg_of X G a43, b43⟩
  have c__law_three : Cal l.prog w K mg base CX0 30 "_law_three" ["source"] s__law_three (sp__law_three K (⟨(), C_Net, C_Table, C_World, C_Refused, C_BadSize, C_BadStone, C_NoPeg⟩ : CS)) := ⟨_, _, ok__law_three F44 T c__law_take c__law_one c__law_put c__law_led c__law_fork_world, F44, PySem.W.mg_of X G a44, b44⟩
  have c__law_reach : Cal l.prog w K mg base CX0 2 "_law_reach" ["world", "a"] s__law_reach (sp__law_reach K (⟨(), C_Net, C_Table, C_World, C_Refused, C_BadSize, C_BadStone, C_NoPeg⟩ : CS)) := ⟨_, _, ok__law_reach F45 T c__law_lets c__law_put, F45, PySem.W.mg_of X G a45, b45⟩
  have c__law_rest : Cal l.prog w K mg base CX0 1 "_law_rest" ["row"] s__law_rest (sp__law_rest K (⟨(), C_Net, C_Table, C_World, C_Refused, C_BadSize, C_BadStone, C_NoPeg⟩ : CS)) := ⟨_, _, ok__law_rest F46 T , F46, PySem.W.mg_of X G a46, b46⟩
  have c__law_link : Cal l.prog w K mg base CX0 2 "_law_link" ["world", "a", "b"] s__law_link (sp__law_link K (⟨(), C_Net, C_Table, C_World, C_Refused, C_BadSize, C_BadStone, C_NoPeg⟩ : CS)) := ⟨_, _, ok__law_link F47 T c__law_rest, F47, PySem.W.mg_of X G a47, b47⟩
  have c__law_common : Cal l.prog w K mg base CX0 1 "_law_common" ["one", "two"] s__law_common (sp__law_common K (⟨(), C_Net, C_Table, C_World, C_Refused, C_BadSize, C_BadStone, C_NoPeg⟩ : CS)) := ⟨_, _, ok__law_common F48 T , F48, PySem.W.mg_of X G a48, b48⟩
  have zz := ok_law F49 T c_forks c__law_pool c__law_standing c__law_made c__law_three c__law_reach c__law_link c__law_common
  exact zz
end K
open PySem PySem.W PyProof.Rows
set_option maxHeartbeats 0 in
theorem PySem.Challenge.cw_betweencoats_k31_forks_by_own_links_holds : PySem.Challenge.rw_betweencoats_k31_forks_by_own_links.Holds := by
  w_on; o_law; k_head; (case hw => w_witness2)
  k_fill
  refine L2.walk_of (l := PySem.Challenge.rw_betweencoats_k31_forks_by_own_links) (n := 63) (k := 31) (x := "script") (CX := fun _ => L2.CX0) (sp := fun w => K.sp_law _ ⟨(), 0, 0, 0, 0, 0, 0, 0⟩) rfl (by decide) rfl ⟨rfl, by decide, by decide⟩ (fun w h Y => PySem.W.kIn_of Y) ?F (fun _ _ a ns hl _ hS => K.law_start a ns hl hS) (fun _ _ _ _ _ h => h)
  case F =>
    intro w mg fa h KX G hmg
    refine' K.all_mk KX G hmg ?A_Net ?A_Table ?A_World ?A_Refused ?A_BadSize ?A_BadStone ?A_NoPeg ?a0 ?t0 ?l0 ?c0 ?k0 ?a1 ?t1 ?l1 ?c1 ?k1 ?a2 ?t2 ?l2 ?c2 ?k2 ?a3 ?t3 ?l3 ?c3 ?k3 ?a4 ?l4 ?c4 ?k4 ?a5 ?l5 ?c5 ?k5 ?a6 ?l6 ?c6 ?k6 ?a7 ?l7 ?c7 ?k7 ?a8 ?l8 ?c8 ?k8 ?a9 ?l9 ?c9 ?k9 ?a10 ?l10 ?c10 ?k10 ?a11 ?l11 ?c11 ?k11 ?a12 ?l12 ?c12 ?k12 ?a13 ?l13 ?c13 ?k13 ?a14 ?l14 ?c14 ?k14 ?a15 ?l15 ?c15 ?k15 ?a16 ?l16 ?c16 ?k16 ?a17 ?l17 ?c17 ?k17 ?a18 ?l18 ?c18 ?k18 ?a19 ?l19 ?c19 ?k19 ?a20 ?l20 ?c20 ?k20 ?a21 ?l21 ?c21 ?k21 ?a22 ?l22 ?c22 ?k22 ?a23 ?l23 ?c23 ?k23 ?a24 ?l24 ?c24 ?k24 ?a25 ?l25 ?c25 ?k25 ?a26 ?l26 ?c26 ?k26 ?a27 ?l27 ?c27 ?k27 ?a28 ?l28 ?c28 ?k28 ?a29 ?l29 ?c29 ?k29 ?a30 ?l30 ?c30 ?k30 ?a31 ?l31 ?c31 ?k31 ?a32 ?l32 ?c32 ?k32 ?a33 ?l33 ?c33 ?k33 ?a34 ?l34 ?c34 ?k34 ?a35 ?l35 ?c35 ?k35 ?a36 ?l36 ?c36 ?k36 ?a37 ?l37 ?c37 ?k37 ?a38 ?l38 ?c38 ?k38 ?a39 ?l39 ?c39 ?k39 ?a40 ?l40 ?c40 ?k40 ?a41 ?l41 ?c41 ?k41 ?a42 ?l42 ?c42 ?k42 ?a43 ?l43 ?c43 ?k43 ?a44 ?l44 ?c44 ?k44 ?a45 ?l45 ?c45 ?k45 ?a46 ?l46 ?c46 ?k46 ?a47 ?l47 ?c47 ?k47 ?a48 ?l48 ?c48 ?k48 ?a49 ?l49 ?c49 ?k49 ?P1_Net ?P2_Net ?P3_Net ?P4_Net ?PN_Net_many ?PN_Net_threads ?PN_Net_near ?M1_Net ?M3_Net ?M4_Net ?P1_Table ?P2_Table ?P3_Table ?P4_Table ?PN_Table_many ?PN_Table_beside ?M1_Table ?M3_Table ?M4_Table ?P1_World ?P2_World ?P3_World ?P4_World ?PN_World_table ?PN_World_net ?PN_World_pegs ?PN_World_base ?M1_World ?M3_World ?M4_World ?E1_BadSize ?E4_BadSize ?E5_BadSize ?E9_BadSize ?E2_BadSize ?E3_BadSize ?E6_BadSize ?E7_BadSize ?E8_BadSize ?EA_BadSize ?EB_BadSize ?EC_BadSize ?ED_BadSize ?EI_BadSize ?E1_BadStone ?E4_BadStone ?E5_BadStone ?E9_BadStone ?E2_BadStone ?E3_BadStone ?E6_BadStone ?E7_BadStone ?E8_BadStone ?EA_BadStone ?EB_BadStone ?EC_BadStone ?ED_BadStone ?EI_BadStone ?E1_NoPeg ?E4_NoPeg ?E5_NoPeg ?E9_NoPeg ?E2_NoPeg ?E3_NoPeg ?E6_NoPeg ?E7_NoPeg ?E8_NoPeg ?EA_NoPeg ?EB_NoPeg ?EC_NoPeg ?ED_NoPeg ?EI_NoPeg ?EG ?ET ?z_all ?z_any ?z_bool ?z_dict ?z_enumerate ?z_int ?z_isinstance ?z_len ?z_list ?z_max ?z_min ?z_range ?z_sorted ?z_tuple ?z_zip ?y_MOST_COATS ?y_MOST_PLACES ?y_MOST_THREADS
    (case A_Net => first | k_is | rfl)
    (case A_Table => first | k_is | rfl)
    (case A_World => first | k_is | rfl)
    (case A_Refused => first | k_is | rfl)
    (case A_BadSize => first | k_is | rfl)
    (case A_BadStone => first | k_is | rfl)
    (case A_NoPeg => first | k_is | rfl)
    (case a0 => first | k_is | rfl)
    (case t0 => first | k_is | rfl)
    (case l0 => first | k_is | rfl)
    (case c0 => first | k_is | rfl)
    (case k0 => first | k_is | rfl)
    (case a1 => first | k_is | rfl)
    (case t1 => first | k_is | rfl)
    (case l1 => first | k_is | rfl)
    (case c1 => first | k_is | rfl)
    (case k1 => first | k_is | rfl)
    (case a2 => first | k_is | rfl)
    (case t2 => first | k_is | rfl)
    (case l2 => first | k_is | rfl)
    (case c2 => first | k_is | rfl)
    (case k2 => first | k_is | rfl)
    (case a3 => first | k_is | rfl)
    (case t3 => first | k_is | rfl)
    (case l3 => first | k_is | rfl)
    (case c3 => first | k_is | rfl)
    (case k3 => first | k_is | rfl)
    (case a4 => first | k_is | rfl)
    (case l4 => first | k_is | rfl)
    (case c4 => first | k_is | rfl)
    (case k4 => first | k_is | rfl)
    (case a5 => first | k_is | rfl)
    (case l5 => first | k_is | rfl)
    (case c5 => first | k_is | rfl)
    (case k5 => first | k_is | rfl)
    (case a6 => first | k_is | rfl)
    (case l6 => first | k_is | rfl)
    (case c6 => first | k_is | rfl)
    (case k6 => first | k_is | rfl)
    (case a7 => first | k_is | rfl)
    (case l7 => first | k_is | rfl)
    (case c7 => first | k_is | rfl)
    (case k7 => first | k_is | rfl)
    (case a8 => first | k_is | rfl)
    (case l8 => first | k_is | rfl)
    (case c8 => first | k_is | rfl)
    (case k8 => first | k_is | rfl)
    (case a9 => first | k_is | rfl)
    (case l9 => first | k_is | rfl)
    (case c9 => first | k_is | rfl)
    (case k9 => first | k_is | rfl)
    (case a10 => first | k_is | rfl)
    (case l10 => first | k_is | rfl)
    (case c10 => first | k_is | rfl)
    (case k10 => first | k_is | rfl)
    (case a11 => first | k_is | rfl)
    (case l11 => first | k_is | rfl)
    (case c11 => first | k_is | rfl)
    (case k11 => first | k_is | rfl)
    (case a12 => first | k_is | rfl)
    (case l12 => first | k_is | rfl)
    (case c12 => first | k_is | rfl)
    (case k12 => first | k_is | rfl)
    (case a13 => first | k_is | rfl)
    (case l13 => first | k_is | rfl)
    (case c13 => first | k_is | rfl)
    (case k13 => first | k_is | rfl)
    (case a14 => first | k_is | rfl)
    (case l14 => first | k_is | rfl)
    (case c14 => first | k_is | rfl)
    (case k14 => first | k_is | rfl)
    (case a15 => first | k_is | rfl)
    (case l15 => first | k_is | rfl)
    (case c15 => first | k_is | rfl)
    (case k15 => first | k_is | rfl)
    (case a16 => first | k_is | rfl)
    (case l16 => first | k_is | rfl)
    (case c16 => first | k_is | rfl)
    (case k16 => first | k_is | rfl)
    (case a17 => first | k_is | rfl)
    (case l17 => first | k_is | rfl)
    (case c17 => first | k_is | rfl)
    (case k17 => first | k_is | rfl)
    (case a18 => first | k_is | rfl)
    (case l18 => first | k_is | rfl)
    (case c18 => first | k_is | rfl)
    (case k18 => first | k_is | rfl)
    (case a19 => first | k_is | rfl)
    (case l19 => first | k_is | rfl)
    (case c19 => first | k_is | rfl)
    (case k19 => first | k_is | rfl)
    (case a20 => first | k_is | rfl)
    (case l20 => first | k_is | rfl)
    (case c20 => first | k_is | rfl)
    (case k20 => first | k_is | rfl)
    (case a21 => first | k_is | rfl)
    (case l21 => first | k_is | rfl)
    (case c21 => first | k_is | rfl)
    (case k21 => first | k_is | rfl)
    (case a22 => first | k_is | rfl)
    (case l22 => first | k_is | rfl)
    (case c22 => first | k_is | rfl)
    (case k22 => first | k_is | rfl)
    (case a23 => first | k_is | rfl)
    (case l23 => first | k_is | rfl)
    (case c23 => first | k_is | rfl)
    (case k23 => first | k_is | rfl)
    (case a24 => first | k_is | rfl)
    (case l24 => first | k_is | rfl)
    (case c24 => first | k_is | rfl)
    (case k24 => first | k_is | rfl)
    (case a25 => first | k_is | rfl)
    (case l25 => first | k_is | rfl)
    (case c25 => first | k_is | rfl)
    (case k25 => first | k_is | rfl)
    (case a26 => first | k_is | rfl)
    (case l26 => first | k_is | rfl)
    (case c26 => first | k_is | rfl)
    (case k26 => first | k_is | rfl)
    (case a27 => first | k_is | rfl)
    (case l27 => first | k_is | rfl)
    (case c27 => first | k_is | rfl)
    (case k27 => first | k_is | rfl)
    (case a28 => first | k_is | rfl)
    (case l28 => first | k_is | rfl)
    (case c28 => first | k_is | rfl)
    (case k28 => first | k_is | rfl)
    (case a29 => first | k_is | rfl)
    (case l29 => first | k_is | rfl)
    (case c29 => first | k_is | rfl)
    (case k29 => first | k_is | rfl)
    (case a30 => first | k_is | rfl)
    (case l30 => first | k_is | rfl)
    (case c30 => first | k_is | rfl)
    (case k30 => first | k_is | rfl)
    (case a31 => first | k_is | rfl)
    (case l31 => first | k_is | rfl)
    (case c31 => first | k_is | rfl)
    (case k31 => first | k_is | rfl)
    (case a32 => first | k_is | rfl)
    (case l32 => first | k_is | rfl)
    (case c32 => first | k_is | rfl)
    (case k32 => first | k_is | rfl)
    (case a33 => first | k_is | rfl)
    (case l33 => first | k_is | rfl)
    (case c33 => first | k_is | rfl)
    (case k33 => first | k_is | rfl)
    (case a34 => first | k_is | rfl)
    (case l34 => first | k_is | rfl)
    (case c34 => first | k_is | rfl)
    (case k34 => first | k_is | rfl)
    (case a35 => first | k_is | rfl)
    (case l35 => first | k_is | rfl)
    (case c35 => first | k_is | rfl)
    (case k35 => first | k_is | rfl)
    (case a36 => first | k_is | rfl)
    (case l36 => first | k_is | rfl)
    (case c36 => first | k_is | rfl)
    (case k36 => first | k_is | rfl)
    (case a37 => first | k_is | rfl)
    (case l37 => first | k_is | rfl)
    (case c37 => first | k_is | rfl)
    (case k37 => first | k_is | rfl)
    (case a38 => first | k_is | rfl)
    (case l38 => first | k_is | rfl)
    (case c38 => first | k_is | rfl)
    (case k38 => first | k_is | rfl)
    (case a39 => first | k_is | rfl)
    (case l39 => first | k_is | rfl)
    (case c39 => first | k_is | rfl)
    (case k39 => first | k_is | rfl)
    (case a40 => first | k_is | rfl)
    (case l40 => first | k_is | rfl)
    (case c40 => first | k_is | rfl)
    (case k40 => first | k_is | rfl)
    (case a41 => first | k_is | rfl)
    (case l41 => first | k_is | rfl)
    (case c41 => first | k_is | rfl)
    (case k41 => first | k_is | rfl)
    (case a42 => first | k_is | rfl)
    (case l42 => first | k_is | rfl)
    (case c42 => first | k_is | rfl)
    (case k42 => first | k_is | rfl)
    (case a43 => first | k_is | rfl)
    (case l43 => first | k_is | rfl)
    (case c43 => first | k_is | rfl)
    (case k43 => first | k_is | rfl)
    (case a44 => first | k_is | rfl)
    (case l44 => first | k_is | rfl)
    (case c44 => first | k_is | rfl)
    (case k44 => first | k_is | rfl)
    (case a45 => first | k_is | rfl)
    (case l45 => first | k_is | rfl)
    (case c45 => first | k_is | rfl)
    (case k45 => first | k_is | rfl)
    (case a46 => first | k_is | rfl)
    (case l46 => first | k_is | rfl)
    (case c46 => first | k_is | rfl)
    (case k46 => first | k_is | rfl)
    (case a47 => first | k_is | rfl)
    (case l47 => first | k_is | rfl)
    (case c47 => first | k_is | rfl)
    (case k47 => first | k_is | rfl)
    (case a48 => first | k_is | rfl)
    (case l48 => first | k_is | rfl)
    (case c48 => first | k_is | rfl)
    (case k48 => first | k_is | rfl)
    (case a49 => first | k_is | rfl)
    (case l49 => first | k_is | rfl)
    (case c49 => first | k_is | rfl)
    (case k49 => first | k_is | rfl)
    (case P1_Net => first | k_is | rfl)
    (case P2_Net => first | k_is | rfl)
    (case P3_Net => first | k_is | rfl)
    (case P4_Net => first | k_is | rfl)
    (case PN_Net_many => first | k_is | rfl)
    (case PN_Net_threads => first | k_is | rfl)
    (case PN_Net_near => first | k_is | rfl)
    (case M1_Net => first | k_is | rfl)
    (case M3_Net => first | k_is | rfl)
    (case M4_Net => first | k_is | rfl)
    (case P1_Table => first | k_is | rfl)
    (case P2_Table => first | k_is | rfl)
    (case P3_Table => first | k_is | rfl)
    (case P4_Table => first | k_is | rfl)
    (case PN_Table_many => first | k_is | rfl)
    (case PN_Table_beside => first | k_is | rfl)
    (case M1_Table => first | k_is | rfl)
    (case M3_Table => first | k_is | rfl)
    (case M4_Table => first | k_is | rfl)
    (case P1_World => first | k_is | rfl)
    (case P2_World => first | k_is | rfl)
    (case P3_World => first | k_is | rfl)
    (case P4_World => first | k_is | rfl)
    (case PN_World_table => first | k_is | rfl)
    (case PN_World_net => first | k_is | rfl)
    (case PN_World_pegs => first | k_is | rfl)
    (case PN_World_base => first | k_is | rfl)
    (case M1_World => first | k_is | rfl)
    (case M3_World => first | k_is | rfl)
    (case M4_World => first | k_is | rfl)
    (case E1_BadSize => first | k_is | rfl)
    (case E4_BadSize => first | k_is | rfl)
    (case E5_BadSize => first | k_is | rfl)
    (case E9_BadSize => first | k_is | rfl)
    (case E2_BadSize => first | rfl | decide +kernel | k_is)
    (case E3_BadSize => first | k_is | rfl)
    (case E6_BadSize => first | k_is | rfl)
    (case E7_BadSize => first | k_is | rfl)
    (case E8_BadSize => first | k_is | rfl)
    (case EA_BadSize => first | k_is | rfl)
    (case EB_BadSize => first | k_is | rfl)
    (case EC_BadSize => first | k_is | rfl)
    (case ED_BadSize => first | k_is | rfl)
    (case EI_BadSize => first | k_is | rfl)
    (case E1_BadStone => first | k_is | rfl)
    (case E4_BadStone => first | k_is | rfl)
    (case E5_BadStone => first | k_is | rfl)
    (case E9_BadStone => first | k_is | rfl)
    (case E2_BadStone => first | rfl | decide +kernel | k_is)
    (case E3_BadStone => first | k_is | rfl)
    (case E6_BadStone => first | k_is | rfl)
    (case E7_BadStone => first | k_is | rfl)
    (case E8_BadStone => first | k_is | rfl)
    (case EA_BadStone => first | k_is | rfl)
    (case EB_BadStone => first | k_is | rfl)
    (case EC_BadStone => first | k_is | rfl)
    (case ED_BadStone => first | k_is | rfl)
    (case EI_BadStone => first | k_is | rfl)
    (case E1_NoPeg => first | k_is | rfl)
    (case E4_NoPeg => first | k_is | rfl)
    (case E5_NoPeg => first | k_is | rfl)
    (case E9_NoPeg => first | k_is | rfl)
    (case E2_NoPeg => first | rfl | decide +kernel | k_is)
    (case E3_NoPeg => first | k_is | rfl)
    (case E6_NoPeg => first | k_is | rfl)
    (case E7_NoPeg => first | k_is | rfl)
    (case E8_NoPeg => first | k_is | rfl)
    (case EA_NoPeg => first | k_is | rfl)
    (case EB_NoPeg => first | k_is | rfl)
    (case EC_NoPeg => first | k_is | rfl)
    (case ED_NoPeg => first | k_is | rfl)
    (case EI_NoPeg => first | k_is | rfl)
    (case EG => first | k_is | rfl)
    (case ET => first | k_is | rfl)
    (case z_all => first | k_is | rfl)
    (case z_any => first | k_is | rfl)
    (case z_bool => first | k_is | rfl)
    (case z_dict => first | k_is | rfl)
    (case z_enumerate => first | k_is | rfl)
    (case z_int => first | k_is | rfl)
    (case z_isinstance => first | k_is | rfl)
    (case z_len => first | k_is | rfl)
    (case z_list => first | k_is | rfl)
    (case z_max => first | k_is | rfl)
    (case z_min => first | k_is | rfl)
    (case z_range => first | k_is | rfl)
    (case z_sorted => first | k_is | rfl)
    (case z_tuple => first | k_is | rfl)
    (case z_zip => first | k_is | rfl)
    (case y_MOST_COATS => exact ⟨_, by k_is⟩)
    (case y_MOST_PLACES => exact ⟨_, by k_is⟩)
    (case y_MOST_THREADS => exact ⟨_, by k_is⟩)
