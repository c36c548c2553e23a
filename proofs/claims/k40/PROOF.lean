import PyProof.Rows.All
import Wide.All
import OpenK.AllK
import Wide.FinOn
import HandS.ForMost
import HandS.IsInst
import HandS.TupAny
import HandS.Style
import HandS.Wide
import HandS.Walk
import HandS.WordsExc
import KE.GoesEnum
import PyProof.ReprRoads
import HandS.Evl
import KE.Datum
import HandS.ForExc
import HandS.ExcInit
import HandS.ExcField
import KE.KExcIs
import HandS.Conv
import HandS.TupLe
import HandS.Deep
import HandS.SortRule
import HandS.Flow
import PySem.Challenge.RW_betweencoats_k40_maps_of_nets_and_pulled
set_option Elab.async false
set_option linter.all false
set_option maxRecDepth 100000
namespace Bw
open PySem PySem.Spec PyProof.Rows L2

/-! ### a def that is called by its name -/
structure Cal (P : Program) (w : World) (K : PySem.W.Frag) (mg : Str → Option Value) (base : Heap) (CX : CXT) (k : Nat) (x : Str) (ps : List Str) (st : Stmt) (sp : Sp) : Prop where
  ex : ∃ (f : Addr) (fd : FuncData), FnOk P w K mg base CX k f fd ps sp ∧ Fun K x x st f fd ∧ mg x = some (.ref f) ∧ Binds K fd ps []
section
variable {X : Cx} {CX : CXT} {k : Nat} {x : Str} {ps ks : List Str} {st : Stmt} {sp : Sp} {E : XK} {p pos : Pos} {e : Expr} {es : List Expr} {kws : List Keyword} {t tk : TA}
theorem pe_cal (c : Cal X.prog X.w X.K X.mg X.base CX k x ps st sp) (hr : Room k X.A) (hx : Passes CX X E) (ha : PA X (e :: es) t) (hg : Gl X x := by rfl) (hdb : (x == ("__debug__" : Str)) = false := by decide)
    (he : starEach (e :: es) X.env = (false, eval e X.env) :: starEach es X.env := by rfl) (hpl : (backTo pos (starEach es X.env)).any (·.1) = false := by rfl) : PE X (.Call (.Name x p) (e :: es) [] pos) (tCall sp [] E t) := by
  obtain ⟨f, fd, G, F, hm, hb⟩ := c.ex
  exact pe_call G hr hg hm F.kp hb .nil hx ha hdb he hpl
theorem pe_cal0 (c : Cal X.prog X.w X.K X.mg X.base CX k x ps st sp) (hr : Room k X.A) (hx : Passes CX X E) (hg : Gl X x := by rfl) (hdb : (x == ("__debug__" : Str)) = false := by decide) : PE X (.Call (.Name x p) [] [] pos) (tCall sp [] E tNil) := by
  obtain ⟨f, fd, G, F, hm, hb⟩ := c.ex
  exact pe_call0 G hr hg hm F.kp hb .nil hx hdb
/-- how a call with keywords binds, whatever the function object -/
structure KwB (x : Str) (st : Stmt) (ps ks : List Str) (g : List Value → List Value → List Value) (gV : List V → List V → List V) : Prop where
  to : ∀ (kV doc pm : Value) (an : Option Addr) (cdv ct : Value) (us ws : List Value), (g us ws).length = ps.length →
    bindArgs (PySem.W.fnOf x x (defArgs st) (defBody st) (defScope st) .none kV doc pm an cdv ct) ⟨us, ks.zip ws⟩ = pure (ps.zip (g us ws))
  rel : ∀ {vs : List V} {us : List Value} {zs : List V} {ws : List Value}, Vals vs us → Vals zs ws → Vals (gV vs zs) (g us ws)
variable {g : List Value → List Value → List Value} {gV : List V → List V → List V}
theorem KwB.binds {K : PySem.W.Frag} {f : Addr} {fd : FuncData} (B : KwB x st ps ks g gV) (F : Fun K x x st f fd) : KBinds K fd ps ks g gV := by
  obtain ⟨oc, od, kV, doc, pm, an, cdv, ct, osl, rfl, lk, hcd⟩ := F.ex
  exact ⟨fun s us ws _ hl => .of_eq (B.to kV doc pm an cdv ct us ws hl), fun r rz => B.rel r rz⟩
theorem pe_calK (c : Cal X.prog X.w X.K X.mg X.base CX k x ps st sp) (B : KwB x st ps ks g gV) (hr : Room k X.A) (hx : Passes CX X E) (ha : PA X (e :: es) t) (hkw : PK X kws tk) (hg : Gl X x := by rfl)
    (hall : (backToKw pos (keywordEach kws X.env)).all (·.1.isSome) = true := by rfl) (hks : (backToKw pos (keywordEach kws X.env)).filterMap (·.1) = ks := by rfl)
    (hdb : (x == ("__debug__" : Str)) = false := by decide) (he : starEach (e :: es) X.env = (false, eval e X.env) :: starEach es X.env := by rfl)
    (hpl : ((backTo pos (starEach (e :: es) X.env)).any (·.1) || (backToKw pos (keywordEach kws X.env)).any (·.1.isNone)) = false := by rfl) :
    PE X (.Call (.Name x p) (e :: es) kws pos) (tCallK sp gV E t tk) := by
  obtain ⟨f, fd, G, F, hm, hb⟩ := c.ex
  exact pe_callK G hr hg hm F.kp (B.binds F) hx ha hkw hall hks hdb he hpl
/-- keywords alone -/
theorem pe_calK0 (c : Cal X.prog X.w X.K X.mg X.base CX k x ps st sp) (B : KwB x st ps ks g gV) (hr : Room k X.A) (hx : Passes CX X E) (hkw : PK X kws tk) (hg : Gl X x := by rfl)
    (hall : (backToKw pos (keywordEach kws X.env)).all (·.1.isSome) = true := by rfl) (hks : (backToKw pos (keywordEach kws X.env)).filterMap (·.1) = ks := by rfl)
    (hdb : (x == ("__debug__" : Str)) = false := by decide)
    (hpl : ((backTo pos (starEach [] X.env)).any (·.1) || (backToKw pos (keywordEach kws X.env)).any (·.1.isNone)) = false := by rfl) :
    PE X (.Call (.Name x p) [] kws pos) (tCallK sp gV E tNil tk) := by
  obtain ⟨f, fd, G, F, hm, hb⟩ := c.ex
  refine ⟨fun pins s σ H Q I h => ?_⟩
  refine wpAny_Call_Name_kw (ld_glob I hg hm ?_ hdb)
  refine PySem.W.callWith_KW0 (h₀ := X.base) I.ok.mod.kin F.kp hall (thn (hkw.run pos pins s σ H _ I h) fun ws s2 ⟨zs, H2, I2, rz, q2⟩ => ⟨I2.kIn, ?_⟩) hpl
  rw [hks]
  exact run_fnk (us := []) (vs := []) G hr (B.binds F) hx I2 .nil rz q2
end

/-! ### enumerate of a tuple -/
def IteT (K : PySem.W.Frag) (a : Addr) : It :=
  ⟨fun i H => ∃ (xs : List V) (x : V), SqT K H a xs ∧ xs[i]? = some x, fun i H v H' => ∃ T x, v = .ref T ∧ H T = none ∧ H' = upd H T (.tup [.int (i : Nat), x]) ∧ ∀ xs, SqT K H a xs → xs[i]? = some x, fun i H => ∃ xs : List V, SqT K H a xs ∧ i = xs.length⟩
set_option maxHeartbeats 1000000 in
theorem meets_enum_tup {v : Value} {o : Obj} {H : Heap → Prop} (B : Begins v o H) :
    Meets (Builtin.«enumerate.__new__» ⟨[.type "enumerate", v], []⟩) (fun _ R s => H s.heap ∧
      R (.ok (.ret (.ref (s.heap.push o).objs.size))) { s with heap := (s.heap.push o).push { cls := .type "enumerate", data := .fields #[.none, .bool false, .ref s.heap.objs.size, rawInt 0, .none, .none] } }) :=
  .of_wp fun prog w A R s h => by
    obtain ⟨hp, g, d, tk, os⟩ := s; obtain ⟨h1, h⟩ := h
    have hsub := sub_enumerate
    have q1 : ∀ {A' : Around} {E : Value → Shared → Prop} {Q : Value → Shared → Prop}, Q (.ref hp.objs.size) ⟨hp.push o, g, d, tk, os⟩ → wpAny (model prog w) A' (pyIter v) Q E ⟨hp, g, d, tk, os⟩ :=
      fun q => B.iter prog w _ _ ⟨hp, g, d, tk, os⟩ _ h1 q
    wp_walk using q1
    refine wpAny_stack_any fun st => wpAny_pure ?_
    split
    · rename_i c _ _ _ _ _
      cases (c == Value.type "enumerate")
      · wp_walk using q1
        exact ⟨_, rfl, h⟩
      · wp_walk using q1
        exact ⟨_, rfl, h⟩
    · wp_walk using q1
      exact ⟨_, rfl, h⟩
end Bw

namespace HT
open PySem PySem.Spec PyProof.Rows
section
variable {prog : Program} {w : World} {A : Around} {E : Value → Shared → Prop} {s : Shared}
theorem sliceApplied_rev {sl : Addr} {vk : Value} {n : Nat} {Q : Int × Int × Nat → Shared → Prop} (hs : s.heap.IsSliceOf sl .none .none vk) (pk : IsPart vk (some (-1)))
    (h : Q ((n : Int) - 1, -1, n) s) : wpAny (model prog w) A (Builtin.Slice.sliceApplied (.ref sl) (pure (n : Int))) Q E s := by
  obtain ⟨os, hos, hcs, hds⟩ := id hs
  unfold Builtin.Slice.sliceApplied Builtin.Slice.sliceFields
  refine wpAny_bind (wpAny_bind (wpAny_field hos hds (x := .none) rfl (wpAny_bind (wpAny_field hos hds (x := .none) rfl (wpAny_bind (wpAny_field hos hds (x := vk) rfl (wpAny_pure ?_)))))))
  refine wpAny_bind (slicePart_ pk ?_)
  show wpAny _ _ (if ((-1 : Int) == 0) = true then _ else _) _ _ s
  rw [if_neg (by decide)]
  refine wpAny_bind (slicePart_ .none (wpAny_bind (slicePart_ .none (wpAny_bind (wpAny_pure ?_)))))
  show wpAny _ _ (pure ((n : Int) - 1, (-1 : Int), Builtin.Slice.slicePlaces ((n : Int) - 1) (-1) (-1))) _ _ s
  have e : Builtin.Slice.slicePlaces ((n : Int) - 1) (-1) (-1) = n := by
    unfold Builtin.Slice.slicePlaces
    rw [if_neg (by decide)]
    by_cases h0 : n = 0
    · subst h0; decide
    · rw [if_pos (show (n : Int) - 1 > -1 by omega), show (- -1 : Int) = 1 by decide, Int.ediv_one]
      omega
  rw [e]
  exact wpAny_pure h
theorem pick_rev (xs : Array Value) : ((List.range xs.size).filterMap fun (m : Nat) => xs[(((xs.size : Int) - 1) + (m : Int) * (-1)).toNat]?).toArray = xs.toList.reverse.toArray := by
  have e : (List.range xs.size).filterMap (fun (m : Nat) => xs[(((xs.size : Int) - 1) + (m : Int) * (-1)).toNat]?) = xs.toList.reverse := by
    apply List.ext_getElem?
    intro i
    have gen : ∀ l : List Nat, (∀ m ∈ l, m < xs.size) → l.filterMap (fun (m : Nat) => xs[(((xs.size : Int) - 1) + (m : Int) * (-1)).toNat]?) = l.map (fun m => xs[xs.size - 1 - m]?.getD .none) := by
      intro l
      induction l with
      | nil => intro _; rfl
      | cons m l ih =>
        intro hl
        have hm := hl m List.mem_cons_self
        have e2 : (((xs.size : Int) - 1) + (m : Int) * (-1)).toNat = xs.size - 1 - m := by omega
        have e3 : xs[xs.size - 1 - m]? = some (xs[xs.size - 1 - m]'(by omega)) := Array.getElem?_eq_getElem (by omega)
        rw [List.map_cons, ← ih fun k hk => hl k (List.mem_cons_of_mem _ hk)]
        simp only [List.filterMap_cons, e2, e3, Option.getD_some]
    have e1 := gen (List.range xs.size) fun m hm => List.mem_range.mp hm
    rw [e1]
    by_cases hi : i < xs.size
    · rw [List.getElem?_map, List.getElem?_range hi, List.getElem?_reverse (by simpa using hi)]
      simp only [Option.map_some, Array.length_toList, Array.getElem?_toList]
      rw [Array.getElem?_eq_getElem (by omega)]
      rfl
    · rw [List.getElem?_eq_none (by simpa using hi), List.getElem?_eq_none (by simpa using hi)]
  rw [e]
theorem getItem_tuple_rev {t sl : Addr} {items : Array Value} {vk : Value} {Q : Value → Shared → Prop} (ht : IsTup s.heap t items) (hs : s.heap.IsSliceOf sl .none .none vk) (pk : IsPart vk (some (-1)))
    (h : Q (.ref s.heap.objs.size) { s with heap := s.heap.push { cls := .type "tuple", data := .seq items.toList.reverse.toArray } })
    (hsz : items.size ≤ sizeLine) : wpAny (model prog w) A (getItem (.ref t) (.ref sl)) Q E s := by
  have htake : sizeOk (.seq items.toList.reverse.toArray) := by
    show items.toList.reverse.toArray.size ≤ sizeLine
    rw [List.size_toArray, List.length_reverse, Array.length_toList]
    exact hsz
  obtain ⟨os, hos, hcs, hds⟩ := id hs
  have hTs : s.TypeIs (.ref sl) "slice" := ⟨os, hos, hcs⟩
  unfold getItem
  try with_reducible refine wpAny_holding ?_
  first | refine wpAny_bind (wpAny_pure ?_) | skip
  refine wpAny_bind (wpAny_sequenceKey ht.typeIs (by decide) ?_)
  refine wpAny_bind (wpAny_callSpecial?_slot (name := Str.ofString "__getitem__") ht.typeIs PyProof.Rows.slot_tuple_getitem
    (wpAny_call_entry PyProof.Rows.slot_tuple_getitem ht.typeIs entry_tuple_getitem ?_ (args_tuple_getitem _ _)))
  show wpAny _ _ (Builtin.Tuple.tupleItemsOf (.ref t) >>= _) _ _ s
  refine wpAny_bind (tupleItemsOf_ ht ?_)
  refine wpAny_bind (wpAny_typeOf hTs ?_)
  rw [if_pos (by decide)]
  refine wpAny_bind (sliceApplied_rev hs pk ?_)
  have hno : ¬ (((((items.size : Int) - 1)) == 0 && (-1 : Int) == 1 && items.size == items.size) = true) := by
    intro q
    rw [Bool.and_eq_true, Bool.and_eq_true] at q
    exact absurd q.1.2 (by decide)
  show wpAny _ _ (if (((items.size : Int) - 1) == 0 && (-1 : Int) == 1 && items.size == items.size) = true then _ else _) _ _ s
  rw [if_neg hno, pick_rev]
  first
    | exact wpAny_bind (m := Builtin.Tuple.tupleExact _) (wpAny_newObj_type (wpAny_pure ⟨_, rfl, wpAny_pure h⟩) htake)
    | exact wpAny_bind (m := Builtin.Tuple.tupleExact _) (wpAny_newObj_type (wpAny_bind (wpAny_pure (wpAny_pure ⟨_, rfl, wpAny_pure h⟩))) htake)
    | exact wpAny_bind (wpAny_bind (m := Builtin.Tuple.tupleExact _) (wpAny_newObj_type (wpAny_pure (wpAny_pure ⟨_, rfl, wpAny_pure h⟩)) htake))
    | exact wpAny_bind (wpAny_bind (m := Builtin.Tuple.tupleExact _) (wpAny_newObj_type (wpAny_pure ⟨_, rfl, wpAny_pure h⟩) htake))
end
end HT
namespace Bw
open PySem PySem.Spec PyProof.Rows L2
/-! ### t[::-1] -/
def tRevT (K : PySem.W.Frag) (te : TE) : TE := fun σ H Q => te σ H fun x H1 => ∃ a xs, x = .ref a ∧ SqT K H1 a xs ∧ ∀ p, H1 p = none → Q (.ref p) (upd H1 p (.tup xs.reverse))
theorem pe_revT {X : Cx} {e : Expr} {te : TE} {k : Nat} {p1 p2 p3 pos : Pos} (he : PE X e te) : PE X (.Subscript e (.Slice none none (some (.UnaryOp .USub (.Constant (.int 1) k p1) p2)) p3) pos) (tRevT X.K te) := by
  refine ⟨fun pins s σ H Q I h => ?_⟩
  refine Subscript_ (thn (he.run pins s σ H _ I h) fun v s1 ⟨x, H1, I1, r1, q1⟩ => ?_)
  obtain ⟨a, xs, ex, hx, q⟩ := q1
  subst ex
  cases r1
  have hst : PO X (some (.UnaryOp .USub (.Constant (.int 1) k p1) p2)) (tPart (tUn (rU fun i => .int (-i)) (tC (.int 1)))) := po_some (pe_un un_neg pe_int)
  refine wpAny_Slice (thn (po_none.run pins s1 σ H1 (fun o H2 => o = none ∧ H2 = H1) I1 ⟨rfl, rfl⟩) fun vl s2 ⟨l, H2, I2, pl, el, e2⟩ => ?_)
  subst el e2
  refine thn (po_none.run pins s2 σ H2 (fun o H3 => o = none ∧ H3 = H2) I2 ⟨rfl, rfl⟩) fun vu s3 ⟨u, H3, I3, pu, eu, e3⟩ => ?_
  subst eu e3
  refine thn (hst.run pins s3 σ H3 (fun o H4 => o = some (-1) ∧ H4 = H3) I3 ⟨1, rfl, -1, rfl, rfl, rfl⟩) fun vs s4 ⟨o, H4, I4, ps, eo, e4⟩ => ?_
  subst eo e4
  cases pl
  cases pu
  have I5 : Inv X pins σ H4 { s4 with heap := s4.heap.push { cls := .type "slice", data := .fields #[.none, .none, vs] } } := I4.kept (t' := s4.toks) fun b ob q => Heap.get?_push_of_some _ q
  obtain ⟨its, r, ht, hz⟩ := I5.tuple hx
  have hlen := r.length
  show wpAny (model X.prog X.w) X.A (subscriptTail e (.Slice none none (some (.UnaryOp .USub (.Constant (.int 1) k p1) p2)) p3) (.ref a) (.ref s4.heap.objs.size)) (EP X pins σ Q) X.xe { s4 with heap := s4.heap.push { cls := .type "slice", data := .fields #[.none, .none, vs] } }
  refine tail_any (ops := [.ref a, .ref s4.heap.objs.size]) ht.typeIs (PyProof.Rows.slot_tuple_getitem.lookup) ?_ (by with_unfolding_all rfl)
  refine HT.getItem_tuple_rev ht (Heap.IsSliceOf.new _ .none .none vs) ps ?_ (by rw [List.size_toArray]; omega)
  refine ⟨.ref _, _, I5.laid (t' := s4.toks) (o := .tup xs.reverse) (fun b ob q => Heap.get?_push_of_some _ q) (Nat.le_refl _) ?_, rfl, q _ (I5.hok.fresh (Nat.le_refl _))⟩
  exact ⟨by rw [List.length_reverse]; exact hz, _, r.reverse, IsTup.new _ _⟩
/-! ### enumerate of a tuple -/
theorem turn_enumT {P : Program} {w : World} {K : PySem.W.Frag} {elts : List Expr} {kk : Nat} {tpos : Pos} (a e it : Addr) (hai : a ≠ it) (hea : e ≠ a) :
    Turn P w K (.Tuple elts kk tpos) (IteT K a) [e, it] e (fun i h => (∃ old, IsEnum h e it ((i : Nat) : Int) old) ∧ h.IsTupleIter it a i ∧ e ≠ it) where
  mem := by simp
  obj := fun i h st b hb => by
    obtain ⟨⟨old, he⟩, ⟨o, ho, hc, hd⟩, _⟩ := st
    have e' : b = e ∨ b = it := by simpa using hb
    rcases e' with z | z
    · rw [z]; exact ⟨_, he, fun v q => nomatch q⟩
    · rw [z]; exact ⟨o, ho, fun v q => by rw [hd] at q; cases q⟩
  keep := fun i h h' st k => let ⟨⟨old, he⟩, hi, hne⟩ := st; ⟨⟨old, k e (by simp) _ he⟩, hi.at fun o q => k it (by simp) o q, hne⟩
  item := by
    intro X hP hw hK hc i pins s σ H E I hf st hg
    subst hP hw hK
    obtain ⟨⟨old, he⟩, hit, hne⟩ := st
    obtain ⟨xs, x, hq, hx⟩ := hg
    obtain ⟨its, rv, p, hz⟩ := I.tuple hq
    obtain ⟨u, hu, ru⟩ := rv.get hx
    have hel : e < s.heap.objs.size := Heap.lt_size he
    have hil : it < s.heap.objs.size := by obtain ⟨_, q, _⟩ := hit; exact Heap.lt_size q
    have hD := Draws.tuple (prog := X.prog) (w := X.w) (A := X.A.in1) (show X.A.in1.handled = none from I.ok.hd hc) it a hai its.toArray
    have hlt : i < its.toArray.size := by
      have := (List.getElem?_eq_some_iff.mp hu).1
      simpa using this
    refine wpAny_pyNext_enum_itemD hD he ⟨hit, p⟩ hlt hne (by simp [hne, hea]) fun x' h' tk hx' ho hst' hT hsz hk => ?_
    have ex' : x' = u := by
      have := hx'.symm.trans (show its.toArray[i]? = some u by simpa using hu)
      exact Option.some.inj this
    subst ex'
    refine ⟨_, rfl, wpAny_letOwnedTupleGo_enum (s := { s with heap := h', toks := tk + 1 }) ho fun h'' he' sb => ?_⟩
    have hT2 : h''.get? s.heap.objs.size = some { cls := .type "tuple", data := .seq #[.int i tk, x'] } := (sb.2 _ (Nat.ne_of_gt hel)).trans hT
    have new : ObjOk X.prog X.w (upd H s.heap.objs.size (.tup [.int (i : Nat), x])) h'' s.heap.objs.size (.tup [.int (i : Nat), x]) :=
      ⟨by show 2 ≤ sizeLine; decide, [.int i tk, x'], .cons ⟨_, rfl⟩ (.cons ru .nil), ⟨_, hT2, rfl, _, rfl⟩⟩
    have I1 : Inv X pins σ (upd H s.heap.objs.size (.tup [.int (i : Nat), x])) { s with heap := h'', toks := tk + 1 } :=
      I.turnedNew (ch := [e, it]) (fun b ob hb q => (sb.2 b (fun z => hb (by simp [z]))).trans (hk b ob (fun z => hb (by simp [z])) (fun z => hb (by simp [z])) q)) hf (Nat.le_refl _) new
    refine ⟨.ref s.heap.objs.size, _, I1, rfl, ⟨_, x, rfl, I.hok.fresh (Nat.le_refl _), rfl, fun ys hy => by rw [I.tuple_inj hy hq]; exact hx⟩, ⟨⟨x', ?_⟩, hst'.1.at fun o q => (sb.2 it (Ne.symm hne)).trans q, hne⟩, fun b hb => ?_⟩
    · have e1 : ((i + 1 : Nat) : Int) = (i : Int) + 1 := by omega
      rw [e1]; exact he'
    · have hb' : b < s.heap.objs.size := by
        have e' : b = e ∨ b = it := by simpa using hb
        rcases e' with z | z
        · rw [z]; exact hel
        · rw [z]; exact hil
      rw [upd_ne (Nat.ne_of_lt hb')]
      exact (hf b hb).1
  done := by
    intro X hP hw hK hc i pins s σ H E I hf st hg
    subst hP hw hK
    obtain ⟨⟨old, he⟩, hit, hne⟩ := st
    obtain ⟨xs, hq, hx⟩ := hg
    obtain ⟨its, rv, p, hz⟩ := I.tuple hq
    obtain ⟨f0, f1, f2, f3, f4, f5⟩ := hf it (by simp)
    have hl := rv.length
    have hD := Draws.tuple (prog := X.prog) (w := X.w) (A := X.A.in1) (show X.A.in1.handled = none from I.ok.hd hc) it a hai its.toArray
    have hi : i = its.toArray.size := by rw [List.size_toArray]; omega
    subst hi
    exact wpAny_pyNext_enum_endD hD he ⟨hit, p⟩ fun h' eb => ⟨rfl, I.turned (t' := s.toks) (fun b o hb q => eb b o hb q) f0 f1 f3 f4 f5⟩
  self := fun A i s Q E st h => let ⟨⟨_, he⟩, _⟩ := st; wpAny_pyIter_enum he h
def iEnumT (K : PySem.W.Frag) (ta : TA) : TI := fun σ H R => ta σ H fun vs H1 => ∃ a xs, vs = [.ref a] ∧ SqT K H1 a xs ∧ R (IteT K a) H1
theorem pi_enumT {X : Cx} {e : Expr} {ta : TA} {p pos tpos : Pos} {elts : List Expr} {kk : Nat} (hg : Gl X "enumerate") (hm : X.mg "enumerate" = none) (ha : PA X [e] ta) (hs : starEach [e] X.env = [(false, eval e X.env)] := by rfl) :
    PI X (.Tuple elts kk tpos) (.Call (.Name "enumerate" p) [e] [] pos) (iEnumT X.K ta) := by
  refine ⟨fun pins s σ H R I h => ?_⟩
  refine Call_ (ld_blt I hg hm boot_enumerate (PyProof.Rows.callWith_type1 (thn (ha.run pos pins s σ H _ I h) fun us s1 ⟨vs, H1, I1, r1, q1⟩ => ?_) hs rfl))
  obtain ⟨a, xs, ex, hq, q⟩ := q1
  subst ex
  cases r1 with
  | cons r rr =>
    cases rr
    cases r
    obtain ⟨its, rv, p', hz⟩ := I1.tuple hq
    have hla : a < s1.heap.objs.size := by obtain ⟨o, ho, _⟩ := p'; exact Heap.lt_size ho
    refine callType_new F.called_enumerate (by decide) (F.typeCall_enumerate_1 _) (F.newCall_enumerate_1 _) (fun obj => F.args_object_init_2 obj _) F.entry_enumerate_new
      (meets_enum_tup (begins_tuple a its.toArray)) ⟨p', ?_⟩
    have hz1 : (s1.heap.push { cls := .type "tuple_iterator", data := .fields #[.ref a, .int 0 0] }).objs.size = s1.heap.objs.size + 1 := Heap.size_push ..
    have he : IsEnum ((s1.heap.push { cls := .type "tuple_iterator", data := .fields #[.ref a, .int 0 0] }).push
        { cls := .type "enumerate", data := .fields #[.none, .bool false, .ref s1.heap.objs.size, rawInt 0, .none, .none] }) (s1.heap.objs.size + 1) s1.heap.objs.size 0 .none := by
      have := Heap.get?_push_size (s1.heap.push { cls := .type "tuple_iterator", data := .fields #[.ref a, .int 0 0] })
        (o := { cls := .type "enumerate", data := .fields #[.none, .bool false, .ref s1.heap.objs.size, rawInt 0, .none, .none] }) rfl
      rw [hz1] at this; exact this
    have hit : ((s1.heap.push { cls := .type "tuple_iterator", data := .fields #[.ref a, .int 0 0] }).push
        { cls := .type "enumerate", data := .fields #[.none, .bool false, .ref s1.heap.objs.size, rawInt 0, .none, .none] }).IsTupleIter s1.heap.objs.size a 0 := ⟨_, Heap.get?_push_of_some _ (Heap.get?_push_size _ rfl), rfl, rfl⟩
    show _ ∧ _
    rw [hz1]
    refine ⟨⟨_, he, rfl⟩, wpAny_pyIter_enum he ?_⟩
    have I2 : Inv X pins σ H1 { s1 with heap := (s1.heap.push { cls := .type "tuple_iterator", data := .fields #[.ref a, .int 0 0] }).push { cls := .type "enumerate", data := .fields #[.none, .bool false, .ref s1.heap.objs.size, rawInt 0, .none, .none] } } :=
      I1.kept (t' := s1.toks) fun b o x => Heap.get?_push_of_some _ (Heap.get?_push_of_some _ x)
    refine ⟨s1.heap.objs.size + 1, [s1.heap.objs.size + 1, s1.heap.objs.size], _, _, H1, rfl, I2, turn_enumT a (s1.heap.objs.size + 1) s1.heap.objs.size (Nat.ne_of_lt hla) (Nat.ne_of_gt (Nat.lt_succ_of_lt hla)), ⟨⟨.none, he⟩, hit, Nat.succ_ne_self _⟩, fun b hb => ?_, q⟩
    have e' : b = s1.heap.objs.size + 1 ∨ b = s1.heap.objs.size := by simpa using hb
    have hle : s1.heap.objs.size ≤ b := by
      rcases e' with z | z
      · rw [z]; exact Nat.le_add_right _ _
      · rw [z]; exact Nat.le_refl _
    exact I1.fpOk hle (I1.hok.fresh hle)
theorem walk_enumT {K : PySem.W.Frag} {a : Addr} {xs : List V} : Walk (IteT K a) xs.length (fun H => SqT K H a xs) (YPair (fun i => some (.int (i : Nat))) (fun i => xs[i]?)) := by
  refine ⟨fun i _ hi q => ⟨xs, xs[i], q, by simp [hi]⟩, fun _ q => ⟨xs, q, rfl⟩, fun i H v H' _ q y => ?_⟩
  obtain ⟨T, x, h1, h2, h3, h4⟩ := y
  exact ⟨T, .int (i : Nat), x, h1, h2, h3, rfl, h4 xs q⟩
/-! ### repr of data -/
theorem call_reprD {X : Cx} (hg : X.A.guards = some []) (hu : X.A.units + 80 < cLine) : CallR X (.builtin "repr") (fun xs H Q => ∃ a d, xs = [.ref a] ∧ Dp X.K H (.ref a) d ∧ d.showable = true ∧ d.hasDict = false ∧ d.depth < 64 ∧ d.shown.length ≤ sizeLine ∧ Q (.str d.shown) H) := by
  intro pins s σ H xs us Q I r h
  obtain ⟨a, d, rfl, hd, hs, hn, hp, hz, q⟩ := h
  obtain ⟨u, rfl, ru⟩ := vals1 r
  obtain ⟨as, hr⟩ := Dp.reads I d _ _ hd ru
  cases ru
  exact repr_of_reads' hr hs (PyData.noDict_hsm hn) hg (by omega) (fun _ _ e => e) (fun h' u tk hk => ⟨.str _, H, I.kept (t' := tk) hk, ⟨_, rfl⟩, q⟩) hz
end Bw

namespace Bw
open PySem PySem.Spec PyProof.Rows L2
/-! ### the drawn source and what a def leaves -/
def Src (H : Hp) (p : Addr) : Prop := ∃ a b : Int, H p = some (.lst [.int a, .int b]) ∧ 0 ≤ a ∧ 0 ≤ b ∧ b < 2147483647
/-- all that was tracked but at p is as it was -/
def Exb (p : Addr) (H H' : Hp) : Prop := ∀ b o, b ≠ p → H b = some o → H' b = some o
section
variable {p q a : Addr} {H H1 H2 : Hp} {K : PySem.W.Frag} {xs : List V} {o : HO}
theorem Exb.refl : Exb p H H := fun _ _ _ h => h
theorem Exb.trans (e : Exb p H H1) (f : Exb p H1 H2) : Exb p H H2 := fun b o n h => f b o n (e b o n h)
theorem Exb.of (e : Same H H1) : Exb p H H1 := fun b o _ h => e b o h
theorem Exb.new (h : H q = none) : Exb p H (upd H q o) := fun b u _ e => by
  rw [upd_ne (ne_of_none e h)]
  exact e
theorem _root_.L2.Same.new (h : H q = none) : Same H (upd H q o) := fun b u e => by
  rw [upd_ne (ne_of_none e h)]
  exact e
theorem Exb.at : Exb p H (upd H p o) := fun b u n e => by
  rw [upd_ne n]
  exact e
theorem Exb.put (e : Exb p H H1) : Exb p H (upd H1 p o) := fun b u n h => by
  rw [upd_ne n]
  exact e b u n h
/-- an object that H did not know may change -/
theorem _root_.L2.Same.mut (e : Same H H1) (h : H q = none) : Same H (upd H1 q o) := fun b u hb => by
  rw [upd_ne (ne_of_none hb h)]
  exact e b u hb
theorem Exb.mut (e : Exb p H H1) (h : H q = none) : Exb p H (upd H1 q o) := fun b u n hb => by
  rw [upd_ne (ne_of_none hb h)]
  exact e b u n hb
theorem _root_.L2.Same.tup (e : Same H H1) (h : SqT K H a xs) : SqT K H1 a xs := by
  rcases h with (h | ⟨o, h⟩) | h
  · exact .inl (.inl (e _ _ h))
  · exact .inl (.inr ⟨o, e _ _ h⟩)
  · exact .inr h
theorem Exb.tup (e : Exb p H H1) (s : Src H p) (h : SqT K H a xs) : SqT K H1 a xs := by
  obtain ⟨x, y, hp, _⟩ := s
  rcases h with (h | ⟨o, h⟩) | h
  · exact .inl (.inl (e _ _ (fun z => by rw [z, hp] at h; cases h) h))
  · exact .inl (.inr ⟨o, e _ _ (fun z => by rw [z, hp] at h; cases h) h⟩)
  · exact .inr h
theorem Exb.lst (e : Exb p H H1) (n : q ≠ p) (h : H q = some (.lst xs)) : H1 q = some (.lst xs) := e _ _ n h
theorem _root_.L2.Same.src (e : Same H H1) (s : Src H p) : Src H1 p := by
  obtain ⟨x, y, hp, h⟩ := s
  exact ⟨x, y, e _ _ hp, h⟩
theorem Src.ne (s : Src H p) (h : H q = none) : q ≠ p := fun z => by
  obtain ⟨x, y, hp, _⟩ := s
  rw [z, hp] at h
  cases h
theorem Src.put (s : Src H p) (n : q ≠ p) : Src (upd H q o) p := by
  obtain ⟨x, y, hp, h⟩ := s
  exact ⟨x, y, by rw [upd_ne n.symm]; exact hp, h⟩
theorem Exb.fresh (e : Exb p H H1) (n : q ≠ p) (h : H1 q = none) : H q = none := by
  cases z : H q with
  | none => rfl
  | some o => rw [e q o n z] at h; cases h
end
theorem atI0 {x : V} {r : List V} : atI (x :: r) 0 = some x := atI_nat (j := 0) rfl
theorem atI1 {x y : V} {r : List V} : atI (x :: y :: r) 1 = some y := atI_nat (j := 1) rfl
theorem ixN_nat {n : Nat} {i : Int} {j : Nat} (e : i = (j : Int)) (h : j < n) : ixN n i = some j := by
  subst e
  unfold ixN
  rw [if_pos (by omega), if_pos (by omega)]; simp
theorem ixN_neg {n : Nat} {i : Int} {j : Nat} (e : i = (j : Int) - (n : Int)) (h : j < n) : ixN n i = some j := by
  subst e
  unfold ixN
  rw [if_neg (by omega), if_pos (by omega)]
  congr 1
  omega
theorem atN {α : Type} {xs : List α} {i : Int} {j : Nat} {v : α} (h : xs[j]? = some v) (e : i = (j : Int)) : atI xs i = some v := by
  subst e
  exact atI_nat h
theorem atNeg {α : Type} {xs : List α} {i : Int} {j : Nat} {v : α} (h : xs[j]? = some v) (e : i = (j : Int) - (xs.length : Int)) : atI xs i = some v := by
  unfold atI
  rw [ixN_neg e (List.getElem?_eq_some_iff.mp h).1]
  exact h
theorem num_map (i : Nat) (ns : List Int) (x : V) (h : (ns.map V.int)[i]? = some x) : ∃ (hi : i < ns.length), x = .int ns[i] := by
  rw [List.getElem?_map] at h
  cases e : ns[i]? with
  | none => rw [e] at h; cases h
  | some z =>
    obtain ⟨h1, h2⟩ := List.getElem?_eq_some_iff.mp e
    rw [e] at h
    exact ⟨h1, by rw [h2]; exact (Option.some.inj h).symm⟩
theorem itT {c : Bool} {A B : Prop} (hc : c = true) (h : A) : if c = true then A else B := by
  rw [if_pos hc]
  exact h
theorem itF {c : Bool} {A B : Prop} (hc : c = false) (h : B) : if c = true then A else B := by
  rw [hc, if_neg Bool.false_ne_true]
  exact h
theorem pe_gint {X : Cx} {x : Str} {pos : Pos} {i : Int} (hg : Gl X x) (h : ∃ t, X.mg x = some (.int i t)) (hd : (x == ("__debug__" : Str)) = false := by decide) : PE X (.Name x pos) (tC (.int i)) := by
  obtain ⟨t, y⟩ := h
  exact pe_glob hg y ⟨t, rfl⟩ hd
theorem pe_ty {X : Cx} {x : Str} {pos : Pos} {T : String} (hg : Gl X x) (hm : X.mg x = none) (hv : bootBuiltins x = some (.type T)) (hn : x ≠ "__name__" := by decide) (hd : (x == ("__debug__" : Str)) = false := by decide) : PE X (.Name x pos) (tC (.ty T)) :=
  pe_bltn hg hm hv rfl hn hd
theorem small {n : Nat} (h : n ≤ 1000000) : n ≤ sizeLine := Nat.le_trans h (by decide)
theorem smallLt {n : Nat} (h : n < 1000000) : n < sizeLine := Nat.lt_of_lt_of_le h (by decide)

/-! ### the layer's rules with the written part told -/
section
variable {X : Cx}
abbrev tNoP : TO := fun _ H Q => Q none H
theorem poN : PO X none tNoP := po_none
theorem ixL (K : PySem.W.Frag) (h : X.K = K := by rfl) : IxR X (rIxL K) := h ▸ ix_list
theorem ixT (K : PySem.W.Frag) (h : X.K = K := by rfl) : IxR X (rIxT K) := h ▸ ix_tup
theorem slT (K : PySem.W.Frag) (h : X.K = K := by rfl) : SlR X (rSlA K) := h ▸ sl_tupA
theorem slL (K : PySem.W.Frag) (h : X.K = K := by rfl) : SlR X (rSlL K) := h ▸ sl_list
theorem lenS (K : PySem.W.Frag) (h : X.K = K := by rfl) : CallR X (.builtin "len") (Evl.rLenS K) := by subst h; exact call_len_seq
def rTupOf (K : PySem.W.Frag) : List V → Hp → VK → Prop := fun xs H Q => ∃ p ys, xs = [.ref p] ∧ ((SqL K H p ys ∧ ∀ l, H l = none → Q (.ref l) (upd H l (.tup ys))) ∨ (SqT K H p ys ∧ Q (.ref p) H))
theorem tupOf (K : PySem.W.Frag) (h : X.K = K := by rfl) : CallR X (.type "tuple") (rTupOf K) := by subst h; exact call_tuple_of
def rListOf (K : PySem.W.Frag) : List V → Hp → VK → Prop := fun xs H Q => ∃ p ys, xs = [.ref p] ∧ (SqL K H p ys ∨ SqT K H p ys) ∧ ∀ l, H l = none → Q (.ref l) (upd H l (.lst ys))
theorem listOf (K : PySem.W.Frag) (h : X.K = K := by rfl) : CallR X (.type "list") (rListOf K) := by subst h; exact call_list_of
theorem catA (K : PySem.W.Frag) (h : X.K = K := by rfl) : OpR X (binaryOp .Add) (rCatA K) := h ▸ op_catA
theorem eqD (K : PySem.W.Frag) (hu : X.A.units + 64 < cLine) (h : X.K = K := by rfl) : OpR X (compareOp .Eq) (rEqD K) := h ▸ op_eqD hu
theorem neD (K : PySem.W.Frag) (hu : X.A.units + 64 < cLine) (h : X.K = K := by rfl) : OpR X (compareOp .NotEq) (rNeD K) := h ▸ op_neD hu
theorem inS (K : PySem.W.Frag) (h : X.K = K := by rfl) : OpR X (compareOp .In) (rIn K false) := h ▸ op_in_seq
theorem ninS (K : PySem.W.Frag) (h : X.K = K := by rfl) : OpR X (compareOp .NotIn) (rIn K true) := h ▸ op_notIn_seq
theorem isI (K : PySem.W.Frag) (h : X.K = K := by rfl) : CallR X (.builtin "isinstance") (rIsi K) := h ▸ call_isi
theorem maxL (K : PySem.W.Frag) (hc : X.calm = true) (h : X.K = K := by rfl) : CallR X (.builtin "max") (rMax K) := h ▸ cr_max hc
theorem minL (K : PySem.W.Frag) (hc : X.calm = true) (h : X.K = K := by rfl) : CallR X (.builtin "min") (rMin K) := h ▸ cr_min hc
theorem sortL (K : PySem.W.Frag) (h : X.K = K := by rfl) : CallR X (.builtin "sorted") (rSorted K) := h ▸ cr_sorted
theorem piL (K : PySem.W.Frag) {tg l : Expr} {tl : TE} (hl : PE X l tl) (h : X.K = K := by rfl) : PI X tg l (iList K tl) := h ▸ pi_list hl
theorem piT (K : PySem.W.Frag) {tg l : Expr} {tl : TE} (hl : PE X l tl) (h : X.K = K := by rfl) : PI X tg l (iTup K tl) := h ▸ pi_tup hl
end
/-! ### data in the heap -/
theorem dpAllI {K : PySem.W.Frag} {H : Hp} : ∀ ns : List Int, DpAll K H (ns.map V.int) (ns.map PyData.int)
  | [] => .nil
  | n :: ns => .cons (.int n) (dpAllI ns)
theorem dpT {K : PySem.W.Frag} {H : Hp} {a : Addr} {ns : List Int} (h : SqT K H a (ns.map V.int)) : Dp K H (.ref a) (.tuple (ns.map PyData.int)) := .tup h (dpAllI ns)
theorem dpL {K : PySem.W.Frag} {H : Hp} {a : Addr} {ns : List Int} (h : SqL K H a (ns.map V.int)) : Dp K H (.ref a) (.list (ns.map PyData.int)) := .lst h (dpAllI ns)

theorem shAll : ∀ ns : List Int, PyData.canLayAll0 (ns.map PyData.int) = true
  | [] => rfl
  | n :: ns => by rw [List.map_cons, PyData.canLayAll0, shAll ns]; rfl
theorem dpAll0 : ∀ ns : List Int, PyData.depthAll (ns.map PyData.int) = 0
  | [] => rfl
  | n :: ns => by rw [List.map_cons, PyData.depthAll, dpAll0 ns]; rfl
theorem shT (ns : List Int) : SeqAt.shaped (.tuple (ns.map PyData.int)) = true := by
  unfold SeqAt.shaped
  rw [PyData.canLay0, shAll, PyData.depth, dpAll0]
  rfl
theorem shL (ns : List Int) : SeqAt.shaped (.list (ns.map PyData.int)) = true := by
  unfold SeqAt.shaped
  rw [PyData.canLay0, shAll, PyData.depth, dpAll0]
  rfl
theorem eqvI : ∀ ns ms : List Int, PyData.eqvAll (ns.map PyData.int) (ms.map PyData.int) = decide (ns = ms)
  | [], [] => by simp only [List.map_nil, PyData.eqvAll, decide_true]
  | [], _ :: _ => by simp [PyData.eqvAll]
  | _ :: _, [] => by simp [PyData.eqvAll]
  | x :: xs, y :: ys => by
    rw [List.map_cons, List.map_cons, PyData.eqvAll, eqvI xs ys, PyData.eqv]
    have e : (x == y) = decide (x = y) := by rw [Bool.eq_iff_iff, beq_iff_eq, decide_eq_true_eq]
    rw [e, ← Bool.decide_and]
    exact decide_eq_decide.mpr (by rw [List.cons.injEq])
section
variable {K : PySem.W.Frag} {H : Hp} {a b : Addr} {ns ms : List Int} {Q : VK}
theorem eqT (ha : SqT K H a (ns.map V.int)) (hb : SqT K H b (ms.map V.int)) (q : Q (.bl (decide (ns = ms))) H) : rEqD K (.ref a) (.ref b) H Q :=
  ⟨_, _, dpT ha, dpT hb, shT _, shT _, by rw [PyData.eqv, eqvI]; exact q⟩
theorem neT (ha : SqT K H a (ns.map V.int)) (hb : SqT K H b (ms.map V.int)) (q : Q (.bl (!decide (ns = ms))) H) : rNeD K (.ref a) (.ref b) H Q :=
  ⟨_, _, dpT ha, dpT hb, shT _, shT _, by rw [PyData.eqv, eqvI]; exact q⟩
theorem eqL (ha : SqL K H a (ns.map V.int)) (hb : SqL K H b (ms.map V.int)) (q : Q (.bl (decide (ns = ms))) H) : rEqD K (.ref a) (.ref b) H Q :=
  ⟨_, _, dpL ha, dpL hb, shL _, shL _, by rw [PyData.eqv, eqvI]; exact q⟩
theorem neL (ha : SqL K H a (ns.map V.int)) (hb : SqL K H b (ms.map V.int)) (q : Q (.bl (!decide (ns = ms))) H) : rNeD K (.ref a) (.ref b) H Q :=
  ⟨_, _, dpL ha, dpL hb, shL _, shL _, by rw [PyData.eqv, eqvI]; exact q⟩
theorem tyT {xs : List V} (h : SqT K H a xs) : TyX K H (.ref a) (.type "tuple") := by
  rcases h with (h | ⟨o, h⟩) | ⟨o, its, n, h, c, _⟩
  · exact .base (.tup h)
  · exact .fTuple h
  · exact .kTuple h c
/-- isinstance(t, tuple) of a tuple -/
theorem isTup {xs : List V} (h : SqT K H a xs) (q : Q (.bl true) H) : rIsi K [.ref a, .ty "tuple"] H Q := ⟨.ref a, .ty "tuple", .type "tuple", .type "tuple", true, rfl, .ty _, tyT h, kit_ty (by decide +kernel), q⟩
end
theorem call_reprB {X : Cx} : CallR X (.builtin "repr") (fun xs H Q => ∃ b : Bool, xs = [.bl b] ∧ Q (.str (if b then "True" else "False")) H) := by
  intro pins s σ H xs us Q I r h
  obtain ⟨b, rfl, q⟩ := h
  obtain ⟨u, rfl, ru⟩ := vals1 r
  cases (show u = Value.bool b from ru)
  exact PySem.P.repr_of_bool ⟨.str _, H, I.tok _, ⟨_, rfl⟩, q⟩

/-! ### a comprehension whose test and element only read -/
open Evl in
theorem lc_pure {J : It} {n : Nat} {G : Hp → Prop} {Y : Nat → Hp → V → Hp → Prop} (u : Nat → V) (w : Walk J n G Y) (hY : ∀ i H x H', Y i H x H' → i < n → H' = H ∧ x = u i) {j : Nat} {vs : List Nat} {σ : L2.St} {H1 : Hp} {D : Addr} {tt : TT} {te : TE} {Qd : Hp → Prop} (f : Nat → Bool) (v : Nat → V)
    (hD : H1 D = none) (hn : n < 50000) (hG : ∀ H', Same H1 H' → G H') (hw : ∀ x, wipe ((wipe σ vs).set j (some x)) vs = wipe σ vs)
    (ht : ∀ i, i < n → EvT tt ((wipe σ vs).set j (some (u i))) H1 (f i)) (he : ∀ i, i < n → f i = true → Ev te ((wipe σ vs).set j (some (u i))) H1 (v i)) (hd : ∀ H', Same H1 H' → H' D = some (.lst (given n f v)) → Qd H') :
    ∃ W : Nat → Nat → Hp → Prop, (∃ m, W 0 m (upd H1 D (.lst []))) ∧ ∀ i m H, W i m H →
      (J.stop i H ∧ Qd H) ∨ (J.go i H ∧ ∃ Nx : Hp → Prop, (∀ H', Nx H' → ∃ m', m' < m ∧ W (i + 1) m' H') ∧ ∀ x H', J.yld i H x H' → gName j x (wipe σ vs) H' fun σ2 H2 => wipe σ2 vs = wipe σ vs ∧ tt σ2 H2 fun b H3 =>
        if b = true then te σ2 H3 fun y H4 => ∃ acc, H4 D = some (.lst acc) ∧ acc.length < sizeLine ∧ Nx (upd H4 D (.lst (acc ++ [y]))) else Nx H3) := by
  refine lc_it w (fun i H' => Cw H1 f v D i H') ⟨hD, Ex.new hD, upd_same⟩ (fun i H' _ p => hG H' p.2.1) (fun i x H H' hi p y => ?_) (fun H' p => hd H' p.2.1 p.2.2)
  obtain ⟨rfl, rfl⟩ := hY i H x H' y hi
  exact ⟨hw _, cw_turn p (by omega) (ht i hi) (he i hi)⟩
theorem b01 (c : Prop) [Decidable c] : (-(2 ^ 64) : Int) < (if c then 1 else 0) ∧ (if c then (1 : Int) else 0) < 2 ^ 64 := by
  split <;> decide
theorem b0 (c : Prop) [Decidable c] : (0 : Int) ≤ (if c then 1 else 0) := by
  split <;> decide
theorem mixB {x y j : Int} (h : 0 ≤ y ∧ y ≤ 7919000 * 1000) (h0 : 0 ≤ j) (h1 : j < 1000) : -(2 ^ 64) < x % 2147483629 + y + 31 * j + 17 ∧ x % 2147483629 + y + 31 * j + 17 < 2 ^ 64 := by
  omega
/-! ### slices and sums of tuples, whichever object they are -/
section
variable {K : PySem.W.Frag} {H : Hp} {a b : Addr} {xs ys : List V} {lo hi : Option Int} {Q : VK}
theorem cutV_whole (h : HT.sIx xs.length 0 lo = 0 ∧ HT.sIx xs.length xs.length hi = xs.length) : cutV xs lo hi = xs := by
  unfold cutV
  rw [h.1, h.2]
  exact List.take_length
theorem slA (h : SqT K H a xs) (q : ∀ p H', Same H H' → SqT K H' p (cutV xs lo hi) → Q (.ref p) H') : rSlA K (.ref a) lo hi H Q :=
  ⟨a, xs, rfl, h, fun hw => q a H (Same.refl H) (by rw [cutV_whole hw]; exact h), fun _ p np => q p _ (Same.new np) (SqT.of upd_same)⟩
theorem ctA (ha : SqT K H a xs) (hb : SqT K H b ys) (hz : xs.length + ys.length ≤ 1000000) (q : ∀ p H', Same H H' → SqT K H' p (xs ++ ys) → Q (.ref p) H') : rCatA K (.ref a) (.ref b) H Q := by
  refine ⟨a, b, xs, ys, rfl, rfl, ha, hb, small hz, fun e => ?_, fun _ e => ?_, fun _ _ p np => q p _ (Same.new np) (SqT.of upd_same)⟩
  · subst e
    exact q b H (Same.refl H) hb
  · subst e
    exact q a H (Same.refl H) (by rw [List.append_nil]; exact ha)
theorem cutV_from (i : Nat) : cutV xs (some (i : Int)) none = xs.drop i := by
  unfold cutV
  rw [HT.sIx_nat, HT.sIx_none]
  by_cases h : i ≤ xs.length
  · rw [Nat.min_eq_left h]
    exact List.take_of_length_le (by rw [List.length_drop]; omega)
  · rw [Nat.min_eq_right (by omega), List.drop_eq_nil_of_le (by omega), List.drop_eq_nil_of_le (by omega)]
    exact List.take_nil
theorem cutV_to (i : Nat) : cutV xs none (some (i : Int)) = xs.take i := by
  unfold cutV
  rw [HT.sIx_nat, HT.sIx_none, List.drop_zero, Nat.sub_zero]
  by_cases h : i ≤ xs.length
  · rw [Nat.min_eq_left h]
  · rw [Nat.min_eq_right (by omega), List.take_length, List.take_of_length_le (by omega)]
end
theorem maxB (x : Int) (h : 0 ≤ x) : 1 ≤ (if (if 3 < x then 3 else x) > 1 then (if 3 < x then 3 else x) else 1) ∧ (if (if 3 < x then 3 else x) > 1 then (if 3 < x then 3 else x) else 1) ≤ 3 := by
  split <;> split <;> omega
/-- a new source is used and left behind -/
theorem Same.used {p : Addr} {H H1 H2 H3 : Hp} (a : Same H H1) (np : H1 p = none) (b : Same H1 H2) (c : Exb p H2 H3) : Same H H3 := fun x o h =>
  c x o (fun z => by rw [z, a.free np] at h; cases h) (b x o (a x o h))
theorem atLastI {ns : List Int} {c : Int} (h : ns.getLast? = some c) : atI (ns.map V.int) (-1) = some (.int c) := by
  rcases List.eq_nil_or_concat ns with rfl | ⟨m, x, rfl⟩
  · cases h
  · rw [List.concat_eq_append] at *
    rw [List.getLast?_concat] at h
    cases Option.some.inj h
    rw [List.map_append]
    exact atI_last _ _
theorem atHeadI {ns : List Int} {c : Int} (h : ns.head? = some c) : atI (ns.map V.int) 0 = some (.int c) := by
  cases ns with
  | nil => cases h
  | cons x r =>
    cases Option.some.inj h
    exact atI0
theorem cutV_last {xs : List V} (h : 0 < xs.length) : cutV xs (some (-1)) none = xs.drop (xs.length - 1) := by
  unfold cutV
  rw [HT.sIx_none]
  have e : HT.sIx xs.length 0 (some (-1)) = xs.length - 1 := by
    show (if (-1 : Int) < 0 then (-1 + (xs.length : Int)).toNat else min (-1 : Int).toNat xs.length) = xs.length - 1
    rw [if_pos (by decide)]
    omega
  rw [e]
  exact List.take_of_length_le (by rw [List.length_drop]; omega)
theorem cutV_inn {xs : List V} (h : 2 ≤ xs.length) : cutV xs (some 1) (some (-1)) = xs.tail.dropLast := by
  unfold cutV
  have e1 : HT.sIx xs.length 0 (some 1) = 1 := by
    rw [show (1 : Int) = ((1 : Nat) : Int) from rfl, HT.sIx_nat]
    omega
  have e2 : HT.sIx xs.length xs.length (some (-1)) = xs.length - 1 := by
    show (if (-1 : Int) < 0 then (-1 + (xs.length : Int)).toNat else min (-1 : Int).toNat xs.length) = xs.length - 1
    rw [if_pos (by decide)]
    omega
  rw [e1, e2, List.drop_one, List.dropLast_eq_take, List.length_tail]
/-- a tuple is not where a list stands -/
theorem tup_upd {K : PySem.W.Frag} {H : Hp} {a q : Addr} {xs ys : List V} {o : HO} (h : SqT K H a xs) (hq : H q = some (.lst ys)) : SqT K (upd H q o) a xs := by
  rcases h with (h | ⟨f, h⟩) | h
  · exact .inl (.inl (by rw [upd_ne (fun z => by rw [z, hq] at h; cases h)]; exact h))
  · exact .inl (.inr ⟨f, by rw [upd_ne (fun z => by rw [z, hq] at h; cases h)]; exact h⟩)
  · exact .inr h
end Bw

namespace Bw
open PySem PySem.Spec PyProof.Rows L2
open PySem.W (Datum Tup)
/-! ### data by its Lean type -/
class Lay (α : Type) [DecidableEq α] [Datum α] : Prop where
  lay : ∀ a : α, (Datum.toD a).canLay0 = true
theorem layAll {α : Type} [DecidableEq α] [Datum α] [Lay α] : ∀ xs : List α, PyData.canLayAll0 (xs.map Datum.toD) = true
  | [] => rfl
  | x :: xs => by rw [List.map_cons, PyData.canLayAll0, Lay.lay x, layAll xs]; rfl
instance : Lay Int := ⟨fun _ => rfl⟩
instance : Lay Bool := ⟨fun _ => rfl⟩
instance {α : Type} [DecidableEq α] [Datum α] [Lay α] : Lay (Tup α) := ⟨fun t => by
  show PyData.canLay0 (.tuple (t.items.map Datum.toD)) = true
  rw [PyData.canLay0]
  exact layAll t.items⟩
instance {α : Type} [DecidableEq α] [Datum α] [Lay α] : Lay (List α) := ⟨fun t => by
  show PyData.canLay0 (.list (t.map Datum.toD)) = true
  rw [PyData.canLay0]
  exact layAll t⟩
instance {α β : Type} [DecidableEq α] [Datum α] [Lay α] [DecidableEq β] [Datum β] [Lay β] : Lay (α × β) := ⟨fun p => by
  show PyData.canLay0 (.tuple [Datum.toD p.1, Datum.toD p.2]) = true
  rw [PyData.canLay0, PyData.canLayAll0, PyData.canLayAll0, PyData.canLayAll0, Lay.lay, Lay.lay]
  rfl⟩
/-- v holds the datum a -/
def Hd {α : Type} [DecidableEq α] [Datum α] (K : PySem.W.Frag) (H : Hp) (v : V) (a : α) : Prop := Dp K H v (Datum.toD a)
section
variable {α β : Type} [DecidableEq α] [Datum α] [Lay α] [DecidableEq β] [Datum β] [Lay β] {K : PySem.W.Frag} {H : Hp} {x y : V} {a b : α} {Q : VK}
theorem shaped_of (a : α) (h : Datum.depth α ≤ 64) : SeqAt.shaped (Datum.toD a) = true := by
  unfold SeqAt.shaped
  rw [Lay.lay a, decide_eq_true (Nat.le_trans (Datum.depth_le a) h)]
  rfl
theorem eqH (ha : Hd K H x a) (hb : Hd K H y b) (q : Q (.bl (decide (a = b))) H) (hd : Datum.depth α ≤ 64 := by decide) : rEqD K x y H Q :=
  ⟨_, _, ha, hb, shaped_of a hd, shaped_of b hd, by rw [Datum.eqv]; exact q⟩
theorem neH (ha : Hd K H x a) (hb : Hd K H y b) (q : Q (.bl (!decide (a = b))) H) (hd : Datum.depth α ≤ 64 := by decide) : rNeD K x y H Q :=
  ⟨_, _, ha, hb, shaped_of a hd, shaped_of b hd, by rw [Datum.eqv]; exact q⟩
theorem hdI (i : Int) : Hd K H (.int i) i := .int i
theorem hdB (i : Bool) : Hd K H (.bl i) i := .bl i
theorem hdT {p : Addr} {ns : List Int} (h : SqT K H p (ns.map V.int)) : Hd K H (.ref p) (Tup.mk ns) := dpT h
theorem hdL {p : Addr} {ns : List Int} (h : SqL K H p (ns.map V.int)) : Hd K H (.ref p) ns := dpL h
theorem hdP {p : Addr} {c : β} (h : SqT K H p [x, y]) (ha : Hd K H x a) (hb : Hd K H y c) : Hd K H (.ref p) (a, c) := .tup h (.cons ha (.cons hb .nil))
end
/-! ### what stays under a change elsewhere -/
mutual
theorem dp_same {K : PySem.W.Frag} {H H1 : Hp} (e : Same H H1) : ∀ (d : PyData) (v : V), Dp K H v d → Dp K H1 v d
  | .none, _, h => by cases h; exact .non
  | .bool _, _, h => by cases h; exact .bl _
  | .int _, _, h => by cases h; exact .int _
  | .str _, _, h => by cases h; exact .str _
  | .list ds, _, h => by
    cases h with
    | lst hs ha => exact .lst (e.seq hs) (dp_sameAll e ds _ ha)
  | .tuple ds, _, h => by
    cases h with
    | tup hs ha => exact .tup (e.tup hs) (dp_sameAll e ds _ ha)
  | .dict _, _, h => by cases h
theorem dp_sameAll {K : PySem.W.Frag} {H H1 : Hp} (e : Same H H1) : ∀ (ds : List PyData) (vs : List V), DpAll K H vs ds → DpAll K H1 vs ds
  | [], _, h => by cases h; exact .nil
  | d :: ds, _, h => by
    cases h with
    | cons a b => exact .cons (dp_same e d _ a) (dp_sameAll e ds _ b)
end
theorem Hd.same {α : Type} [DecidableEq α] [Datum α] {K : PySem.W.Frag} {H H1 : Hp} {v : V} {a : α} (e : Same H H1) (h : Hd K H v a) : Hd K H1 v a := dp_same e _ _ h
/-! ### a list of draws -/
/-- what an expression that draws below t from the source at p gives -/
def Dr (te : TE) (σ : L2.St) (p : Addr) (t : Int) : Prop := ∀ (H : Hp) (Q : VK), Src H p → (∀ r H', 0 ≤ r → r < t → Src H' p → Exb p H H' → Q (.int r) H') → te σ H Q
theorem tYes_i {σ : L2.St} {H : Hp} {Q : Bool → Hp → Prop} (h : Q true H) : tYes σ H Q := h
theorem lc_draw {n j : Nat} {vs : List Nat} {σ : L2.St} {H1 : Hp} {D : Addr} {te : TE} {Qd : Hp → Prop} (t : Int) (p : Addr) (hD : H1 D = none) (s : Src H1 p) (hn : n < 100000) (hw : ∀ x, wipe ((wipe σ vs).set j (some x)) vs = wipe σ vs)
    (hd : ∀ i : Nat, i < n → Dr te ((wipe σ vs).set j (some (.int (0 + (i : Int))))) p t)
    (fin : ∀ (ns : List Int) H', ns.length = n → (∀ c ∈ ns, 0 ≤ c ∧ c < t) → D ≠ p → H' D = some (.lst (ns.map V.int)) → Src H' p → Exb p H1 H' → Qd H') :
    ∃ W : Nat → Nat → Hp → Prop, (∃ m, W 0 m (upd H1 D (.lst []))) ∧ ∀ i m H, W i m H →
      ((Itr 0 n).stop i H ∧ Qd H) ∨ ((Itr 0 n).go i H ∧ ∃ Nx : Hp → Prop, (∀ H', Nx H' → ∃ m', m' < m ∧ W (i + 1) m' H') ∧ ∀ x H', (Itr 0 n).yld i H x H' → gName j x (wipe σ vs) H' fun σ2 H2 => wipe σ2 vs = wipe σ vs ∧ tYes σ2 H2 fun b H3 =>
        if b = true then te σ2 H3 fun y H4 => ∃ acc, H4 D = some (.lst acc) ∧ acc.length < sizeLine ∧ Nx (upd H4 D (.lst (acc ++ [y]))) else Nx H3) := by
  have nDp := s.ne hD
  refine lc_it walk_range (fun i H' => ∃ ns : List Int, H' D = some (.lst (ns.map V.int)) ∧ ns.length = i ∧ (∀ c ∈ ns, 0 ≤ c ∧ c < t) ∧ Src H' p ∧ Exb p H1 H') ⟨[], upd_same, rfl, (fun c hc => by cases hc), s.put nDp, Exb.new hD⟩ (fun _ _ _ _ => trivial) (fun i x H2 H3 hi h y => ?_) (fun H' h => ?_)
  · obtain ⟨ns, h1, h2, h3, h4, h5⟩ := h
    obtain ⟨rfl, rfl⟩ := y
    refine ⟨hw _, ?_⟩
    refine tYes_i ?_
    refine iteT ?_
    refine hd i hi H3 _ h4 fun r H4 r0 r1 s4 e4 => ⟨_, e4.lst nDp h1, smallLt (by rw [List.length_map]; omega), ns ++ [r], by rw [upd_same, List.map_append]; rfl, by rw [List.length_append, h2]; rfl, fun c hc => ?_, s4.put nDp, (h5.trans e4).mut hD⟩
    rcases List.mem_append.mp hc with h | h
    · exact h3 c h
    · rw [List.mem_singleton.mp h]; exact ⟨r0, r1⟩
  · obtain ⟨ns, h1, h2, h3, h4, h5⟩ := h
    exact fin ns H' h2 h3 nDp h1 h4 h5
end Bw

set_option maxHeartbeats 1000000
namespace Bw
open PySem PySem.Spec PyProof.Rows L2
/-! ### defs that are run where no repr is under way -/
structure FnG (P : Program) (w : World) (K : PySem.W.Frag) (mg : Str → Option Value) (base : Heap) (CX : CXT) (k : Nat) (f : Addr) (fd : FuncData) (ps : List Str) (sp : Sp) : Prop where
  len : ∀ vs H Q E, sp vs H Q E → vs.length = ps.length
  go : ∀ (A : Around) (outer : List Env) (s : Shared) (H : Hp) (args : Args) (us : List Value) (vs : List V) (Q : VK) (E : XK), A.guards = some [] → Room k A → Env0 P w K mg base A outer s H → BindsTo s fd args (ps.zip us) → Vals vs us → sp vs H Q E →
    codeAny (model P w) A (.call (.ref f) args) (CR CX outer P w H s Q E) s
theorem FnG.of {P : Program} {w : World} {K : PySem.W.Frag} {mg : Str → Option Value} {base : Heap} {CX : CXT} {k : Nat} {f : Addr} {fd : FuncData} {ps : List Str} {sp : Sp} (F : FnOk P w K mg base CX k f fd ps sp) : FnG P w K mg base CX k f fd ps sp :=
  ⟨F.len, fun A outer s H args us vs Q E _ hr => F.run A outer s H args us vs Q E hr⟩
/-- a def by its body, as Fun.ok and Fun.okX, where no repr is under way -/
theorem fnG_of {CX : CXT} {P : Program} {w : World} {K : PySem.W.Frag} {mg : Str → Option Value} {base : Heap} {k : Nat} {x qual : Str} {st : Stmt} {f : Addr} {fd : FuncData} {N ps : List Str} {sp : Sp} (F : Fun K x qual st f fd) (S : FnScope N ps (defScope st))
    (len : ∀ vs H Q E, sp vs H Q E → vs.length = ps.length)
    (hbody : ∀ (cdv : Value) (A : Around) (outer : List Env) (s : Shared) (H : Hp) (vs : List V) (Q : VK) (E : XK), (A.deeper (envOfC qual (defScope st) s.heap.objs.size f cdv)).guards = some [] → Room k (A.deeper (envOfC qual (defScope st) s.heap.objs.size f cdv)) → sp vs H Q E →
      ∃ t, PSs (cxOf CX P w K mg base N qual (defScope st) f cdv A outer s H E) (defBody st) t ∧ t { nx := fun _ H' => Q .non H', rt := Q } (start N vs) H) : FnG P w K mg base CX (k + 1) f fd ps sp := by
  obtain ⟨oc, od, kV, doc, pm, an, cdv, ct, osl, rfl, lk, hcd⟩ := F.ex
  refine ⟨len, fun A outer s H args us vs Q E hg hr e0 hb r hsp => ?_⟩
  have stays : ∀ (b : Addr) (o : Obj), base.get? b = some o → s.heap.get? b = some o := fun b o z => (e0.bs b o z).1
  have inK : K.In s.heap := e0.mod.kin.keeps stays
  have pars : ∀ y ∈ ps.zip us, (defScope st).names.lookup y.1 = some .local ∨ ((defScope st).names.lookup y.1 = some .cell ∧ ((cellsFrom (s.heap.objs.size + 1) (defScope st).names []).lookup y.1).isSome = true) := by
    intro y hy
    rcases S.par y.1 (List.of_mem_zip (a := y.1) (b := y.2) hy).1 with z | z
    · exact .inl z
    · exact .inr ⟨z, PySem.W.cellsFrom_some _ _ _ (.inl z)⟩
  refine codeAny_call_function hr.depth (inK _ _ lk) rfl S.co S.gen rfl (PySem.W.codeRec_of inK hcd) (hb _ _ _ _ ?_)
  refine wpAny_newFunctionEnv_cells S.kind pars fun env he s1 x => ?_
  subst he
  refine ⟨(e0.mod.nolimit.keeps stays).keeps x.toInCall.keep, codeAny_func ?_⟩
  obtain ⟨t, ht, hq⟩ := hbody cdv A outer s H vs Q E hg (hr.deeper _) hsp
  have I := inv_start (CX := CX) (E := E) S hr.hd e0 (len _ _ _ _ hsp) r x
  refine wpAny_mono (ht.run [] s1 (start N vs) H _ I hq) ?_ (fun _ _ z => z)
  intro fl s' hs
  cases fl with
  | next =>
    obtain ⟨σ', H', J, z⟩ := hs
    exact ⟨.non, H', J.os, J.bare, J.base, J.hok, rfl, z⟩
  | ret u =>
    obtain ⟨v, σ', H', J, rv, z⟩ := hs
    exact ⟨v, H', J.os, J.bare, J.base, J.hok, rv, z⟩
  | brk => exact hs.elim fun _ h => h.elim fun _ h => h.2.elim
  | cont => exact hs.elim fun _ h => h.elim fun _ h => h.2.elim
/-- such a def, called by its name -/
structure CalG (P : Program) (w : World) (K : PySem.W.Frag) (mg : Str → Option Value) (base : Heap) (CX : CXT) (k : Nat) (x : Str) (ps : List Str) (st : Stmt) (sp : Sp) : Prop where
  ex : ∃ (f : Addr) (fd : FuncData), FnG P w K mg base CX k f fd ps sp ∧ Fun K x x st f fd ∧ mg x = some (.ref f) ∧ Binds K fd ps []
section
variable {X : Cx} {CX : CXT} {k : Nat} {x : Str} {ps : List Str} {st : Stmt} {sp : Sp} {E : XK} {p pos : Pos} {e : Expr} {es : List Expr} {t : TA}
theorem pe_calG (c : CalG X.prog X.w X.K X.mg X.base CX k x ps st sp) (hG : X.A.guards = some []) (hr : Room k X.A) (hx : Passes CX X E) (ha : PA X (e :: es) t) (hg : Gl X x := by rfl) (hdb : (x == ("__debug__" : Str)) = false := by decide)
    (he : starEach (e :: es) X.env = (false, eval e X.env) :: starEach es X.env := by rfl) (hpl : (backTo pos (starEach es X.env)).any (·.1) = false := by rfl) : PE X (.Call (.Name x p) (e :: es) [] pos) (tCall sp [] E t) := by
  obtain ⟨f, fd, G, F, hm, hb⟩ := c.ex
  refine ⟨fun pins s σ H Q I h => ?_⟩
  refine wpAny_Call_Name_kw (ld_glob I hg hm ?_ hdb)
  refine PySem.W.callWith_K (h₀ := X.base) I.ok.mod.kin F.kp (thn (ha.run pos pins s σ H _ I h) fun us s1 z => ?_) he hpl
  obtain ⟨vs, H1, I1, r, q⟩ := z
  refine ⟨I1.kIn, ?_⟩
  have r2 : Vals (vs ++ []) us := by rw [List.append_nil]; exact r
  have hl : us.length = ps.length := by rw [← r2.length]; exact G.len _ _ _ _ q
  have hb2 := hb s1 us I1.kIn (by rw [List.append_nil]; exact hl)
  rw [List.append_nil] at hb2
  refine wpAny_call (codeAny_mono (G.go X.A X.stack s1 H1 ⟨us, []⟩ us (vs ++ []) Q E hG hr I1.env0 hb2 r2 q) fun r' s' hq => ?_)
  match r', hq with
  | .error e, hq => exact hx pins σ H1 s1 e s' I1 hq
  | .ok (.ret u), hq => exact I1.after hq
  | .ok .next, hq => exact False.elim hq
  | .ok .brk, hq => exact False.elim hq
  | .ok .cont, hq => exact False.elim hq
end
end Bw

set_option maxHeartbeats 1000000
namespace Bw
open PySem PySem.Spec PyProof.Rows L2
/-- the heap that a law meets: nothing is tracked but the script -/
theorem first_heap {P : Program} {w : World} {K : PySem.W.Frag} {h : Heap} {a : Addr} {vs : List Value} {ns : List Int} (KX : K.In h) (ha : h.get? a = some { cls := .type "list", data := .seq vs.toArray }) (hi : IntsAre vs ns) (hl : ns.length ≤ sizeLine) :
    ∃ H : Hp, Only H ∧ SqL K H a (ns.map V.int) ∧ HOk P w H h ∧ (∀ b u, H b = some u → b = a ∧ K.lookup b = none) := by
  have rv := vals_ints hi
  by_cases hk : K.lookup a = none
  · let u : HO := .frz { cls := .type "list", data := .seq vs.toArray } (.lst (ns.map V.int))
    have ev : ∀ b z, (if b = a then some u else none) = some z → b = a ∧ z = u := fun b z e => by
      by_cases hb : b = a
      · rw [if_pos hb] at e
        exact ⟨hb, (Option.some.inj e).symm⟩
      · rw [if_neg hb] at e
        cases e
    refine ⟨fun b => if b = a then some u else none, fun b => ?_, .inl (.inr ⟨_, if_pos rfl⟩), fun b z e => ?_, fun b z e => ?_⟩
    · by_cases hb : b = a
      · exact .inr ⟨_, _, if_pos hb⟩
      · exact .inl (if_neg hb)
    · obtain ⟨rfl, rfl⟩ := ev b z e
      exact ⟨ha, by rw [List.length_map]; exact hl, vs, _, rv, ha⟩
    · obtain ⟨rfl, rfl⟩ := ev b z e
      exact ⟨rfl, hk⟩
  · obtain ⟨o, ho⟩ := Option.ne_none_iff_exists'.mp hk
    have e := KX a o ho
    rw [ha] at e
    cases e
    exact ⟨fun _ => none, fun _ => .inl rfl, .inr ⟨_, vs.toArray, _, ho, rfl, rfl, rfl, by rw [List.size_toArray, hi.length]; exact hl, by simpa using rv⟩, fun _ _ z => (by cases z), fun _ _ z => (by cases z)⟩
theorem law_callG {P : Program} {w : World} {K : PySem.W.Frag} {mg mb : Str → Option Value} {CX : CXT} {k : Nat} {fa a : Addr} {fd : FuncData} {x : Str} {sp : Sp} {s₁ : Shared} {vs : List Value} {ns : List Int}
    (KX : K.In s₁.heap) (hns : s₁.heap.Ns mainGlobals mg) (hb : s₁.heap.Ns builtinsNs mb) (hbb : ∀ x : Str, x ≠ "__name__" → mb x = bootBuiltins x) (hlim : s₁.heap.NoLimit) (hg : s₁.gens = #[])
    (ha : s₁.heap.get? a = some { cls := .type "list", data := .seq vs.toArray }) (hi : IntsAre vs ns) (hl : ns.length ≤ sizeLine) (hr : Room k callerA)
    (F : ∀ base : Heap, K.In base → base.Ns mainGlobals mg → FnG P w K mg base CX k fa fd [x] sp) (hbind : ∀ (s : Shared) (u : Value), BindsTo s fd ⟨[u], []⟩ [(x, u)])
    (hsp : ∀ H : Hp, SqL K H a (ns.map V.int) → sp [.ref a] H (fun v _ => v = .bl true) fun _ _ _ => False)
    (hCX : ∀ H e s', CX [] H s₁ (fun _ _ _ => False) e s' → False) :
    codeAny (model P w) callerA (.call (.ref fa) ⟨[.ref a], []⟩) (fun r s' => r = .ok (.ret (.bool true)) ∧ OldK s₁.heap s'.heap ∧ s'.os = s₁.os ∧ AllBare s'.gens) s₁ := by
  obtain ⟨H, hO, hS, hok, hA⟩ := first_heap (P := P) (w := w) KX ha hi hl
  let B := hidT s₁.heap H
  have inB : ∀ {b : Addr} {o : Obj}, s₁.heap.get? b = some o → (∀ u, H b ≠ some u) → B.get? b = some o := fun {b o} e n => hidT_get e (by
    cases q : H b with
    | none => rfl
    | some u => exact absurd q (n u))
  have nsB : ∀ {b : Addr} {m : Str → Option Value}, s₁.heap.Ns b m → B.Ns b m := fun {b m} hm => by
    obtain ⟨o, es, ep, e, dt, r⟩ := hm
    refine ⟨o, es, ep, inB e fun u q => ?_, dt, r⟩
    obtain ⟨rfl, _⟩ := hA b u q
    rw [ha] at e
    cases e
    cases dt
  have kB : K.In B := fun b o e => inB (KX b o e) fun u q => by
    rw [(hA b u q).2] at e
    cases e
  have limB : B.NoLimit := by
    obtain ⟨mc, h1, h2⟩ := hlim
    exact ⟨mc, nsB h1, h2⟩
  have e0 : Env0 P w K mg B callerA [] s₁ H := ⟨rfl, ⟨kB, nsB hns, ⟨mb, nsB hb, hbb⟩, limB⟩, fun b o e => of_hidT e, Nat.le_of_eq (hidT_size _ _), trivial, fun b hb => absurd (show b ∈ ([] : List Addr) from hb) (by simp), hok, .of_eq hg⟩
  have run := (F B kB (nsB hns)).go callerA [] s₁ H ⟨[.ref a], []⟩ [.ref a] [.ref a] _ _ rfl hr e0 (hbind s₁ (.ref a)) (.cons rfl .nil) (hsp H hS)
  refine codeAny_mono run fun r s' h => ?_
  match r, h with
  | .error e, h => exact (hCX H e s' h).elim
  | .ok .next, h => exact False.elim h
  | .ok .brk, h => exact False.elim h
  | .ok .cont, h => exact False.elim h
  | .ok (.ret u), h =>
    obtain ⟨v, H', os, bare, un, hok', r', q⟩ := h
    have q' : v = .bl true := q
    subst q'
    obtain rfl : u = Value.bool true := r'
    refine ⟨rfl, OldK.of_keep fun b o e => ?_, os, bare⟩
    rcases hO b with z | ⟨ob, xs, z⟩
    · exact un.keep b o e z (fun w => absurd (show b ∈ ([] : List Addr) from w) (by simp)) (by simp)
    · have z1 := (hok b _ z).1
      have z2 := (hok' b _ (un.frzs b ob _ z)).1
      rw [e] at z1
      cases z1
      exact z2
theorem walk_ofG {l : PySem.W.OpenLaw} {n k : Nat} {q : Program} {loose : List Str} {XP : (Str → Option Value) → Heap → Prop} {YP : World → Heap → Prop} {d : DefRec} {K : Params → PySem.W.Frag} {CX : World → CXT} {sp : World → Sp} {x : Str}
    (hn : l.most = some n) (hn2 : n ≤ sizeLine) (hdf : d.params.defaults = []) (hr : Room k callerA) (hY : ∀ (w : World) (h : Heap), YP w h → (K w.params).In h)
    (F : ∀ (w : World) (mg : Str → Option Value) (fa : Addr) (h : Heap), (K w.params).In h → h.Ns mainGlobals mg → mg d.name = some (.ref fa) →
      ∃ fd : FuncData, (∀ (s : Shared) (u : Value), BindsTo s fd ⟨[u], []⟩ [(x, u)]) ∧ ∀ base : Heap, (K w.params).In base → base.Ns mainGlobals mg → FnG l.prog w (K w.params) mg base (CX w) k fa fd [x] (sp w))
    (hsp : ∀ (w : World) (H : Hp) (a : Addr) (ns : List Int), ns.length ≤ n → SqL (K w.params) H a (ns.map V.int) → sp w [.ref a] H (fun v _ => v = .bl true) fun _ _ _ => False)
    (hCX : ∀ (w : World) (H : Hp) (s : Shared) (e : Value) (s' : Shared), CX w [] H s (fun _ _ _ => False) e s' → False) :
    PySem.W.WalkO q loose XP YP l.row.toRowW d [] (fun f vs => PySem.call f vs) := by
  refine Att.attach_call hn hdf fun w s₀ s₁ mg mb fa o pm cd doc a vs ns G Y ho hd hcd hmg hobj hints hlen hg => ?_
  obtain ⟨fd, hb, hF⟩ := F w mg fa _ (hY w _ Y) G.T.g hmg
  exact law_callG (hY w _ Y) G.T.g G.T.b G.T.builtins G.T.nolimit hg hobj hints (Nat.le_trans hlen hn2) hr hF hb (fun H hS => hsp w H a ns hlen hS) fun H e s' => hCX w H s₁ e s'
end Bw

set_option maxHeartbeats 1000000
namespace Bw
open PySem PySem.Spec PyProof.Rows L2
/-! ### the errors of the program: classes under Refused, which keep one thing in what -/
structure XC (K : PySem.W.Frag) (C : Addr) : Prop where
  oex : OexC K C
  noW : PySem.W.findIn K (.ref C) "what" = some none
  xf : XfC K C
  hcl : (PySem.W.clsIn K C).isSome = true
  ha : PySem.W.findIn K (.ref C) "__class__" = some (some (.builtin "object.__class__"))
  hn : PySem.W.specialIn K (.builtin "object.__class__") "__get__" = some (some (.builtin "getset_descriptor.__get__"))
  ht : PySem.W.takesIn K (.builtin "object.__class__") = some true
  hm : PySem.W.mroIn K C (.type "object") = some true
/-- the promise of their __init__ -/
def sp_init (K : PySem.W.Frag) : Sp := fun vs H Q _ => ∃ (a C : Addr) (v : V), vs = [.ref a, v] ∧ OexC K C ∧ PySem.W.findIn K (.ref C) "what" = some none ∧ H a = some (exo a C none) ∧
  ∀ d, H d = none → d ≠ a → Q .non (upd (upd H d (exd d [("what", v)])) a (exo a C (some d)))
/-- an error's class and its __init__ -/
structure XM (P : Program) (w : World) (K : PySem.W.Frag) (mg : Str → Option Value) (base : Heap) (x : Str) (C : Addr) : Prop where
  gm : mg x = some (.ref C)
  c : XC K C
  init : ∃ (f : Addr) (fd : FuncData), PySem.W.findIn K (.ref C) "__init__" = some (some (.ref f)) ∧ PySem.W.typeIn K (.ref f) = some (.type "function") ∧ FnOk P w K mg base CX0 1 f fd ["self", "what"] (sp_init K) ∧ Binds K fd ["self", "what"] []
/-- what making such an error wants behind its argument -/
theorem made_what {K : PySem.W.Frag} {C : Addr} {v : V} {H : Hp} {Q : XK} (T : XC K C) (q : ∀ d, H d = none → Q (.ref C) (some d) (upd H d (.xd [("what", v)]))) :
    [v].length ≤ 1000 ∧ ∀ a, H a = none → sp_init K (.ref a :: ([v] ++ [])) (upd H a (exo a C none))
      (fun u H2 => u = .non ∧ ∃ (d : Addr) (fs : List (Str × V)), H2 a = some (exo a C (some d)) ∧ H2 d = some (exd d fs) ∧ H d = none ∧ Q (.ref C) (some d) (upd (del H2 a) d (.xd fs))) (fun _ _ _ => False) := by
  refine ⟨by show 1 ≤ 1000; decide, fun a na => ⟨a, C, v, rfl, T.oex, T.noW, upd_same, fun d nd nda => ⟨rfl, d, [("what", v)], upd_same, by rw [upd_ne nda, upd_same], by rw [upd_ne nda] at nd; exact nd, ?_⟩⟩⟩
  rw [upd_ne nda] at nd
  have e : upd (del (upd (upd (upd H a (exo a C none)) d (exd d [("what", v)])) a (exo a C (some d))) a) d (.xd [("what", v)]) = upd H d (.xd [("what", v)]) := by
    funext b
    by_cases hd : b = d
    · rw [hd, upd_same, upd_same]
    · rw [upd_ne hd, upd_ne hd]
      by_cases ha : b = a
      · rw [ha, del_same, na]
      · rw [del_ne ha, upd_ne ha, upd_ne hd, upd_ne ha]
  rw [e]
  exact q d nd
section
variable {X : Cx} {x : Str} {C : Addr} {e : Expr} {ta : TA} {p pos pos2 : Pos} {E : XK} {W : WX}
/-- raise X(e) -/
theorem ps_raiseW (hc : X.calm = true) (T : XM X.prog X.w X.K X.mg X.base x C) (hr : Room 2 X.A) (tk : Takes X W) (ha : PA X [e] ta) (hg : Gl X x := by rfl) (hdb : (x == ("__debug__" : Str)) = false := by decide)
    (he : starEach [e] X.env = (false, eval e X.env) :: starEach [] X.env := by rfl) (hpl : (backTo pos (starEach [] X.env)).any (·.1) = false := by rfl) :
    PS X (.Raise (some (.Call (.Name x p) [e] [] pos)) none pos2) (fun _ σ H => tMkO C (sp_init X.K) [] ta σ H fun cls d H' => W cls d σ H') := by
  obtain ⟨f, fd, hi, ht, F, b⟩ := T.init
  exact ps_raise hc tk (pmk_oex T.c.oex hi ht F hr b .nil pass0 hg T.gm ha hdb he hpl)
/-- isinstance(e, c), e the error that the suite holds -/
def rIsX (K : PySem.W.Frag) (a : Addr) (cls : Value) (d : Option Addr) : List V → Hp → VK → Prop := fun xs H Q => ∃ (D : Addr) (c : V) (cv : Value) (b : Bool) (dd : Addr) (fs : List (Str × V)),
  xs = [.ref a, c] ∧ cls = .ref D ∧ XC K D ∧ (∀ u, RelV c u → u = cv) ∧ PySem.W.kitOne K (.ref D) cv = some b ∧ d = some dd ∧ H dd = some (.xd fs) ∧ Q (.bl b) H
theorem call_isX {a : Addr} {oe : Obj} {cls : Value} {d : Option Addr} {pn : List (Addr × Obj)} (hz : Zc cls d oe) (hf : ∃ vs, oe.data = .fields vs) : CallR (X.suite a ((a, oe) :: pn)) (.builtin "isinstance") (rIsX X.K a cls d) := by
  intro pins s σ H xs us Q I r h
  obtain ⟨D, c, cv, b, dd, fs, rfl, rfl, T, hcv, hk, rfl, hx, q⟩ := h
  obtain ⟨u1, u2, rfl, r1, r2⟩ := vals2 r
  cases (show u1 = Value.ref a from r1)
  cases hcv _ r2
  obtain ⟨vs, hv⟩ := hf
  obtain ⟨ha, _⟩ := I.pin (a, oe) (List.mem_append_left _ List.mem_cons_self)
  have hxo : ObjOk X.prog X.w H s.heap dd (.xd fs) := I.hok dd _ hx
  obtain ⟨mA, hns, _⟩ := hxo
  obtain ⟨od, ho, _⟩ := lookIn_ns hns
  have J : PySem.W.InstAt s.heap a oe D (some od) := ⟨ha, hz.1, by unfold PySem.W.notCls; rw [hv] <;> rfl, by rw [hz.2]; exact ho⟩
  exact PySem.W.kia_one (PySem.W.kitx_exc T.hcl T.xf.ga T.xf.gg T.xf.exC T.ha T.hn T.ht T.hm) I.kIn J hk (fun z => nomatch z) fun tk => ⟨.bl b, H, I.kept (t' := tk) fun _ _ z => z, rfl, q⟩
/-- e.what, e the error that the suite holds -/
def tWhat (K : PySem.W.Frag) (a : Addr) (cls : Value) (d : Option Addr) (te : TE) : TE := fun σ H Q => te σ H fun x H1 => x = .ref a ∧ ∃ (D dd : Addr) (v : V), cls = .ref D ∧ XC K D ∧ d = some dd ∧ H1 dd = some (.xd [("what", v)]) ∧ Q v H1
theorem pe_what {a : Addr} {oe : Obj} {cls : Value} {d : Option Addr} {pn : List (Addr × Obj)} {te : TE} (hz : Zc cls d oe) (hf : ∃ vs, oe.data = .fields vs) (he : PE (X.suite a ((a, oe) :: pn)) e te)
    (hb : attributeBase e "what" X.env (eval e X.env) = eval e X.env := by rfl) : PE (X.suite a ((a, oe) :: pn)) (.Attribute e "what" pos) (tWhat X.K a cls d te) := by
  refine ⟨fun pins s σ H Q I h => ?_⟩
  refine attr_of hb (thn (he.run pins s σ H _ I h) fun u s1 z => ?_)
  obtain ⟨x, H1, I1, rx, rfl, D, dd, v, rfl, T, rfl, ea, q⟩ := z
  cases (show u = Value.ref a from rx)
  obtain ⟨ha, _⟩ := I1.pin (a, oe) (List.mem_append_left _ List.mem_cons_self)
  obtain ⟨vs, hd⟩ := hf
  have hx : ObjOk X.prog X.w H1 s1.heap dd (.xd [("what", v)]) := I1.hok dd _ ea
  obtain ⟨mA, hns, hr⟩ := hx
  obtain ⟨od, ho, hl⟩ := lookIn_ns hns
  obtain ⟨u, hu, ru⟩ := RelO.some_of (v := v) (o := mA "what") (by
    have := hr "what"
    simpa [List.lookup] using this)
  have J : PySem.W.InstAt s1.heap a oe D (some od) := ⟨ha, hz.1, by unfold PySem.W.notCls; rw [hd] <;> rfl, by rw [hz.2]; exact ho⟩
  exact HandSPX.exc_get I1.kIn J T.xf.ga T.xf.gg T.xf.exC (PySem.W.findObj_own T.xf.hdC T.noW rfl (by rw [hl, hu])) (handed_of ru) ⟨v, H1, I1.tok _, ru, q⟩
end
end Bw

set_option maxHeartbeats 1000000
namespace Bw
open PySem PySem.Spec PyProof.Rows L2
/-! ### a class of the program, made by its __init__ -/
structure CalC (P : Program) (w : World) (K : PySem.W.Frag) (mg : Str → Option Value) (base : Heap) (k : Nat) (x : Str) (C : Addr) (ps : List Str) (sp : Sp) : Prop where
  ex : ∃ (f : Addr) (fd : FuncData), Mk K C f ∧ FnOk P w K mg base CX0 k f fd ps sp ∧ mg x = some (.ref C) ∧ Binds K fd ps []
section
variable {X : Cx} {CX : CXT} {k : Nat} {x f : Str} {C : Addr} {ps ks : List Str} {st : Stmt} {sp : Sp} {E : XK} {p pos : Pos} {e : Expr} {es : List Expr} {kws : List Keyword} {t tk : TA} {ta : TE} {W : WX}
theorem pe_mk (c : CalC X.prog X.w X.K X.mg X.base k x C ps sp) (hr : Room (k + 1) X.A) (ha : PA X (e :: es) t) (hg : Gl X x := by rfl) (hdb : (x == ("__debug__" : Str)) = false := by decide)
    (he : starEach (e :: es) X.env = (false, eval e X.env) :: starEach es X.env := by rfl) (hpl : (backTo pos (starEach es X.env)).any (·.1) = false := by rfl) : PE X (.Call (.Name x p) (e :: es) [] pos) (tMake C sp [] E0 t) := by
  obtain ⟨f, fd, M, F, hm, hb⟩ := c.ex
  exact pe_make M F hr hg hm hb .nil pass0 ha hdb he hpl
/-- o.f, the written part told -/
theorem peF (K : PySem.W.Frag) (he : PE X e ta) (h : X.K = K := by rfl) (hb : attributeBase e f X.env (eval e X.env) = eval e X.env := by rfl) : PE X (.Attribute e f pos) (tFld K ta f) := h ▸ pe_fld he hb
/-- in a try's body: a call that may raise -/
theorem pe_calS (c : Cal X.prog X.w X.K X.mg X.base (L2.CX X.prog X.w) k x ps st sp) (hr : Room k X.A) (tk : Takes X W) (ha : PA X (e :: es) t) (hg : Gl X x := by rfl) (hdb : (x == ("__debug__" : Str)) = false := by decide)
    (he : starEach (e :: es) X.env = (false, eval e X.env) :: starEach es X.env := by rfl) (hpl : (backTo pos (starEach es X.env)).any (·.1) = false := by rfl) : PE X (.Call (.Name x p) (e :: es) [] pos) (tCallS sp (WE W) t) := by
  obtain ⟨f, fd, G, F, hm, hb⟩ := c.ex
  exact pe_callS G hr hg hm F.kp hb (fun σ => passAt tk σ) ha hdb he hpl
def tCallKS (sp : Sp) (gV : List V → List V → List V) (E : L2.St → XK) (tk : TA) : TE := fun σ H Q => tk σ H fun zs H2 => sp (gV [] zs) H2 Q (E σ)
theorem pe_calKS0 {g : List Value → List Value → List Value} {gV : List V → List V → List V} (c : Cal X.prog X.w X.K X.mg X.base (L2.CX X.prog X.w) k x ps st sp) (B : KwB x st ps ks g gV) (hr : Room k X.A) (tkW : Takes X W) (hkw : PK X kws tk) (hg : Gl X x := by rfl)
    (hall : (backToKw pos (keywordEach kws X.env)).all (·.1.isSome) = true := by rfl) (hks : (backToKw pos (keywordEach kws X.env)).filterMap (·.1) = ks := by rfl)
    (hdb : (x == ("__debug__" : Str)) = false := by decide)
    (hpl : ((backTo pos (starEach [] X.env)).any (·.1) || (backToKw pos (keywordEach kws X.env)).any (·.1.isNone)) = false := by rfl) :
    PE X (.Call (.Name x p) [] kws pos) (tCallKS sp gV (WE W) tk) := by
  obtain ⟨f, fd, G, F, hm, hb⟩ := c.ex
  refine ⟨fun pins s σ H Q I h => ?_⟩
  refine wpAny_Call_Name_kw (ld_glob I hg hm ?_ hdb)
  refine PySem.W.callWith_KW0 (h₀ := X.base) I.ok.mod.kin F.kp hall (thn (hkw.run pos pins s σ H _ I h) fun ws s2 z => ?_) hpl
  obtain ⟨zs, H2, I2, rz, q2⟩ := z
  refine ⟨I2.kIn, ?_⟩
  rw [hks]
  have kb := B.binds F
  have r2 := kb.rel (vs := []) (us := []) .nil rz
  have hl : (g [] ws).length = ps.length := by rw [← r2.length]; exact G.len _ _ _ _ q2
  refine wpAny_call (codeAny_mono (G.run X.A X.stack s2 H2 ⟨[], ks.zip ws⟩ (g [] ws) (gV [] zs) Q (WE W σ) hr I2.env0 (kb.to s2 [] ws I2.kIn hl) r2 q2) fun r' s' hq => ?_)
  match r', hq with
  | .error e, hq => exact passAt tkW σ pins H2 s2 e s' I2 hq
  | .ok (.ret u), hq => exact I2.after hq
  | .ok .next, hq => exact False.elim hq
  | .ok .brk, hq => exact False.elim hq
  | .ok .cont, hq => exact False.elim hq
theorem isX (K : PySem.W.Frag) {a : Addr} {oe : Obj} {cls : Value} {d : Option Addr} {pn : List (Addr × Obj)} (hz : Zc cls d oe) (hf : ∃ vs, oe.data = .fields vs) (h : X.K = K := by rfl) : CallR (X.suite a ((a, oe) :: pn)) (.builtin "isinstance") (rIsX K a cls d) := h ▸ call_isX hz hf
theorem whatX (K : PySem.W.Frag) {a : Addr} {oe : Obj} {cls : Value} {d : Option Addr} {pn : List (Addr × Obj)} {te : TE} (hz : Zc cls d oe) (hf : ∃ vs, oe.data = .fields vs) (he : PE (X.suite a ((a, oe) :: pn)) e te) (h : X.K = K := by rfl)
    (hb : attributeBase e "what" X.env (eval e X.env) = eval e X.env := by rfl) : PE (X.suite a ((a, oe) :: pn)) (.Attribute e "what" pos) (tWhat K a cls d te) := h ▸ pe_what hz hf he hb
def rReprD (K : PySem.W.Frag) : List V → Hp → VK → Prop := fun xs H Q => ∃ a d, xs = [.ref a] ∧ Dp K H (.ref a) d ∧ d.showable = true ∧ d.hasDict = false ∧ d.depth < 64 ∧ d.shown.length ≤ sizeLine ∧ Q (.str d.shown) H
theorem reprD (K : PySem.W.Frag) (hG : X.A.guards = some []) {j : Nat} (hr : Room j X.A) (h : X.K = K := by rfl) : CallR X (.builtin "repr") (rReprD K) := h ▸ call_reprD hG (by have := hr.un; omega)
end
/-! ### tuples of tuples of ints -/
def rowD (r : List Int) : PyData := .tuple (r.map .int)
def TT (K : PySem.W.Frag) (H : Hp) (a : Addr) (rows : List (List Int)) : Prop := Dp K H (.ref a) (.tuple (rows.map rowD))
theorem dpAll_int {K : PySem.W.Frag} {H : Hp} : ∀ {vs : List V} {ns : List Int}, DpAll K H vs (ns.map PyData.int) → vs = ns.map V.int
  | [], [], _ => rfl
  | [], _ :: _, h => by cases h
  | _ :: _, [], h => by cases h
  | v :: vs, n :: ns, h => by
    cases h with
    | cons a b =>
      cases a
      rw [dpAll_int b]
      rfl
theorem dp_row {K : PySem.W.Frag} {H : Hp} {v : V} {r : List Int} (h : Dp K H v (rowD r)) : ∃ b, v = .ref b ∧ SqT K H b (r.map V.int) := by
  cases h with
  | tup hs ha =>
    cases dpAll_int ha
    exact ⟨_, rfl, hs⟩
theorem row_dp {K : PySem.W.Frag} {H : Hp} {b : Addr} {r : List Int} (h : SqT K H b (r.map V.int)) : Dp K H (.ref b) (rowD r) := dpT h
theorem dpAll_get {K : PySem.W.Frag} {H : Hp} : ∀ {vs : List V} {ds : List PyData}, DpAll K H vs ds → ∀ {i : Nat} {d : PyData}, ds[i]? = some d → ∃ v, vs[i]? = some v ∧ Dp K H v d
  | [], [], _, i, d, h => by simp at h
  | [], _ :: _, h, _, _, _ => by cases h
  | _ :: _, [], h, _, _, _ => by cases h
  | v :: vs, e :: ds, h, i, d, hi => by
    cases h with
    | cons a b =>
      cases i with
      | zero => cases Option.some.inj hi; exact ⟨v, rfl, a⟩
      | succ i => exact dpAll_get b (i := i) hi
theorem dpAll_len {K : PySem.W.Frag} {H : Hp} : ∀ {vs : List V} {ds : List PyData}, DpAll K H vs ds → vs.length = ds.length
  | [], [], _ => rfl
  | [], _ :: _, h => by cases h
  | _ :: _, [], h => by cases h
  | v :: vs, e :: ds, h => by
    cases h with
    | cons a b => rw [List.length_cons, List.length_cons, dpAll_len b]
theorem dpAll_app {K : PySem.W.Frag} {H : Hp} : ∀ {vs ws : List V} {ds es : List PyData}, DpAll K H vs ds → DpAll K H ws es → DpAll K H (vs ++ ws) (ds ++ es)
  | [], _, [], _, _, h => h
  | [], _, _ :: _, _, h, _ => by cases h
  | _ :: _, _, [], _, h, _ => by cases h
  | _ :: vs, _, _ :: ds, _, h, k => by
    cases h with
    | cons a b => exact .cons a (dpAll_app b k)
theorem TT.seq {K : PySem.W.Frag} {H : Hp} {a : Addr} {rows : List (List Int)} (h : TT K H a rows) : ∃ vs, SqT K H a vs ∧ vs.length = rows.length ∧ ∀ (i : Nat) (r : List Int), rows[i]? = some r → ∃ b, vs[i]? = some (.ref b) ∧ SqT K H b (r.map V.int) := by
  cases h with
  | tup hs ha =>
    refine ⟨_, hs, by rw [dpAll_len ha, List.length_map], fun i r hr => ?_⟩
    obtain ⟨v, hv, hd⟩ := dpAll_get ha (i := i) (d := rowD r) (by rw [List.getElem?_map, hr]; rfl)
    obtain ⟨b, rfl, hb⟩ := dp_row hd
    exact ⟨b, hv, hb⟩
theorem TT.same {K : PySem.W.Frag} {H H1 : Hp} {a : Addr} {rows : List (List Int)} (e : Same H H1) (h : TT K H a rows) : TT K H1 a rows := dp_same e _ _ h
end Bw

set_option maxHeartbeats 1000000
namespace Bw
open PySem PySem.Spec PyProof.Rows L2
section
variable {X : Cx}
theorem allL (K : PySem.W.Frag) (hc : X.calm = true) (h : X.K = K := by rfl) : CallR X (.builtin "all") (rAll K) := h ▸ cr_all hc
end
/-! ### a list of what an expression that only reads gives, over any walk; what is new in the heap may stay -/
/-- te gives at σ a value that stands for u, and leaves what stood -/
def Rd (te : TE) (σ : L2.St) (H0 : Hp) (P : V → Hp → Prop) : Prop := ∀ (H : Hp) (Q : VK), Same H0 H → (∀ v H', Same H H' → P v H' → Q v H') → te σ H Q
theorem lc_rd {J : It} {n j : Nat} {G : Hp → Prop} {Y : Nat → Hp → V → Hp → Prop} (u : Nat → V) (w : Walk J n G Y) (hY : ∀ i H x H', Y i H x H' → i < n → H' = H ∧ x = u i) {vs : List Nat} {σ : L2.St} {H1 : Hp} {D : Addr} {te : TE} {Qd : Hp → Prop} (P : Nat → V → Hp → Prop)
    (hD : H1 D = none) (hn : n < 100000) (hw : ∀ x, wipe ((wipe σ vs).set j (some x)) vs = wipe σ vs) (hG : ∀ H', Same H1 H' → G H')
    (hP : ∀ i v H H', Same H H' → P i v H → P i v H')
    (hd : ∀ i : Nat, i < n → Rd te ((wipe σ vs).set j (some (u i))) H1 (P i))
    (fin : ∀ (xs : List V) H', xs.length = n → H' D = some (.lst xs) → Same H1 H' → (∀ i v, xs[i]? = some v → P i v H') → Qd H') (hPm : ∀ i v H (x : List V) y, P i v H → H D = some (.lst x) → P i v (upd H D y)) :
    ∃ W : Nat → Nat → Hp → Prop, (∃ m, W 0 m (upd H1 D (.lst []))) ∧ ∀ i m H, W i m H →
      (J.stop i H ∧ Qd H) ∨ (J.go i H ∧ ∃ Nx : Hp → Prop, (∀ H', Nx H' → ∃ m', m' < m ∧ W (i + 1) m' H') ∧ ∀ x H', J.yld i H x H' → gName j x (wipe σ vs) H' fun σ2 H2 => wipe σ2 vs = wipe σ vs ∧ tYes σ2 H2 fun b H3 =>
        if b = true then te σ2 H3 fun y H4 => ∃ acc, H4 D = some (.lst acc) ∧ acc.length < sizeLine ∧ Nx (upd H4 D (.lst (acc ++ [y]))) else Nx H3) := by
  refine lc_it w (fun i H' => ∃ xs : List V, xs.length = i ∧ H' D = some (.lst xs) ∧ Same H1 H' ∧ ∀ k v, xs[k]? = some v → P k v H') ⟨[], rfl, upd_same, Same.new hD, fun k v e => by simp at e⟩ (fun i H' _ h => hG _ (by obtain ⟨_, _, _, s, _⟩ := h; exact s)) (fun i x H2 H3 hi h y => ?_) (fun H' h => ?_)
  · obtain ⟨xs, h1, h2, h3, h4⟩ := h
    obtain ⟨rfl, rfl⟩ := hY i H2 x H3 y hi
    refine ⟨hw _, ?_⟩
    refine tYes_i ?_
    refine iteT ?_
    refine hd i hi H3 _ h3 fun v H4 s4 p4 => ⟨xs, s4 _ _ h2, smallLt (by omega), xs ++ [v], by rw [List.length_append, h1]; rfl, upd_same, (h3.trans s4).mut hD, fun k v' e => ?_⟩
    rcases Nat.lt_trichotomy k xs.length with hk | hk | hk
    · rw [List.getElem?_append_left hk] at e
      exact hPm _ _ _ _ _ (hP _ _ _ _ s4 (h4 k v' e)) (s4 _ _ h2)
    · subst hk
      rw [List.getElem?_append_right (Nat.le_refl _), Nat.sub_self] at e
      cases Option.some.inj e
      rw [h1]
      exact hPm _ _ _ _ _ p4 (s4 _ _ h2)
    · rw [List.getElem?_eq_none (by rw [List.length_append]; show xs.length + 1 ≤ k; omega)] at e
      cases e
  · obtain ⟨xs, h1, h2, h3, h4⟩ := h
    exact fin xs H' h1 h2 h3 h4
/-! ### tables -/
theorem TT.of {K : PySem.W.Frag} {H : Hp} {a : Addr} {vs : List V} {rows : List (List Int)} (h : SqT K H a vs) (hl : vs.length = rows.length) (hr : ∀ (i : Nat) (v : V) (r : List Int), vs[i]? = some v → rows[i]? = some r → ∃ b, v = .ref b ∧ SqT K H b (r.map V.int)) : TT K H a rows := by
  refine .tup h ?_
  clear h
  induction vs generalizing rows with
  | nil =>
    cases rows with
    | nil => exact .nil
    | cons r rs => cases hl
  | cons v vs ih =>
    cases rows with
    | nil => cases hl
    | cons r rs =>
      obtain ⟨b, rfl, hb⟩ := hr 0 v r rfl rfl
      exact .cons (row_dp hb) (ih (by simpa using hl) fun i v r e1 e2 => hr (i + 1) v r e1 e2)
/-- a table at t, of the class C -/
def TB (K : PySem.W.Frag) (C : Addr) (H : Hp) (t : Addr) (rows : List (List Int)) : Prop := ∃ dx r, H t = some (.ins C dx [("many", .int (rows.length : Nat)), ("beside", .ref r)]) ∧ TT K H r rows
theorem TB.same {K : PySem.W.Frag} {C t : Addr} {H H1 : Hp} {rows : List (List Int)} (e : Same H H1) (h : TB K C H t rows) : TB K C H1 t rows := by
  obtain ⟨dx, r, h1, h2⟩ := h
  exact ⟨dx, r, e _ _ h1, h2.same e⟩
end Bw
namespace Bw
open PySem PySem.Spec PyProof.Rows L2
/-! ### data that may be shown -/
structure Sh (b k : Nat) (d : PyData) : Prop where
  sh : d.showable = true
  nod : d.hasDict = false
  lv : d.leavesShort 64 = true
  dp : d.depth ≤ k
  bk : d.bulk ≤ b
theorem int_shown {n : Int} (h : n.natAbs < 2 ^ 60) : (PyData.shown (.int n)).length ≤ 64 := by
  have e := nat_repr_length_le (n := n.natAbs) (k := 60) (by decide) h
  show (Str.ofString (toString n)).length ≤ 64
  have : (Str.ofString (toString n)).length = (toString n).length := PySem.ofString_length _
  rw [this]
  cases n with
  | ofNat m =>
    have e2 : (Nat.repr m).length ≤ 60 := e
    show (Nat.repr m).length ≤ 64
    omega
  | negSucc m =>
    have e2 : (Nat.repr (m + 1)).length ≤ 60 := e
    show ("-" ++ Nat.repr (m + 1)).length ≤ 64
    rw [String.length_append]
    show 1 + _ ≤ 64
    omega
theorem Sh.int {n : Int} (h : n.natAbs < 2 ^ 60) : Sh 0 0 (.int n) := by
  refine ⟨?_, rfl, ?_, Nat.le_of_eq rfl, Nat.le_of_eq rfl⟩
  · have : n.natAbs.log2 < 1920 := by
      rcases Nat.eq_zero_or_pos n.natAbs with z | z
      · rw [z]; decide
      · have := (Nat.log2_lt (k := 60) (Nat.pos_iff_ne_zero.mp z)).mpr h
        omega
    simp [PyData.showable, this]
  · simp only [PyData.leavesShort, decide_eq_true_eq]
    exact int_shown h
theorem Sh.non : Sh 0 0 .none := ⟨rfl, rfl, rfl, Nat.le_of_eq rfl, Nat.le_of_eq rfl⟩
theorem Sh.bl (b : Bool) : Sh 0 0 (.bool b) := ⟨rfl, rfl, rfl, Nat.le_of_eq rfl, Nat.le_of_eq rfl⟩
theorem Sh.le {b k b' k' : Nat} {d : PyData} (h : Sh b k d) (hb : b ≤ b') (hk : k ≤ k') : Sh b' k' d := ⟨h.sh, h.nod, h.lv, Nat.le_trans h.dp hk, Nat.le_trans h.bk hb⟩
theorem shAll_of {b k : Nat} : ∀ ds : List PyData, (∀ d ∈ ds, Sh b k d) → PyData.showableAll ds = true ∧ PyData.hasDictAll ds = false ∧ PyData.leavesShortAll 64 ds = true ∧ PyData.depthAll ds ≤ k ∧ PyData.bulkAll ds ≤ ds.length * (b + 1)
  | [], _ => ⟨rfl, rfl, rfl, Nat.zero_le _, Nat.zero_le _⟩
  | d :: ds, h => by
    have h1 := h d List.mem_cons_self
    obtain ⟨i1, i2, i3, i4, i5⟩ := shAll_of ds fun x hx => h x (List.mem_cons_of_mem _ hx)
    have g4 := h1.dp
    have g5 := h1.bk
    refine ⟨by rw [PyData.showableAll, h1.sh, i1]; rfl, by rw [PyData.hasDictAll, h1.nod, i2]; rfl, by rw [PyData.leavesShortAll, h1.lv, i3]; rfl, by rw [PyData.depthAll]; omega, ?_⟩
    rw [PyData.bulkAll, List.length_cons, Nat.add_mul, Nat.one_mul]
    omega
theorem Sh.tup {b k m : Nat} {ds : List PyData} (h : ∀ d ∈ ds, Sh b k d) (hm : ds.length ≤ m) : Sh (m * (b + 1)) (k + 1) (.tuple ds) := by
  obtain ⟨i1, i2, i3, i4, i5⟩ := shAll_of ds h
  refine ⟨by rw [PyData.showable]; exact i1, by rw [PyData.hasDict]; exact i2, by rw [PyData.leavesShort]; exact i3, by rw [PyData.depth]; omega, ?_⟩
  rw [PyData.bulk]
  exact Nat.le_trans i5 (Nat.mul_le_mul_right _ hm)
theorem Sh.lst {b k m : Nat} {ds : List PyData} (h : ∀ d ∈ ds, Sh b k d) (hm : ds.length ≤ m) : Sh (m * (b + 1)) (k + 1) (.list ds) := by
  obtain ⟨i1, i2, i3, i4, i5⟩ := shAll_of ds h
  refine ⟨by rw [PyData.showable]; exact i1, by rw [PyData.hasDict]; exact i2, by rw [PyData.leavesShort]; exact i3, by rw [PyData.depth]; omega, ?_⟩
  rw [PyData.bulk]
  exact Nat.le_trans i5 (Nat.mul_le_mul_right _ hm)
theorem Sh.pair {b k : Nat} {x y : PyData} (hx : Sh b k x) (hy : Sh b k y) : Sh (2 * (b + 1)) (k + 1) (.tuple [x, y]) := Sh.tup (fun d hd => by
  rcases List.mem_cons.mp hd with e | e
  · rw [e]; exact hx
  · rw [List.mem_singleton.mp e]; exact hy) (Nat.le_refl _)
theorem Sh.row {r : List Int} {m : Nat} (h : ∀ c ∈ r, c.natAbs < 2 ^ 60) (hm : r.length ≤ m) : Sh m 1 (rowD r) := by
  have := Sh.tup (b := 0) (k := 0) (m := m) (ds := r.map PyData.int) (fun d hd => by
    obtain ⟨c, hc, rfl⟩ := List.mem_map.mp hd
    exact Sh.int (h c hc)) (by rw [List.length_map]; exact hm)
  rw [Nat.zero_add, Nat.mul_one] at this
  exact this
theorem Sh.rows {rows : List (List Int)} {m n : Nat} (h : ∀ r ∈ rows, r.length ≤ m ∧ ∀ c ∈ r, c.natAbs < 2 ^ 60) (hn : rows.length ≤ n) : Sh (n * (m + 1)) 2 (.tuple (rows.map rowD)) :=
  Sh.tup (fun d hd => by
    obtain ⟨r, hr, rfl⟩ := List.mem_map.mp hd
    exact Sh.row (h r hr).2 (h r hr).1) (by rw [List.length_map]; exact hn)
theorem Sh.fits {b k : Nat} {d : PyData} (h : Sh b k d) (hb : b ≤ 200000) : d.shown.length ≤ sizeLine := by
  have e := PyData.shown_le_bulk 64 (by decide) d h.lv
  have := h.bk
  rw [sizeLine_eq]
  omega
theorem Sh.rep {K : PySem.W.Frag} {b k : Nat} {d : PyData} {H : Hp} {a : Addr} {Q : VK} (h : Sh b k d) (hb : b ≤ 200000) (hk : k < 64) (hd : Dp K H (.ref a) d) (q : Q (.str d.shown) H) : rReprD K [.ref a] H Q :=
  ⟨a, d, rfl, hd, h.sh, h.nod, Nat.lt_of_le_of_lt h.dp hk, h.fits hb, q⟩
end Bw

set_option maxHeartbeats 1000000
namespace Bw
open PySem PySem.Spec PyProof.Rows L2
/-! ### comprehensions with two for -/
section
variable {J : It} {n : Nat} {G : Hp → Prop} {Y : Nat → Hp → V → Hp → Prop}
theorem lc2_it (w : Walk J n G Y) {g : TG} {tt : L2.TT} {wi1 : TI} {g1 : TG} {tt1 : L2.TT} {te : TE} {vs vs1 : List Nat} {σ : L2.St} {H1 : Hp} {D : Addr} {Qd : Hp → Prop} (Pv : Nat → Hp → Prop) (h0 : Pv 0 (upd H1 D (.lst []))) (hG : ∀ i H, i ≤ n → Pv i H → G H)
    (hs : ∀ i x H H', i < n → Pv i H → Y i H x H' → g x (wipe σ vs) H' fun σ2 H2 => wipe σ2 vs = wipe σ vs ∧ tt σ2 H2 fun b H3 =>
      if b = true then wi1 σ2 H3 fun J1 H4 => ∃ W1 : Nat → Nat → Hp → Prop, (∃ m, W1 0 m H4) ∧ ∀ j k H, W1 j k H →
        (J1.stop j H ∧ Pv (i + 1) H) ∨ (J1.go j H ∧ ∃ Nx1 : Hp → Prop, (∀ H', Nx1 H' → ∃ k', k' < k ∧ W1 (j + 1) k' H') ∧ ∀ x H', J1.yld j H x H' → g1 x (wipe σ2 vs1) H' fun σ3 H5 => wipe σ3 vs1 = wipe σ2 vs1 ∧ tt1 σ3 H5 fun b H6 =>
          if b = true then te σ3 H6 fun y H7 => ∃ acc, H7 D = some (.lst acc) ∧ acc.length < sizeLine ∧ Nx1 (upd H7 D (.lst (acc ++ [y]))) else Nx1 H6) else Pv (i + 1) H3) (hd : ∀ H, Pv n H → Qd H) :
    ∃ W : Nat → Nat → Hp → Prop, (∃ m, W 0 m (upd H1 D (.lst []))) ∧ ∀ i m H, W i m H →
      (J.stop i H ∧ Qd H) ∨ (J.go i H ∧ ∃ Nx : Hp → Prop, (∀ H', Nx H' → ∃ m', m' < m ∧ W (i + 1) m' H') ∧ ∀ x H', J.yld i H x H' → g x (wipe σ vs) H' fun σ2 H2 => wipe σ2 vs = wipe σ vs ∧ tt σ2 H2 fun b H3 =>
        if b = true then wi1 σ2 H3 fun J1 H4 => ∃ W1 : Nat → Nat → Hp → Prop, (∃ m, W1 0 m H4) ∧ ∀ j k H, W1 j k H →
          (J1.stop j H ∧ Nx H) ∨ (J1.go j H ∧ ∃ Nx1 : Hp → Prop, (∀ H', Nx1 H' → ∃ k', k' < k ∧ W1 (j + 1) k' H') ∧ ∀ x H', J1.yld j H x H' → g1 x (wipe σ2 vs1) H' fun σ3 H5 => wipe σ3 vs1 = wipe σ2 vs1 ∧ tt1 σ3 H5 fun b H6 =>
            if b = true then te σ3 H6 fun y H7 => ∃ acc, H7 D = some (.lst acc) ∧ acc.length < sizeLine ∧ Nx1 (upd H7 D (.lst (acc ++ [y]))) else Nx1 H6) else Nx H3) := by
  refine ⟨fun i m H => m = n - i ∧ i ≤ n ∧ Pv i H, ⟨n, by simp, Nat.zero_le _, h0⟩, ?_⟩
  rintro i m H ⟨rfl, hi, p⟩
  have q := hG i H hi p
  by_cases hlt : i < n
  · exact .inr ⟨w.goes i H hlt q, Pv (i + 1), fun H' p' => ⟨n - (i + 1), by omega, rfl, hlt, p'⟩, fun x H' y => hs i x H H' hlt p (w.yields i H x H' hlt q y)⟩
  · have e : i = n := by omega
    subst e
    exact .inl ⟨w.stops H q, hd H p⟩
/-- the inner for -/
theorem lc2_in (w : Walk J n G Y) {g : TG} {tt : L2.TT} {te : TE} {vs : List Nat} {σ : L2.St} {H1 : Hp} {D : Addr} {Qd : Hp → Prop} (Pv : Nat → Hp → Prop) (h0 : Pv 0 H1) (hG : ∀ i H, i ≤ n → Pv i H → G H)
    (hs : ∀ i x H H', i < n → Pv i H → Y i H x H' → g x (wipe σ vs) H' fun σ2 H2 => wipe σ2 vs = wipe σ vs ∧ tt σ2 H2 fun b H3 =>
      if b = true then te σ2 H3 fun y H4 => ∃ acc, H4 D = some (.lst acc) ∧ acc.length < sizeLine ∧ Pv (i + 1) (upd H4 D (.lst (acc ++ [y]))) else Pv (i + 1) H3) (hd : ∀ H, Pv n H → Qd H) :
    ∃ W : Nat → Nat → Hp → Prop, (∃ m, W 0 m H1) ∧ ∀ i m H, W i m H →
      (J.stop i H ∧ Qd H) ∨ (J.go i H ∧ ∃ Nx : Hp → Prop, (∀ H', Nx H' → ∃ m', m' < m ∧ W (i + 1) m' H') ∧ ∀ x H', J.yld i H x H' → g x (wipe σ vs) H' fun σ2 H2 => wipe σ2 vs = wipe σ vs ∧ tt σ2 H2 fun b H3 =>
        if b = true then te σ2 H3 fun y H4 => ∃ acc, H4 D = some (.lst acc) ∧ acc.length < sizeLine ∧ Nx (upd H4 D (.lst (acc ++ [y]))) else Nx H3) := by
  refine ⟨fun i m H => m = n - i ∧ i ≤ n ∧ Pv i H, ⟨n, by simp, Nat.zero_le _, h0⟩, ?_⟩
  rintro i m H ⟨rfl, hi, p⟩
  have q := hG i H hi p
  by_cases hlt : i < n
  · exact .inr ⟨w.goes i H hlt q, Pv (i + 1), fun H' p' => ⟨n - (i + 1), by omega, rfl, hlt, p'⟩, fun x H' y => hs i x H H' hlt p (w.yields i H x H' hlt q y)⟩
  · have e : i = n := by omega
    subst e
    exact .inl ⟨w.stops H q, hd H p⟩
end
theorem yInt {ns : List Int} : ∀ (i : Nat) (H : Hp) (x : V) (H' : Hp), YAt (ns.map V.int) i H x H' → i < (ns.map V.int).length → H' = H ∧ x = V.int (ns.getD i 0) := by
  rintro i H x H' ⟨h1, h2⟩ hi
  obtain ⟨hi2, rfl⟩ := num_map i ns x h2
  exact ⟨h1, by rw [List.getD_eq_getElem?_getD, List.getElem?_eq_getElem hi2]; rfl⟩
theorem getD_in {ns : List Int} {i : Nat} (h : i < ns.length) : ns.getD i 0 ∈ ns := by
  rw [List.getD_eq_getElem?_getD, List.getElem?_eq_getElem h]
  exact List.getElem_mem h
theorem ints_of {f : Nat → Int} : ∀ {xs : List V} (k : Nat), (∀ (i : Nat) (v : V), xs[i]? = some v → v = .int (f (k + i))) → xs = ((List.range' k xs.length).map f).map V.int
  | [], _, _ => rfl
  | x :: xs, k, h => by
    rw [List.length_cons, List.range'_succ, List.map_cons, List.map_cons, ← ints_of (xs := xs) (k + 1) fun i v e => by rw [show k + 1 + i = k + (i + 1) by omega]; exact h (i + 1) v e, h 0 x rfl]
    rfl
theorem map_getD {α : Type} {ns : List Int} (g : Int → α) : (List.range' 0 ns.length).map (fun i => g (ns.getD i 0)) = ns.map g := by
  refine List.ext_getElem (by simp) fun i h1 h2 => ?_
  simp at h1
  simp [List.getElem_range', h1]
/-- [g(c) for c in the tuple of ints at b] -/
theorem lc_mapI {K : PySem.W.Frag} {b D : Addr} {ns : List Int} {j : Nat} {vs : List Nat} {σ : L2.St} {H1 : Hp} {te : TE} {Qd : Hp → Prop} (g : Int → Int) (hb : SqT K H1 b (ns.map V.int)) (hD : H1 D = none) (hn : ns.length < 100000) (hw : ∀ x, wipe ((wipe σ vs).set j (some x)) vs = wipe σ vs)
    (hd : ∀ c ∈ ns, Rd te ((wipe σ vs).set j (some (.int c))) H1 fun v _ => v = .int (g c)) (fin : ∀ H', H' D = some (.lst ((ns.map g).map V.int)) → Same H1 H' → Qd H') :
    ∃ W : Nat → Nat → Hp → Prop, (∃ m, W 0 m (upd H1 D (.lst []))) ∧ ∀ i m H, W i m H →
      ((Itt K b).stop i H ∧ Qd H) ∨ ((Itt K b).go i H ∧ ∃ Nx : Hp → Prop, (∀ H', Nx H' → ∃ m', m' < m ∧ W (i + 1) m' H') ∧ ∀ x H', (Itt K b).yld i H x H' → gName j x (wipe σ vs) H' fun σ2 H2 => wipe σ2 vs = wipe σ vs ∧ tYes σ2 H2 fun b H3 =>
        if b = true then te σ2 H3 fun y H4 => ∃ acc, H4 D = some (.lst acc) ∧ acc.length < sizeLine ∧ Nx (upd H4 D (.lst (acc ++ [y]))) else Nx H3) := by
  refine lc_rd (fun k => .int (ns.getD k 0)) walk_tup yInt (fun i v _ => v = .int (g (ns.getD i 0))) hD (by rw [List.length_map]; exact hn) hw (fun H' s => s.tup hb) (fun _ _ _ _ _ h => h) (fun i hi => hd _ (getD_in (by rw [List.length_map] at hi; exact hi))) (fun xs H' hl hD' s hv => fin H' ?_ s) (fun _ _ _ _ _ h _ => h)
  rw [hD', ints_of (xs := xs) (f := fun i => g (ns.getD i 0)) 0 fun i v e => by rw [Nat.zero_add]; exact hv i v e, hl, List.length_map, map_getD g]
/-! ### rows of ints in the heap -/
def Rws (K : PySem.W.Frag) (H : Hp) (vs : List V) (rows : List (List Int)) : Prop := DpAll K H vs (rows.map rowD)
section
variable {K : PySem.W.Frag} {H H1 : Hp} {vs : List V} {rows : List (List Int)} {a b : Addr} {r : List Int}
theorem Rws.nil : Rws K H [] [] := DpAll.nil
theorem Rws.snoc (h : Rws K H vs rows) (hb : SqT K H b (r.map V.int)) : Rws K H (vs ++ [.ref b]) (rows ++ [r]) := by
  unfold Rws
  rw [List.map_append]
  exact dpAll_app h (.cons (row_dp hb) .nil)
theorem Rws.same (e : Same H H1) (h : Rws K H vs rows) : Rws K H1 vs rows := dp_sameAll e _ _ h
theorem Rws.len (h : Rws K H vs rows) : vs.length = rows.length := by
  have := dpAll_len h
  rw [List.length_map] at this
  exact this
theorem Rws.upd {D : Addr} {ys : List V} {o : HO} (hD : H D = some (.lst ys)) : ∀ {vs : List V} {rows : List (List Int)}, Rws K H vs rows → Rws K (L2.upd H D o) vs rows
  | [], [], _ => DpAll.nil
  | [], _ :: _, h => by cases h
  | _ :: _, [], h => by cases h
  | v :: vs, r :: rows, h => by
    cases h with
    | cons x y =>
      obtain ⟨b, rfl, hb⟩ := dp_row x
      exact DpAll.cons (row_dp (tup_upd hb hD)) (Rws.upd hD y)
theorem Rws.tt (h : Rws K H vs rows) (ha : SqT K H a vs) : TT K H a rows := .tup ha h
end
end Bw
namespace Bw
open PySem PySem.Spec PyProof.Rows L2
/-- repr of a whole number or of None -/
theorem reprS {X : Cx} : CallR X (.builtin "repr") (fun xs H Q => ∃ v, xs = [v] ∧ ((v = .non ∧ Q (.str "None") H) ∨ ∃ i : Int, v = .int i ∧ i.natAbs.log2 < 1920 ∧ Q (.str (toString i)) H)) := by
  intro pins s σ H xs us Q I r h
  obtain ⟨v, rfl, h⟩ := h
  obtain ⟨u, rfl, ru⟩ := vals1 r
  rcases h with ⟨rfl, q⟩ | ⟨i, rfl, hi, q⟩
  · cases (show u = Value.none from ru)
    exact PySem.P.repr_of_none ⟨.str "None", H, I.tok _, ⟨_, rfl⟩, q⟩
  · obtain ⟨t, rfl⟩ := ru
    exact PySem.P.repr_of_int hi ⟨.str (toString i), H, I.tok _, ⟨_, rfl⟩, q⟩
end Bw

set_option maxHeartbeats 1000000
namespace Bw
open PySem PySem.Spec PyProof.Rows L2
section
variable {X : Cx}
theorem leT (K : PySem.W.Frag) (hu : X.A.units < cLine) (h : X.K = K := by rfl) : OpR X (compareOp .LtE) (rLeT K) := h ▸ op_leT hu
end
end Bw
namespace Bw
open PySem PySem.Spec PyProof.Rows L2
section
variable {K : PySem.W.Frag} {H : Hp} {a q C dx : Addr} {xs : List V} {fs : List (Str × V)} {o : HO}
/-- a tuple is not where an instance stands -/
theorem tup_updI (h : SqT K H a xs) (hq : H q = some (.ins C dx fs)) : SqT K (upd H q o) a xs := by
  rcases h with (h | ⟨f, h⟩) | h
  · exact .inl (.inl (by rw [upd_ne (fun z => by rw [z, hq] at h; cases h)]; exact h))
  · exact .inl (.inr ⟨f, by rw [upd_ne (fun z => by rw [z, hq] at h; cases h)]; exact h⟩)
  · exact .inr h
theorem Rws.updI (hq : H q = some (.ins C dx fs)) : ∀ {vs : List V} {rows : List (List Int)}, Rws K H vs rows → Rws K (L2.upd H q o) vs rows
  | [], [], _ => DpAll.nil
  | [], _ :: _, h => by cases h
  | _ :: _, [], h => by cases h
  | v :: vs, r :: rows, h => by
    cases h with
    | cons x y =>
      obtain ⟨b, rfl, hb⟩ := dp_row x
      exact DpAll.cons (row_dp (tup_updI hb hq)) (Rws.updI hq y)
theorem TT.updI {r : Addr} {rows : List (List Int)} (hq : H q = some (.ins C dx fs)) (h : TT K H r rows) : TT K (L2.upd H q o) r rows := by
  cases h with
  | tup hs ha => exact .tup (tup_updI hs hq) (Rws.updI hq ha)
end
end Bw
namespace Bw
open PySem PySem.Spec PyProof.Rows L2
/-! ### a op1 b op2 c op3 d -/
def tChain3 (r r' r'' : R2) (ta tb tc td : TE) : TE := fun σ H Q => ta σ H fun x H1 => tb σ H1 fun y H2 => r x y H2 fun z H3 => ∃ k, z = .bl k ∧
  (if k = true then tc σ H3 fun w' H4 => r' y w' H4 fun z' H5 => ∃ k', z' = .bl k' ∧ (if k' = true then td σ H5 fun v' H6 => r'' w' v' H6 Q else Q (.bl false) H5) else Q (.bl false) H3)
section
variable {X : Cx} {a b c d : Expr} {ta tb tc td : TE} {pos : Pos}
theorem pe_chain3 {op op' op'' : CmpOp} {r r' r'' : R2} (ho : OpR X (compareOp op) r) (ho' : OpR X (compareOp op') r') (ho'' : OpR X (compareOp op'') r'') (ha : PE X a ta) (hb : PE X b tb) (hc : PE X c tc) (hd : PE X d td)
    (hm : lastMarks [op, op', op''] [b, c, d] = false := by with_unfolding_all rfl) : PE X (.Compare a [op, op', op''] [b, c, d] pos) (tChain3 r r' r'' ta tb tc td) := by
  refine ⟨fun pins s σ H Q I h => ?_⟩
  refine Compare_chain (thn (ha.run pins s σ H _ I h) fun v s1 ⟨x, H1, I1, r1, q1⟩ => chain_link (thn (hb.run pins s1 σ H1 _ I1 q1) fun u s2 ⟨y, H2, I2, r2, q2⟩ =>
    thn (ho pins s2 σ H2 x y v u _ I2 r1 r2 q2) fun e s3 ⟨z, H3, I3, r3, k, ek, q3⟩ => ?_)) hm
  subst ek
  cases r3
  refine wpAny_truthy_bool ?_
  cases k with
  | false => exact ite_ff ⟨.bl false, H3, I3, rfl, q3⟩
  | true =>
    refine ite_tt (chain_link (thn (hc.run pins s3 σ H3 _ I3 q3) fun w' s4 ⟨z', H4, I4, r4, q4⟩ => thn (ho' pins s4 σ H4 y z' u w' _ I4 r2 r4 q4) fun e' s5 ⟨z2, H5, I5, r5, k2, e2, q5⟩ => ?_))
    subst e2
    cases r5
    refine wpAny_truthy_bool ?_
    cases k2 with
    | false => exact ite_ff ⟨.bl false, H5, I5, rfl, q5⟩
    | true => exact ite_tt (chain_last (thn (hd.run pins s5 σ H5 _ I5 q5) fun w2 s6 ⟨z3, H6, I6, r6, q6⟩ => ho'' pins s6 σ H6 z' z3 w' w2 Q I6 r4 r6 q6))
end
end Bw
namespace Bw
open PySem PySem.Spec PyProof.Rows L2
theorem hu1 {k : Nat} {A : Around} (hr : Room k A) : A.units + 1 < cLine := by have := hr.un; omega
theorem hu0 {k : Nat} {A : Around} (hr : Room k A) : A.units < cLine := by have := hr.un; omega
end Bw
namespace Bw
open PySem PySem.Spec PyProof.Rows L2
/-! ### a def with keyword-only parameters, called with them told -/
structure CalW (P : Program) (w : World) (K : PySem.W.Frag) (mg : Str → Option Value) (base : Heap) (CX : CXT) (k : Nat) (x : Str) (ps : List Str) (st : Stmt) (sp : Sp) : Prop where
  ex : ∃ (f : Addr) (fd : FuncData), FnOk P w K mg base CX k f fd ps sp ∧ Fun K x x st f fd ∧ mg x = some (.ref f)
theorem pe_calKw {X : Cx} {CX : CXT} {k : Nat} {x : Str} {ps ks : List Str} {st : Stmt} {sp : Sp} {E : XK} {p pos : Pos} {e : Expr} {es : List Expr} {kws : List Keyword} {t tk : TA} {g : List Value → List Value → List Value} {gV : List V → List V → List V}
    (c : CalW X.prog X.w X.K X.mg X.base CX k x ps st sp) (B : KwB x st ps ks g gV) (hr : Room k X.A) (hx : Passes CX X E) (ha : PA X (e :: es) t) (hkw : PK X kws tk) (hg : Gl X x := by rfl)
    (hall : (backToKw pos (keywordEach kws X.env)).all (·.1.isSome) = true := by rfl) (hks : (backToKw pos (keywordEach kws X.env)).filterMap (·.1) = ks := by rfl)
    (hdb : (x == ("__debug__" : Str)) = false := by decide) (he : starEach (e :: es) X.env = (false, eval e X.env) :: starEach es X.env := by rfl)
    (hpl : ((backTo pos (starEach (e :: es) X.env)).any (·.1) || (backToKw pos (keywordEach kws X.env)).any (·.1.isNone)) = false := by rfl) :
    PE X (.Call (.Name x p) (e :: es) kws pos) (tCallK sp gV E t tk) := by
  obtain ⟨f, fd, G, F, hm⟩ := c.ex
  exact pe_callK G hr hg hm F.kp (B.binds F) hx ha hkw hall hks hdb he hpl
end Bw
namespace Bw
open PySem PySem.Spec PyProof.Rows L2
/-- a comprehension over whole numbers with a test that only reads; h: what each gives -/
theorem lc_fm {J : It} {n j : Nat} {G : Hp → Prop} {Y : Nat → Hp → V → Hp → Prop} (ns : List Int) (w : Walk J n G Y) (hn' : ns.length = n) (hY : ∀ i H x H', Y i H x H' → i < n → H' = H ∧ x = .int (ns.getD i 0)) {vs : List Nat} {σ : L2.St} {H1 : Hp} {D : Addr} {tt : L2.TT} {te : TE} {Qd : Hp → Prop} (f : Int → Bool) (h : Int → V)
    (hD : H1 D = none) (hn : n < 100000) (hw : ∀ x, wipe ((wipe σ vs).set j (some x)) vs = wipe σ vs) (hG : ∀ H', Same H1 H' → G H')
    (ht : ∀ c ∈ ns, ∀ (H : Hp) (Q : Bool → Hp → Prop), Same H1 H → Q (f c) H → tt ((wipe σ vs).set j (some (.int c))) H Q)
    (he : ∀ c ∈ ns, f c = true → ∀ (H : Hp) (Q : VK), Same H1 H → Q (h c) H → te ((wipe σ vs).set j (some (.int c))) H Q)
    (fin : ∀ H', H' D = some (.lst ((ns.filter f).map h)) → Same H1 H' → Qd H') :
    ∃ W : Nat → Nat → Hp → Prop, (∃ m, W 0 m (upd H1 D (.lst []))) ∧ ∀ i m H, W i m H →
      (J.stop i H ∧ Qd H) ∨ (J.go i H ∧ ∃ Nx : Hp → Prop, (∀ H', Nx H' → ∃ m', m' < m ∧ W (i + 1) m' H') ∧ ∀ x H', J.yld i H x H' → gName j x (wipe σ vs) H' fun σ2 H2 => wipe σ2 vs = wipe σ vs ∧ tt σ2 H2 fun b H3 =>
        if b = true then te σ2 H3 fun y H4 => ∃ acc, H4 D = some (.lst acc) ∧ acc.length < sizeLine ∧ Nx (upd H4 D (.lst (acc ++ [y]))) else Nx H3) := by
  refine lc_it w (fun i H' => H' D = some (.lst (((ns.take i).filter f).map h)) ∧ Same H1 H') ⟨upd_same, Same.new hD⟩ (fun i H' _ h => hG _ h.2) (fun i x H2 H3 hi h y => ?_) (fun H' h => fin H' (by have := h.1; rw [← hn', List.take_length] at this; exact this) h.2)
  obtain ⟨h1, h2⟩ := h
  obtain ⟨rfl, rfl⟩ := hY i H2 x H3 y hi
  have hi2 : i < ns.length := by omega
  have hm : ns.getD i 0 ∈ ns := getD_in hi2
  have e : ns.take (i + 1) = ns.take i ++ [ns.getD i 0] := by
    rw [List.take_add_one, List.getD_eq_getElem?_getD, List.getElem?_eq_getElem hi2]
    rfl
  refine ⟨hw _, ?_⟩
  refine ht _ hm H3 _ h2 ?_
  by_cases c : f (ns.getD i 0) = true
  · rw [if_pos c]
    refine he _ hm c H3 _ h2 ⟨_, h1, smallLt ?_, ?_, h2.mut hD⟩
    · rw [List.length_map]
      have := List.length_filter_le f (ns.take i)
      rw [List.length_take] at this
      omega
    · rw [upd_same, e, List.filter_append, List.map_append, List.filter_cons, if_pos c]
      rfl
  · rw [if_neg c]
    refine ⟨?_, h2⟩
    rw [h1, e, List.filter_append, List.filter_cons, if_neg c, List.filter_nil, List.append_nil]
end Bw
namespace Bw
open PySem PySem.Spec PyProof.Rows L2
theorem hu65 {k : Nat} {A : Around} (hr : Room k A) : A.units + 65 < cLine := by have := hr.un; omega
section
variable {X : Cx}
theorem inD (K : PySem.W.Frag) (hu : X.A.units + 65 < cLine) (h : X.K = K := by rfl) : OpR X (compareOp .In) (rInD K) := h ▸ op_inD hu
end
/-- a list of pairs of whole numbers at d -/
def PL (K : PySem.W.Frag) (H : Hp) (d : Addr) (prs : List (Int × Int)) : Prop := Dp K H (.ref d) (.list (prs.map fun e => rowD [e.1, e.2]))
theorem PL.same {K : PySem.W.Frag} {H H1 : Hp} {d : Addr} {prs : List (Int × Int)} (e : Same H H1) (h : PL K H d prs) : PL K H1 d prs := dp_same e _ _ h
theorem any_pair {p s : Int} : ∀ prs : List (Int × Int), ((prs.map fun e => rowD [e.1, e.2]).any fun z => PyData.eqv z (rowD [p, s])) = decide ((p, s) ∈ prs)
  | [] => by simp
  | e :: prs => by
    rw [List.map_cons, List.any_cons, any_pair prs]
    unfold rowD
    rw [PyData.eqv, eqvI, ← Bool.decide_or]
    refine decide_eq_decide.mpr ?_
    obtain ⟨x, y⟩ := e
    rw [List.mem_cons]
    simp only [List.cons.injEq, and_true, Prod.mk.injEq]
    constructor
    · rintro (⟨h1, h2⟩ | h)
      · exact .inl ⟨h1.symm, h2.symm⟩
      · exact .inr h
    · rintro (⟨h1, h2⟩ | h)
      · exact .inl ⟨h1.symm, h2.symm⟩
      · exact .inr h
theorem shRow (r : List Int) : SeqAt.shaped (rowD r) = true := shT r
theorem shPL (prs : List (Int × Int)) : SeqAt.shaped (.list (prs.map fun e => rowD [e.1, e.2])) = true := by
  have h1 : ∀ ps : List (Int × Int), PyData.canLayAll0 (ps.map fun e => rowD [e.1, e.2]) = true ∧ PyData.depthAll (ps.map fun e => rowD [e.1, e.2]) ≤ 1 := fun ps => by
    induction ps with
    | nil => exact ⟨rfl, Nat.zero_le _⟩
    | cons e ps ih =>
      rw [List.map_cons, PyData.canLayAll0, PyData.depthAll]
      refine ⟨by rw [ih.1]; rfl, ?_⟩
      have : (rowD [e.1, e.2]).depth ≤ 1 := by
        unfold rowD
        rw [PyData.depth, dpAll0]
        exact Nat.le_refl _
      have := ih.2
      omega
  unfold SeqAt.shaped
  rw [PyData.canLay0, (h1 prs).1, PyData.depth]
  have := (h1 prs).2
  have e : decide (PyData.depthAll (prs.map fun e => rowD [e.1, e.2]) + 1 ≤ 64) = true := decide_eq_true (by omega)
  first
    | (rw [e]; rfl)
    | simp; omega
end Bw
namespace Bw
open PySem PySem.Spec PyProof.Rows L2
/-- as lc_fm, the test and the element may add objects -/
theorem lc_fs {J : It} {n j : Nat} {G : Hp → Prop} {Y : Nat → Hp → V → Hp → Prop} (ns : List Int) (w : Walk J n G Y) (hn' : ns.length = n) (hY : ∀ i H x H', Y i H x H' → i < n → H' = H ∧ x = .int (ns.getD i 0)) {vs : List Nat} {σ : L2.St} {H1 : Hp} {D : Addr} {tt : L2.TT} {te : TE} {Qd : Hp → Prop} (f : Int → Bool) (h : Int → V)
    (hD : H1 D = none) (hn : n < 100000) (hw : ∀ x, wipe ((wipe σ vs).set j (some x)) vs = wipe σ vs) (hG : ∀ H', Same H1 H' → G H')
    (ht : ∀ c ∈ ns, ∀ (H : Hp) (Q : Bool → Hp → Prop), Same H1 H → (∀ H', Same H H' → Q (f c) H') → tt ((wipe σ vs).set j (some (.int c))) H Q)
    (he : ∀ c ∈ ns, f c = true → ∀ (H : Hp) (Q : VK), Same H1 H → (∀ H', Same H H' → Q (h c) H') → te ((wipe σ vs).set j (some (.int c))) H Q)
    (fin : ∀ H', H' D = some (.lst ((ns.filter f).map h)) → Same H1 H' → Qd H') :
    ∃ W : Nat → Nat → Hp → Prop, (∃ m, W 0 m (upd H1 D (.lst []))) ∧ ∀ i m H, W i m H →
      (J.stop i H ∧ Qd H) ∨ (J.go i H ∧ ∃ Nx : Hp → Prop, (∀ H', Nx H' → ∃ m', m' < m ∧ W (i + 1) m' H') ∧ ∀ x H', J.yld i H x H' → gName j x (wipe σ vs) H' fun σ2 H2 => wipe σ2 vs = wipe σ vs ∧ tt σ2 H2 fun b H3 =>
        if b = true then te σ2 H3 fun y H4 => ∃ acc, H4 D = some (.lst acc) ∧ acc.length < sizeLine ∧ Nx (upd H4 D (.lst (acc ++ [y]))) else Nx H3) := by
  refine lc_it w (fun i H' => H' D = some (.lst (((ns.take i).filter f).map h)) ∧ Same H1 H') ⟨upd_same, Same.new hD⟩ (fun i H' _ h => hG _ h.2) (fun i x H2 H3 hi h y => ?_) (fun H' h => fin H' (by have := h.1; rw [← hn', List.take_length] at this; exact this) h.2)
  obtain ⟨h1, h2⟩ := h
  obtain ⟨rfl, rfl⟩ := hY i H2 x H3 y hi
  have hi2 : i < ns.length := by omega
  have hm : ns.getD i 0 ∈ ns := getD_in hi2
  have e : ns.take (i + 1) = ns.take i ++ [ns.getD i 0] := by
    rw [List.take_add_one, List.getD_eq_getElem?_getD, List.getElem?_eq_getElem hi2]
    rfl
  refine ⟨hw _, ?_⟩
  refine ht _ hm H3 _ h2 fun H4 s4 => ?_
  by_cases c : f (ns.getD i 0) = true
  · rw [if_pos c]
    refine he _ hm c H4 _ (h2.trans s4) fun H5 s5 => ⟨_, s5 _ _ (s4 _ _ h1), smallLt ?_, ?_, ((h2.trans s4).trans s5).mut hD⟩
    · rw [List.length_map]
      have := List.length_filter_le f (ns.take i)
      rw [List.length_take] at this
      omega
    · rw [upd_same, e, List.filter_append, List.map_append, List.filter_cons, if_pos c]
      rfl
  · rw [if_neg c]
    refine ⟨?_, h2.trans s4⟩
    rw [s4 _ _ h1, e, List.filter_append, List.filter_cons, if_neg c, List.filter_nil, List.append_nil]
end Bw

set_option maxHeartbeats 1000000
namespace Bw
open PySem PySem.Spec PyProof.Rows L2
/-! ### x in y, x not in y, y a list or a tuple of data -/
def rInX (K : PySem.W.Frag) : R2 := fun x y H Q => ∃ d ds, Dp K H x d ∧ (Dp K H y (.list ds) ∨ Dp K H y (.tuple ds)) ∧ SeqAt.shaped d = true ∧ SeqAt.shaped (.list ds) = true ∧ Q (.bl (ds.any fun z => PyData.eqv z d)) H
def rNinX (K : PySem.W.Frag) : R2 := fun x y H Q => ∃ d ds, Dp K H x d ∧ (Dp K H y (.list ds) ∨ Dp K H y (.tuple ds)) ∧ SeqAt.shaped d = true ∧ SeqAt.shaped (.list ds) = true ∧ Q (.bl (!ds.any fun z => PyData.eqv z d)) H
section
variable {X : Cx}
theorem shLT {ds : List PyData} (h : SeqAt.shaped (.list ds) = true) : SeqAt.shaped (.tuple ds) = true := by
  unfold SeqAt.shaped at *
  rw [PyData.canLay0, PyData.depth] at *
  exact h
theorem op_inX (hu : X.A.units + 65 < cLine) : OpR X (compareOp .In) (rInX X.K) := by
  intro pins s σ H x y v u Q I rx ry h
  obtain ⟨d, ds, hd, he, sd, se, q⟩ := h
  obtain ⟨as, r1⟩ := Dp.reads I d x v hd rx
  rcases he with he | he
  · obtain ⟨bs, r2⟩ := Dp.reads I (.list ds) y u he ry
    exact SeqAt.in_list_reads r2 r1 (SeqAt.canLay_of_shaped se) (SeqAt.canLay_of_shaped sd) (room_in_shaped sd hu) ⟨.bl _, H, I, rfl, q⟩
  · obtain ⟨bs, r2⟩ := Dp.reads I (.tuple ds) y u he ry
    exact SeqAt.in_tuple_reads r2 r1 (SeqAt.canLay_of_shaped se) (SeqAt.canLay_of_shaped sd) (room_in_shaped sd hu) ⟨.bl _, H, I, rfl, q⟩
theorem op_notInX (hu : X.A.units + 65 < cLine) : OpR X (compareOp .NotIn) (rNinX X.K) := by
  intro pins s σ H x y v u Q I rx ry h
  obtain ⟨d, ds, hd, he, sd, se, q⟩ := h
  obtain ⟨as, r1⟩ := Dp.reads I d x v hd rx
  rcases he with he | he
  · obtain ⟨bs, r2⟩ := Dp.reads I (.list ds) y u he ry
    exact SeqAt.notIn_list_reads r2 r1 (SeqAt.canLay_of_shaped se) (SeqAt.canLay_of_shaped sd) (room_in_shaped sd hu) ⟨.bl _, H, I, rfl, q⟩
  · obtain ⟨bs, r2⟩ := Dp.reads I (.tuple ds) y u he ry
    exact SeqAt.notIn_tuple_reads r2 r1 (SeqAt.canLay_of_shaped se) (SeqAt.canLay_of_shaped sd) (room_in_shaped sd hu) ⟨.bl _, H, I, rfl, q⟩
theorem inX (K : PySem.W.Frag) (hu : X.A.units + 65 < cLine) (h : X.K = K := by rfl) : OpR X (compareOp .In) (rInX K) := h ▸ op_inX hu
theorem ninX (K : PySem.W.Frag) (hu : X.A.units + 65 < cLine) (h : X.K = K := by rfl) : OpR X (compareOp .NotIn) (rNinX K) := h ▸ op_notInX hu
theorem sortPO (K : PySem.W.Frag) (h : X.K = K := by rfl) : CallR X (.builtin "sorted") (rSortedPO K) := h ▸ cr_sortedPO
theorem pg_tupK (K : PySem.W.Frag) {es : List Expr} {k : Nat} {pos : Pos} {t : TGs} {n : Nat} (hc : X.calm = true) (h : PGs X es t)
    (hn : (assignEach es X.env).length = n := by rfl) (hst : (assignEach es X.env).findIdx? (·.1) = none := by rfl) (hK : X.K = K := by rfl) : PG X (.Tuple es k pos) (gTup K n t) := hK ▸ pg_tup hc h hn hst
theorem isIT (K : PySem.W.Frag) (h : X.K = K := by rfl) : CallR X (.builtin "isinstance") (rIsi K) := h ▸ call_isi
end
/-! ### pairs in a list -/
/-- v is a new pair of the two numbers -/
def TP (H : Hp) (v : V) (e : Int × Int) : Prop := ∃ t, v = .ref t ∧ H t = some (.tup [.int e.1, .int e.2])
def TPs (H : Hp) (vs : List V) (prs : List (Int × Int)) : Prop := vs.length = prs.length ∧ ∀ (i : Nat) v e, vs[i]? = some v → prs[i]? = some e → TP H v e
section
variable {K : PySem.W.Frag} {H H1 : Hp} {v : V} {vs ws : List V} {e : Int × Int} {prs qrs : List (Int × Int)} {d p : Addr}
theorem TPs.nil : TPs H [] [] := ⟨rfl, fun i v e h => by simp at h⟩
theorem TPs.keep (k : ∀ (b : Addr) x y, H b = some (.tup [.int x, .int y]) → H1 b = some (.tup [.int x, .int y])) (h : TPs H vs prs) : TPs H1 vs prs := ⟨h.1, fun i v e a b => by
  obtain ⟨t, r, ht⟩ := h.2 i v e a b
  exact ⟨t, r, k _ _ _ ht⟩⟩
theorem TPs.same (s : Same H H1) (h : TPs H vs prs) : TPs H1 vs prs := h.keep fun b x y => s b _
theorem TPs.exb (hp : Src H p) (s : Exb p H H1) (h : TPs H vs prs) : TPs H1 vs prs := h.keep fun b x y hb => s b _ (fun z => by
  obtain ⟨a, c, q, _⟩ := hp
  rw [z, q] at hb
  cases hb) hb
theorem TPs.upd {xs : List V} {o : HO} (hd : H d = some (.lst xs)) (h : TPs H vs prs) : TPs (upd H d o) vs prs := h.keep fun b x y hb => by rw [upd_ne (fun z => by rw [z, hd] at hb; cases hb)]; exact hb
theorem TPs.snoc (h : TPs H vs prs) (hv : TP H v e) : TPs H (vs ++ [v]) (prs ++ [e]) := by
  refine ⟨by rw [List.length_append, List.length_append, h.1]; rfl, fun i w f a b => ?_⟩
  by_cases hi : i < vs.length
  · rw [List.getElem?_append_left hi] at a
    rw [List.getElem?_append_left (by rw [← h.1]; exact hi)] at b
    exact h.2 i w f a b
  · rw [List.getElem?_append_right (by omega)] at a
    rw [List.getElem?_append_right (by rw [← h.1]; omega), ← h.1] at b
    have hi2 := (List.getElem?_eq_some_iff.mp a).1
    have z : i - vs.length = 0 := by
      have : i - vs.length < 1 := hi2
      omega
    rw [z] at a b
    cases Option.some.inj a
    cases Option.some.inj b
    exact hv
theorem TPs.tail {v : V} {e : Int × Int} (h : TPs H (v :: vs) (e :: prs)) : TP H v e ∧ TPs H vs prs :=
  ⟨h.2 0 v e rfl rfl, by simpa using h.1, fun i w f a b => h.2 (i + 1) w f a b⟩
theorem TPs.dp : ∀ {vs : List V} {prs : List (Int × Int)}, TPs H vs prs → DpAll K H vs (prs.map fun e => rowD [e.1, e.2])
  | [], [], _ => .nil
  | [], _ :: _, h => by cases h.1
  | _ :: _, [], h => by cases h.1
  | v :: vs, e :: prs, h => by
    obtain ⟨⟨t, rfl, ht⟩, h2⟩ := h.tail
    exact .cons (row_dp (r := [e.1, e.2]) (.inl (.inl ht))) (TPs.dp h2)
theorem TPs.mem : ∀ {vs : List V} {prs : List (Int × Int)}, TPs H vs prs → ∀ v ∈ vs, ∃ e ∈ prs, TP H v e
  | [], [], _, v, hv => by cases hv
  | [], _ :: _, h, _, _ => by cases h.1
  | _ :: _, [], h, _, _ => by cases h.1
  | v :: vs, e :: prs, h, w, hw => by
    obtain ⟨h1, h2⟩ := h.tail
    rcases List.mem_cons.mp hw with rfl | hw
    · exact ⟨e, List.mem_cons_self, h1⟩
    · obtain ⟨f, hf, h3⟩ := TPs.mem h2 w hw
      exact ⟨f, List.mem_cons_of_mem _ hf, h3⟩
theorem TP.one {e f : Int × Int} (h : TP H v e) (k : TP H v f) : e = f := by
  obtain ⟨t, rfl, h1⟩ := h
  obtain ⟨t', e2, h2⟩ := k
  cases e2
  rw [h1] at h2
  have h3 := HO.tup.inj (Option.some.inj h2)
  have h4 := V.int.inj (List.cons.inj h3).1
  have h5 := V.int.inj (List.cons.inj (List.cons.inj h3).2).1
  exact Prod.ext h4 h5
open Classical in
/-- the pair at v -/
noncomputable def prOf (H : Hp) (v : V) : Int × Int := if h : ∃ e, TP H v e then h.choose else (0, 0)
theorem prOf_eq (h : TP H v e) : prOf H v = e := by
  unfold prOf
  rw [dif_pos ⟨e, h⟩]
  exact TP.one (Exists.choose_spec (⟨e, h⟩ : ∃ e, TP H v e)) h
theorem TPs.map : ∀ {vs : List V} {prs : List (Int × Int)}, TPs H vs prs → prs = vs.map (prOf H)
  | [], [], _ => rfl
  | [], _ :: _, h => by cases h.1
  | _ :: _, [], h => by cases h.1
  | v :: vs, e :: prs, h => by
    obtain ⟨h1, h2⟩ := h.tail
    rw [List.map_cons, prOf_eq h1, ← TPs.map h2]
theorem TPs.of : ∀ {vs : List V}, (∀ v ∈ vs, ∃ e, TP H v e) → TPs H vs (vs.map (prOf H)) := fun {vs} h => ⟨by rw [List.length_map], fun i v e a b => by
  rw [List.getElem?_map, a] at b
  cases Option.some.inj b
  obtain ⟨f, hf⟩ := h v (List.mem_of_getElem? a)
  rw [prOf_eq hf]
  exact hf⟩
/-- before or like, by the first, then by the second -/
def PLe (e f : Int × Int) : Prop := e.1 < f.1 ∨ (e.1 = f.1 ∧ e.2 ≤ f.2)
/-- sorted(a list of new pairs) -/
theorem sort_TPs {Q : VK} (hd : SqL K H d vs) (h : TPs H vs prs) (q : ∀ ys qrs p, H p = none → qrs.Perm prs → qrs.Pairwise PLe → TPs (upd H p (.lst ys)) ys qrs → Q (.ref p) (upd H p (.lst ys))) : rSortedPO K [.ref d] H Q := by
  refine ⟨d, vs, prOf H, rfl, hd, fun x hx => ?_, fun ys p hs hb np => ?_⟩
  · obtain ⟨e, _, t, rfl, ht⟩ := h.mem x hx
    exact ⟨t, rfl, by rw [prOf_eq ⟨t, rfl, ht⟩]; exact ht⟩
  · have hm : ∀ v ∈ ys, ∃ e, TP H v e := fun v hv => by
      obtain ⟨e, _, ht⟩ := h.mem v (hb.perm.mem_iff.mp hv)
      exact ⟨e, ht⟩
    refine q ys (ys.map (prOf H)) p np ?_ ?_ ((TPs.of hm).same (Same.new np))
    · rw [h.map]
      exact hb.perm.map _
    · rw [List.pairwise_map]
      refine List.Pairwise.imp (fun {a b} z => ?_) hs
      have := SrtO.lexB_no.mp z
      unfold PLe
      omega
end
/-! ### a comprehension that reads, any target -/
theorem lc_rdG {J : It} {n : Nat} {G : Hp → Prop} {Y : Nat → Hp → V → Hp → Prop} (w : Walk J n G Y) {g : TG} {vs : List Nat} {σ : L2.St} {H1 : Hp} {D : Addr} {te : TE} {Qd : Hp → Prop} (τ : Nat → L2.St) (P : Nat → V → Hp → Prop)
    (hg : ∀ i x H H' (Qk : L2.St → Hp → Prop), i < n → Same H1 H → Y i H x H' → Same H H' ∧ (Qk (τ i) H' → g x (wipe σ vs) H' Qk))
    (hD : H1 D = none) (hn : n < 100000) (hw : ∀ i, i < n → wipe (τ i) vs = wipe σ vs) (hG : ∀ H', Same H1 H' → G H')
    (hP : ∀ i v H H', Same H H' → P i v H → P i v H')
    (hd : ∀ i : Nat, i < n → Rd te (τ i) H1 (P i))
    (fin : ∀ (xs : List V) H', xs.length = n → H' D = some (.lst xs) → Same H1 H' → (∀ i v, xs[i]? = some v → P i v H') → Qd H') (hPm : ∀ i v H (x : List V) y, P i v H → H D = some (.lst x) → P i v (upd H D y)) :
    ∃ W : Nat → Nat → Hp → Prop, (∃ m, W 0 m (upd H1 D (.lst []))) ∧ ∀ i m H, W i m H →
      (J.stop i H ∧ Qd H) ∨ (J.go i H ∧ ∃ Nx : Hp → Prop, (∀ H', Nx H' → ∃ m', m' < m ∧ W (i + 1) m' H') ∧ ∀ x H', J.yld i H x H' → g x (wipe σ vs) H' fun σ2 H2 => wipe σ2 vs = wipe σ vs ∧ tYes σ2 H2 fun b H3 =>
        if b = true then te σ2 H3 fun y H4 => ∃ acc, H4 D = some (.lst acc) ∧ acc.length < sizeLine ∧ Nx (upd H4 D (.lst (acc ++ [y]))) else Nx H3) := by
  refine lc_it w (fun i H' => ∃ xs : List V, xs.length = i ∧ H' D = some (.lst xs) ∧ Same H1 H' ∧ ∀ k v, xs[k]? = some v → P k v H') ⟨[], rfl, upd_same, Same.new hD, fun k v e => by simp at e⟩ (fun i H' _ h => hG _ (by obtain ⟨_, _, _, s, _⟩ := h; exact s)) (fun i x H2 H3 hi h y => ?_) (fun H' h => ?_)
  · obtain ⟨xs, h1, h2, h3, h4⟩ := h
    obtain ⟨s3, go⟩ := hg i x H2 H3 (fun σ2 H2 => wipe σ2 vs = wipe σ vs ∧ tYes σ2 H2 fun b H3 =>
        if b = true then te σ2 H3 fun y H4 => ∃ acc, H4 D = some (.lst acc) ∧ acc.length < sizeLine ∧ ∃ xs : List V, xs.length = i + 1 ∧ (upd H4 D (.lst (acc ++ [y]))) D = some (.lst xs) ∧ Same H1 (upd H4 D (.lst (acc ++ [y]))) ∧ ∀ k v, xs[k]? = some v → P k v (upd H4 D (.lst (acc ++ [y]))) else ∃ xs : List V, xs.length = i + 1 ∧ H3 D = some (.lst xs) ∧ Same H1 H3 ∧ ∀ k v, xs[k]? = some v → P k v H3) hi h3 y
    refine go ⟨hw i hi, ?_⟩
    refine tYes_i ?_
    refine iteT ?_
    refine hd i hi H3 _ (h3.trans s3) fun v H4 s4 p4 => ⟨xs, s4 _ _ (s3 _ _ h2), smallLt (by omega), xs ++ [v], by rw [List.length_append, h1]; rfl, upd_same, ((h3.trans s3).trans s4).mut hD, fun k v' e => ?_⟩
    rcases Nat.lt_trichotomy k xs.length with hk | hk | hk
    · rw [List.getElem?_append_left hk] at e
      exact hPm _ _ _ _ _ (hP _ _ _ _ (s3.trans s4) (h4 k v' e)) (s4 _ _ (s3 _ _ h2))
    · subst hk
      rw [List.getElem?_append_right (Nat.le_refl _), Nat.sub_self] at e
      cases Option.some.inj e
      rw [h1]
      exact hPm _ _ _ _ _ p4 (s4 _ _ (s3 _ _ h2))
    · rw [List.getElem?_eq_none (by rw [List.length_append]; show xs.length + 1 ≤ k; omega)] at e
      cases e
  · obtain ⟨xs, h1, h2, h3, h4⟩ := h
    exact fin xs H' h1 h2 h3 h4
/-- a list of bools -/
theorem bls_of {f : Nat → Bool} : ∀ {xs : List V} (k : Nat), (∀ (i : Nat) (v : V), xs[i]? = some v → v = .bl (f (k + i))) → xs = ((List.range' k xs.length).map f).map V.bl
  | [], _, _ => rfl
  | x :: xs, k, h => by
    rw [List.length_cons, List.range'_succ, List.map_cons, List.map_cons, ← bls_of (xs := xs) (k + 1) fun i v e => by rw [show k + 1 + i = k + (i + 1) by omega]; exact h (i + 1) v e, h 0 x rfl]
    rfl
theorem all_map_id {f : Nat → Bool} {n : Nat} : ((List.range' 0 n).map f).all id = true ↔ ∀ i, i < n → f i = true := by
  rw [List.all_map, List.all_eq_true]
  constructor
  · intro h i hi
    exact h i (List.mem_range'.mpr ⟨i, hi, by omega⟩)
  · intro h i hi
    obtain ⟨j, hj, rfl⟩ := List.mem_range'.mp hi
    exact h _ (by omega)
theorem notIn_int {K : PySem.W.Frag} {H : Hp} {p : Addr} {c : Int} {ns : List Int} {Q : VK} (h : SqT K H p (ns.map V.int)) (hfl : (ns.map V.int).all flatV = true) (hin : inV (.int c) (ns.map V.int) = decide (c ∈ ns)) (q : Q (.bl (!decide (c ∈ ns))) H) : rIn K true (.int c) (.ref p) H Q :=
  ⟨p, _, rfl, .inr h, rfl, hfl, by rw [hin]; exact q⟩
/-- a list of draws, each made to a number -/
theorem lc_drawI {n j : Nat} {vs : List Nat} {σ : L2.St} {H1 : Hp} {D : Addr} {te : TE} {Qd : Hp → Prop} (p : Addr) (hD : H1 D = none) (s : Src H1 p) (hn : n < 100000) (hw : ∀ x, wipe ((wipe σ vs).set j (some x)) vs = wipe σ vs)
    (hd : ∀ (i : Nat) (H : Hp) (Q : VK), i < n → Src H p → Exb p H1 H → (∀ (r : Int) H', Src H' p → Exb p H H' → Q (.int r) H') → te ((wipe σ vs).set j (some (.int (0 + (i : Int))))) H Q)
    (fin : ∀ (ns : List Int) H', ns.length = n → D ≠ p → H' D = some (.lst (ns.map V.int)) → Src H' p → Exb p H1 H' → Qd H') :
    ∃ W : Nat → Nat → Hp → Prop, (∃ m, W 0 m (upd H1 D (.lst []))) ∧ ∀ i m H, W i m H →
      ((Itr 0 n).stop i H ∧ Qd H) ∨ ((Itr 0 n).go i H ∧ ∃ Nx : Hp → Prop, (∀ H', Nx H' → ∃ m', m' < m ∧ W (i + 1) m' H') ∧ ∀ x H', (Itr 0 n).yld i H x H' → gName j x (wipe σ vs) H' fun σ2 H2 => wipe σ2 vs = wipe σ vs ∧ tYes σ2 H2 fun b H3 =>
        if b = true then te σ2 H3 fun y H4 => ∃ acc, H4 D = some (.lst acc) ∧ acc.length < sizeLine ∧ Nx (upd H4 D (.lst (acc ++ [y]))) else Nx H3) := by
  have nDp := s.ne hD
  refine lc_it walk_range (fun i H' => ∃ ns : List Int, H' D = some (.lst (ns.map V.int)) ∧ ns.length = i ∧ Src H' p ∧ Exb p H1 H') ⟨[], upd_same, rfl, s.put nDp, Exb.new hD⟩ (fun _ _ _ _ => trivial) (fun i x H2 H3 hi h y => ?_) (fun H' h => ?_)
  · obtain ⟨ns, h1, h2, h4, h5⟩ := h
    obtain ⟨rfl, rfl⟩ := y
    refine ⟨hw _, ?_⟩
    refine tYes_i ?_
    refine iteT ?_
    refine hd i H3 _ hi h4 h5 fun r H4 s4 e4 => ⟨_, e4.lst nDp h1, smallLt (by rw [List.length_map]; omega), ns ++ [r], by rw [upd_same, List.map_append]; rfl, by rw [List.length_append, h2]; rfl, s4.put nDp, (h5.trans e4).mut hD⟩
  · obtain ⟨ns, h1, h2, h4, h5⟩ := h
    exact fin ns H' h2 nDp h1 h4 h5
end Bw

set_option maxHeartbeats 2000000
namespace K
open PySem PySem.Spec PyProof.Rows L2 Bw
open PySem.W (Tup Datum)
/-! ### tables, plainly -/
def okAt (ns : List Int) (m : Int) (i : Nat) : Prop := ∀ c, ns[i]? = some c → (0 ≤ c ∧ c < m) ∧ ∀ d, 0 < i → ns[i - 1]? = some d → d < c
def rowOf (rows : List (List Int)) (p : Nat) : List Int := rows.getD p []
/-- what made_table asks of rows -/
structure GoodT (rows : List (List Int)) : Prop where
  n1 : 1 ≤ rows.length
  n8 : rows.length ≤ 8
  asc : ∀ row ∈ rows, ∀ i, okAt row (rows.length : Nat) i
  sym : ∀ (p : Nat) (row : List Int), rows[p]? = some row → ∀ s ∈ row, ∃ row', rows[s.toNat]? = some row' ∧ ((p : Nat) : Int) ∈ row'
theorem GoodT.lt {rows : List (List Int)} (g : GoodT rows) {row : List Int} (hr : row ∈ rows) {c : Int} (hc : c ∈ row) : 0 ≤ c ∧ c < (rows.length : Nat) := by
  obtain ⟨i, hi, rfl⟩ := List.getElem_of_mem hc
  exact (g.asc row hr i row[i] (List.getElem?_eq_getElem hi)).1
theorem row_of {rows : List (List Int)} {p : Nat} {row : List Int} (h : rows[p]? = some row) : rowOf rows p = row := by
  unfold rowOf
  rw [List.getD_eq_getElem?_getD, h]
  rfl
theorem inV_int {p : Int} : ∀ {ns : List Int}, p ∈ ns → inV (.int p) (ns.map V.int) = true
  | n :: ns, h => by
    show (eqV (.int n) (.int p) || inV (.int p) (ns.map V.int)) = true
    rcases List.mem_cons.mp h with e | e
    · subst e
      have : eqV (.int p) (.int p) = true := by simp [eqV]
      rw [this]; rfl
    · rw [inV_int e, Bool.or_true]
theorem flat_ints : ∀ ns : List Int, (ns.map V.int).all flatV = true
  | [] => rfl
  | n :: ns => by
    rw [List.map_cons, List.all_cons, flat_ints ns]
    rfl
theorem all_true : ∀ n : Nat, (List.replicate n true).all id = true
  | 0 => rfl
  | n + 1 => by rw [List.replicate_succ, List.all_cons, all_true n]; rfl
theorem all_bl {b : Bool} : ∀ {xs : List V}, (∀ (i : Nat) (v : V), xs[i]? = some v → v = .bl b) → xs = (List.replicate xs.length b).map V.bl
  | [], _ => rfl
  | x :: xs, h => by
    rw [List.length_cons, List.replicate_succ, List.map_cons, ← all_bl (xs := xs) fun i v e => h (i + 1) v e, h 0 x rfl]
theorem asc_get {row : List Int} {m : Int} (h : ∀ i, okAt row m i) : ∀ (i : Nat) (c : Int), row[i]? = some c → (i : Int) ≤ c
  | 0, c, e => (h 0 c e).1.1
  | i + 1, c, e => by
    have hi := (List.getElem?_eq_some_iff.mp e).1
    have h1 := asc_get h i (row[i]'(by omega)) (List.getElem?_eq_getElem (by omega))
    have h2 := (h (i + 1) c e).2 (row[i]'(by omega)) (by omega) (List.getElem?_eq_getElem (by omega))
    omega
theorem asc_len {rows : List (List Int)} (g : GoodT rows) {row : List Int} (hr : row ∈ rows) : row.length ≤ 8 := by
  cases h : row.length with
  | zero => omega
  | succ k =>
    have h1 := asc_get (g.asc row hr) k (row[k]'(by omega)) (List.getElem?_eq_getElem (by omega))
    have h2 := (g.asc row hr k (row[k]'(by omega)) (List.getElem?_eq_getElem (by omega))).1.2
    have := g.n8
    omega
def dblRow (row : List Int) (side : Int) : List Int := row.map fun s => 2 * s + 1 - side
def dbl (rows : List (List Int)) : List (List Int) := rows.flatMap fun row => [dblRow row 0, dblRow row 1]
theorem dbl_len : ∀ rows : List (List Int), (dbl rows).length = 2 * rows.length
  | [] => rfl
  | r :: rows => by
    have := dbl_len rows
    unfold dbl at *
    rw [List.flatMap_cons, List.length_append, this]
    show 2 + _ = 2 * (rows.length + 1)
    omega
theorem dbl_take {rows : List (List Int)} {i : Nat} {row : List Int} (h : rows[i]? = some row) : dbl (rows.take (i + 1)) = dbl (rows.take i) ++ [dblRow row 0] ++ [dblRow row 1] := by
  unfold dbl
  rw [List.take_add_one, h, List.flatMap_append, List.append_assoc]
  rfl
/-! ### even steps -/
/-- two steps from p to q -/
def Two (rows : List (List Int)) (p q : Int) : Prop := ∃ s, s ∈ rowOf rows p.toNat ∧ q ∈ rowOf rows s.toNat
inductive RchI (rows : List (List Int)) (q : Int) : Int → Prop
  | refl : RchI rows q q
  | head {p m : Int} : Two rows p m → RchI rows q m → RchI rows q p
/-- even steps lead from p to q -/
def Rch (rows : List (List Int)) (p q : Int) : Prop := RchI rows q p
theorem Rch.refl {rows : List (List Int)} {p : Int} : Rch rows p p := RchI.refl
theorem Rch.step {rows : List (List Int)} {p m q : Int} (h : Rch rows p m) (t : Two rows m q) : Rch rows p q := by
  unfold Rch at *
  induction h with
  | refl => exact .head t .refl
  | head a _ ih => exact .head a ih
theorem Rch.tr {rows : List (List Int)} {p m q : Int} (h : Rch rows p m) (t : Rch rows m q) : Rch rows p q := by
  unfold Rch at *
  induction h with
  | refl => exact t
  | head a _ ih => exact .head a ih
theorem inV_dec {p : Int} : ∀ {ns : List Int}, inV (.int p) (ns.map V.int) = decide (p ∈ ns)
  | [] => by simp [inV]
  | n :: ns => by
    by_cases h : p ∈ n :: ns
    · rw [inV_int h, decide_eq_true h]
    · rw [decide_eq_false h]
      show (eqV (.int n) (.int p) || inV (.int p) (ns.map V.int)) = false
      rw [inV_dec (ns := ns), decide_eq_false (fun z => h (List.mem_cons_of_mem _ z)), Bool.or_false]
      simp only [eqV]
      have : ¬ n = p := fun z => h (by rw [z]; exact List.mem_cons_self)
      simp [this]
theorem nodup_len : ∀ (n : Nat) (es : List Int), es.Nodup → (∀ e ∈ es, 0 ≤ e ∧ e < (n : Nat)) → es.length ≤ n
  | 0, [], _, _ => Nat.le_refl _
  | 0, e :: es, _, h => by have := h e List.mem_cons_self; omega
  | n + 1, es, hn, h => by
    have h1 := nodup_len n (es.erase (n : Nat)) (hn.erase _) fun e he => by
      have := (hn.mem_erase_iff).mp he
      have := h e this.2
      omega
    by_cases hm : ((n : Nat) : Int) ∈ es
    · rw [List.length_erase_of_mem hm] at h1
      omega
    · rw [List.erase_of_not_mem hm] at h1
      omega
def twos (rows : List (List Int)) (row : List Int) : List Int := row.flatMap fun s => rowOf rows s.toNat
theorem mem_twos {rows : List (List Int)} {p q : Int} : q ∈ twos rows (rowOf rows p.toNat) ↔ Two rows p q := by
  unfold twos Two
  rw [List.mem_flatMap]
theorem twos_take {rows : List (List Int)} {row : List Int} {i : Nat} (h : i < row.length) : twos rows (row.take (i + 1)) = twos rows (row.take i) ++ rowOf rows row[i].toNat := by
  unfold twos
  rw [List.take_add_one, List.getElem?_eq_getElem h, List.flatMap_append]
  simp
theorem two_lt {rows : List (List Int)} (g : GoodT rows) {p q : Int} (h : Two rows p q) : 0 ≤ q ∧ q < (rows.length : Nat) := by
  obtain ⟨s, _, hq⟩ := h
  unfold rowOf at hq
  rw [List.getD_eq_getElem?_getD] at hq
  cases e : rows[s.toNat]? with
  | none => rw [e] at hq; cases hq
  | some row =>
    rw [e] at hq
    exact g.lt (List.mem_of_getElem? e) hq
theorem rch_lt {rows : List (List Int)} (g : GoodT rows) {p q : Int} (hp : 0 ≤ p ∧ p < (rows.length : Nat)) (h : Rch rows p q) : 0 ≤ q ∧ q < (rows.length : Nat) := by
  unfold Rch at h
  induction h with
  | refl => exact hp
  | head a _ ih => exact ih (two_lt g a)
theorem closed_rch {rows : List (List Int)} {p : Int} {es : List Int} (hp : p ∈ es) (hc : ∀ e ∈ es, ∀ q, Two rows e q → q ∈ es) {q : Int} (h : Rch rows p q) : q ∈ es := by
  unfold Rch at h
  induction h with
  | refl => exact hp
  | head a _ ih => exact ih (hc _ hp _ a)
theorem twos_len {rows : List (List Int)} (g : GoodT rows) : ∀ row : List Int, (twos rows row).length ≤ 8 * row.length
  | [] => Nat.le_refl _
  | s :: row => by
    have := twos_len g row
    unfold twos at *
    rw [List.flatMap_cons, List.length_append, List.length_cons]
    have h2 : (rowOf rows s.toNat).length ≤ 8 := by
      unfold rowOf
      rw [List.getD_eq_getElem?_getD]
      cases e : rows[s.toNat]? with
      | none => exact Nat.zero_le _
      | some row => exact asc_len g (List.mem_of_getElem? e)
    omega
theorem snocV {xs : List Int} {c : Int} : (xs ++ [c]).map V.int = xs.map V.int ++ [V.int c] := List.map_append
theorem nodup1 {α : Type} (x : α) : [x].Nodup := by simp
/-- the least coat that even steps lead to -/
def Lst (rows : List (List Int)) (p m : Int) : Prop := Rch rows p m ∧ ∀ q, Rch rows p q → m ≤ q
theorem Lst.one {rows : List (List Int)} {p m m' : Int} (h : Lst rows p m) (h' : Lst rows p m') : m = m' := by
  have := h.2 _ h'.1
  have := h'.2 _ h.1
  omega
theorem lots_one {rows : List (List Int)} {ms ms' : List Int} (hl : ms.length = ms'.length) (h : ∀ (i : Nat) m, ms[i]? = some m → Lst rows (i : Nat) m) (h' : ∀ (i : Nat) m, ms'[i]? = some m → Lst rows (i : Nat) m) : ms = ms' :=
  List.ext_getElem hl fun i h1 h2 => (h i _ (List.getElem?_eq_getElem h1)).one (h' i _ (List.getElem?_eq_getElem h2))
theorem ints_ex {P : Nat → Int → Prop} : ∀ {xs : List V} (k : Nat), (∀ (i : Nat) (v : V), xs[i]? = some v → ∃ m, v = .int m ∧ P (k + i) m) → ∃ ms : List Int, xs = ms.map V.int ∧ ∀ (i : Nat) (m : Int), ms[i]? = some m → P (k + i) m
  | [], _, _ => ⟨[], rfl, fun i m e => by simp at e⟩
  | x :: xs, k, h => by
    obtain ⟨ms, e, hm⟩ := ints_ex (xs := xs) (P := P) (k + 1) fun i v e => by
      rw [show k + 1 + i = k + (i + 1) by omega]
      exact h (i + 1) v e
    obtain ⟨m, rfl, hp⟩ := h 0 x rfl
    refine ⟨m :: ms, by rw [e]; rfl, fun i z hz => ?_⟩
    cases i with
    | zero => cases Option.some.inj hz; exact hp
    | succ i =>
      have := hm i z hz
      rw [show k + 1 + i = k + (i + 1) by omega] at this
      exact this
/-! rounds -/
def RN (rows : List (List Int)) : Nat → Int → Int → Prop
  | 0, p, q => p = q
  | k + 1, p, q => RN rows k p q ∨ ∃ r, Two rows p r ∧ RN rows k r q
theorem RN.up {rows : List (List Int)} {p q : Int} : ∀ k, RN rows 0 p q → RN rows k p q
  | 0, h => h
  | k + 1, h => .inl (RN.up k h)
open Classical in
noncomputable def cnt (rows : List (List Int)) (q : Int) (k n : Nat) : Nat := ((List.range n).filter fun (p : Nat) => decide (RN rows k (p : Int) q)).length
open Classical in
theorem filt_le {n : Nat} {f g : Nat → Bool} (h : ∀ p, p < n → f p = true → g p = true) : ((List.range n).filter f).length ≤ ((List.range n).filter g).length ∧ ((∃ p, p < n ∧ g p = true ∧ f p = false) → ((List.range n).filter f).length + 1 ≤ ((List.range n).filter g).length) := by
  induction n with
  | zero => exact ⟨Nat.le_refl _, fun ⟨p, hp, _⟩ => absurd hp (by omega)⟩
  | succ n ih =>
    obtain ⟨i1, i2⟩ := ih fun p hp => h p (by omega)
    have hn := h n (by omega)
    rw [List.range_succ, List.filter_append, List.filter_append, List.length_append, List.length_append]
    have a1 : ([n].filter f).length = if f n = true then 1 else 0 := by
      rw [List.filter_cons]; split <;> rfl
    have a2 : ([n].filter g).length = if g n = true then 1 else 0 := by
      rw [List.filter_cons]; split <;> rfl
    rw [a1, a2]
    refine ⟨?_, fun ⟨p, hp, h1, h2⟩ => ?_⟩
    · by_cases c : f n = true
      · rw [if_pos c, if_pos (hn c)]; omega
      · rw [if_neg c]; omega
    · by_cases e : p = n
      · subst e
        rw [if_pos h1, h2, if_neg (by decide)]; omega
      · have := i2 ⟨p, by omega, h1, h2⟩
        by_cases c : f n = true
        · rw [if_pos c, if_pos (hn c)]; omega
        · rw [if_neg c]; omega
open Classical in
theorem rn_stable {rows : List (List Int)} (g : GoodT rows) {q : Int} (hq : 0 ≤ q ∧ q < (rows.length : Nat)) : ∀ k, (k + 1 ≤ cnt rows q k rows.length) ∨ ∀ p : Int, 0 ≤ p → p < (rows.length : Nat) → RN rows (k + 1) p q → RN rows k p q
  | 0 => by
    left
    have h := (filt_le (n := rows.length) (f := fun _ => false) (g := fun p => decide (RN rows 0 (p : Int) q)) fun p _ z => by cases z).2 ⟨q.toNat, by omega, decide_eq_true (show ((q.toNat : Nat) : Int) = q by omega), rfl⟩
    unfold cnt
    omega
  | k + 1 => by
    rcases rn_stable g hq k with h | h
    · by_cases c : ∀ p : Int, 0 ≤ p → p < (rows.length : Nat) → RN rows (k + 1) p q → RN rows k p q
      · right
        intro p h0 h1 hr
        rcases hr with hr | ⟨r, ht, hr⟩
        · exact hr
        · have := two_lt g ht
          exact .inr ⟨r, ht, c r this.1 this.2 hr⟩
      · left
        obtain ⟨p, hp⟩ := Classical.not_forall.mp c
        have hp1 : 0 ≤ p := Classical.byContradiction fun z => hp fun z2 => absurd z2 z
        have hp2 : p < (rows.length : Nat) := Classical.byContradiction fun z => hp fun _ z2 => absurd z2 z
        have hp3 : RN rows (k + 1) p q := Classical.byContradiction fun z => hp fun _ _ z2 => absurd z2 z
        have hp4 : ¬ RN rows k p q := fun z => hp fun _ _ _ => z
        have e : ((p.toNat : Nat) : Int) = p := by omega
        have h2 := (filt_le (n := rows.length) (f := fun p => decide (RN rows k (p : Int) q)) (g := fun p => decide (RN rows (k + 1) (p : Int) q)) fun p _ z => decide_eq_true (.inl (of_decide_eq_true z))).2 ⟨p.toNat, by omega, decide_eq_true (by rw [e]; exact hp3), decide_eq_false (by rw [e]; exact hp4)⟩
        unfold cnt at *
        omega
    · right
      intro p h0 h1 hr
      rcases hr with hr | ⟨r, ht, hr⟩
      · exact hr
      · have := two_lt g ht
        exact .inr ⟨r, ht, h r this.1 this.2 hr⟩
theorem rch_rn {rows : List (List Int)} (g : GoodT rows) {p q : Int} (hp : 0 ≤ p ∧ p < (rows.length : Nat)) (h : Rch rows p q) : RN rows rows.length p q := by
  have hq := rch_lt g hp h
  have st : ∀ p : Int, 0 ≤ p → p < (rows.length : Nat) → RN rows (rows.length + 1) p q → RN rows rows.length p q := by
    rcases rn_stable g hq rows.length with h | h
    · have : cnt rows q rows.length rows.length ≤ rows.length := by
        unfold cnt
        refine Nat.le_trans (List.length_filter_le ..) ?_
        rw [List.length_range]
        exact Nat.le_refl _
      omega
    · exact h
  unfold Rch at h
  induction h with
  | refl => exact RN.up _ rfl
  | head a _ ih => exact st _ hp.1 hp.2 (.inr ⟨_, a, ih (two_lt g a)⟩)
/-- what stands behind k rounds, in the next one behind p coats and at p behind R -/
structure Rnd (rows : List (List Int)) (k p : Nat) (R : List Int) (F : List Int) : Prop where
  len : F.length = rows.length
  ins : ∀ (i : Nat) m, F[i]? = some m → Rch rows (i : Nat) m
  dn : ∀ (i : Nat) m, F[i]? = some m → ∀ q, RN rows k (i : Nat) q → m ≤ q
  fst : ∀ (i : Nat), i < p → ∀ m, F[i]? = some m → ∀ q, RN rows (k + 1) (i : Nat) q → m ≤ q
  at_ : ∀ r ∈ R, ∀ m, F[p]? = some m → ∀ q, RN rows k r q → m ≤ q
theorem Rnd.upd {rows : List (List Int)} {k p : Nat} {R F : List Int} {x y r : Int} (h : Rnd rows k p R F) (hx : F[p]? = some x) (hy : F[r.toNat]? = some y) (h0 : 0 ≤ r) (ht : Two rows (p : Nat) r) {z : Int} (hz : (z = x ∨ z = y) ∧ z ≤ x ∧ z ≤ y) : Rnd rows k p (R ++ [r]) (F.set p z) := by
  have hp := (List.getElem?_eq_some_iff.mp hx).1
  have hr : ((r.toNat : Nat) : Int) = r := by omega
  have key : ∀ (i : Nat) m, (F.set p z)[i]? = some m → (i = p ∧ m = z) ∨ (i ≠ p ∧ F[i]? = some m) := fun i m e => by
    by_cases c : i = p
    · subst c
      rw [List.getElem?_set_self hp] at e
      exact .inl ⟨rfl, (Option.some.inj e).symm⟩
    · rw [List.getElem?_set_ne (Ne.symm c)] at e
      exact .inr ⟨c, e⟩
  refine ⟨by rw [List.length_set]; exact h.len, fun i m e => ?_, fun i m e q hq => ?_, fun i hi m e q hq => ?_, fun s hs m e q hq => ?_⟩
  · rcases key i m e with ⟨rfl, rfl⟩ | ⟨_, e⟩
    · rcases hz.1 with rfl | rfl
      · exact h.ins _ _ hx
      · have := h.ins _ _ hy
        rw [hr] at this
        exact RchI.head ht this
    · exact h.ins _ _ e
  · rcases key i m e with ⟨rfl, rfl⟩ | ⟨_, e⟩
    · exact Int.le_trans hz.2.1 (h.dn _ _ hx q hq)
    · exact h.dn _ _ e q hq
  · rcases key i m e with ⟨rfl, rfl⟩ | ⟨_, e⟩
    · exact absurd hi (by omega)
    · exact h.fst i hi _ e q hq
  · rcases key p m e with ⟨_, rfl⟩ | ⟨c, _⟩
    · rcases List.mem_append.mp hs with hs | hs
      · exact Int.le_trans hz.2.1 (h.at_ s hs _ hx q hq)
      · rw [List.mem_singleton.mp hs] at hq
        refine Int.le_trans hz.2.2 (h.dn _ _ hy q ?_)
        rw [hr]
        exact hq
    · exact absurd rfl c
theorem Rnd.nextP {rows : List (List Int)} {k p : Nat} {F : List Int} (h : Rnd rows k p (twos rows (rowOf rows p)) F) : Rnd rows k (p + 1) [] F := by
  refine ⟨h.len, h.ins, h.dn, fun i hi m e q hq => ?_, fun r hr => by cases hr⟩
  by_cases c : i < p
  · exact h.fst i c m e q hq
  · obtain rfl : i = p := by omega
    rcases hq with hq | ⟨r, ht, hq⟩
    · exact h.dn _ _ e q hq
    · refine h.at_ r ?_ m e q hq
      have := mem_twos.mpr ht
      rw [Int.toNat_natCast] at this
      exact this
theorem Rnd.nextK {rows : List (List Int)} {k : Nat} {F : List Int} (h : Rnd rows k rows.length [] F) : Rnd rows (k + 1) 0 [] F :=
  ⟨h.len, h.ins, fun i m e q hq => h.fst i (by have := (List.getElem?_eq_some_iff.mp e).1; have := h.len; omega) m e q hq, fun i hi => absurd hi (by omega), fun r hr => by cases hr⟩
theorem Rnd.fin {rows : List (List Int)} (g : GoodT rows) {F : List Int} (h : Rnd rows rows.length 0 [] F) : ∀ (i : Nat) m, F[i]? = some m → Lst rows (i : Nat) m := fun i m e => by
  have hi := (List.getElem?_eq_some_iff.mp e).1
  have := h.len
  exact ⟨h.ins i m e, fun q hq => h.dn i m e q (rch_rn g (by omega) hq)⟩
theorem Rnd.start {rows : List (List Int)} : Rnd rows 0 0 [] ((List.range rows.length).map Int.ofNat) := by
  have key : ∀ (i : Nat) (m : Int), ((List.range rows.length).map Int.ofNat)[i]? = some m → m = (i : Nat) := fun i m e => by
    rw [List.getElem?_map] at e
    cases c : (List.range rows.length)[i]? with
    | none => rw [c] at e; cases e
    | some x =>
      rw [c] at e
      obtain ⟨hi, hx⟩ := List.getElem?_eq_some_iff.mp c
      rw [List.getElem_range] at hx
      cases Option.some.inj e
      rw [← hx]
      rfl
  refine ⟨by rw [List.length_map, List.length_range], fun i m e => ?_, fun i m e q hq => ?_, fun i hi => absurd hi (by omega), fun r hr => by cases hr⟩
  · rw [key i m e]; exact .refl
  · rw [key i m e]
    have : ((i : Nat) : Int) = q := hq
    omega
/-! ### a drawn table -/
def addL (R : Nat → List Int) (i : Nat) (c : Int) : Nat → List Int := fun k => if k = i then R k ++ [c] else R k
structure Dra (many : Nat) (R : Nat → List Int) (p s : Nat) : Prop where
  nd : ∀ i, (R i).Nodup
  lt : ∀ i, ∀ c ∈ R i, 0 ≤ c ∧ c < (many : Nat)
  sym : ∀ i j : Nat, i < many → j < many → ((j : Nat) : Int) ∈ R i → ((i : Nat) : Int) ∈ R j
  old : ∀ i j : Nat, i ≤ j → ((j : Nat) : Int) ∈ R i → i < p ∨ (i = p ∧ j < s)
theorem Dra.skip {many p s : Nat} {R : Nat → List Int} (h : Dra many R p s) : Dra many R p (s + 1) :=
  ⟨h.nd, h.lt, h.sym, fun i j hij hm => by have := h.old i j hij hm; omega⟩
theorem Dra.next {many p s : Nat} {R : Nat → List Int} (h : Dra many R p s) : Dra many R (p + 1) (p + 1) :=
  ⟨h.nd, h.lt, h.sym, fun i j hij hm => by have := h.old i j hij hm; omega⟩
theorem mem_addL {R : Nat → List Int} {i k : Nat} {c d : Int} : d ∈ addL R i c k ↔ d ∈ R k ∨ (k = i ∧ d = c) := by
  unfold addL
  by_cases h : k = i
  · rw [if_pos h, List.mem_append, List.mem_singleton]
    exact ⟨fun z => z.imp id fun e => ⟨h, e⟩, fun z => z.imp id fun e => e.2⟩
  · rw [if_neg h]
    exact ⟨.inl, fun z => z.elim id fun e => absurd e.1 h⟩
theorem nd_addL {R : Nat → List Int} {i : Nat} {c : Int} (h : ∀ k, (R k).Nodup) (hc : c ∉ R i) : ∀ k, (addL R i c k).Nodup := fun k => by
  unfold addL
  by_cases e : k = i
  · rw [if_pos e]
    refine List.nodup_append.mpr ⟨h k, nodup1 _, fun a ha b hb => ?_⟩
    rw [List.mem_singleton.mp hb]
    intro z
    rw [z, e] at ha
    exact hc ha
  · rw [if_neg e]
    exact h k
theorem Dra.self {many p : Nat} {R : Nat → List Int} (h : Dra many R p p) (hp : p < many) : Dra many (addL R p (p : Nat)) p (p + 1) := by
  refine ⟨nd_addL h.nd fun z => ?_, fun i c hc => ?_, fun i j hi hj hm => ?_, fun i j hij hm => ?_⟩
  · have := h.old p p (Nat.le_refl _) z
    omega
  · rcases mem_addL.mp hc with hc | ⟨_, rfl⟩
    · exact h.lt i c hc
    · omega
  · rcases mem_addL.mp hm with hm | ⟨h1, h2⟩
    · exact mem_addL.mpr (.inl (h.sym i j hi hj hm))
    · have : j = p := by omega
      subst h1
      subst this
      exact mem_addL.mpr (.inr ⟨rfl, rfl⟩)
  · rcases mem_addL.mp hm with hm | ⟨h1, h2⟩
    · have := h.old i j hij hm
      omega
    · omega
theorem Dra.two {many p s : Nat} {R : Nat → List Int} (h : Dra many R p s) (hps : p < s) (hs : s < many) : Dra many (addL (addL R p (s : Nat)) s (p : Nat)) p (s + 1) := by
  have n1 : ((s : Nat) : Int) ∉ R p := fun z => by
    have := h.old p s (Nat.le_of_lt hps) z
    omega
  have n2 : ((p : Nat) : Int) ∉ R s := fun z => n1 (h.sym s p hs (by omega) z)
  refine ⟨nd_addL (nd_addL h.nd n1) fun z => ?_, fun i c hc => ?_, fun i j hi hj hm => ?_, fun i j hij hm => ?_⟩
  · rcases mem_addL.mp z with z | ⟨e, _⟩
    · exact n2 z
    · omega
  · rcases mem_addL.mp hc with hc | ⟨_, rfl⟩
    · rcases mem_addL.mp hc with hc | ⟨_, rfl⟩
      · exact h.lt i c hc
      · omega
    · omega
  · rcases mem_addL.mp hm with hm | ⟨h1, h2⟩
    · rcases mem_addL.mp hm with hm | ⟨h1, h2⟩
      · exact mem_addL.mpr (.inl (mem_addL.mpr (.inl (h.sym i j hi hj hm))))
      · have : j = s := by omega
        subst h1
        subst this
        exact mem_addL.mpr (.inr ⟨rfl, rfl⟩)
    · have : j = p := by omega
      subst h1
      subst this
      exact mem_addL.mpr (.inl (mem_addL.mpr (.inr ⟨rfl, rfl⟩)))
  · rcases mem_addL.mp hm with hm | ⟨h1, h2⟩
    · rcases mem_addL.mp hm with hm | ⟨h1, h2⟩
      · have := h.old i j hij hm
        omega
      · omega
    · omega
theorem asc_ok {row : List Int} {m : Int} (hp : row.Pairwise (· ≤ ·)) (hn : row.Nodup) (hl : ∀ c ∈ row, 0 ≤ c ∧ c < m) : ∀ i, okAt row m i := fun i c hc => by
  obtain ⟨hi, rfl⟩ := List.getElem?_eq_some_iff.mp hc
  refine ⟨hl _ (List.getElem_mem hi), fun d h0 hd => ?_⟩
  obtain ⟨hj, rfl⟩ := List.getElem?_eq_some_iff.mp hd
  have h1 := (List.pairwise_iff_getElem.mp hp) (i - 1) i hj hi (by omega)
  have h2 := (List.pairwise_iff_getElem.mp hn) (i - 1) i hj hi (by omega)
  have : ¬ row[i - 1] = row[i] := h2
  have h3 : row[i - 1] ≤ row[i] := h1
  omega
theorem Dra.good {many p s : Nat} {R : Nat → List Int} (h : Dra many R p s) (h1 : 1 ≤ many) (h8 : many ≤ 8) {rows : List (List Int)} (hl : rows.length = many) (hr : ∀ (i : Nat) row, rows[i]? = some row → row.Perm (R i) ∧ row.Pairwise (· ≤ ·)) : GoodT rows := by
  refine ⟨by omega, by omega, fun row hrow => ?_, fun q row hq s hs => ?_⟩
  · obtain ⟨i, hi, rfl⟩ := List.getElem_of_mem hrow
    obtain ⟨hp, hw⟩ := hr i _ (List.getElem?_eq_getElem hi)
    rw [hl]
    exact asc_ok hw (hp.nodup_iff.mpr (h.nd i)) fun c hc => h.lt i c (hp.mem_iff.mp hc)
  · obtain ⟨hp, _⟩ := hr q row hq
    have hs2 := hp.mem_iff.mp hs
    have hlt := h.lt q s hs2
    have hq2 := (List.getElem?_eq_some_iff.mp hq).1
    have e : ((s.toNat : Nat) : Int) = s := by omega
    rw [← e] at hs2
    have := h.sym q s.toNat (by omega) (by omega) hs2
    have hi : s.toNat < rows.length := by omega
    refine ⟨rows[s.toNat], List.getElem?_eq_getElem hi, ?_⟩
    exact (hr s.toNat _ (List.getElem?_eq_getElem hi)).1.mem_iff.mpr this
structure HB (D : Addr) (bs : List Addr) (R : Nat → List Int) (H : Hp) : Prop where
  d : H D = some (.lst (bs.map V.ref))
  at_ : ∀ (i : Nat) b, bs[i]? = some b → H b = some (.lst ((R i).map V.int))
theorem HB.app {D b : Addr} {bs : List Addr} {R : Nat → List Int} {H : Hp} {i : Nat} {c : Int} (h : HB D bs R H) (nd : bs.Nodup) (nD : D ∉ bs) (hi : bs[i]? = some b) : HB D bs (addL R i c) (upd H b (.lst ((R i).map V.int ++ [V.int c]))) := by
  refine ⟨?_, fun j b' hj => ?_⟩
  · have hm := List.mem_of_getElem? hi
    rw [upd_ne (fun z => nD (by rw [z]; exact hm))]
    exact h.d
  · by_cases e : j = i
    · subst e
      rw [hi] at hj
      cases Option.some.inj hj
      rw [upd_same]
      unfold addL
      rw [if_pos rfl, snocV]
    · have ne : b' ≠ b := fun z => by
        subst z
        obtain ⟨h1, h2⟩ := List.getElem?_eq_some_iff.mp hj
        obtain ⟨h3, h4⟩ := List.getElem?_eq_some_iff.mp hi
        rcases Nat.lt_or_gt_of_ne e with q | q
        · exact (List.pairwise_iff_getElem.mp nd) j i h1 h3 q (h2.trans h4.symm)
        · exact (List.pairwise_iff_getElem.mp nd) i j h3 h1 q (h4.trans h2.symm)
      rw [upd_ne ne]
      unfold addL
      rw [if_neg e]
      exact h.at_ j b' hj
theorem HB.exb {D p : Addr} {bs : List Addr} {R : Nat → List Int} {H H1 : Hp} (h : HB D bs R H) (e : Exb p H H1) (hD : D ≠ p) (hb : ∀ b ∈ bs, b ≠ p) : HB D bs R H1 :=
  ⟨e _ _ hD h.d, fun i b hi => e _ _ (hb b (List.mem_of_getElem? hi)) (h.at_ i b hi)⟩
theorem HB.same {D : Addr} {bs : List Addr} {R : Nat → List Int} {H H1 : Hp} (h : HB D bs R H) (e : Same H H1) : HB D bs R H1 :=
  ⟨e _ _ h.d, fun i b hi => e _ _ (h.at_ i b hi)⟩
def toldD (rows : List (List Int)) : PyData := if 2 * rows.length ≤ 8 then .tuple [.int (2 * (rows.length : Nat)), .tuple ((dbl rows).map rowD)] else .tuple [.str "size", .int (2 * (rows.length : Nat))]
theorem dp2 {K : PySem.W.Frag} {H : Hp} {a : Addr} {u v : V} {d e : PyData} (h : SqT K H a [u, v]) (h1 : Dp K H u d) (h2 : Dp K H v e) : Dp K H (.ref a) (.tuple [d, e]) := .tup h (.cons h1 (.cons h2 .nil))
theorem gN {i : Nat} {v : V} {σ : L2.St} {H : Hp} {k : L2.St → Hp → Prop} (h : k (σ.set i (some v)) H) : gName i v σ H k := h
theorem asgK {te : TE} {i : Nat} {u : TS} {D : Ends} {σ : L2.St} {H : Hp} (A : V → Hp → Prop) (h1 : ∀ R : VK, (∀ v H', A v H' → R v H') → te σ H R) (h2 : ∀ v H', A v H' → u D (σ.set i (some v)) H') : tSeq (tAsg te (gName i)) u D σ H := h1 _ h2
theorem GoodT.abs {rows : List (List Int)} (g : GoodT rows) : ∀ r ∈ rows, r.length ≤ 8 ∧ ∀ c ∈ r, c.natAbs < 2 ^ 60 := fun r hr => ⟨asc_len g hr, fun c hc => by
  have := g.lt hr hc
  have := g.n8
  have e : (2 : Nat) ^ 60 = 1152921504606846976 := by decide
  omega⟩
theorem GoodT.shows {rows : List (List Int)} (g : GoodT rows) : Sh 72 2 (.tuple (rows.map rowD)) := (Sh.rows (m := 8) (n := 8) g.abs g.n8).le (by decide) (by decide)
theorem dbl_abs {rows : List (List Int)} (g : GoodT rows) : ∀ r ∈ dbl rows, r.length ≤ 8 ∧ ∀ c ∈ r, c.natAbs < 2 ^ 60 := fun r hr => by
  unfold dbl at hr
  obtain ⟨row, hrow, hr⟩ := List.mem_flatMap.mp hr
  have key : ∀ side : Int, 0 ≤ side → side ≤ 1 → (dblRow row side).length ≤ 8 ∧ ∀ c ∈ dblRow row side, c.natAbs < 2 ^ 60 := fun side h0 h1 => by
    unfold dblRow
    refine ⟨by rw [List.length_map]; exact asc_len g hrow, fun c hc => ?_⟩
    obtain ⟨d, hd, rfl⟩ := List.mem_map.mp hc
    have := g.lt hrow hd
    have := g.n8
    have e : (2 : Nat) ^ 60 = 1152921504606846976 := by decide
    omega
  rcases List.mem_cons.mp hr with rfl | hr
  · exact key 0 (by decide) (by decide)
  · rw [List.mem_singleton.mp hr]
    exact key 1 (by decide) (by decide)
theorem _root_.Bw.Sh.all {b k : Nat} {d : PyData} (h : Sh b k d) (hb : b ≤ 200000) (hk : k < 64) : d.showable = true ∧ d.hasDict = false ∧ d.depth < 64 ∧ d.shown.length ≤ sizeLine := ⟨h.sh, h.nod, Nat.lt_of_le_of_lt h.dp hk, h.fits hb⟩
theorem told_shows {rows : List (List Int)} (g : GoodT rows) : Sh 200 3 (toldD rows) := by
  have n8 := g.n8
  have e : (2 : Nat) ^ 60 = 1152921504606846976 := by decide
  have hi : Sh 72 2 (.int (2 * (rows.length : Nat))) := (Sh.int (by omega)).le (by decide) (by decide)
  unfold toldD
  by_cases c : 2 * rows.length ≤ 8
  · rw [if_pos c]
    exact (Sh.pair hi ((Sh.rows (m := 8) (n := 8) (dbl_abs g) (by rw [dbl_len]; exact c)).le (by decide) (by decide))).le (by decide) (by decide)
  · rw [if_neg c]
    exact (Sh.pair (b := 72) (k := 2) ⟨by decide, by decide, by decide, by decide, by decide⟩ hi).le (by decide) (by decide)
theorem lots_shows {rows : List (List Int)} (g : GoodT rows) {ms : List Int} (hl : ms.length = rows.length) (h : ∀ (i : Nat) m, ms[i]? = some m → Lst rows (i : Nat) m) : Sh 8 1 (rowD ms) := by
  have n8 := g.n8
  refine Sh.row (fun c hc => ?_) (by omega)
  obtain ⟨i, hi, rfl⟩ := List.getElem_of_mem hc
  have := rch_lt g (p := (i : Nat)) (by omega) (h i _ (List.getElem?_eq_getElem hi)).1
  have e : (2 : Nat) ^ 60 = 1152921504606846976 := by decide
  omega
theorem asc_nd {row : List Int} {m : Int} (h : ∀ i, okAt row m i) : row.Nodup := by
  refine List.pairwise_iff_getElem.mpr fun i j hi hj hij => ?_
  have key : ∀ k, (hk : i + k + 1 < row.length) → row[i] < row[i + k + 1] := fun k => by
    induction k with
    | zero => exact fun hk => (h (i + 1) _ (List.getElem?_eq_getElem hk)).2 _ (by omega) (List.getElem?_eq_getElem hi)
    | succ k ih =>
      intro hk
      have h1 := ih (by omega)
      have h2 := (h (i + (k + 1) + 1) _ (List.getElem?_eq_getElem hk)).2 _ (by omega) (List.getElem?_eq_getElem (by omega))
      have e : row[i + (k + 1) + 1 - 1]'(by omega) = row[i + k + 1]'(by omega) := rfl
      rw [e] at h2
      omega
  have := key (j - i - 1) (by omega)
  have e : row[i + (j - i - 1) + 1]'(by omega) = row[j] := by congr 1; omega
  rw [e] at this
  intro z
  have z2 : row[i] = row[j] := z
  omega

/-! ### nets, plainly -/
def thR (ths : List (Int × Int)) : List (List Int) := ths.map fun e => [e.1, e.2]
/-- each a pair of places, the lesser first -/
def InN (n : Nat) (ths : List (Int × Int)) : Prop := ∀ e ∈ ths, 0 ≤ e.1 ∧ e.1 < e.2 ∧ e.2 < (n : Nat)
def Adj (ths : List (Int × Int)) (p c : Int) : Prop := (p, c) ∈ ths ∨ (c, p) ∈ ths
def nStep (R : Nat → List Int) (e : Int × Int) : Nat → List Int := addL (addL R e.1.toNat e.2) e.2.toNat e.1
def nR (ths : List (Int × Int)) : Nat → List Int := ths.foldl nStep fun _ => []
theorem nR_snoc (ths : List (Int × Int)) (e : Int × Int) : nR (ths ++ [e]) = nStep (nR ths) e := by
  unfold nR
  rw [List.foldl_append]
  rfl
theorem snocInd {α : Type} {P : List α → Prop} (h0 : P []) (hs : ∀ xs x, P xs → P (xs ++ [x])) (xs : List α) : P xs := by
  have h : ∀ ys : List α, P ys.reverse := fun ys => by
    induction ys with
    | nil => exact h0
    | cons y ys ih =>
      rw [List.reverse_cons]
      exact hs _ _ ih
  have := h xs.reverse
  rw [List.reverse_reverse] at this
  exact this
theorem nR_ok {n : Nat} : ∀ (ths : List (Int × Int)), ths.Nodup → InN n ths → (∀ p, (nR ths p).Nodup) ∧ ∀ (p : Nat) (c : Int), c ∈ nR ths p ↔ Adj ths (p : Nat) c := by
  refine snocInd (fun _ _ => ⟨fun _ => List.nodup_nil, fun p c => ⟨fun h => (by cases h), fun h => (by rcases h with h | h <;> cases h)⟩⟩) fun ths e ih => ?_
  · intro nd hi
    obtain ⟨n1, n2, n3⟩ := List.nodup_append.mp nd
    obtain ⟨i1, i2⟩ := ih n1 fun x hx => hi x (List.mem_append_left _ hx)
    obtain ⟨e0, e1, e2⟩ := hi e (List.mem_append_right _ (List.mem_singleton_self _))
    have he : e ∉ ths := fun z => n3 e z e (List.mem_singleton_self _) rfl
    have m1 : ∀ (p : Nat) (c : Int), c ∈ nR (ths ++ [e]) p ↔ Adj (ths ++ [e]) (p : Nat) c := fun p c => by
      rw [nR_snoc]
      unfold nStep
      rw [mem_addL, mem_addL, i2]
      unfold Adj
      rw [List.mem_append, List.mem_append, List.mem_singleton, List.mem_singleton]
      obtain ⟨x, y⟩ := e
      simp only [Prod.mk.injEq]
      dsimp only at e0 e1 e2
      constructor
      · rintro ((h | ⟨h1, h2⟩) | ⟨h1, h2⟩)
        · rcases h with h | h
          · exact .inl (.inl h)
          · exact .inr (.inl h)
        · exact .inl (.inr ⟨by omega, h2⟩)
        · exact .inr (.inr ⟨h2, by omega⟩)
      · rintro ((h | ⟨h1, h2⟩) | (h | ⟨h1, h2⟩))
        · exact .inl (.inl (.inl h))
        · exact .inl (.inr ⟨by omega, h2⟩)
        · exact .inl (.inl (.inr h))
        · exact .inr ⟨by omega, h1⟩
    refine ⟨?_, m1⟩
    rw [nR_snoc]
    unfold nStep
    obtain ⟨x, y⟩ := e
    dsimp only at e0 e1 e2 ⊢
    have q1 : y ∉ nR ths x.toNat := fun z => by
      rcases (i2 _ _).mp z with h | h
      · rw [show ((x.toNat : Nat) : Int) = x by omega] at h
        exact he h
      · rw [show ((x.toNat : Nat) : Int) = x by omega] at h
        have := hi _ (List.mem_append_left _ h)
        dsimp only at this
        omega
    refine nd_addL (nd_addL i1 q1) fun z => ?_
    rcases mem_addL.mp z with z | ⟨z1, z2⟩
    · rcases (i2 _ _).mp z with h | h
      · rw [show ((y.toNat : Nat) : Int) = y by omega] at h
        have := hi _ (List.mem_append_left _ h)
        dsimp only at this
        omega
      · rw [show ((y.toNat : Nat) : Int) = y by omega] at h
        exact he h
    · omega
structure NearOk (n : Nat) (ths : List (Int × Int)) (nrs : List (List Int)) : Prop where
  len : nrs.length = n
  asc : ∀ row ∈ nrs, ∀ i, okAt row (n : Nat) i
  mem : ∀ (p : Nat) row, nrs[p]? = some row → ∀ c, c ∈ row ↔ Adj ths (p : Nat) c
theorem adj_lt {n : Nat} {ths : List (Int × Int)} (h : InN n ths) {p c : Int} (a : Adj ths p c) : 0 ≤ c ∧ c < (n : Nat) := by
  rcases a with a | a
  · have := h _ a; dsimp only at this; omega
  · have := h _ a; dsimp only at this; omega
theorem near_of {n : Nat} {ths : List (Int × Int)} (nd : ths.Nodup) (hi : InN n ths) {nrs : List (List Int)} (hl : nrs.length = n) (h : ∀ (k : Nat) row, nrs[k]? = some row → row.Perm (nR ths k) ∧ row.Pairwise (· ≤ ·)) : NearOk n ths nrs := by
  obtain ⟨i1, i2⟩ := nR_ok ths nd hi
  refine ⟨hl, fun row hr => ?_, fun p row hp c => ?_⟩
  · obtain ⟨k, hk, rfl⟩ := List.getElem_of_mem hr
    obtain ⟨g1, g2⟩ := h k _ (List.getElem?_eq_getElem hk)
    exact asc_ok g2 (g1.nodup_iff.mpr (i1 k)) fun c hc => adj_lt hi ((i2 k c).mp (g1.mem_iff.mp hc))
  · exact (h p row hp).1.mem_iff.trans (i2 p c)
theorem nR_len {n : Nat} {ths : List (Int × Int)} (nd : ths.Nodup) (hi : InN n ths) (p : Nat) : (nR ths p).length ≤ n := by
  obtain ⟨i1, i2⟩ := nR_ok ths nd hi
  exact nodup_len n _ (i1 p) fun c hc => adj_lt hi ((i2 p c).mp hc)
/-- a net at t -/
def NB (K : PySem.W.Frag) (C : Addr) (H : Hp) (t : Addr) (n : Nat) (ths : List (Int × Int)) : Prop := ∃ dx r s nrs, H t = some (.ins C dx [("many", .int (n : Nat)), ("threads", .ref r), ("near", .ref s)]) ∧ TT K H r (thR ths) ∧ TT K H s nrs ∧ NearOk n ths nrs
theorem NB.same {K : PySem.W.Frag} {C t : Addr} {H H1 : Hp} {n : Nat} {ths : List (Int × Int)} (e : Same H H1) (h : NB K C H t n ths) : NB K C H1 t n ths := by
  obtain ⟨dx, r, s, nrs, h1, h2, h3, h4⟩ := h
  exact ⟨dx, r, s, nrs, e _ _ h1, h2.same e, h3.same e, h4⟩
def RwsN (K : PySem.W.Frag) (t : Addr) (H : Hp) (us : List V) (rs : List (List Int)) : Prop := ∀ H2, (∀ b o, b ≠ t → H b = some o → H2 b = some o) → Rws K H2 us rs
def kvOf (ord : List (Int × Int)) : List (Key × V) := ord.map fun e => (.inl e.1, .int e.2)
/-- places in the order in which they are come to from x, each with the one it is come to from -/
structure Ord (ths : List (Int × Int)) (x : Int) (ord : List (Int × Int)) : Prop where
  fst : ord[0]? = some (x, -1)
  nd : (ord.map (·.1)).Nodup
  up : ∀ (i : Nat) e, ord[i]? = some e → 0 < i → ∃ (j : Nat) (f : Int × Int), j < i ∧ ord[j]? = some f ∧ f.1 = e.2 ∧ Adj ths e.2 e.1
  all : ∀ e ∈ ord, ∀ c, Adj ths e.1 c → c ∈ ord.map (·.1)
theorem valV_of {p : Int} : ∀ {ord : List (Int × Int)}, (valV (kvOf ord) (.inl p)).isSome = decide (p ∈ ord.map (·.1))
  | [] => rfl
  | e :: ord => by
    unfold kvOf at *
    rw [List.map_cons]
    by_cases h : e.1 = p
    · rw [valV_pos (by rw [h])]
      rw [List.map_cons, decide_eq_true (by rw [h]; exact List.mem_cons_self)]
      rfl
    · rw [valV_neg (fun z => h (Sum.inl.inj z))]
      have := valV_of (p := p) (ord := ord)
      unfold kvOf at this
      rw [this, List.map_cons]
      refine decide_eq_decide.mpr ⟨List.mem_cons_of_mem _, fun z => ?_⟩
      rcases List.mem_cons.mp z with z | z
      · exact absurd z.symm h
      · exact z
/-- under way: the first k places are done -/
structure Bfs (ths : List (Int × Int)) (x n : Nat) (ord : List (Int × Int)) (k : Nat) : Prop where
  fst : ord[0]? = some ((x : Int), -1)
  nd : (ord.map (·.1)).Nodup
  up : ∀ (i : Nat) e, ord[i]? = some e → 0 < i → ∃ (j : Nat) (f : Int × Int), j < i ∧ ord[j]? = some f ∧ f.1 = e.2 ∧ Adj ths e.2 e.1
  rng : ∀ e ∈ ord, 0 ≤ e.1 ∧ e.1 < (n : Nat)
  done : ∀ (i : Nat) e, i < k → ord[i]? = some e → ∀ c, Adj ths e.1 c → c ∈ ord.map (·.1)
  le : k ≤ ord.length
theorem Bfs.size {ths : List (Int × Int)} {x n k : Nat} {ord : List (Int × Int)} (h : Bfs ths x n ord k) : ord.length ≤ n := by
  have := nodup_len n (ord.map (·.1)) h.nd fun e he => by
    obtain ⟨f, hf, rfl⟩ := List.mem_map.mp he
    exact h.rng f hf
  rw [List.length_map] at this
  exact this
theorem Bfs.start {ths : List (Int × Int)} {x n : Nat} (hx : x < n) : Bfs ths x n [((x : Int), -1)] 0 := by
  refine ⟨rfl, nodup1 _, fun i e he h0 => ?_, fun e he => ?_, fun i e hi => absurd hi (by omega), Nat.zero_le _⟩
  · have := (List.getElem?_eq_some_iff.mp he).1
    have h2 : i < 1 := this
    omega
  · rw [List.mem_singleton.mp he]
    dsimp only
    omega
theorem Bfs.snoc {ths : List (Int × Int)} {x n k : Nat} {ord : List (Int × Int)} {c : Int} {f : Int × Int} (h : Bfs ths x n ord k) (hc : c ∉ ord.map (·.1)) (hk : k < ord.length) (hf : ord[k]? = some f) (ha : Adj ths f.1 c) (hr : 0 ≤ c ∧ c < (n : Nat)) : Bfs ths x n (ord ++ [(c, f.1)]) k := by
  have h0 : 0 < ord.length := by omega
  refine ⟨by rw [List.getElem?_append_left h0]; exact h.fst, ?_, fun i e he hi => ?_, fun e he => ?_, fun i e hi he c' ha' => ?_, by rw [List.length_append]; omega⟩
  · rw [List.map_append]
    refine List.nodup_append.mpr ⟨h.nd, nodup1 _, fun a ha b hb => ?_⟩
    have : b = c := by simpa using hb
    rw [this]
    exact fun z => hc (z ▸ ha)
  · by_cases hl : i < ord.length
    · rw [List.getElem?_append_left hl] at he
      obtain ⟨j, g, hj, hg, g1, g2⟩ := h.up i e he hi
      exact ⟨j, g, hj, by rw [List.getElem?_append_left (by omega)]; exact hg, g1, g2⟩
    · have hl2 := (List.getElem?_eq_some_iff.mp he).1
      rw [List.length_append] at hl2
      have ei : i = ord.length := by
        have : i < ord.length + 1 := hl2
        omega
      subst ei
      rw [List.getElem?_append_right (Nat.le_refl _), Nat.sub_self] at he
      cases Option.some.inj he
      exact ⟨k, f, hk, by rw [List.getElem?_append_left hk]; exact hf, rfl, ha⟩
  · rcases List.mem_append.mp he with he | he
    · exact h.rng e he
    · rw [List.mem_singleton.mp he]
      exact hr
  · rw [List.map_append]
    rw [List.getElem?_append_left (by omega)] at he
    exact List.mem_append_left _ (h.done i e hi he c' ha')
theorem Bfs.next {ths : List (Int × Int)} {x n k : Nat} {ord : List (Int × Int)} (h : Bfs ths x n ord k) (hk : ∀ e, ord[k]? = some e → ∀ c, Adj ths e.1 c → c ∈ ord.map (·.1)) (hl : k < ord.length := by assumption) : Bfs ths x n ord (k + 1) := by
  refine ⟨h.fst, h.nd, h.up, h.rng, fun i e hi he c ha => ?_, hl⟩
  by_cases e2 : i < k
  · exact h.done i e e2 he c ha
  · have : i = k := by omega
    subst this
    exact hk e he c ha
theorem Bfs.fin {ths : List (Int × Int)} {x n k : Nat} {ord : List (Int × Int)} (h : Bfs ths x n ord k) (hk : ord.length ≤ k) : Ord ths (x : Nat) ord :=
  ⟨h.fst, h.nd, h.up, fun e he c ha => by
    obtain ⟨i, hi, rfl⟩ := List.getElem_of_mem he
    exact h.done i _ (by omega) (List.getElem?_eq_getElem hi) c ha⟩
/-- what made_net asks -/
structure GoodN (n : Nat) (ths : List (Int × Int)) : Prop where
  n1 : 1 ≤ n
  n24 : n ≤ 24
  len : ths.length ≤ 60
  rng : InN n ths
  asc : ths.Pairwise fun e f => e.1 < f.1 ∨ (e.1 = f.1 ∧ e.2 < f.2)
  con : ∀ ord, Ord ths 0 ord → ∀ p : Nat, p < n → ((p : Nat) : Int) ∈ ord.map (·.1)
theorem GoodN.nodup {n : Nat} {ths : List (Int × Int)} (g : GoodN n ths) : ths.Nodup := g.asc.imp fun {e f} h z => by
  rw [z] at h
  omega
theorem le2 {x y x' y' : Int} (h : x' < x ∨ (x' = x ∧ y' < y)) : Ob.lexAt (fun j => decide ([x, y].getD j 0 = [x', y'].getD j 0)) (fun j => decide ([x, y].getD j 0 ≤ [x', y'].getD j 0)) (decide ([x, y].length ≤ [x', y'].length)) 0 (min [x, y].length [x', y'].length) = false := by
  show Ob.lexAt _ _ _ 0 2 = false
  simp only [Ob.lexAt, List.getD_cons_zero, List.getD_cons_succ]
  rcases h with h | ⟨h1, h2⟩
  · have e1 : ¬ x = x' := by omega
    have e2 : ¬ x ≤ x' := by omega
    simp [e1, e2]
  · have e2 : ¬ y = y' := by omega
    have e3 : ¬ y ≤ y' := by omega
    simp [h1, e2, e3]

theorem seqK {t u : TS} {D : Ends} {σ : L2.St} {H : Hp} (A : L2.St → Hp → Prop) (h1 : ∀ N : L2.St → Hp → Prop, (∀ σ' H', A σ' H' → N σ' H') → t { D with nx := N } σ H) (h2 : ∀ σ' H', A σ' H' → u D σ' H') : tSeq t u D σ H := h1 _ h2
theorem ifK {te : TE} {a b : TS} {D : Ends} {σ : L2.St} {H : Hp} (c : Bool) (h1 : ∀ R : VK, (∀ H', Same H H' → R (.bl c) H') → te σ H R) (h2 : ∀ H', Same H H' → c = true → a D σ H') (h3 : ∀ H', Same H H' → c = false → b D σ H') : tIfS (tB te) a b D σ H :=
  h1 _ fun H' s => ⟨c, rfl, by
    cases c with
    | true => exact iteT (h2 H' s rfl)
    | false => exact iteF (h3 H' s rfl)⟩

def bsr (n : Nat) (prs : List (Int × Int)) (p : Nat) : List Int := ((List.range n).map Int.ofNat).filter fun s => decide ((Int.ofNat p, s) ∈ prs ∨ (s, Int.ofNat p) ∈ prs)
def besd (n : Nat) (prs : List (Int × Int)) : List (List Int) := (List.range n).map (bsr n prs)
theorem rws_of {K : PySem.W.Frag} {H : Hp} {f : Nat → List Int} : ∀ {xs : List V} (k : Nat), (∀ (i : Nat) (v : V), xs[i]? = some v → ∃ b, v = .ref b ∧ SqT K H b ((f (k + i)).map V.int)) → Rws K H xs ((List.range' k xs.length).map f)
  | [], _, _ => Rws.nil
  | x :: xs, k, h => by
    obtain ⟨b, rfl, hb⟩ := h 0 x rfl
    rw [List.length_cons, List.range'_succ, List.map_cons]
    exact DpAll.cons (row_dp hb) (rws_of (xs := xs) (k + 1) fun i v e => by
      rw [show k + 1 + i = k + (i + 1) by omega]
      exact h (i + 1) v e)
theorem yRng {n : Nat} : ∀ (i : Nat) (H : Hp) (x : V) (H' : Hp), YFn (fun i => V.int (0 + (i : Int))) i H x H' → i < n → H' = H ∧ x = .int (((List.range n).map Int.ofNat).getD i 0) := by
  rintro i H x H' ⟨h1, rfl⟩ hi
  refine ⟨h1, ?_⟩
  show V.int (0 + (i : Int)) = _
  rw [List.getD_eq_getElem?_getD, List.getElem?_map, List.getElem?_range hi, Int.zero_add]
  rfl

/-! ### trees told by their uppers -/
def Tree (n : Nat) (prs : List (Int × Int)) : Prop := ∀ v : Nat, 0 < v → v < n → ∃ w : Nat, w < v ∧ ((w : Int), (v : Int)) ∈ prs
theorem con_of_tree {n : Nat} {ths : List (Int × Int)} (h : Tree n ths) {ord : List (Int × Int)} (o : Ord ths 0 ord) : ∀ p : Nat, p < n → ((p : Nat) : Int) ∈ ord.map (·.1) := by
  intro p
  induction p using Nat.strongRecOn with
  | _ p ih =>
    intro hp
    by_cases h0 : p = 0
    · subst h0
      exact List.mem_map.mpr ⟨_, List.mem_of_getElem? o.fst, rfl⟩
    · obtain ⟨w, hw, hm⟩ := h p (by omega) hp
      obtain ⟨e, he, e1⟩ := List.mem_map.mp (ih w hw (by omega))
      exact o.all e he _ (.inl (by rw [e1]; exact hm))
theorem goodN_of {n : Nat} {prs qrs : List (Int × Int)} (n1 : 1 ≤ n) (n24 : n ≤ 24) (hp : qrs.Perm prs) (hs : qrs.Pairwise PLe) (nd : prs.Nodup) (hi : InN n prs) (ht : Tree n prs) (hl : prs.length ≤ 60) : GoodN n qrs := by
  refine ⟨n1, n24, by rw [hp.length_eq]; exact hl, fun e he => hi e (hp.mem_iff.mp he), ?_, fun ord o => con_of_tree (fun v h0 hv => ?_) o⟩
  · refine (hs.and (hp.nodup_iff.mpr nd)).imp fun {e f} h => ?_
    obtain ⟨h1, h2⟩ := h
    rcases h1 with h1 | ⟨h1, h3⟩
    · exact .inl h1
    · refine .inr ⟨h1, ?_⟩
      have : e.2 ≠ f.2 := fun z => h2 (Prod.ext h1 z)
      omega
  · obtain ⟨w, hw, hm⟩ := ht v h0 hv
    exact ⟨w, hw, hp.mem_iff.mpr hm⟩
/-- the tree so far: its threads up to place k -/
structure TreeK (k : Nat) (prs : List (Int × Int)) : Prop where
  len : prs.length + 1 = k
  at_ : ∀ (i : Nat) e, prs[i]? = some e → 0 ≤ e.1 ∧ e.1 ≤ (i : Nat) ∧ e.2 = (i : Nat) + 1
theorem TreeK.snoc {k : Nat} {prs : List (Int × Int)} (h : TreeK k prs) {w : Int} (h0 : 0 ≤ w) (h1 : w < (k : Nat)) : TreeK (k + 1) (prs ++ [(w, ((k : Nat) : Int))]) := by
  have hl := h.len
  refine ⟨by rw [List.length_append]; show prs.length + 1 + 1 = k + 1; omega, fun i e he => ?_⟩
  by_cases hi : i < prs.length
  · rw [List.getElem?_append_left hi] at he
    exact h.at_ i e he
  · have hi2 := (List.getElem?_eq_some_iff.mp he).1
    rw [List.length_append] at hi2
    have ei : i = prs.length := by
      have : i < prs.length + 1 := hi2
      omega
    subst ei
    rw [List.getElem?_append_right (Nat.le_refl _), Nat.sub_self] at he
    cases Option.some.inj he
    dsimp only
    omega
theorem TreeK.tree {n : Nat} {prs : List (Int × Int)} (h : TreeK n prs) : Tree n prs := fun v h0 hv => by
  have hl := h.len
  have hi : v - 1 < prs.length := by omega
  obtain ⟨h1, h2, h3⟩ := h.at_ (v - 1) _ (List.getElem?_eq_getElem hi)
  refine ⟨prs[v - 1].1.toNat, by omega, ?_⟩
  have : ((prs[v - 1].1.toNat : Int), (v : Int)) = prs[v - 1] := Prod.ext (by show ((prs[v - 1].1.toNat : Nat) : Int) = _; omega) (by show (v : Int) = _; omega)
  rw [this]
  exact List.getElem_mem hi
theorem TreeK.inN {n : Nat} {prs : List (Int × Int)} (h : TreeK n prs) : InN n prs := fun e he => by
  obtain ⟨i, hi, rfl⟩ := List.getElem_of_mem he
  have hl := h.len
  have := h.at_ i _ (List.getElem?_eq_getElem hi)
  omega
theorem TreeK.nodup {n : Nat} {prs : List (Int × Int)} (h : TreeK n prs) : prs.Nodup := by
  refine List.pairwise_iff_getElem.mpr fun i j hi hj hij z => ?_
  have h1 := h.at_ i _ (List.getElem?_eq_getElem hi)
  have h2 := h.at_ j _ (List.getElem?_eq_getElem hj)
  rw [z] at h1
  omega
/-- the neighbours of p, by a look at each place -/
theorem near_bsr {n : Nat} {ths : List (Int × Int)} (hi : InN n ths) : NearOk n ths (besd n ths) := by
  refine ⟨by unfold besd; rw [List.length_map, List.length_range], fun row hr => ?_, fun p row hp c => ?_⟩
  · obtain ⟨p, _, rfl⟩ := List.mem_map.mp hr
    unfold bsr
    refine asc_ok ?_ ?_ fun c hc => ?_
    · refine List.Pairwise.filter _ ?_
      rw [List.pairwise_map]
      exact (List.pairwise_le_range).imp fun {a b} h => by show (a : Int) ≤ (b : Int); omega
    · refine List.Pairwise.filter _ ?_
      exact List.Pairwise.map _ (fun a b h z => h (by
        have z2 : (a : Int) = (b : Int) := z
        omega)) List.nodup_range
    · obtain ⟨i, h1, rfl⟩ := List.mem_map.mp (List.mem_filter.mp hc).1
      have := List.mem_range.mp h1
      show (0 : Int) ≤ (i : Int) ∧ (i : Int) < (n : Nat)
      omega
  · unfold besd at hp
    rw [List.getElem?_map] at hp
    by_cases hpn : p < n
    · rw [List.getElem?_range hpn] at hp
      cases Option.some.inj hp
      unfold bsr
      rw [List.mem_filter, decide_eq_true_eq]
      constructor
      · intro h
        exact h.2
      · intro h
        have := adj_lt hi h
        exact ⟨List.mem_map.mpr ⟨c.toNat, List.mem_range.mpr (by omega), by show ((c.toNat : Nat) : Int) = c; omega⟩, h⟩
    · rw [List.getElem?_eq_none (by rw [List.length_range]; omega)] at hp
      cases hp
/-- a list of rows at l, which are the neighbours -/
def NL (K : PySem.W.Frag) (H : Hp) (l : Addr) (n : Nat) (ths : List (Int × Int)) : Prop := ∃ us nrs, H l = some (.lst us) ∧ Rws K H us nrs ∧ NearOk n ths nrs
theorem NL.same {K : PySem.W.Frag} {H H1 : Hp} {l : Addr} {n : Nat} {ths : List (Int × Int)} (e : Same H H1) (h : NL K H l n ths) : NL K H1 l n ths := by
  obtain ⟨us, nrs, h1, h2, h3⟩ := h
  exact ⟨us, nrs, e _ _ h1, h2.same e, h3⟩
theorem Rws.get {K : PySem.W.Frag} {H : Hp} {us : List V} {rs : List (List Int)} (h : Rws K H us rs) {i : Nat} {r : List Int} (hr : rs[i]? = some r) : ∃ b, us[i]? = some (.ref b) ∧ SqT K H b (r.map V.int) := by
  obtain ⟨v, hv, hd⟩ := dpAll_get h (i := i) (d := rowD r) (by rw [List.getElem?_map, hr]; rfl)
  obtain ⟨b, rfl, hb⟩ := dp_row hd
  exact ⟨b, hv, hb⟩
/-- the neighbours of place i stand in the list -/
theorem NL.at_ {K : PySem.W.Frag} {H : Hp} {l : Addr} {n : Nat} {ths : List (Int × Int)} (h : NL K H l n ths) : ∃ us, H l = some (.lst us) ∧ us.length = n ∧ ∀ i : Nat, i < n → ∃ (b : Addr) (row : List Int), us[i]? = some (.ref b) ∧ SqT K H b (row.map V.int) ∧ row.length ≤ n ∧ ∀ c, c ∈ row ↔ Adj ths (i : Nat) c := by
  obtain ⟨us, nrs, h1, h2, h3⟩ := h
  have hl := h2.len
  have hl2 := h3.len
  refine ⟨us, h1, by omega, fun i hi => ?_⟩
  have hr : nrs[i]? = some (nrs[i]'(by omega)) := List.getElem?_eq_getElem (by omega)
  obtain ⟨b, hb, hs⟩ := Rws.get h2 hr
  refine ⟨b, _, hb, hs, ?_, h3.mem i _ hr⟩
  have := h3.asc _ (List.getElem_mem (by omega : i < nrs.length))
  generalize nrs[i]'(by omega) = row at this
  cases e : row.length with
  | zero => omega
  | succ k =>
    have g1 := asc_get this k (row[k]'(by omega)) (List.getElem?_eq_getElem (by omega))
    have g2 := (this k (row[k]'(by omega)) (List.getElem?_eq_getElem (by omega))).1.2
    omega
theorem Rws.exb {K : PySem.W.Frag} {H H1 : Hp} {p : Addr} (hp : Src H p) (e : Exb p H H1) : ∀ {us : List V} {rs : List (List Int)}, Rws K H us rs → Rws K H1 us rs
  | [], [], _ => DpAll.nil
  | [], _ :: _, h => by cases h
  | _ :: _, [], h => by cases h
  | v :: us, r :: rs, h => by
    cases h with
    | cons x y =>
      obtain ⟨b, rfl, hb⟩ := dp_row x
      exact DpAll.cons (row_dp (e.tup hp hb)) (Rws.exb hp e y)
theorem NL.exb {K : PySem.W.Frag} {H H1 : Hp} {p l : Addr} {n : Nat} {ths : List (Int × Int)} (hp : Src H p) (e : Exb p H H1) (hl : l ≠ p) (h : NL K H l n ths) : NL K H1 l n ths := by
  obtain ⟨us, nrs, h1, h2, h3⟩ := h
  exact ⟨us, nrs, e _ _ hl h1, Rws.exb hp e h2, h3⟩
theorem tt_exb {K : PySem.W.Frag} {H H1 : Hp} {p r : Addr} {rows : List (List Int)} (hp : Src H p) (e : Exb p H H1) (h : Bw.TT K H r rows) : Bw.TT K H1 r rows := by
  cases h with
  | tup hs ha => exact .tup (e.tup hp hs) (Rws.exb hp e ha)
theorem TPs.tt {K : PySem.W.Frag} {H : Hp} {t : Addr} {us : List V} {prs : List (Int × Int)} (h : TPs H us prs) (ht : SqT K H t us) : Bw.TT K H t (thR prs) := by
  unfold Bw.TT thR
  rw [List.map_map]
  exact .tup ht h.dp
theorem fresh_exb {p d : Addr} {H H1 : Hp} (s : Src H1 p) (e : Exb p H H1) (nd : H1 d = none) : H d = none := e.fresh (s.ne nd) nd
theorem NB.exb {K : PySem.W.Frag} {C : Addr} {H H1 : Hp} {p t : Addr} {n : Nat} {ths : List (Int × Int)} (hp : Src H p) (e : Exb p H H1) (h : NB K C H t n ths) : NB K C H1 t n ths := by
  obtain ⟨dx, r, s, nrs, h1, h2, h3, h4⟩ := h
  refine ⟨dx, r, s, nrs, e _ _ (fun z => ?_) h1, tt_exb hp e h2, tt_exb hp e h3, h4⟩
  obtain ⟨a, b, hq, _⟩ := hp
  rw [z, hq] at h1
  cases h1

/-! ### things that may be no rows -/
def PartO (K : PySem.W.Frag) (H : Hp) (v : V) : Option Int → Prop
  | some i => v = .int i
  | none => (∃ s, v = .str s) ∨ ∃ a xs, v = .ref a ∧ SqT K H a xs
theorem PartO.same {K : PySem.W.Frag} {H H1 : Hp} {v : V} (e : Same H H1) : ∀ {o : Option Int}, PartO K H v o → PartO K H1 v o
  | some _, h => h
  | none, h => by
    rcases h with h | ⟨a, xs, h1, h2⟩
    · exact .inl h
    · exact .inr ⟨a, xs, h1, e.tup h2⟩
inductive Th
  | num
  | txt
  | row (ps : List (Option Int))
def Th.nums : Th → Bool
  | .row ps => ps.all (·.isSome)
  | _ => false
def ThV (K : PySem.W.Frag) (H : Hp) (v : V) : Th → Prop
  | .num => ∃ i, v = .int i
  | .txt => ∃ s, v = .str s
  | .row ps => ∃ a xs, v = .ref a ∧ SqT K H a xs ∧ xs.length = ps.length ∧ ps.length < 1000 ∧ ∀ (i : Nat) x o, xs[i]? = some x → ps[i]? = some o → PartO K H x o
theorem ThV.same {K : PySem.W.Frag} {H H1 : Hp} {v : V} (e : Same H H1) : ∀ {θ : Th}, ThV K H v θ → ThV K H1 v θ
  | .num, h => h
  | .txt, h => h
  | .row ps, ⟨a, xs, h1, h2, h3, h4, h5⟩ => ⟨a, xs, h1, e.tup h2, h3, h4, fun i x o a b => (h5 i x o a b).same e⟩
theorem thI {K : PySem.W.Frag} {H : Hp} {a : Addr} {ns : List Int} (h : SqT K H a (ns.map V.int)) (hl : ns.length < 1000) : ThV K H (.ref a) (.row (ns.map some)) :=
  ⟨a, _, rfl, h, by rw [List.length_map, List.length_map], by rw [List.length_map]; exact hl, fun i x o h1 h2 => by
    rw [List.getElem?_map] at h1 h2
    cases e : ns[i]? with
    | none => rw [e] at h1; cases h1
    | some c =>
      rw [e] at h1 h2
      cases Option.some.inj h1
      cases Option.some.inj h2
      rfl⟩
theorem all_some : ∀ ns : List Int, (ns.map some).all (·.isSome) = true
  | [] => rfl
  | n :: ns => by rw [List.map_cons, List.all_cons, all_some ns]; rfl
theorem some_of : ∀ {ps : List (Option Int)}, ps.all (·.isSome) = true → ∃ ns : List Int, ps = ns.map some
  | [], _ => ⟨[], rfl⟩
  | none :: ps, h => by simp at h
  | some n :: ps, h => by
    obtain ⟨ns, rfl⟩ := some_of (ps := ps) (by simpa using h)
    exact ⟨n :: ns, rfl⟩
theorem ThV.ints {K : PySem.W.Frag} {H : Hp} {v : V} {ns : List Int} (h : ThV K H v (.row (ns.map some))) : ∃ a, v = .ref a ∧ SqT K H a (ns.map V.int) ∧ ns.length < 1000 := by
  obtain ⟨a, xs, rfl, h2, h3, h4, h5⟩ := h
  rw [List.length_map] at h3 h4
  have : xs = ns.map V.int := by
    refine List.ext_getElem (by rw [List.length_map]; exact h3) fun i h6 h7 => ?_
    have g := h5 i xs[i] (some (ns[i]'(by omega))) (List.getElem?_eq_getElem h6) (by rw [List.getElem?_map, List.getElem?_eq_getElem (by omega)]; rfl)
    rw [List.getElem_map]
    exact g
  rw [this] at h2
  exact ⟨a, rfl, h2, h4⟩
theorem all_parts (ps : List (Option Int)) : ((List.range' 0 ps.length).map fun i => (ps.getD i none).isSome).all id = ps.all (·.isSome) := by
  rw [Bool.eq_iff_iff, all_map_id, List.all_eq_true]
  constructor
  · intro h x hx
    obtain ⟨i, hi, rfl⟩ := List.getElem_of_mem hx
    have := h i hi
    rw [List.getD_eq_getElem?_getD, List.getElem?_eq_getElem hi] at this
    exact this
  · intro h i hi
    rw [List.getD_eq_getElem?_getD, List.getElem?_eq_getElem hi]
    exact h _ (List.getElem_mem hi)
def Parts (K : PySem.W.Frag) (H : Hp) (xs : List V) (ps : List (Option Int)) : Prop := xs.length = ps.length ∧ ∀ (i : Nat) x o, xs[i]? = some x → ps[i]? = some o → PartO K H x o
theorem Parts.ints {K : PySem.W.Frag} {H : Hp} (ns : List Int) : Parts K H (ns.map V.int) (ns.map some) := ⟨by rw [List.length_map, List.length_map], fun i x o h1 h2 => by
  rw [List.getElem?_map] at h1 h2
  cases e : ns[i]? with
  | none => rw [e] at h1; cases h1
  | some c =>
    rw [e] at h1 h2
    cases Option.some.inj h1
    cases Option.some.inj h2
    rfl⟩
theorem Parts.one {K : PySem.W.Frag} {H : Hp} {x : V} {o : Option Int} (h : PartO K H x o) : Parts K H [x] [o] := ⟨rfl, fun i y o' h1 h2 => by
  cases i with
  | zero =>
    cases Option.some.inj h1
    cases Option.some.inj h2
    exact h
  | succ i => simp at h1⟩
theorem Parts.app {K : PySem.W.Frag} {H : Hp} {xs ys : List V} {ps qs : List (Option Int)} (h : Parts K H xs ps) (k : Parts K H ys qs) : Parts K H (xs ++ ys) (ps ++ qs) := by
  refine ⟨by rw [List.length_append, List.length_append, h.1, k.1], fun i x o h1 h2 => ?_⟩
  by_cases hi : i < xs.length
  · rw [List.getElem?_append_left hi] at h1
    rw [List.getElem?_append_left (by rw [← h.1]; exact hi)] at h2
    exact h.2 i x o h1 h2
  · rw [List.getElem?_append_right (by omega)] at h1
    rw [List.getElem?_append_right (by rw [← h.1]; omega), ← h.1] at h2
    exact k.2 _ x o h1 h2
theorem Parts.th {K : PySem.W.Frag} {H : Hp} {a : Addr} {xs : List V} {ps : List (Option Int)} (h : Parts K H xs ps) (ha : SqT K H a xs) (hl : ps.length < 1000) : ThV K H (.ref a) (.row ps) := ⟨a, xs, rfl, ha, h.1, hl, h.2⟩
theorem PartO.exb {K : PySem.W.Frag} {H H1 : Hp} {p : Addr} {v : V} (s : Src H p) (e : Exb p H H1) : ∀ {o : Option Int}, PartO K H v o → PartO K H1 v o
  | some _, h => h
  | none, h => by
    rcases h with h | ⟨a, xs, h1, h2⟩
    · exact .inl h
    · exact .inr ⟨a, xs, h1, e.tup s h2⟩
theorem ThV.exb {K : PySem.W.Frag} {H H1 : Hp} {p : Addr} {v : V} (s : Src H p) (e : Exb p H H1) : ∀ {θ : Th}, ThV K H v θ → ThV K H1 v θ
  | .num, h => h
  | .txt, h => h
  | .row ps, ⟨a, xs, h1, h2, h3, h4, h5⟩ => ⟨a, xs, h1, e.tup s h2, h3, h4, fun i x o a b => (h5 i x o a b).exb s e⟩
/-! ### maps of nets, plainly -/
def IsMapN (n m : Nat) (ths oths : List (Int × Int)) (θ : Th) : Prop := ∃ ns : List Int, θ = .row (ns.map some) ∧ ns.length = n ∧ (∀ c ∈ ns, 0 ≤ c ∧ c < (m : Nat)) ∧ ∀ e ∈ ths, Adj oths (ns.getD e.1.toNat 0) (ns.getD e.2.toNat 0)
theorem row_inj {ns ms : List Int} (h : Th.row (ns.map some) = .row (ms.map some)) : ns = ms := by
  have h2 : ns.map some = ms.map some := Th.row.inj h
  exact List.map_inj_right (fun a b z => Option.some.inj z) |>.mp h2
theorem Adj.symm {ths : List (Int × Int)} {p c : Int} (h : Adj ths p c) : Adj ths c p := h.elim .inr .inl
/-- what pulled tells -/
def pull (row ps : List Int) : List Int ⊕ Int :=
  match ps.find? fun p => decide (p < 0 ∨ (row.length : Int) ≤ p) with
  | some p => .inr p
  | none => .inl (ps.map fun p => row.getD p.toNat 0)
def pullD (row ps : List Int) : PyData :=
  match pull row ps with
  | .inl ns => rowD ns
  | .inr p => .list [.bool true, .int p]
theorem pullD_eqv (row ps : List Int) : PyData.eqv (pullD row ps) (pullD row ps) = true := by
  unfold pullD
  split
  · unfold rowD
    rw [PyData.eqv, eqvI, decide_eq_true rfl]
  · simp [PyData.eqv, PyData.eqvAll]
theorem pullD_sh (row ps : List Int) : SeqAt.shaped (pullD row ps) = true := by
  unfold pullD
  split
  · exact shT _
  · rfl
theorem pull_good {row ps : List Int} (h : ∀ p ∈ ps, 0 ≤ p ∧ p < (row.length : Int)) : pull row ps = .inl (ps.map fun p => row.getD p.toNat 0) := by
  unfold pull
  rw [List.find?_eq_none.mpr fun p hp => by
    have := h p hp
    simp
    omega]
theorem pull_bad {row ps : List Int} {i : Nat} {p : Int} (hi : ps[i]? = some p) (hp : ¬ (0 ≤ p ∧ p < (row.length : Int))) (h : ∀ j q, j < i → ps[j]? = some q → 0 ≤ q ∧ q < (row.length : Int)) : pull row ps = .inr p := by
  have : ps.find? (fun p => decide (p < 0 ∨ (row.length : Int) ≤ p)) = some p := by
    rw [List.find?_eq_some_iff_getElem]
    obtain ⟨hl, rfl⟩ := List.getElem?_eq_some_iff.mp hi
    refine ⟨decide_eq_true (by omega), i, hl, rfl, fun j hj => ?_⟩
    have := h j _ hj (List.getElem?_eq_getElem (by omega))
    simp
    omega
  unfold pull
  rw [this]
theorem cutV_init {xs : List V} (h : 0 < xs.length) : cutV xs none (some (-1)) = xs.dropLast := by
  unfold cutV
  have e1 : HT.sIx xs.length 0 none = 0 := HT.sIx_none ..
  have e2 : HT.sIx xs.length xs.length (some (-1)) = xs.length - 1 := by
    show (if (-1 : Int) < 0 then (-1 + (xs.length : Int)).toNat else min (-1 : Int).toNat xs.length) = xs.length - 1
    rw [if_pos (by decide)]
    omega
  rw [e1, e2, List.drop_zero, Nat.sub_zero, ← List.dropLast_eq_take]
/-- the same, by a look at each place -/
def badU (nrs2 : List (List Int)) (ns row : List Int) (v : Int) : List Int := row.filter fun u => !decide (ns.getD u.toNat 0 ∈ rowOf nrs2 (ns.getD v.toNat 0).toNat)
theorem map_look {n m : Nat} {ths oths : List (Int × Int)} {nrs1 nrs2 : List (List Int)} {ns : List Int} (h1 : NearOk n ths nrs1) (h2 : NearOk m oths nrs2) (hi : InN n ths) (hl : ns.length = n) (hb : ∀ c ∈ ns, 0 ≤ c ∧ c < (m : Nat)) :
    (((List.range n).map Int.ofNat).filter fun v => decide (badU nrs2 ns (rowOf nrs1 v.toNat) v ≠ [])) = [] ↔ IsMapN n m ths oths (.row (ns.map some)) := by
  have at_ : ∀ v u : Int, 0 ≤ v → v < (n : Nat) → (ns.getD u.toNat 0 ∈ rowOf nrs2 (ns.getD v.toNat 0).toNat ↔ Adj oths (ns.getD v.toNat 0) (ns.getD u.toNat 0)) := fun v u h0 hv => by
    have cv := hb _ (getD_in (ns := ns) (i := v.toNat) (by omega))
    have hi2 : (ns.getD v.toNat 0).toNat < nrs2.length := by rw [h2.len]; omega
    have hrow : nrs2[(ns.getD v.toNat 0).toNat]? = some nrs2[(ns.getD v.toNat 0).toNat] := List.getElem?_eq_getElem hi2
    rw [row_of hrow, h2.mem _ _ hrow, show (((ns.getD v.toNat 0).toNat : Nat) : Int) = ns.getD v.toNat 0 by omega]
  have at1 : ∀ v u : Int, 0 ≤ v → v < (n : Nat) → (u ∈ rowOf nrs1 v.toNat ↔ Adj ths v u) := fun v u h0 hv => by
    have hi2 : v.toNat < nrs1.length := by rw [h1.len]; omega
    have hrow : nrs1[v.toNat]? = some nrs1[v.toNat] := List.getElem?_eq_getElem hi2
    rw [row_of hrow, h1.mem _ _ hrow, show ((v.toNat : Nat) : Int) = v by omega]
  rw [List.filter_eq_nil_iff]
  constructor
  · intro h
    refine ⟨ns, rfl, hl, hb, fun e he => ?_⟩
    have hr := hi e he
    have := h e.1 (List.mem_map.mpr ⟨e.1.toNat, List.mem_range.mpr (by omega), by show ((e.1.toNat : Nat) : Int) = e.1; omega⟩)
    rw [decide_eq_true_eq] at this
    have e2 : badU nrs2 ns (rowOf nrs1 e.1.toNat) e.1 = [] := Classical.byContradiction this
    unfold badU at e2
    rw [List.filter_eq_nil_iff] at e2
    have := e2 e.2 ((at1 _ _ hr.1 (by omega)).mpr (.inl he))
    have h3 : ns.getD e.2.toNat 0 ∈ rowOf nrs2 (ns.getD e.1.toNat 0).toNat := by simpa using this
    exact (at_ _ _ hr.1 (by omega)).mp h3
  · rintro ⟨ms, e, _, _, h⟩ v hv
    cases row_inj e
    obtain ⟨k, hk, rfl⟩ := List.mem_map.mp hv
    have hkn := List.mem_range.mp hk
    rw [decide_eq_true_eq]
    intro hne
    refine hne ?_
    unfold badU
    rw [List.filter_eq_nil_iff]
    intro u hu
    have ha := (at1 (Int.ofNat k) u (by show (0 : Int) ≤ (k : Int); omega) (by show ((k : Nat) : Int) < _; omega)).mp hu
    have h3 : ns.getD u.toNat 0 ∈ rowOf nrs2 (ns.getD (Int.ofNat k).toNat 0).toNat := by
      refine (at_ (Int.ofNat k) u (by show (0 : Int) ≤ (k : Int); omega) (by show ((k : Nat) : Int) < _; omega)).mpr ?_
      rcases ha with ha | ha
      · exact h _ ha
      · exact (h _ ha).symm
    simpa using h3

def top (i : Nat) : Stmt := PySem.Challenge.pw_betweencoats_k40_maps_of_nets_and_pulled.main.body.getD i (.Pass ⟨0, 0, 0, 0⟩)
def meth (i j : Nat) : Stmt := match top i with
  | .ClassDef (body := b) .. => b.getD j (.Pass ⟨0, 0, 0, 0⟩)
  | _ => .Pass ⟨0, 0, 0, 0⟩
/-- the classes' addresses -/
structure CS where
  no : Unit := ()
  Net : Addr
  Refused : Addr
  BadPlace : Addr
/-- what the module's names hold -/
structure Txn (K : PySem.W.Frag) (mg : Str → Option Value) (cs : CS) : Prop where
  n_all : mg "all" = none
  n_bool : mg "bool" = none
  n_enumerate : mg "enumerate" = none
  n_int : mg "int" = none
  n_isinstance : mg "isinstance" = none
  n_len : mg "len" = none
  n_max : mg "max" = none
  n_range : mg "range" = none
  n_sorted : mg "sorted" = none
  n_tuple : mg "tuple" = none
  g_MOST_PLACES : ∃ t, mg "MOST_PLACES" = some (.int 24 t)
  g_MOST_THREADS : ∃ t, mg "MOST_THREADS" = some (.int 60 t)
  gm_Net : mg "Net" = some (.ref cs.Net)
  gm_Refused : mg "Refused" = some (.ref cs.Refused)
  gm_BadPlace : mg "BadPlace" = some (.ref cs.BadPlace)
  cl_Net : Cls K cs.Net
  na_Net_many : NoAttr K cs.Net "many"
  na_Net_threads : NoAttr K cs.Net "threads"
  na_Net_near : NoAttr K cs.Net "near"
  xc_BadPlace : XC K cs.BadPlace
  ex_BadPlace_Refused : PySem.W.exmOne K (.ref cs.BadPlace) (.ref cs.Refused) = some true
  ki_BadPlace_BadPlace : PySem.W.kitOne K (.ref cs.BadPlace) (.ref cs.BadPlace) = some true
abbrev s_Refused_init : Stmt := meth 1 0
theorem sc_Refused_init : FnScope ["self", "what"] ["self", "what"] (defScope s_Refused_init) := ⟨rfl, rfl, rfl, by decide +kernel, rfl, by decide +kernel, by decide +kernel⟩
abbrev s_Net_init : Stmt := meth 16 0
theorem sc_Net_init : FnScope ["self", "many", "threads", "near", "x", "y", "_", "places"] ["self", "many", "threads"] (defScope s_Net_init) := ⟨rfl, rfl, rfl, by decide +kernel, rfl, by decide +kernel, by decide +kernel⟩
abbrev s_is_number : Stmt := top 7
theorem sc_is_number : FnScope ["thing"] ["thing"] (defScope s_is_number) := ⟨rfl, rfl, rfl, by decide +kernel, rfl, by decide +kernel, by decide +kernel⟩
abbrev s_are_numbers : Stmt := top 8
theorem sc_are_numbers : FnScope ["thing", "part"] ["thing"] (defScope s_are_numbers) := ⟨rfl, rfl, rfl, by decide +kernel, rfl, by decide +kernel, by decide +kernel⟩
abbrev s_is_pair : Stmt := top 9
theorem sc_is_pair : FnScope ["thing"] ["thing"] (defScope s_is_pair) := ⟨rfl, rfl, rfl, by decide +kernel, rfl, by decide +kernel, by decide +kernel⟩
abbrev s_is_thread : Stmt := top 18
theorem sc_is_thread : FnScope ["thread", "many"] ["thread", "many"] (defScope s_is_thread) := ⟨rfl, rfl, rfl, by decide +kernel, rfl, by decide +kernel, by decide +kernel⟩
abbrev s_come_to : Stmt := top 19
theorem sc_come_to : FnScope ["net", "x", "found", "order", "at", "upper", "place"] ["net", "x"] (defScope s_come_to) := ⟨rfl, rfl, rfl, by decide +kernel, rfl, by decide +kernel, by decide +kernel⟩
abbrev s_made_net : Stmt := top 17
theorem sc_made_net : FnScope ["many", "threads", "at", "thread", "net", "reached", "place"] ["many", "threads"] (defScope s_made_net) := ⟨rfl, rfl, rfl, by decide +kernel, rfl, by decide +kernel, by decide +kernel⟩
abbrev s_is_net_map : Stmt := top 11
theorem sc_is_net_map : FnScope ["net", "other", "places", "x", "y", "place"] ["net", "other", "places"] (defScope s_is_net_map) := ⟨rfl, rfl, rfl, by decide +kernel, rfl, by decide +kernel, by decide +kernel⟩
abbrev s_pulled : Stmt := top 12
theorem sc_pulled : FnScope ["standing", "places", "place"] ["standing", "places"] (defScope s_pulled) := ⟨rfl, rfl, rfl, by decide +kernel, rfl, by decide +kernel, by decide +kernel⟩
abbrev s__law_pool : Stmt := top 21
theorem sc__law_pool : FnScope ["script", "k", "cell", "big", "mixed"] ["script", "k"] (defScope s__law_pool) := ⟨rfl, rfl, rfl, by decide +kernel, rfl, by decide +kernel, by decide +kernel⟩
abbrev s__law_take : Stmt := top 22
theorem sc__law_take : FnScope ["source", "top", "drawn"] ["source", "top"] (defScope s__law_take) := ⟨rfl, rfl, rfl, by decide +kernel, rfl, by decide +kernel, by decide +kernel⟩
abbrev s__law_one : Stmt := top 23
theorem sc__law_one : FnScope ["source", "things"] ["source", "things"] (defScope s__law_one) := ⟨rfl, rfl, rfl, by decide +kernel, rfl, by decide +kernel, by decide +kernel⟩
abbrev s__law_near : Stmt := top 24
theorem sc__law_near : FnScope ["n", "threads", "v", "p"] ["n", "threads"] (defScope s__law_near) := ⟨rfl, rfl, rfl, by decide +kernel, rfl, by decide +kernel, by decide +kernel⟩
abbrev s__law_tree : Stmt := top 25
theorem sc__law_tree : FnScope ["source", "n", "kind", "threads", "v"] ["source", "n"] (defScope s__law_tree) := ⟨rfl, rfl, rfl, by decide +kernel, rfl, by decide +kernel, by decide +kernel⟩
abbrev s__law_net : Stmt := top 26
theorem sc__law_net : FnScope ["source", "n", "more", "threads", "turn", "u", "v"] ["source", "n", "more"] (defScope s__law_net) := ⟨rfl, rfl, rfl, by decide +kernel, rfl, by decide +kernel, by decide +kernel⟩
abbrev s__law_drawn : Stmt := top 27
theorem sc__law_drawn : FnScope ["source", "near", "other", "found", "v", "some", "p", "u"] ["source", "near", "other"] (defScope s__law_drawn) := ⟨rfl, rfl, rfl, by decide +kernel, rfl, by decide +kernel, by decide +kernel⟩
abbrev s__law_bent : Stmt := top 28
theorem sc__law_bent : FnScope ["source", "places", "many", "at", "way"] ["source", "places", "many"] (defScope s__law_bent) := ⟨rfl, rfl, rfl, by decide +kernel, rfl, by decide +kernel, by decide +kernel⟩
abbrev s__law_is_map : Stmt := top 29
theorem sc__law_is_map : FnScope ["near", "other", "thing", "place", "v", "u"] ["near", "other", "thing"] (defScope s__law_is_map) := ⟨rfl, rfl, rfl, by decide +kernel, rfl, by decide +kernel, by decide +kernel⟩
abbrev s__law_told : Stmt := top 30
theorem sc__law_told : FnScope ["row", "places", "e"] ["row", "places"] (defScope s__law_told) := ⟨rfl, rfl, rfl, by decide +kernel, rfl, by decide +kernel, by decide +kernel⟩
abbrev s__law_due : Stmt := top 31
theorem sc__law_due : FnScope ["row", "places", "place"] ["row", "places"] (defScope s__law_due) := ⟨rfl, rfl, rfl, by decide +kernel, rfl, by decide +kernel, by decide +kernel⟩
abbrev s_law : Stmt := top 32
theorem sc_law : FnScope ["script", "turn", "source", "n", "many", "threads", "others", "near", "other", "net", "onto", "thing", "row", "places", "k"] ["script"] (defScope s_law) := ⟨rfl, rfl, rfl, by decide +kernel, rfl, by decide +kernel, by decide +kernel⟩
def kb_is_net_map_places_other_net_g {α : Type} : List α → List α → List α
  | [], [w0, w1, w2] => [w2, w1, w0]
  | _, _ => []
theorem kb_is_net_map_places_other_net : KwB "is_net_map" s_is_net_map ["net", "other", "places"] ["places", "other", "net"] kb_is_net_map_places_other_net_g kb_is_net_map_places_other_net_g where
  to := fun _ _ _ _ _ _ us ws h => by
    match us, ws, h with
    | [], [_, _, _], _ => rfl
  rel := fun {vs us zs ws} r s => by
    unfold kb_is_net_map_places_other_net_g
    cases r with
    | cons _ _ => exact .nil
    | nil =>
      cases s with
      | nil => exact .nil
      | cons s0 s =>
        cases s with
        | nil => exact .nil
        | cons s1 s =>
          cases s with
          | nil => exact .nil
          | cons s2 s =>
            cases s with
            | cons _ _ => exact .nil
            | nil =>
              exact (.cons s2 (.cons s1 (.cons s0 .nil)))
def kb_pulled_places_standing_g {α : Type} : List α → List α → List α
  | [], [w0, w1] => [w1, w0]
  | _, _ => []
theorem kb_pulled_places_standing : KwB "pulled" s_pulled ["standing", "places"] ["places", "standing"] kb_pulled_places_standing_g kb_pulled_places_standing_g where
  to := fun _ _ _ _ _ _ us ws h => by
    match us, ws, h with
    | [], [_, _], _ => rfl
  rel := fun {vs us zs ws} r s => by
    unfold kb_pulled_places_standing_g
    cases r with
    | cons _ _ => exact .nil
    | nil =>
      cases s with
      | nil => exact .nil
      | cons s0 s =>
        cases s with
        | nil => exact .nil
        | cons s1 s =>
          cases s with
          | cons _ _ => exact .nil
          | nil =>
            exact (.cons s1 (.cons s0 .nil))
section
variable {P : Program} {w : World} {K : PySem.W.Frag} {mg : Str → Option Value} {base : Heap} {f : Addr} {fd : FuncData} {cs : CS}
def sp_Refused_init (K : PySem.W.Frag) (_ : CS) : Sp := sp_init K
theorem ok_Refused_init (F : Fun K "__init__" "Refused.__init__" s_Refused_init f fd) (T : Txn K mg cs)  : FnOk P w K mg base CX0 1 f fd ["self", "what"] (sp_Refused_init K cs) := by
  refine F.ok sc_Refused_init (fun vs H Q E h => ?_) (fun cdv A outer s H vs Q E hr h => ?_)
  · obtain ⟨a, C, v, rfl, _⟩ := h
    rfl
  obtain ⟨a, C, v, rfl, hc, hn, ha, q⟩ := h
  refine ⟨_, (pss_one (ps_ost (pv 0) (pv 1))), ?_⟩
  exact ⟨v, rfl, .ref a, rfl, a, C, rfl, hc, hn, .inl ⟨ha, fun dx nd ne => q dx nd ne⟩⟩
def sp_Net_init (K : PySem.W.Frag) (cs : CS) : Sp := fun vs H Q E => ∃ (t dx r : Addr) (n : Nat) (ths : List (Int × Int)), vs = [.ref t, .int (n : Nat), .ref r] ∧ H t = some (.ins cs.Net dx []) ∧ TT K H r (thR ths) ∧ n ≤ 24 ∧ ths.length ≤ 60 ∧ ths.Nodup ∧ InN n ths ∧ ∀ s nrs H', NearOk n ths nrs → H' t = some (.ins cs.Net dx [("many", .int (n : Nat)), ("threads", .ref r), ("near", .ref s)]) → (∀ b o, b ≠ t → H b = some o → H' b = some o) → TT K H' s nrs → Q .non H'
theorem ok_Net_init (F : Fun K "__init__" "Net.__init__" s_Net_init f fd) (T : Txn K mg cs)  : FnOk P w K mg base CX0 1 f fd ["self", "many", "threads"] (sp_Net_init K cs) := by
  refine F.ok sc_Net_init (fun vs H Q E h => ?_) (fun cdv A outer s H vs Q E hr h => ?_)
  · obtain ⟨t, dx, r, n, ths, rfl, _⟩ := h
    rfl
  obtain ⟨t, dx, r, n, ths, rfl, ht, hT, n24, l60, nd, hi, q⟩ := h
  obtain ⟨ws, hS, hl, hget⟩ := hT.seq
  have e0 : ((n : Nat) : Int).toNat = n := Int.toNat_natCast _
  have hl2 : ws.length = ths.length := by rw [hl]; unfold thR; rw [List.length_map]
  refine ⟨_, (pss_cons (ps_setLc (i := 3) (own := [("_", 6)]) rfl sc_Net_init.nd rfl rfl (sw_true rfl rfl rfl (by decide +kernel)) (pi_range1 (by rfl) T.n_range (pa_cons (pv 1) pa_nil)) (blkOk_by (own := [("_", 6)]) (N := ["self", "many", "threads", "near", "x", "y", "_", "places"]) (sc := defScope s_Net_init) (by decide +kernel)) (fun _ _ _ _ _ => (pg_name (i := 6) sc_Net_init.nd rfl (Or.inl rfl))) (fun _ _ _ _ _ => pts_nil) (fun _ _ _ _ _ => (pe_lst pa_nil)))
      (pss_cons (ps_for PassesOwn.never rfl (piT K (pv 2)) (pg_tup rfl (pgs_cons (pg_name (i := 4) sc_Net_init.nd rfl (Or.inl rfl)) (pgs_cons (pg_name (i := 5) sc_Net_init.nd rfl (Or.inl rfl)) pgs_nil))) (pss_cons (ps_expr (pe_bm PySem.F.plainAttrs_list PySem.F.slot_list_append PySem.F.type_list_append mt_append (pe_ix (ixL K) (pv 3) (pv 4) (fun _ _ => rfl)) (pa_cons (pv 5) pa_nil)))
      (pss_one (ps_expr (pe_bm PySem.F.plainAttrs_list PySem.F.slot_list_append PySem.F.type_list_append mt_append (pe_ix (ixL K) (pv 3) (pv 5) (fun _ _ => rfl)) (pa_cons (pv 4) pa_nil))))))
      (pss_cons (ps_fld (pv 0) (pv 1) rfl)
      (pss_cons (ps_fld (pv 0) (pv 2) rfl)
      (pss_one (ps_fld (pv 0) (pe_callTy (tupOf K) (by rfl) T.n_tuple (by decide +kernel) (pa_cons (pe_lc (own := [("places", 7)]) rfl sc_Net_init.nd (piL K (pv 3)) (blkOk_by (own := [("places", 7)]) (N := ["self", "many", "threads", "near", "x", "y", "_", "places"]) (sc := defScope s_Net_init) (by decide +kernel)) (fun _ _ _ _ _ => (pg_name (i := 7) sc_Net_init.nd rfl (Or.inl rfl))) (fun _ _ _ _ _ => pts_nil) (fun _ _ _ _ _ => (pe_callTy (tupOf K) (by rfl) T.n_tuple (by decide +kernel) (pa_cons (pe_callB (sortL K) (by rfl) T.n_sorted (by decide +kernel) (pa_cons (pv 7) pa_nil)) pa_nil)))) pa_nil)) rfl)))))), ?_⟩
  refine ⟨_, rfl, _, rfl, by omega, by omega, fun D nD => ?_⟩
  rw [e0]
  refine lc_it walk_range (fun i H' => ∃ bs : List Addr, H' D = some (.lst (bs.map V.ref)) ∧ bs.length = i ∧ bs.Nodup ∧ (∀ b ∈ bs, H b = none ∧ b ≠ D ∧ H' b = some (.lst [])) ∧ Same H H') ⟨[], upd_same, rfl, List.nodup_nil, fun b hb => (by cases hb), Same.new nD⟩ (fun _ _ _ _ => trivial) ?_ ?_
  · rintro i x H1 H2 hi ⟨bs, h1, h2, h3, h4, h5⟩ ⟨rfl, rfl⟩
    refine ⟨rfl, ?_⟩
    refine tYes_i (iteT ?_)
    refine ⟨Nat.zero_le _, fun b nb => ?_⟩
    have neD : D ≠ b := fun z => by rw [← z, h1] at nb; cases nb
    refine ⟨bs.map V.ref, by rw [upd_ne neD]; exact h1, smallLt (by rw [List.length_map]; omega), bs ++ [b], by rw [upd_same, List.map_append]; rfl, by rw [List.length_append, h2]; rfl, ?_, fun c hc => ?_, (h5.trans (Same.new nb)).mut nD⟩
    · refine List.nodup_append.mpr ⟨h3, nodup1 _, fun a ha c hc => ?_⟩
      rw [List.mem_singleton.mp hc]
      intro z
      have := (h4 a ha).2.2
      rw [z, nb] at this
      cases this
    · rcases List.mem_append.mp hc with hc | hc
      · obtain ⟨g1, g2, g3⟩ := h4 c hc
        refine ⟨g1, g2, ?_⟩
        rw [upd_ne g2, upd_ne (fun z => by rw [z, nb] at g3; cases g3)]
        exact g3
      · rw [List.mem_singleton.mp hc]
        refine ⟨h5.free nb, neD.symm, ?_⟩
        rw [upd_ne neD.symm, upd_same]
  rintro H1 ⟨bs, h1, h2, h3, h4, h5⟩
  have nDb : D ∉ bs := fun z => (h4 D z).2.1 rfl
  have hB0 : HB D bs (fun _ => []) H1 := ⟨h1, fun i b hi => (h4 b (List.mem_of_getElem? hi)).2.2⟩
  have getB : ∀ i, i < n → ∃ b, bs[i]? = some b := fun i hi => ⟨bs[i]'(by omega), List.getElem?_eq_getElem (by omega)⟩
  have nbH : ∀ b, b ∈ bs → H b = none := fun b hb => (h4 b hb).1
  refine ⟨.ref r, rfl, r, rfl, ⟨_, h5.tup hS⟩, ?_⟩
  refine for_tup (xs := ws) (fun k σ H' => (∃ y4 y5, σ = [some (.ref t), some (.int (n : Nat)), some (.ref r), some (.ref D), y4, y5, none, none]) ∧ HB D bs (nR (ths.take k)) H' ∧ Same H H') ⟨⟨_, _, rfl⟩, hB0, h5⟩ (fun k σ H' _ h => h.2.2.tup hS) ?_ ?_
  · rintro k x σ H2 hk ⟨⟨y4, y5, rfl⟩, hB, sm⟩
    have hk2 : k < ths.length := by rw [← hl2]; exact (List.getElem?_eq_some_iff.mp hk).1
    obtain ⟨b, hb, hbs⟩ := hget k [ths[k].1, ths[k].2] (by unfold thR; rw [List.getElem?_map, List.getElem?_eq_getElem hk2]; rfl)
    cases Option.some.inj (hb.symm.trans hk)
    obtain ⟨i0, i1, i2⟩ := hi _ (List.getElem_mem hk2)
    have hnd : (ths.take k).Nodup := nd.sublist (List.take_sublist _ _)
    have hin : InN n (ths.take k) := fun e he => hi e (List.mem_of_mem_take he)
    have hts : ths.take (k + 1) = ths.take k ++ [ths[k]] := by rw [List.take_add_one, List.getElem?_eq_getElem hk2]; rfl
    have hnd2 : (ths.take (k + 1)).Nodup := nd.sublist (List.take_sublist _ _)
    have hin2 : InN n (ths.take (k + 1)) := fun e he => hi e (List.mem_of_mem_take he)
    obtain ⟨bx, hbx⟩ := getB ths[k].1.toNat (by omega)
    obtain ⟨bY, hbY⟩ := getB ths[k].2.toNat (by omega)
    have gx : (bs.map V.ref)[ths[k].1.toNat]? = some (.ref bx) := by rw [List.getElem?_map, hbx]; rfl
    have gy : (bs.map V.ref)[ths[k].2.toNat]? = some (.ref bY) := by rw [List.getElem?_map, hbY]; rfl
    refine ⟨b, _, rfl, sm.tup hbs, rfl, _, _, rfl, _, _, rfl, rfl, ?_⟩
    have l1 := nR_len hnd hin ths[k].1.toNat
    refine ⟨.ref D, rfl, _, rfl, D, _, _, .ref bx, rfl, rfl, SqL.of hB.d, atN gx (by omega), .inl ⟨rfl, _, SqL.of (hB.at_ _ bx hbx)⟩, _, rfl, bx, _, _, rfl, rfl, hB.at_ _ bx hbx, smallLt (by rw [List.length_map]; omega), ?_⟩
    have hB2 := hB.app (c := ths[k].2) h3 nDb hbx
    have l2 : (addL (nR (ths.take k)) ths[k].1.toNat ths[k].2 ths[k].2.toNat).length < 1000000 := by
      unfold addL
      rw [if_neg (by omega)]
      have := nR_len hnd hin ths[k].2.toNat
      omega
    have hby := hB2.at_ _ bY hbY
    refine ⟨.ref D, rfl, _, rfl, D, _, _, .ref bY, rfl, rfl, SqL.of hB2.d, atN gy (by omega), .inl ⟨rfl, _, SqL.of hby⟩, _, rfl, bY, _, _, rfl, rfl, hby, smallLt (by rw [List.length_map]; exact l2), ?_⟩
    have hB3 := hB2.app (c := ths[k].1) h3 nDb hbY
    refine ⟨⟨_, _, rfl⟩, ?_, (sm.mut (nbH bx (List.mem_of_getElem? hbx))).mut (nbH bY (List.mem_of_getElem? hbY))⟩
    rw [hts, nR_snoc]
    exact hB3
  · rintro σ H2 ⟨⟨y4, y5, rfl⟩, hB, sm⟩
    rw [hl2, List.take_length] at hB
    have neDt : D ≠ t := fun z => by rw [z, ht] at nD; cases nD
    refine ⟨_, rfl, .ref t, rfl, t, cs.Net, dx, [], rfl, sm _ _ ht, T.cl_Net, T.na_Net_many, by decide, ?_⟩
    refine ⟨_, rfl, .ref t, rfl, t, cs.Net, dx, _, rfl, upd_same, T.cl_Net, T.na_Net_threads, by show 1 < 1000; decide, ?_⟩
    have s2 : ∀ b o, b ≠ t → H2 b = some o → (upd (upd H2 t (.ins cs.Net dx (putF "many" (.int (n : Nat)) []))) t (.ins cs.Net dx (putF "threads" (.ref r) (putF "many" (.int (n : Nat)) [])))) b = some o := fun b o ne hb => by
      rw [upd_ne ne, upd_ne ne]
      exact hb
    generalize hH3 : upd (upd H2 t (.ins cs.Net dx (putF "many" (.int (n : Nat)) []))) t (.ins cs.Net dx (putF "threads" (.ref r) (putF "many" (.int (n : Nat)) []))) = H3 at s2
    have ht3 : H3 t = some (.ins cs.Net dx [("many", .int (n : Nat)), ("threads", .ref r)]) := by rw [← hH3, upd_same]; rfl
    have nbt : ∀ b ∈ bs, b ≠ t := fun b hb z => by
      have := nbH b hb
      rw [z, ht] at this
      cases this
    have hB3 : HB D bs (nR ths) H3 := ⟨s2 _ _ neDt hB.d, fun i b hb => s2 _ _ (nbt b (List.mem_of_getElem? hb)) (hB.at_ i b hb)⟩
    refine ⟨.ref D, rfl, D, rfl, ⟨_, SqL.of hB3.d⟩, fun D2 nD2 => ?_⟩
    refine lc_it (walk_list (xs := bs.map V.ref)) (fun i H' => ∃ us rs, H' D2 = some (.lst us) ∧ Rws K H' us rs ∧ rs.length = i ∧ (∀ (k : Nat) row, rs[k]? = some row → row.Perm (nR ths k) ∧ row.Pairwise (· ≤ ·)) ∧ Same H3 H') ⟨[], [], upd_same, Rws.nil, rfl, fun k row e => (by simp at e), Same.new nD2⟩ (fun i H' _ h => by
      obtain ⟨_, _, _, _, _, _, s⟩ := h
      exact SqL.of (s _ _ hB3.d)) ?_ ?_
    · rintro i x H4 H5 hi2 ⟨us, rs, g1, g2, g3, g4, g5⟩ ⟨rfl, hx2⟩
      rw [List.length_map] at hi2
      obtain ⟨b, hb⟩ := getB i (by omega)
      rw [List.getElem?_map, hb] at hx2
      cases Option.some.inj hx2
      have hRl := nR_len nd hi i
      refine ⟨rfl, ?_⟩
      refine tYes_i (iteT ?_)
      refine ⟨_, rfl, b, nR ths i, rfl, SqL.of (g5 _ _ (hB3.at_ i b hb)), by omega, fun ns' t1 perm asc nt => ?_⟩
      refine ⟨t1, _, rfl, .inl ⟨SqL.of upd_same, fun t2 nt2 => ?_⟩⟩
      have s6 := (Same.new (o := .lst (ns'.map V.int)) nt).trans (Same.new (o := .tup (ns'.map V.int)) nt2)
      have r6 := (g2.same s6).snoc (b := t2) (r := ns') (SqT.of upd_same)
      refine ⟨us, s6 _ _ g1, smallLt (by rw [g2.len]; omega), us ++ [.ref t2], rs ++ [ns'], upd_same, r6.upd (s6 _ _ g1), by rw [List.length_append, g3]; rfl, fun k row e => ?_, (g5.trans s6).mut nD2⟩
      · by_cases hk : k < rs.length
        · rw [List.getElem?_append_left hk] at e
          exact g4 k row e
        · rw [List.getElem?_append_right (by omega)] at e
          obtain ⟨hk2, hk3⟩ := List.getElem?_eq_some_iff.mp e
          have : k - rs.length = 0 := by
            have : k - rs.length < 1 := hk2
            omega
          have ek : k = i := by omega
          subst ek
          simp [this] at hk3
          subst hk3
          exact ⟨perm, asc⟩
    · rintro H4 ⟨us, rs, g1, g2, g3, g4, g5⟩
      rw [List.length_map] at g3
      refine ⟨D2, _, rfl, .inl ⟨SqL.of g1, fun t2 nt => ?_⟩⟩
      have s7 := g5.trans (Same.new (o := .tup us) nt)
      have ht7 := s7 _ _ ht3
      have tt7 : TT K (upd H4 t2 (.tup us)) t2 rs := (g2.same (Same.new nt)).tt (SqT.of upd_same)
      refine ⟨.ref t, rfl, t, cs.Net, dx, _, rfl, ht7, T.cl_Net, T.na_Net_near, by show 2 < 1000; decide, ?_⟩
      refine q t2 rs _ (near_of nd hi (by omega) g4) upd_same (fun b o ne hb => ?_) (tt7.updI ht7)
      rw [upd_ne ne]
      exact s7 _ _ (s2 _ _ ne (sm _ _ hb))
structure Txt (P : Program) (w : World) (K : PySem.W.Frag) (mg : Str → Option Value) (base : Heap) (cs : CS) : Prop extends Txn K mg cs where
  one : True
  t_Net : CalC P w K mg base 1 "Net" cs.Net ["self", "many", "threads"] (sp_Net_init K cs)
  x_BadPlace : XM P w K mg base "BadPlace" cs.BadPlace
def sp_is_number (K : PySem.W.Frag) (cs : CS) : Sp := fun vs H Q E => ∃ (v : V) (o : Option Int), vs = [v] ∧ PartO K H v o ∧ Q (.bl o.isSome) H
theorem ok_is_number (F : Fun K "is_number" "is_number" s_is_number f fd) (T : Txt P w K mg base cs)  : FnOk P w K mg base CX0 1 f fd ["thing"] (sp_is_number K cs) := by
  refine F.ok sc_is_number (fun vs H Q E h => ?_) (fun cdv A outer s H vs Q E hr h => ?_)
  · obtain ⟨v, o, rfl, _⟩ := h
    rfl
  obtain ⟨v, o, rfl, hv, q⟩ := h
  refine ⟨_, (pss_one (ps_ret (pe_and (pe_callB (isI K) (by rfl) T.n_isinstance (by decide +kernel) (pa_cons (pv 0) (pa_cons (pe_ty (T := "int") (by rfl) T.n_int (by decide +kernel)) pa_nil))) (pe_one (pe_not (pe_callB (isI K) (by rfl) T.n_isinstance (by decide +kernel) (pa_cons (pv 0) (pa_cons (pe_ty (T := "bool") (by rfl) T.n_bool (by decide +kernel)) pa_nil)))))))), ?_⟩
  cases o with
  | some i =>
    cases (show v = .int i from hv)
    refine ⟨.int i, rfl, .int i, .ty "int", .type "int", .type "int", true, rfl, .ty _, .base (.int i), kit_ty (by decide +kernel), true, rfl, iteT ?_⟩
    exact ⟨.int i, rfl, .int i, .ty "bool", .type "int", .type "bool", false, rfl, .ty _, .base (.int i), kit_ty (by decide +kernel), false, rfl, q⟩
  | none =>
    rcases hv with ⟨s, rfl⟩ | ⟨a, xs, rfl, hS⟩
    · exact ⟨.str s, rfl, .str s, .ty "int", .type "str", .type "int", false, rfl, .ty _, .base (.str s), kit_ty (by decide +kernel), false, rfl, iteF q⟩
    · exact ⟨.ref a, rfl, .ref a, .ty "int", .type "tuple", .type "int", false, rfl, .ty _, tyT hS, kit_ty (by decide +kernel), false, rfl, iteF q⟩
def sp_are_numbers (K : PySem.W.Frag) (cs : CS) : Sp := fun vs H Q E => ∃ (v : V) (θ : Th), vs = [v] ∧ ThV K H v θ ∧ ∀ H', Same H H' → Q (.bl θ.nums) H'
theorem ok_are_numbers (F : Fun K "are_numbers" "are_numbers" s_are_numbers f fd) (T : Txt P w K mg base cs) (c_is_number : Cal P w K mg base CX0 1 "is_number" ["thing"] s_is_number (sp_is_number K cs)) : FnOk P w K mg base CX0 2 f fd ["thing"] (sp_are_numbers K cs) := by
  refine F.ok sc_are_numbers (fun vs H Q E h => ?_) (fun cdv A outer s H vs Q E hr h => ?_)
  · obtain ⟨v, θ, rfl, _⟩ := h
    rfl
  obtain ⟨v, θ, rfl, hv, q⟩ := h
  refine ⟨_, (pss_one (ps_ret (pe_and (pe_callB (isI K) (by rfl) T.n_isinstance (by decide +kernel) (pa_cons (pv 0) (pa_cons (pe_ty (T := "tuple") (by rfl) T.n_tuple (by decide +kernel)) pa_nil))) (pe_one (pe_callB (allL K rfl) (by rfl) T.n_all (by decide +kernel) (pa_cons (pe_lc (own := [("part", 1)]) rfl sc_are_numbers.nd (piT K (pv 0)) (blkOk_by (own := [("part", 1)]) (N := ["thing", "part"]) (sc := defScope s_are_numbers) (by decide +kernel)) (fun _ _ _ _ _ => (pg_name (i := 1) sc_are_numbers.nd rfl (Or.inl rfl))) (fun _ _ _ _ _ => pts_nil) (fun _ _ _ _ _ => (pe_cal c_is_number (hr.mono (by decide)) pass0 (pa_cons (pv 1) pa_nil)))) pa_nil)))))), ?_⟩
  cases θ with
  | num =>
    obtain ⟨i, rfl⟩ := hv
    exact ⟨.int i, rfl, .int i, .ty "tuple", .type "int", .type "tuple", false, rfl, .ty _, .base (.int i), kit_ty (by decide +kernel), false, rfl, iteF (q _ (Same.refl _))⟩
  | txt =>
    obtain ⟨s, rfl⟩ := hv
    exact ⟨.str s, rfl, .str s, .ty "tuple", .type "str", .type "tuple", false, rfl, .ty _, .base (.str s), kit_ty (by decide +kernel), false, rfl, iteF (q _ (Same.refl _))⟩
  | row ps =>
    obtain ⟨a, xs, rfl, hS, hl, hl2, hp⟩ := hv
    refine ⟨.ref a, rfl, .ref a, .ty "tuple", .type "tuple", .type "tuple", true, rfl, .ty _, tyT hS, kit_ty (by decide +kernel), true, rfl, iteT ?_⟩
    refine ⟨.ref a, rfl, a, rfl, ⟨_, hS⟩, fun D nD => ?_⟩
    refine lc_rd (fun k => xs.getD k .non) walk_tup (fun i H x H' h hi => ⟨h.1, by rw [List.getD_eq_getElem?_getD, h.2]; rfl⟩) (fun i v _ => v = .bl (ps.getD i none).isSome) nD (by omega) (fun _ => rfl) (fun H' s => s.tup hS) (fun _ _ _ _ _ h => h) (fun k hk H' Q' s h => ?_) (fun ys H' hx hD s hv => ?_) (fun _ _ _ _ _ h _ => h)
    · have hk2 : k < ps.length := by omega
      refine ⟨_, rfl, _, ps.getD k none, rfl, ?_, h _ _ (Same.refl _) rfl⟩
      have g1 : xs[k]? = some (xs.getD k .non) := by rw [List.getD_eq_getElem?_getD, List.getElem?_eq_getElem hk]; rfl
      have g2 : ps[k]? = some (ps.getD k none) := by rw [List.getD_eq_getElem?_getD, List.getElem?_eq_getElem hk2]; rfl
      exact (hp k _ _ g1 g2).same s
    · have e := bls_of (f := fun i => (ps.getD i none).isSome) (xs := ys) 0 fun i v z => by rw [Nat.zero_add]; exact hv i v z
      rw [hx, hl] at e
      refine ⟨D, (List.range' 0 ps.length).map fun i => (ps.getD i none).isSome, rfl, SqL.of (by rw [hD, ← e]), ?_⟩
      rw [all_parts]
      exact q _ s
def sp_is_pair (K : PySem.W.Frag) (cs : CS) : Sp := fun vs H Q E => ∃ (a : Addr) (x y : Int), vs = [.ref a] ∧ SqT K H a ([x, y].map V.int) ∧ ∀ H', Same H H' → Q (.bl true) H'
theorem ok_is_pair (F : Fun K "is_pair" "is_pair" s_is_pair f fd) (T : Txt P w K mg base cs) (c_are_numbers : Cal P w K mg base CX0 2 "are_numbers" ["thing"] s_are_numbers (sp_are_numbers K cs)) : FnOk P w K mg base CX0 3 f fd ["thing"] (sp_is_pair K cs) := by
  refine F.ok sc_is_pair (fun vs H Q E h => ?_) (fun cdv A outer s H vs Q E hr h => ?_)
  · obtain ⟨a, x, y, rfl, _⟩ := h
    rfl
  obtain ⟨a, x, y, rfl, hS, q⟩ := h
  refine ⟨_, (pss_one (ps_ret (pe_and (pe_cal c_are_numbers (hr.mono (by decide)) pass0 (pa_cons (pv 0) pa_nil)) (pe_one (pe_cmpR op_eq (pe_callB (lenS K) (by rfl) T.n_len PySem.boot_len (pa_cons (pv 0) pa_nil)) pe_int (nomark _)))))), ?_⟩
  refine ⟨.ref a, rfl, .ref a, .row ([x, y].map some), rfl, thI hS (by show 2 < 1000; decide), fun H1 s1 => ⟨true, rfl, iteT ?_⟩⟩
  refine ⟨.ref a, rfl, a, _, rfl, .inr (s1.tup hS), rfl, ?_⟩
  have e : decide (V.int (([x, y].map V.int).length : Nat) = V.int 2) = true := by simp
  rw [e]
  exact q _ s1
def sp_is_thread (K : PySem.W.Frag) (cs : CS) : Sp := fun vs H Q E => ∃ (a : Addr) (x y n : Int), vs = [.ref a, .int n] ∧ SqT K H a ([x, y].map V.int) ∧ 0 ≤ x ∧ x < y ∧ y < n ∧ ∀ H', Same H H' → Q (.bl true) H'
theorem ok_is_thread (F : Fun K "is_thread" "is_thread" s_is_thread f fd) (T : Txt P w K mg base cs) (c_is_pair : Cal P w K mg base CX0 3 "is_pair" ["thing"] s_is_pair (sp_is_pair K cs)) : FnOk P w K mg base CX0 4 f fd ["thread", "many"] (sp_is_thread K cs) := by
  refine F.ok sc_is_thread (fun vs H Q E h => ?_) (fun cdv A outer s H vs Q E hr h => ?_)
  · obtain ⟨a, x, y, n, rfl, _⟩ := h
    rfl
  obtain ⟨a, x, y, n, rfl, hS, h0, h1, h2, q⟩ := h
  refine ⟨_, (pss_one (ps_ret (pe_and (pe_cal c_is_pair (hr.mono (by decide)) pass0 (pa_cons (pv 0) pa_nil)) (pe_one (pe_chain3 op_le op_lt op_lt pe_int (pe_ix (ixT K) (pv 0) pe_int (fun _ _ => rfl)) (pe_ix (ixT K) (pv 0) pe_int (fun _ _ => rfl)) (pv 1)))))), ?_⟩
  refine ⟨.ref a, rfl, a, x, y, rfl, hS, fun H1 s1 => ⟨true, rfl, iteT ?_⟩⟩
  have hS1 := s1.tup hS
  refine ⟨.ref a, rfl, a, _, 0, .int x, rfl, rfl, hS1, atI0, 0, x, rfl, rfl, _, rfl, itT (decide_eq_true h0) ⟨.ref a, rfl, a, _, 1, .int y, rfl, rfl, hS1, atI1, _, _, rfl, rfl, _, rfl, itT (decide_eq_true h1) ⟨_, rfl, _, _, rfl, rfl, ?_⟩⟩⟩
  have := q _ s1
  rw [← decide_eq_true h2] at this
  exact this
def sp_come_to (K : PySem.W.Frag) (cs : CS) : Sp := fun vs H Q E => ∃ (t : Addr) (n : Nat) (ths : List (Int × Int)) (x : Nat), vs = [.ref t, .int (x : Nat)] ∧ NB K cs.Net H t n ths ∧ n ≤ 24 ∧ InN n ths ∧ x < n ∧ ∀ (d : Addr) (ord : List (Int × Int)) (H' : Hp), Same H H' → H' d = some (.dK (kvOf ord)) → Ord ths (x : Nat) ord → Q (.ref d) H'
theorem ok_come_to (F : Fun K "come_to" "come_to" s_come_to f fd) (T : Txt P w K mg base cs)  : FnOk P w K mg base CX0 1 f fd ["net", "x"] (sp_come_to K cs) := by
  refine F.ok sc_come_to (fun vs H Q E h => ?_) (fun cdv A outer s H vs Q E hr h => ?_)
  · obtain ⟨t, n, ths, x, rfl, _⟩ := h
    rfl
  obtain ⟨t, n, ths, x, rfl, ⟨dx, r, s, nrs, ht, hT, hN, hOk⟩, n24, hin, hx, q⟩ := h
  obtain ⟨ws, hS, hl, hget⟩ := hN.seq
  refine ⟨_, (pss_cons (ps_set (i := 2) sc_come_to.nd rfl (Or.inl rfl) (pe_disp (pps_cons (pv 1) (pe_un un_neg pe_int) pps_nil) rfl rfl (by decide) (by decide)))
      (pss_cons (ps_set (i := 3) sc_come_to.nd rfl (Or.inl rfl) (pe_lst (pa_cons (pv 1) pa_nil)))
      (pss_cons (ps_set (i := 4) sc_come_to.nd rfl (Or.inl rfl) pe_int)
      (pss_cons (ps_while PassesOwn.never (pt_cmpR op_lt (pv 4) (pe_callB (lenS K) (by rfl) T.n_len PySem.boot_len (pa_cons (pv 3) pa_nil)) (nomark _)) (pss_cons (ps_set (i := 5) sc_come_to.nd rfl (Or.inl rfl) (pe_ix (ixL K) (pv 3) (pv 4) (fun _ _ => rfl)))
      (pss_cons (ps_for PassesOwn.never rfl (piT K (pe_ix (ixT K) (peF K (pv 0)) (pv 5) (fun _ _ => rfl))) (pg_name (i := 6) sc_come_to.nd rfl (Or.inl rfl)) (pss_one (ps_if (pt_cmp (pc_dnotin (hu1 hr) (pv 6) (pv 2))) (pss_cons (ps_dput (hu1 hr) (pv 2) (pv 6) (pv 5) rfl)
      (pss_one (ps_expr (pe_bm PySem.F.plainAttrs_list PySem.F.slot_list_append PySem.F.type_list_append mt_append (pv 3) (pa_cons (pv 6) pa_nil))))) pss_nil)))
      (pss_one (ps_aug (i := 4) sc_come_to.nd rfl (Or.inl rfl) pe_int ip_add)))))
      (pss_one (ps_ret (pv 2))))))), ?_⟩
  refine fun d nd => ⟨_, rfl, 1, rfl, upd_same, [(.inl (x : Int), .int (-1))], rfl, by show 1 ≤ 15; decide, ?_⟩
  have hd0 : upd (upd H d (.dK [])) d (.dK (mergeK [] [(.inl (x : Int), .int (-1))])) d = some (.dK (kvOf [((x : Int), -1)])) := upd_same
  have sd0 : Same H (upd (upd H d (.dK [])) d (.dK (mergeK [] [(.inl (x : Int), .int (-1))]))) := (Same.new nd).mut nd
  generalize upd (upd H d (.dK [])) d (.dK (mergeK [] [(.inl (x : Int), .int (-1))])) = H0 at hd0 sd0
  refine ⟨_, rfl, by show 1 ≤ sizeLine; decide, fun l nl => ?_⟩
  have nlH := sd0.free nl
  have ndl : d ≠ l := fun z => by rw [← z, hd0] at nl; cases nl
  refine ⟨fun m σ H' => ∃ (ord : List (Int × Int)) (at_ : Nat) (y5 y6 : Option V), σ = [some (.ref t), some (.int (x : Nat)), some (.ref d), some (.ref l), some (.int (at_ : Nat)), y5, y6] ∧ m = n - at_ ∧ Same H H' ∧ Bfs ths x n ord at_ ∧ H' d = some (.dK (kvOf ord)) ∧ H' l = some (.lst ((ord.map (·.1)).map V.int)),
    ⟨_, [((x : Int), -1)], 0, none, none, rfl, rfl, sd0.trans (Same.new nl), Bfs.start hx, by rw [upd_ne ndl]; exact hd0, upd_same⟩, ?_⟩
  rintro m σ H1 ⟨ord, a0, y5, y6, rfl, rfl, sm, hB, hd, hlo⟩
  have hlen := hB.size
  refine ⟨_, rfl, .ref l, rfl, l, _, rfl, .inl (SqL.of hlo), _, _, rfl, rfl, _, rfl, ?_⟩
  by_cases c : a0 < ord.length
  · refine itT (decide_eq_true (by rw [List.length_map, List.length_map]; omega)) ?_
    obtain ⟨p0, p1⟩ := hB.rng _ (List.getElem_mem c)
    have g1 : ((ord.map (·.1)).map V.int)[a0]? = some (.int ord[a0].1) := by rw [List.getElem?_map, List.getElem?_map, List.getElem?_eq_getElem c]; rfl
    have hi : ord[a0].1.toNat < nrs.length := by rw [hOk.len]; omega
    have hrow : nrs[ord[a0].1.toNat]? = some nrs[ord[a0].1.toNat] := List.getElem?_eq_getElem hi
    obtain ⟨b, hb, hbs⟩ := hget _ _ hrow
    have hm := hOk.mem _ _ hrow
    rw [show ((ord[a0].1.toNat : Nat) : Int) = ord[a0].1 by omega] at hm
    generalize nrs[ord[a0].1.toNat] = row at hrow hbs hm
    refine ⟨fun σ' H' => ∃ m', m' < n - a0 ∧ ∃ (ord : List (Int × Int)) (at_ : Nat) (y5 y6 : Option V), σ' = [some (.ref t), some (.int (x : Nat)), some (.ref d), some (.ref l), some (.int (at_ : Nat)), y5, y6] ∧ m' = n - at_ ∧ Same H H' ∧ Bfs ths x n ord at_ ∧ H' d = some (.dK (kvOf ord)) ∧ H' l = some (.lst ((ord.map (·.1)).map V.int)), fun σ' H' h => h, ?_⟩
    refine ⟨.ref l, rfl, _, rfl, l, _, _, _, rfl, rfl, SqL.of hlo, atN g1 rfl, ?_⟩
    refine ⟨.ref t, rfl, t, _, dx, _, .ref s, rfl, sm _ _ ht, T.cl_Net, T.na_Net_near, rfl, _, rfl, s, ws, _, .ref b, rfl, rfl, sm.tup hS, atN hb (by omega), b, rfl, ⟨_, sm.tup hbs⟩, ?_⟩
    refine for_tup (xs := row.map V.int) (fun k σ H' => ∃ (ex : List (Int × Int)) (y6 : Option V), σ = [some (.ref t), some (.int (x : Nat)), some (.ref d), some (.ref l), some (.int (a0 : Nat)), some (.int ord[a0].1), y6] ∧ Same H H' ∧ Bfs ths x n (ord ++ ex) a0 ∧ (∀ c ∈ row.take k, c ∈ (ord ++ ex).map (·.1)) ∧ H' d = some (.dK (kvOf (ord ++ ex))) ∧ H' l = some (.lst (((ord ++ ex).map (·.1)).map V.int))) ⟨[], y6, rfl, sm, by rw [List.append_nil]; exact hB, fun c hc => (by rw [List.take_zero] at hc; cases hc), by rw [List.append_nil]; exact hd, by rw [List.append_nil]; exact hlo⟩ (fun k σ H' _ h => by
      obtain ⟨_, _, _, s, _⟩ := h
      exact s.tup hbs) ?_ ?_
    · rintro k z σ H2 hk ⟨ex, y6, rfl, s2, hB2, hcl, hd2, hl2⟩
      obtain ⟨hk2, rfl⟩ := num_map k row z hk
      have hz := (hm row[k]).mp (List.getElem_mem hk2)
      have hlen2 := hB2.size
      have hkl : (kvOf (ord ++ ex)).length ≤ n := by unfold kvOf; rw [List.length_map]; exact hlen2
      refine ⟨_, rfl, .ref d, rfl, d, _, rfl, .inl ⟨_, .inl row[k], .inl hd2, rfl, rfl⟩, _, rfl, ?_⟩
      rw [valV_of]
      by_cases cm : row[k] ∈ (ord ++ ex).map (·.1)
      · rw [decide_eq_true cm]
        refine iteF ⟨ex, _, rfl, s2, hB2, fun c hc => ?_, hd2, hl2⟩
        rw [List.take_add_one, List.getElem?_eq_getElem hk2] at hc
        rcases List.mem_append.mp hc with hc | hc
        · exact hcl c hc
        · have : c = row[k] := by simpa using hc
          rw [this]; exact cm
      · rw [decide_eq_false cm]
        refine iteT ?_
        have hnew : valV (kvOf (ord ++ ex)) (.inl row[k]) = none := by
          have := valV_of (p := row[k]) (ord := ord ++ ex)
          rw [decide_eq_false cm] at this
          exact Option.isSome_eq_false_iff.mp this |> Option.isNone_iff_eq_none.mp
        have ndl2 : l ≠ d := ndl.symm
        refine ⟨_, rfl, .ref d, rfl, _, rfl, d, _, rfl, .inl ⟨_, .inl row[k], hd2, rfl, smallLt (by omega), rfl⟩, ?_⟩
        refine ⟨.ref l, rfl, .inl ⟨rfl, _, SqL.of (by rw [upd_ne ndl2]; exact hl2)⟩, _, rfl, l, _, _, rfl, rfl, by rw [upd_ne ndl2]; exact hl2, smallLt (by rw [List.length_map, List.length_map]; omega), ?_⟩
        refine ⟨ex ++ [(row[k], ord[a0].1)], _, rfl, (s2.mut nd).mut nlH, ?_, fun c hc => ?_, ?_, ?_⟩
        · rw [← List.append_assoc]
          exact hB2.snoc cm (by rw [List.length_append]; omega) (by rw [List.getElem?_append_left c, List.getElem?_eq_getElem c]) hz (adj_lt hin hz)
        · rw [← List.append_assoc, List.map_append]
          rw [List.take_add_one, List.getElem?_eq_getElem hk2] at hc
          rcases List.mem_append.mp hc with hc | hc
          · exact List.mem_append_left _ (hcl c hc)
          · have : c = row[k] := by simpa using hc
            rw [this]
            exact List.mem_append_right _ (List.mem_singleton_self _)
        · rw [upd_ne ndl, upd_same, putK_new _ hnew, ← List.append_assoc]
          unfold kvOf
          rw [List.map_append (l₁ := ord ++ ex)]
          rfl
        · rw [upd_same, ← snocV, ← List.append_assoc, List.map_append (l₁ := ord ++ ex)]
          rfl
    · rintro σ H2 ⟨ex, y6, rfl, s2, hB2, hcl, hd2, hl2⟩
      rw [List.length_map, List.take_length] at hcl
      refine ⟨_, rfl, _, _, rfl, rfl, ?_⟩
      refine ⟨n - (a0 + 1), by omega, ord ++ ex, a0 + 1, _, _, rfl, rfl, s2, ?_, hd2, hl2⟩
      refine hB2.next (fun e he c' hc' => ?_) (by rw [List.length_append]; omega)
      rw [List.getElem?_append_left c, List.getElem?_eq_getElem c] at he
      cases Option.some.inj he
      exact hcl c' ((hm c').mpr hc')
  · refine itF (decide_eq_false (by rw [List.length_map, List.length_map]; omega)) ?_
    exact ⟨.ref d, rfl, q d ord H1 sm hd (hB.fin (by omega))⟩
theorem mk_nb {H : Hp} {r : Addr} {n : Nat} {ths : List (Int × Int)} {Q : VK} (hr : TT K H r (thR ths)) (g : GoodN n ths) (q : ∀ x H2, Same H H2 → NB K cs.Net H2 x n ths → Q (.ref x) H2) : ∀ x dx, H x = none → H dx = none → dx ≠ x →
    sp_Net_init K cs (.ref x :: ([.int (n : Nat), .ref r] ++ [])) (upd (upd H dx (.own x)) x (.ins cs.Net dx [])) (fun v H2 => v = .non ∧ Q (.ref x) H2) E0 := by
  intro x dx nx ndx ne
  have s1 : Same H (upd (upd H dx (.own x)) x (.ins cs.Net dx [])) := (Same.new ndx).mut nx
  refine ⟨x, dx, r, n, ths, rfl, upd_same, hr.same s1, g.n24, g.len, g.nodup, g.rng, fun s nrs H' hO h1 h2 h3 => ⟨rfl, ?_⟩⟩
  have s2 : Same H H' := fun b o e => h2 b o (ne_of_none e nx) (s1 b o e)
  exact q x H' s2 ⟨dx, r, s, nrs, h1, hr.same s2, h3, hO⟩
def sp_made_net (K : PySem.W.Frag) (cs : CS) : Sp := fun vs H Q E => ∃ (r : Addr) (n : Nat) (ths : List (Int × Int)), vs = [.int (n : Nat), .ref r] ∧ TT K H r (thR ths) ∧ GoodN n ths ∧ ∀ t H', Same H H' → NB K cs.Net H' t n ths → Q (.ref t) H'
theorem ok_made_net (F : Fun K "made_net" "made_net" s_made_net f fd) (T : Txt P w K mg base cs) (c_is_thread : Cal P w K mg base CX0 4 "is_thread" ["thread", "many"] s_is_thread (sp_is_thread K cs)) (c_come_to : Cal P w K mg base CX0 1 "come_to" ["net", "x"] s_come_to (sp_come_to K cs)) : FnOk P w K mg base CX0 5 f fd ["many", "threads"] (sp_made_net K cs) := by
  refine F.ok sc_made_net (fun vs H Q E h => ?_) (fun cdv A outer s H vs Q E hr h => ?_)
  · obtain ⟨r, n, ths, rfl, _⟩ := h
    rfl
  obtain ⟨r, n, ths, rfl, hT, gN, q⟩ := h
  obtain ⟨ws, hS, hl, hget⟩ := hT.seq
  have hl2 : ws.length = ths.length := by rw [hl]; unfold thR; rw [List.length_map]
  have n1 := gN.n1
  have n24 := gN.n24
  have l60 := gN.len
  obtain ⟨tp, hp⟩ := T.g_MOST_PLACES
  obtain ⟨tt, ht⟩ := T.g_MOST_THREADS
  refine ⟨_, (pss_cons (ps_if (pt_not (pt_chain op_le op_le pe_int (pv 0) (pe_gint rfl T.g_MOST_PLACES))) (pss_one ps_never) pss_nil)
      (pss_cons (ps_if (pt_cmpR op_gt (pe_callB (lenS K) (by rfl) T.n_len PySem.boot_len (pa_cons (pv 1) pa_nil)) (pe_gint rfl T.g_MOST_THREADS) (nomark _)) (pss_one ps_never) pss_nil)
      (pss_cons (ps_for PassesOwn.never rfl (pi_enumT (by rfl) T.n_enumerate (pa_cons (pv 1) pa_nil)) (pg_tup rfl (pgs_cons (pg_name (i := 2) sc_made_net.nd rfl (Or.inl rfl)) (pgs_cons (pg_name (i := 3) sc_made_net.nd rfl (Or.inl rfl)) pgs_nil))) (pss_one (ps_if (PW.pt (pw_or (pt_not (pt_val (pe_cal c_is_thread (hr.mono (by decide)) pass0 (pa_cons (pv 3) (pa_cons (pv 0) pa_nil))))) (pw_or1 (PW.pt (pw_and (pt_cmpR op_gt (pv 2) pe_int (nomark _)) (pw_and1 (pt_cmpR (leT K (hu0 hr)) (pv 3) (pe_ix (ixT K) (pv 1) (pe_op op_sub (pv 2) pe_int) (fun _ _ => rfl)) (nomark _)))))))) (pss_one ps_never) pss_nil)))
      (pss_cons (ps_set (i := 4) sc_made_net.nd rfl (Or.inl rfl) (pe_mk T.t_Net (hr.mono (by decide)) (pa_cons (pv 0) (pa_cons (pv 1) pa_nil))))
      (pss_cons (ps_set (i := 5) sc_made_net.nd rfl (Or.inl rfl) (pe_cal c_come_to (hr.mono (by decide)) pass0 (pa_cons (pv 4) (pa_cons pe_int pa_nil))))
      (pss_cons (ps_for PassesOwn.never rfl (pi_range1 (by rfl) T.n_range (pa_cons (pv 0) pa_nil)) (pg_name (i := 6) sc_made_net.nd rfl (Or.inl rfl)) (pss_one (ps_if (pt_cmp (pc_dnotin (hu1 hr) (pv 6) (pv 5))) (pss_one ps_never) pss_nil)))
      (pss_one (ps_ret (pv 4))))))))), ?_⟩
  refine ⟨_, rfl, 1, _, rfl, rfl, _, rfl, itT (decide_eq_true (by omega)) ⟨_, 24, rfl, rfl, _, rfl, ?_⟩⟩
  rw [decide_eq_true (show ((n : Nat) : Int) ≤ 24 by omega)]
  refine iteF ?_
  refine ⟨.ref r, rfl, r, _, rfl, .inr hS, _, _, rfl, rfl, _, rfl, itF (decide_eq_false (by omega)) ?_⟩
  refine ⟨.ref r, rfl, r, _, rfl, hS, for_it walk_enumT (fun i σ H' => (∃ y1 y2, σ = [some (.int (n : Nat)), some (.ref r), y1, y2, none, none, none]) ∧ Same H H') ⟨⟨_, _, rfl⟩, Same.refl _⟩ (fun i σ H' _ h => Same.tup h.2 hS) ?_ ?_⟩
  · rintro i x σ H1 H2 hi ⟨⟨y1, y2, rfl⟩, sm⟩ ⟨Tt, x1, x2, rfl, nT, rfl, f1, f2⟩
    have hi2 : i < ths.length := by omega
    obtain ⟨b, hb, hbs⟩ := hget i [ths[i].1, ths[i].2] (by unfold thR; rw [List.getElem?_map, List.getElem?_eq_getElem hi2]; rfl)
    cases Option.some.inj (hb.symm.trans f2)
    cases Option.some.inj f1
    obtain ⟨i0, i1, i2⟩ := gN.rng _ (List.getElem_mem hi2)
    have sm2 := sm.trans (Same.new (o := .tup [.int (i : Nat), .ref b]) nT)
    refine ⟨Tt, _, rfl, .inl (.inl upd_same), rfl, _, _, rfl, _, _, rfl, rfl, ?_⟩
    refine ⟨_, rfl, _, rfl, b, _, _, _, rfl, sm2.tup hbs, i0, i1, i2, fun H3 s3 => ⟨true, rfl, iteF ?_⟩⟩
    have sm3 := sm2.trans s3
    by_cases c : 0 < i
    · refine ⟨_, rfl, _, 0, rfl, rfl, _, rfl, itT (decide_eq_true (by omega)) ?_⟩
      obtain ⟨b2, hb2, hbs2⟩ := hget (i - 1) [(ths[i - 1]'(by omega)).1, (ths[i - 1]'(by omega)).2] (by unfold thR; rw [List.getElem?_map, List.getElem?_eq_getElem (by omega)]; rfl)
      have hlt := (List.pairwise_iff_getElem.mp gN.asc) (i - 1) i (by omega) hi2 (by omega)
      refine ⟨_, rfl, .ref r, rfl, _, rfl, _, 1, rfl, rfl, r, ws, _, .ref b2, rfl, rfl, sm3.tup hS, atN hb2 (by omega), b, b2, _, _, rfl, rfl, sm3.tup hbs, sm3.tup hbs2, _, rfl, ?_⟩
      exact itF (le2 hlt) ⟨⟨_, _, rfl⟩, sm3⟩
    · refine ⟨_, rfl, _, 0, rfl, rfl, _, rfl, itF (decide_eq_false (by omega)) ?_⟩
      exact iteF ⟨⟨_, _, rfl⟩, sm3⟩
  rintro σ H1 ⟨⟨y1, y2, rfl⟩, sm⟩
  dsimp only
  refine asgK (fun v H' => ∃ t, v = .ref t ∧ Same H1 H' ∧ NB K cs.Net H' t n ths) (fun R hR => ⟨_, rfl, .ref r, rfl, mk_nb (hT.same sm) gN fun t H2 s2 hB => hR _ _ ⟨t, rfl, s2, hB⟩⟩) ?_
  rintro v H2 ⟨t, rfl, s2, hB⟩
  refine ⟨_, rfl, t, n, ths, 0, rfl, hB, n24, gN.rng, n1, fun d ord H3 s3 hd ho => ?_⟩
  refine ⟨_, rfl, _, rfl, by omega, by omega, ?_⟩
  have e0 : ((n : Nat) : Int).toNat = n := Int.toNat_natCast _
  rw [e0]
  refine for_range (fun i σ H' => (∃ y6, σ = [some (.int (n : Nat)), some (.ref r), y1, y2, some (.ref t), some (.ref d), y6]) ∧ H' = H3) ⟨⟨_, rfl⟩, rfl⟩ ?_ ?_
  · rintro i σ H4 hi ⟨⟨y6, rfl⟩, rfl⟩
    refine ⟨_, rfl, .ref d, rfl, d, _, rfl, .inl ⟨_, .inl (0 + (i : Int)), .inl hd, rfl, rfl⟩, _, rfl, ?_⟩
    rw [valV_of, Int.zero_add, decide_eq_true (gN.con ord ho i hi)]
    exact iteF ⟨⟨_, rfl⟩, rfl⟩
  · rintro σ H4 ⟨⟨y6, rfl⟩, rfl⟩
    exact ⟨_, rfl, q t H4 ((sm.trans s2).trans s3) (hB.same s3)⟩
def sp_is_net_map (K : PySem.W.Frag) (cs : CS) : Sp := fun vs H Q E => ∃ (t1 t2 : Addr) (v : V) (n m : Nat) (ths oths : List (Int × Int)) (θ : Th), vs = [.ref t1, .ref t2, v] ∧ NB K cs.Net H t1 n ths ∧ NB K cs.Net H t2 m oths ∧ InN n ths ∧ ths.length ≤ 60 ∧ ThV K H v θ ∧ (IsMapN n m ths oths θ → ∀ H', Same H H' → Q (.bl true) H') ∧ (¬ IsMapN n m ths oths θ → ∀ H', Same H H' → Q (.bl false) H')
theorem ok_is_net_map (F : Fun K "is_net_map" "is_net_map" s_is_net_map f fd) (T : Txt P w K mg base cs) (c_are_numbers : Cal P w K mg base CX0 2 "are_numbers" ["thing"] s_are_numbers (sp_are_numbers K cs)) : FnOk P w K mg base CX0 3 f fd ["net", "other", "places"] (sp_is_net_map K cs) := by
  refine F.ok sc_is_net_map (fun vs H Q E h => ?_) (fun cdv A outer s H vs Q E hr h => ?_)
  · obtain ⟨t1, t2, v, n, m, ths, oths, θ, rfl, _⟩ := h
    rfl
  obtain ⟨t1, t2, v, n, m, ths, oths, θ, rfl, ⟨dx1, r1, s1, nrs1, ht1, hT1, hN1, hO1⟩, ⟨dx2, r2, s2, nrs2, ht2, hT2, hN2, hO2⟩, hin, h60, hv, qt, qf⟩ := h
  refine ⟨_, (pss_cons (ps_if (PW.pt (pw_or (pt_not (pt_val (pe_cal c_are_numbers (hr.mono (by decide)) pass0 (pa_cons (pv 2) pa_nil)))) (pw_or1 (pt_cmpR op_ne (pe_callB (lenS K) (by rfl) T.n_len PySem.boot_len (pa_cons (pv 2) pa_nil)) (peF K (pv 0)) (nomark _))))) (pss_one (ps_ret pe_bl)) pss_nil)
      (pss_cons (ps_if (pt_not (pt_val (pe_callB (allL K rfl) (by rfl) T.n_all (by decide +kernel) (pa_cons (pe_lc (own := [("place", 5)]) rfl sc_is_net_map.nd (piT K (pv 2)) (blkOk_by (own := [("place", 5)]) (N := ["net", "other", "places", "x", "y", "place"]) (sc := defScope s_is_net_map) (by decide +kernel)) (fun _ _ _ _ _ => (pg_name (i := 5) sc_is_net_map.nd rfl (Or.inl rfl))) (fun _ _ _ _ _ => pts_nil) (fun _ _ _ _ _ => (pe_chain op_le op_lt pe_int (pv 5) (peF K (pv 1))))) pa_nil)))) (pss_one (ps_ret pe_bl)) pss_nil)
      (pss_one (ps_ret (pe_callB (allL K rfl) (by rfl) T.n_all (by decide +kernel) (pa_cons (pe_lc (own := [("x", 3), ("y", 4)]) rfl sc_is_net_map.nd (piT K (peF K (pv 0))) (blkOk_by (own := [("x", 3), ("y", 4)]) (N := ["net", "other", "places", "x", "y", "place"]) (sc := defScope s_is_net_map) (by decide +kernel)) (fun _ _ _ _ _ => (pg_tupK (n := 2) K rfl (pgs_cons (pg_name (i := 3) sc_is_net_map.nd rfl (Or.inl rfl)) (pgs_cons (pg_name (i := 4) sc_is_net_map.nd rfl (Or.inl rfl)) pgs_nil)))) (fun _ _ _ _ _ => pts_nil) (fun _ _ _ _ _ => (pe_cmpR (inS K) (pe_ix (ixT K) (pv 2) (pv 4) (fun _ _ => rfl)) (pe_ix (ixT K) (peF K (pv 1)) (pe_ix (ixT K) (pv 2) (pv 3) (fun _ _ => rfl)) (fun _ _ => rfl)) rfl))) pa_nil)))))), ?_⟩
  obtain ⟨us2, hU2, hul2, hget2⟩ := hN2.seq
  obtain ⟨us1, hU1, hul1, hget1⟩ := hT1.seq
  have dv : ∀ a b : Int, decide (V.int a = V.int b) = decide (a = b) := fun a b => decide_eq_decide.mpr ⟨V.int.inj, congrArg _⟩
  refine ⟨_, rfl, v, θ, rfl, hv, fun H1 sm1 => ⟨θ.nums, rfl, ?_⟩⟩
  by_cases hb : θ.nums = true
  case neg =>
    rw [Bool.eq_false_iff.mpr hb]
    refine iteT (qf (fun z => hb ?_) _ sm1)
    obtain ⟨ns, rfl, _⟩ := z
    exact all_some ns
  obtain ⟨ns, rfl⟩ : ∃ ns : List Int, θ = .row (ns.map some) := by
    cases θ with
    | num => cases hb
    | txt => cases hb
    | row ps =>
      obtain ⟨ns, rfl⟩ := some_of hb
      exact ⟨ns, rfl⟩
  obtain ⟨a, rfl, hS, hl⟩ := hv.ints
  rw [hb]
  refine iteF ?_
  refine ⟨.ref a, rfl, a, _, rfl, .inr (sm1.tup hS), .ref t1, rfl, t1, _, dx1, _, _, rfl, sm1 _ _ ht1, T.cl_Net, T.na_Net_many, rfl, rfl, _, rfl, ?_⟩
  rw [dv, List.length_map]
  by_cases c : ns.length = n
  case neg =>
    refine itT (by rw [decide_eq_false (by omega)]; rfl) (qf (fun z => c ?_) _ sm1)
    obtain ⟨ms, e, e2, _⟩ := z
    rw [row_inj e]
    exact e2
  refine itF (by rw [decide_eq_true (by omega)]; rfl) ?_
  refine ⟨.ref a, rfl, a, rfl, ⟨_, sm1.tup hS⟩, fun D nD => ?_⟩
  refine lc_rd (fun k => .int (ns.getD k 0)) walk_tup yInt (fun k v _ => v = .bl (decide (0 ≤ ns.getD k 0 ∧ ns.getD k 0 < (m : Nat)))) nD (by rw [List.length_map]; omega) (fun _ => rfl) (fun H' s => (sm1.trans s).tup hS) (fun _ _ _ _ _ h => h) (fun k hk H' Q' s h => ?_) (fun xs H' hx hD s hv => ?_) (fun _ _ _ _ _ h _ => h)
  · have ht2' := (sm1.trans s) _ _ ht2
    by_cases c1 : 0 ≤ ns.getD k 0
    · refine ⟨_, rfl, 0, _, rfl, rfl, _, rfl, itT (decide_eq_true c1) ⟨.ref t2, rfl, t2, _, dx2, _, _, rfl, ht2', T.cl_Net, T.na_Net_many, rfl, _, _, rfl, rfl, ?_⟩⟩
      refine h _ _ (Same.refl _) ?_
      exact congrArg V.bl (decide_eq_decide.mpr ⟨fun z => ⟨c1, z⟩, fun z => z.2⟩)
    · refine ⟨_, rfl, 0, _, rfl, rfl, _, rfl, itF (decide_eq_false c1) ?_⟩
      refine h _ _ (Same.refl _) ?_
      exact congrArg V.bl (decide_eq_false (fun z => c1 z.1)).symm
  have e := bls_of (f := fun k => decide (0 ≤ ns.getD k 0 ∧ ns.getD k 0 < (m : Nat))) (xs := xs) 0 fun i v z => by rw [Nat.zero_add]; exact hv i v z
  rw [hx, List.length_map] at e
  have sm2 := sm1.trans s
  refine ⟨D, (List.range' 0 ns.length).map fun k => decide (0 ≤ ns.getD k 0 ∧ ns.getD k 0 < (m : Nat)), rfl, SqL.of (by rw [hD, ← e]), _, rfl, ?_⟩
  by_cases c2 : ∀ p ∈ ns, 0 ≤ p ∧ p < (m : Nat)
  case neg =>
    have e2 : ((List.range' 0 ns.length).map fun k => decide (0 ≤ ns.getD k 0 ∧ ns.getD k 0 < (m : Nat))).all id = false := Bool.eq_false_iff.mpr fun z => c2 fun p hp => by
      obtain ⟨i, hi, rfl⟩ := List.getElem_of_mem hp
      have := of_decide_eq_true (all_map_id.mp z i hi)
      rw [List.getD_eq_getElem?_getD, List.getElem?_eq_getElem hi] at this
      exact this
    rw [e2]
    refine iteT (qf (fun z => c2 ?_) _ sm2)
    obtain ⟨ms, e, _, e2, _⟩ := z
    rw [row_inj e]
    exact e2
  have e2 : ((List.range' 0 ns.length).map fun k => decide (0 ≤ ns.getD k 0 ∧ ns.getD k 0 < (m : Nat))).all id = true := all_map_id.mpr fun i hi => decide_eq_true (c2 _ (getD_in hi))
  rw [e2]
  refine iteF ?_
  have atP : ∀ x : Int, 0 ≤ x → x < (n : Nat) → atI (ns.map V.int) x = some (.int (ns.getD x.toNat 0)) := fun x h0 h1 => by
    refine atN (j := x.toNat) ?_ (by omega)
    rw [List.getElem?_map, List.getElem?_eq_getElem (by omega), List.getD_eq_getElem?_getD, List.getElem?_eq_getElem (by omega)]
    rfl
  have hthl : us1.length = ths.length := by rw [hul1]; unfold thR; rw [List.length_map]
  have hin2 : ∀ i, i < ths.length → 0 ≤ (ths.getD i (0, 0)).1 ∧ (ths.getD i (0, 0)).1 < (n : Nat) ∧ 0 ≤ (ths.getD i (0, 0)).2 ∧ (ths.getD i (0, 0)).2 < (n : Nat) := fun i hi => by
    rw [List.getD_eq_getElem?_getD, List.getElem?_eq_getElem hi]
    have := hin _ (List.getElem_mem hi)
    show 0 ≤ ths[i].1 ∧ _ ∧ 0 ≤ ths[i].2 ∧ _
    exact ⟨by omega, by show ths[i].1 < _; omega, by omega, by show ths[i].2 < _; omega⟩
  refine ⟨.ref t1, rfl, t1, _, dx1, _, .ref r1, rfl, sm2 _ _ ht1, T.cl_Net, T.na_Net_threads, rfl, r1, rfl, ⟨_, sm2.tup hU1⟩, fun D2 nD2 => ?_⟩
  refine lc_rdG (walk_tup (xs := us1)) (fun i => [some (.ref t1), some (.ref t2), some (.ref a), some (.int (ths.getD i (0, 0)).1), some (.int (ths.getD i (0, 0)).2), none]) (fun i v _ => v = .bl (decide (ns.getD (ths.getD i (0, 0)).2.toNat 0 ∈ rowOf nrs2 (ns.getD (ths.getD i (0, 0)).1.toNat 0).toNat))) ?_ nD2 ?_ (fun _ _ => rfl) (fun H' s => (sm2.trans s).tup hU1) (fun _ _ _ _ _ h => h) ?_ ?_ (fun _ _ _ _ _ h _ => h)
  · rintro i x H2 H3 Qk hi s3 ⟨rfl, hx⟩
    rw [hthl] at hi
    obtain ⟨b, hb, hbs⟩ := hget1 i [ths[i].1, ths[i].2] (by unfold thR; rw [List.getElem?_map, List.getElem?_eq_getElem hi]; rfl)
    cases Option.some.inj (hb.symm.trans hx)
    refine ⟨Same.refl _, fun q => ⟨b, _, rfl, (sm2.trans s3).tup hbs, rfl, _, _, rfl, _, _, rfl, rfl, ?_⟩⟩
    rw [List.getD_eq_getElem?_getD, List.getElem?_eq_getElem hi] at q
    exact q
  · rw [hthl]
    have := h60
    omega
  · intro k hk H' Q' s3 h
    rw [hthl] at hk
    obtain ⟨x0, x1, y0, y1⟩ := hin2 k hk
    have cx := c2 _ (getD_in (ns := ns) (i := (ths.getD k (0, 0)).1.toNat) (by omega))
    have hi2 : (ns.getD (ths.getD k (0, 0)).1.toNat 0).toNat < nrs2.length := by rw [hO2.len]; omega
    have hrow : nrs2[(ns.getD (ths.getD k (0, 0)).1.toNat 0).toNat]? = some nrs2[(ns.getD (ths.getD k (0, 0)).1.toNat 0).toNat] := List.getElem?_eq_getElem hi2
    obtain ⟨b2, hb2, hbs2⟩ := hget2 _ _ hrow
    have hS2 := (sm2.trans s3).tup hS
    refine ⟨.ref a, rfl, _, rfl, a, _, _, _, rfl, rfl, hS2, atP _ y0 y1, .ref t2, rfl, t2, _, dx2, _, .ref s2, rfl, (sm2.trans s3) _ _ ht2, T.cl_Net, T.na_Net_near, rfl, .ref a, rfl, _, rfl, a, _, _, _, rfl, rfl, hS2, atP _ x0 x1, s2, us2, _, .ref b2, rfl, rfl, (sm2.trans s3).tup hU2, atN hb2 (by omega), b2, _, rfl, .inr ((sm2.trans s3).tup hbs2), rfl, flat_ints _, ?_⟩
    rw [← row_of hrow, inV_dec]
    exact h _ _ (Same.refl _) rfl
  · intro xs3 H3 hx3 hD3 s3 hv3
    have e3 := bls_of (f := fun i => decide (ns.getD (ths.getD i (0, 0)).2.toNat 0 ∈ rowOf nrs2 (ns.getD (ths.getD i (0, 0)).1.toNat 0).toNat)) (xs := xs3) 0 fun i v z => by rw [Nat.zero_add]; exact hv3 i v z
    rw [hx3, hthl] at e3
    refine ⟨D2, (List.range' 0 ths.length).map fun i => decide (ns.getD (ths.getD i (0, 0)).2.toNat 0 ∈ rowOf nrs2 (ns.getD (ths.getD i (0, 0)).1.toNat 0).toNat), rfl, SqL.of (by rw [hD3, ← e3]), ?_⟩
    have key : ((List.range' 0 ths.length).map fun i => decide (ns.getD (ths.getD i (0, 0)).2.toNat 0 ∈ rowOf nrs2 (ns.getD (ths.getD i (0, 0)).1.toNat 0).toNat)).all id = true ↔ IsMapN n m ths oths (.row (ns.map some)) := by
      rw [all_map_id]
      have at_ : ∀ i, (hi : i < ths.length) → (ns.getD (ths.getD i (0, 0)).2.toNat 0 ∈ rowOf nrs2 (ns.getD (ths.getD i (0, 0)).1.toNat 0).toNat ↔ Adj oths (ns.getD ths[i].1.toNat 0) (ns.getD ths[i].2.toNat 0)) := fun i hi => by
        obtain ⟨x0, x1, y0, y1⟩ := hin2 i hi
        have e : ths.getD i (0, 0) = ths[i] := by rw [List.getD_eq_getElem?_getD, List.getElem?_eq_getElem hi]; rfl
        rw [e] at x0 x1 y0 y1 ⊢
        have cx := c2 _ (getD_in (ns := ns) (i := ths[i].1.toNat) (by omega))
        have hi2 : (ns.getD ths[i].1.toNat 0).toNat < nrs2.length := by rw [hO2.len]; omega
        have hrow : nrs2[(ns.getD ths[i].1.toNat 0).toNat]? = some nrs2[(ns.getD ths[i].1.toNat 0).toNat] := List.getElem?_eq_getElem hi2
        rw [row_of hrow, hO2.mem _ _ hrow, show (((ns.getD ths[i].1.toNat 0).toNat : Nat) : Int) = ns.getD ths[i].1.toNat 0 by omega]
      constructor
      · intro h
        refine ⟨ns, rfl, c, c2, fun e he => ?_⟩
        obtain ⟨i, hi, rfl⟩ := List.getElem_of_mem he
        exact (at_ i hi).mp (of_decide_eq_true (h i hi))
      · rintro ⟨ms, e, _, _, h⟩ i hi
        cases row_inj e
        exact decide_eq_true ((at_ i hi).mpr (h _ (List.getElem_mem hi)))
    have sm3 := sm2.trans s3
    by_cases hm : IsMapN n m ths oths (.row (ns.map some))
    · rw [key.mpr hm]
      exact qt hm _ sm3
    · rw [Bool.eq_false_iff.mpr fun z => hm (key.mp z)]
      exact qf hm _ sm3
def sp_pulled (K : PySem.W.Frag) (cs : CS) : Sp := fun vs H Q E => ∃ (r a : Addr) (row ps : List Int), vs = [.ref r, .ref a] ∧ SqT K H r (row.map V.int) ∧ SqT K H a (ps.map V.int) ∧ ps.length < 1000 ∧ (∀ ns, pull row ps = .inl ns → ∀ t H', Same H H' → SqT K H' t (ns.map V.int) → Q (.ref t) H') ∧ (∀ p, pull row ps = .inr p → ∀ d, H d = none → E (.ref cs.BadPlace) (some d) (upd H d (.xd [("what", .int p)])))
theorem ok_pulled (F : Fun K "pulled" "pulled" s_pulled f fd) (T : Txt P w K mg base cs)  : FnOk P w K mg base (L2.CX P w) 3 f fd ["standing", "places"] (sp_pulled K cs) := by
  refine F.okX sc_pulled (fun vs H Q E h => ?_) (fun cdv A outer s H vs Q E hr h => ?_)
  · obtain ⟨r, a, row, ps, rfl, _⟩ := h
    rfl
  obtain ⟨r, a, row, ps, rfl, hR, hS, hl, qg, qb⟩ := h
  refine ⟨_, (pss_cons (ps_for (passes_of rfl) rfl (piT K (pv 1)) (pg_name (i := 2) sc_pulled.nd rfl (Or.inl rfl)) (pss_one (ps_if (pt_not (pt_chain op_le op_lt pe_int (pv 2) (pe_callB (lenS K) (by rfl) T.n_len PySem.boot_len (pa_cons (pv 0) pa_nil)))) (pss_one (ps_raiseW rfl T.x_BadPlace (hr.mono (by decide)) (takes_of rfl rfl rfl rfl) (pa_cons (pv 2) pa_nil))) pss_nil)))
      (pss_one (ps_ret (pe_callTy (tupOf K) (by rfl) T.n_tuple (by decide +kernel) (pa_cons (pe_lc (own := [("place", 2)]) rfl sc_pulled.nd (piT K (pv 1)) (blkOk_by (own := [("place", 2)]) (N := ["standing", "places", "place"]) (sc := defScope s_pulled) (by decide +kernel)) (fun _ _ _ _ _ => (pg_name (i := 2) sc_pulled.nd rfl (Or.inl rfl))) (fun _ _ _ _ _ => pts_nil) (fun _ _ _ _ _ => (pe_ix (ixT K) (pv 0) (pv 2) (fun _ _ => rfl)))) pa_nil))))), ?_⟩
  refine ⟨.ref a, rfl, a, rfl, ⟨_, hS⟩, ?_⟩
  refine for_tup (xs := ps.map V.int) (fun k σ H' => (∃ y, σ = [some (.ref r), some (.ref a), y]) ∧ H' = H ∧ ∀ (j : Nat) q, j < k → ps[j]? = some q → 0 ≤ q ∧ q < (row.length : Int)) ⟨⟨_, rfl⟩, rfl, fun j q hj => absurd hj (by omega)⟩ (fun k σ H' _ h => by rw [h.2.1]; exact hS) ?_ ?_
  · rintro k x σ H1 hk ⟨⟨y, rfl⟩, rfl, ok⟩
    obtain ⟨hk2, rfl⟩ := num_map k ps x hk
    by_cases c : 0 ≤ ps[k] ∧ ps[k] < (row.length : Int)
    · refine ⟨_, rfl, 0, _, rfl, rfl, _, rfl, itT (decide_eq_true c.1) ⟨_, rfl, r, _, rfl, .inr hR, _, _, rfl, rfl, _, rfl, ?_⟩⟩
      rw [List.length_map, decide_eq_true c.2]
      refine iteF ⟨⟨_, rfl⟩, rfl, fun j q hj hq => ?_⟩
      by_cases e : j < k
      · exact ok j q e hq
      · obtain rfl : j = k := by omega
        rw [List.getElem?_eq_getElem hk2] at hq
        cases Option.some.inj hq
        exact c
    · have bad := pull_bad (List.getElem?_eq_getElem hk2) c ok
      by_cases c0 : 0 ≤ ps[k]
      · refine ⟨_, rfl, 0, _, rfl, rfl, _, rfl, itT (decide_eq_true c0) ⟨_, rfl, r, _, rfl, .inr hR, _, _, rfl, rfl, _, rfl, ?_⟩⟩
        rw [List.length_map, decide_eq_false (fun z => c ⟨c0, z⟩)]
        refine iteT ?_
        exact ⟨_, rfl, made_what T.xc_BadPlace fun d nd => qb _ bad d nd⟩
      · refine ⟨_, rfl, 0, _, rfl, rfl, _, rfl, itF (decide_eq_false c0) ⟨_, rfl, iteT ?_⟩⟩
        exact ⟨_, rfl, made_what T.xc_BadPlace fun d nd => qb _ bad d nd⟩
  · rintro σ H1 ⟨⟨y, rfl⟩, rfl, ok⟩
    rw [List.length_map] at ok
    have ok2 : ∀ p ∈ ps, 0 ≤ p ∧ p < (row.length : Int) := fun p hp => by
      obtain ⟨i, hi, rfl⟩ := List.getElem_of_mem hp
      exact ok i _ hi (List.getElem?_eq_getElem hi)
    refine ⟨.ref a, rfl, a, rfl, ⟨_, hS⟩, fun D nD => ?_⟩
    refine lc_mapI (fun p => row.getD p.toNat 0) hS nD (by omega) (fun _ => rfl) (fun c hc H' Q' s h => ?_) (fun H3 hD2 s3 => ?_)
    · have := ok2 c hc
      have g : (row.map V.int)[c.toNat]? = some (.int (row.getD c.toNat 0)) := by
        rw [List.getElem?_map, List.getElem?_eq_getElem (by omega), List.getD_eq_getElem?_getD, List.getElem?_eq_getElem (by omega)]
        rfl
      exact ⟨.ref r, rfl, _, rfl, r, _, _, _, rfl, rfl, s.tup hR, atN g (by omega), h _ _ (Same.refl _) rfl⟩
    · refine ⟨D, _, rfl, .inl ⟨SqL.of hD2, fun p np => ?_⟩⟩
      exact qg _ (pull_good ok2) p _ (s3.trans (Same.new np)) (SqT.of upd_same)
def sp__law_pool (K : PySem.W.Frag) (cs : CS) : Sp := fun vs H Q E => ∃ (a : Addr) (ns : List Int) (k : Int), vs = [.ref a, .int k] ∧ SqL K H a (ns.map V.int) ∧ 0 ≤ k ∧ k < 1000 ∧ ∀ p H', H p = none → Same H H' → Src H' p → Q (.ref p) H'
theorem ok__law_pool (F : Fun K "_law_pool" "_law_pool" s__law_pool f fd) (T : Txt P w K mg base cs)  : FnOk P w K mg base CX0 1 f fd ["script", "k"] (sp__law_pool K cs) := by
  refine F.ok sc__law_pool (fun vs H Q E h => ?_) (fun cdv A outer s H vs Q E hr h => ?_)
  · obtain ⟨a, ns, k, rfl, _⟩ := h
    rfl
  obtain ⟨a, ns, k, rfl, hS, hk, hk2, q⟩ := h
  obtain ⟨j, rfl⟩ : ∃ j : Nat, k = (j : Int) := ⟨k.toNat, by omega⟩
  have hjj : (0 : Int) ≤ 7919 * (j : Int) * (j : Int) ∧ 7919 * (j : Int) * (j : Int) ≤ 7919000 * 1000 := by
    have h1 : (0 : Int) ≤ 7919 * (j : Int) := by omega
    have h2 : 7919 * (j : Int) ≤ 7919000 := by omega
    exact ⟨Int.mul_nonneg h1 hk, Int.mul_le_mul h2 (by omega) hk (by decide)⟩
  refine ⟨_, (pss_cons (ps_set (i := 2) sc__law_pool.nd rfl (Or.inl rfl) pe_int)
      (pss_cons (ps_if (pt_cmpR op_lt (pv 1) (pe_callB (lenS K) (by rfl) T.n_len PySem.boot_len (pa_cons (pv 0) pa_nil)) (nomark _)) (pss_one (ps_set (i := 2) sc__law_pool.nd rfl (Or.inl rfl) (pe_ix (ixL K) (pv 0) (pv 1) (fun _ _ => rfl)))) (pss_one (ps_if (pt_truth (pv 0) (by intro _; rfl)) (pss_one (ps_set (i := 2) sc__law_pool.nd rfl (Or.inl rfl) (pe_ix (ixL K) (pv 0) pe_int (fun _ _ => rfl)))) pss_nil)))
      (pss_cons (ps_set (i := 3) sc__law_pool.nd rfl (Or.inl rfl) (pe_callB (call_max2 rfl) (by rfl) T.n_max (by decide +kernel) (pa_cons (pe_callTy call_int1 (by rfl) T.n_int (by decide +kernel) (pa_cons (pv 2) pa_nil)) (pa_cons (pe_callTy call_int1 (by rfl) T.n_int (by decide +kernel) (pa_cons (pe_op op_sub (pe_un un_neg pe_int) (pv 2)) pa_nil)) pa_nil))))
      (pss_cons (ps_set (i := 4) sc__law_pool.nd rfl (Or.inl rfl) (pe_op op_mod (pe_callTy call_int1 (by rfl) T.n_int (by decide +kernel) (pa_cons (pe_op op_mul (pe_op op_add (pe_op op_add (pe_op op_add (pe_op op_mod (pe_callTy call_int1 (by rfl) T.n_int (by decide +kernel) (pa_cons (pv 3) pa_nil)) pe_int) (pe_op op_mul (pe_op op_mul pe_int (pv 1)) (pv 1))) (pe_op op_mul pe_int (pv 1))) pe_int) pe_int) pa_nil)) pe_int))
      (pss_one (ps_ret (pe_lst (pa_cons (pe_op op_mul (pv 3) (pe_callTy call_int1 (by rfl) T.n_int (by decide +kernel) (pa_cons (pe_cmpR op_ge (pv 3) (pe_op op_pow pe_int pe_int) (nomark _)) pa_nil))) (pa_cons (pv 4) pa_nil))))))))), ?_⟩
  refine ⟨.int j, rfl, .ref a, rfl, a, _, rfl, .inl hS, j, _, rfl, rfl, _, rfl, ite2
    (fun c => ⟨.ref a, rfl, .int j, rfl, a, _, j, .int (ns.getD j 0), rfl, rfl, hS, atI_nat ?_, ?_⟩)
    (fun c => ⟨.ref a, rfl, _, .inl ⟨_, hS, rfl⟩, ite2 (fun c2 => ⟨.ref a, rfl, a, _, 0, .int (ns.getD 0 0), rfl, rfl, hS, atN (j := 0) ?_ rfl, ?_⟩) (fun c2 => ?_)⟩)⟩
  · have h1 : j < ns.length := by
      have z := of_decide_eq_true c
      rw [List.length_map] at z
      omega
    rw [List.getElem?_map, List.getD_eq_getElem?_getD, List.getElem?_eq_getElem h1]
    rfl
  rotate_left
  · cases ns with
    | nil => cases c2
    | cons n ns => rfl
  all_goals
    refine ⟨_, rfl, .inl ⟨_, rfl, 1, rfl, _, rfl, _, _, rfl, rfl, .inl ⟨_, rfl, _, _, rfl, ?_⟩⟩⟩
    refine ⟨_, rfl, .inl ⟨_, rfl, _, 2147483629, rfl, rfl, by show (0 : Int) < 2147483629; decide, _, rfl, _, _, rfl, rfl, .inl ⟨by omega, by omega⟩, _, rfl, _, _, rfl, rfl, .inl ⟨by omega, by omega⟩, _, _, rfl, rfl, _, rfl, _, _, rfl, rfl, .inl ⟨by omega, by omega⟩, _, _, rfl, rfl, _, _, rfl, rfl, _, _, rfl, rfl, .inl ?_, .inl ⟨_, rfl, _, 2147483647, rfl, rfl, by show (0 : Int) < 2147483647; decide, ?_⟩⟩⟩
    · exact mixB hjj hk hk2
    · refine ⟨_, rfl, _, rfl, _, _, rfl, rfl, ⟨by decide, by decide, by decide⟩, _, _, rfl, rfl, .inr ⟨_, rfl, _, _, rfl, rfl, .inr (b01 _), _, rfl, by show 2 ≤ sizeLine; decide, fun p np => ?_⟩⟩
      refine q p _ np (Same.new np) ⟨_, _, upd_same, ?_, Int.emod_nonneg _ (by decide), Int.emod_lt_of_pos _ (by decide)⟩
      refine Int.mul_nonneg ?_ ?_
      · split <;> omega
      · exact b0 _
def sp__law_take (K : PySem.W.Frag) (cs : CS) : Sp := fun vs H Q E => ∃ (p : Addr) (t : Int), vs = [.ref p, .int t] ∧ Src H p ∧ 0 < t ∧ t < 2000000000 ∧ ∀ r H', 0 ≤ r → r < t → Src H' p → Exb p H H' → Q (.int r) H'
theorem ok__law_take (F : Fun K "_law_take" "_law_take" s__law_take f fd) (T : Txt P w K mg base cs)  : FnOk P w K mg base CX0 1 f fd ["source", "top"] (sp__law_take K cs) := by
  refine F.ok sc__law_take (fun vs H Q E h => ?_) (fun cdv A outer s H vs Q E hr h => ?_)
  · obtain ⟨p, t, rfl, _⟩ := h
    rfl
  obtain ⟨p, t, rfl, ⟨a, b, hp, ha, hb, hb2⟩, ht, ht2, q⟩ := h
  refine ⟨_, (pss_cons (ps_if (pt_cmpR op_gt (pe_ix (ixL K) (pv 0) pe_int (fun _ _ => rfl)) pe_int (nomark _)) (pss_cons (ps_set (i := 2) sc__law_take.nd rfl (Or.inl rfl) (pe_op op_mod (pe_callTy call_int1 (by rfl) T.n_int (by decide +kernel) (pa_cons (pe_ix (ixL K) (pv 0) pe_int (fun _ _ => rfl)) pa_nil)) (pv 1)))
      (pss_cons (ps_asg (pe_op op_fdivW (pe_ix (ixL K) (pv 0) pe_int (fun _ _ => rfl)) (pv 1)) (pg_sub (pv 0) pe_int set_list))
      (pss_one (ps_ret (pv 2))))) pss_nil)
      (pss_cons (ps_asg (pe_op op_mod (pe_callTy call_int1 (by rfl) T.n_int (by decide +kernel) (pa_cons (pe_op op_add (pe_op op_mul (pe_ix (ixL K) (pv 0) pe_int (fun _ _ => rfl)) pe_int) pe_int) pa_nil)) pe_int) (pg_sub (pv 0) pe_int set_list))
      (pss_one (ps_ret (pe_op op_mod (pe_callTy call_int1 (by rfl) T.n_int (by decide +kernel) (pa_cons (pe_op op_fdivW (pe_op op_mod (pe_callTy call_int1 (by rfl) T.n_int (by decide +kernel) (pa_cons (pe_op op_mul (pe_ix (ixL K) (pv 0) pe_int (fun _ _ => rfl)) (pe_ix (ixL K) (pv 0) pe_int (fun _ _ => rfl))) pa_nil)) pe_int) pe_int) pa_nil)) (pv 1)))))), ?_⟩
  -- source[0] > 0
  refine ⟨.ref p, rfl, p, _, 0, .int a, rfl, rfl, SqL.of hp, atI0, a, 0, rfl, rfl, _, rfl, ite2 (fun c => ?_) (fun c => ?_)⟩
  · -- drawn = int(source[0]) % top; source[0] = source[0] // top; return drawn
    refine ⟨.ref p, rfl, p, _, 0, .int a, rfl, rfl, SqL.of hp, atI0, .inl ⟨a, rfl, .int t, rfl, a, t, rfl, rfl, ht, ?_⟩⟩
    refine ⟨.ref p, rfl, p, _, 0, .int a, rfl, rfl, SqL.of hp, atI0, .int t, rfl, a, t, rfl, rfl, wide_div (b := 64) ht (by omega) (by decide) (by decide), ?_⟩
    refine ⟨.ref p, rfl, p, _, 0, 0, rfl, rfl, hp, rfl, ?_⟩
    refine ⟨.int (a % t), rfl, ?_⟩
    exact q _ _ (Int.emod_nonneg _ (by omega)) (Int.emod_lt_of_pos _ ht) ⟨a / t, b, upd_same, Int.ediv_nonneg ha (by omega), hb, hb2⟩ Exb.at
  · refine ⟨.ref p, rfl, p, _, 1, .int b, rfl, rfl, SqL.of hp, atI1, b, 39373, rfl, rfl, .inl ⟨by omega, by omega⟩, _, 7, rfl, rfl, .inl ⟨_, rfl, _, 2147483647, rfl, rfl, by show (0 : Int) < 2147483647; decide, ?_⟩⟩
    refine ⟨.ref p, rfl, p, _, 1, 1, rfl, rfl, hp, rfl, ?_⟩
    have h1 : (0 : Int) ≤ (b * 39373 + 7) % 2147483647 := Int.emod_nonneg _ (by decide)
    have h2 : (b * 39373 + 7) % 2147483647 < 2147483647 := Int.emod_lt_of_pos _ (by decide)
    have hp2 : (upd H p (.lst [.int a, .int ((b * 39373 + 7) % 2147483647)])) p = some (.lst [.int a, .int ((b * 39373 + 7) % 2147483647)]) := upd_same
    refine ⟨.ref p, rfl, p, [.int a, .int ((b * 39373 + 7) % 2147483647)], 1, _, rfl, rfl, SqL.of hp2, atI1, .ref p, rfl, p, [.int a, .int ((b * 39373 + 7) % 2147483647)], 1, _, rfl, rfl, SqL.of hp2, atI1, _, _, rfl, rfl, .inl ⟨by omega, by omega⟩, ?_⟩
    refine .inl ⟨_, rfl, _, 2147483629, rfl, rfl, by show (0 : Int) < 2147483629; decide, _, 32, rfl, rfl, ⟨by decide, by decide⟩, .inl ⟨_, rfl, .int t, rfl, _, t, rfl, rfl, ht, ?_⟩⟩
    exact q _ _ (Int.emod_nonneg _ (by omega)) (Int.emod_lt_of_pos _ ht) ⟨a, _, hp2, ha, h1, h2⟩ Exb.at
def sp__law_one (K : PySem.W.Frag) (cs : CS) : Sp := fun vs H Q E => ∃ (p a : Addr) (xs : List V), vs = [.ref p, .ref a] ∧ Src H p ∧ H a = some (.lst xs) ∧ a ≠ p ∧ 0 < xs.length ∧ xs.length < 1000000 ∧ ∀ v H', v ∈ xs → Src H' p → Exb p H H' → Q v H'
theorem ok__law_one (F : Fun K "_law_one" "_law_one" s__law_one f fd) (T : Txt P w K mg base cs) (c__law_take : Cal P w K mg base CX0 1 "_law_take" ["source", "top"] s__law_take (sp__law_take K cs)) : FnOk P w K mg base CX0 2 f fd ["source", "things"] (sp__law_one K cs) := by
  refine F.ok sc__law_one (fun vs H Q E h => ?_) (fun cdv A outer s H vs Q E hr h => ?_)
  · obtain ⟨p, a, xs, rfl, _⟩ := h
    rfl
  obtain ⟨p, a, xs, rfl, hs, ha, hne, h0, h1, q⟩ := h
  refine ⟨_, (pss_one (ps_ret (pe_ix (ixL K) (pv 1) (pe_cal c__law_take (hr.mono (by decide)) pass0 (pa_cons (pv 0) (pa_cons (pe_callB (lenS K) (by rfl) T.n_len PySem.boot_len (pa_cons (pv 1) pa_nil)) pa_nil))) (fun _ _ => rfl)))), ?_⟩
  refine ⟨.ref a, rfl, .ref p, rfl, .ref a, rfl, a, xs, rfl, .inl (SqL.of ha), p, xs.length, rfl, hs, by omega, by omega, fun r H' r0 r1 s' e => ?_⟩
  obtain ⟨j, rfl⟩ : ∃ j : Nat, r = (j : Int) := ⟨r.toNat, by omega⟩
  have hj : j < xs.length := by omega
  refine ⟨a, xs, j, xs[j], rfl, rfl, SqL.of (e.lst hne ha), atI_nat (List.getElem?_eq_getElem hj), ?_⟩
  exact q _ _ (List.getElem_mem hj) s' e
def sp__law_near (K : PySem.W.Frag) (cs : CS) : Sp := fun vs H Q E => ∃ (r : Addr) (n : Nat) (ths : List (Int × Int)), vs = [.int (n : Nat), .ref r] ∧ TT K H r (thR ths) ∧ n ≤ 24 ∧ InN n ths ∧ ∀ l H', H l = none → Same H H' → NL K H' l n ths → Q (.ref l) H'
theorem ok__law_near (F : Fun K "_law_near" "_law_near" s__law_near f fd) (T : Txt P w K mg base cs)  : FnOk P w K mg base CX0 1 f fd ["n", "threads"] (sp__law_near K cs) := by
  refine F.ok sc__law_near (fun vs H Q E h => ?_) (fun cdv A outer s H vs Q E hr h => ?_)
  · obtain ⟨r, n, ths, rfl, _⟩ := h
    rfl
  obtain ⟨r, n, ths, rfl, hT, hn, hi, q⟩ := h
  refine ⟨_, (pss_one (ps_ret (pe_lc (own := [("v", 2)]) rfl sc__law_near.nd (pi_range1 (by rfl) T.n_range (pa_cons (pv 0) pa_nil)) (blkOk_by (own := [("v", 2)]) (N := ["n", "threads", "v", "p"]) (sc := defScope s__law_near) (by decide +kernel)) (fun _ _ _ _ _ => (pg_name (i := 2) sc__law_near.nd rfl (Or.inr rfl))) (fun _ _ _ _ _ => pts_nil) (fun _ _ _ _ _ => (pe_callTy (tupOf K) (by rfl) T.n_tuple (by decide +kernel) (pa_cons (pe_lc (own := [("p", 3)]) rfl sc__law_near.nd (pi_range1 (by rfl) T.n_range (pa_cons (pv 0) pa_nil)) (blkOk_by (own := [("p", 3)]) (N := ["n", "threads", "v", "p"]) (sc := ({ kind := PySem.ScopeKind.function, names := [ (PySem.Str.ofString ".0", PySem.NameKind.local), (PySem.Str.ofString "v", PySem.NameKind.cell), (PySem.Str.ofString "tuple", PySem.NameKind.globalImplicit), (PySem.Str.ofString "range", PySem.NameKind.globalImplicit), (PySem.Str.ofString "n", PySem.NameKind.cell), (PySem.Str.ofString "threads", PySem.NameKind.cell)], isGenerator := false, isCoroutine := false, more := [] : PySem.Scope })) (by decide +kernel)) (fun _ _ _ _ _ => (pg_name (i := 3) sc__law_near.nd rfl (Or.inl rfl))) (fun _ _ _ _ _ => (pts_one (PW.pt (pw_or (pt_cmpR (inX K (hu65 hr)) (pe_tup (pa_cons (pv 2) (pa_cons (pv 3) pa_nil))) (pv 1) rfl) (pw_or1 (pt_cmpR (inX K (hu65 hr)) (pe_tup (pa_cons (pv 3) (pa_cons (pv 2) pa_nil))) (pv 1) rfl)))))) (fun _ _ _ _ _ => (pv 3))) pa_nil)))))), ?_⟩
  refine ⟨_, rfl, n, rfl, by omega, by omega, fun D nD => ?_⟩
  rw [Int.toNat_natCast]
  have hT2 : Dp K H (.ref r) (.tuple (ths.map fun e => rowD [e.1, e.2])) := by
    have h := hT
    unfold Bw.TT thR at h
    rw [List.map_map] at h
    exact h
  refine lc_rd (fun k => .int (0 + (k : Int))) walk_range (fun _ _ _ _ y _ => y) (fun i v H' => ∃ b, v = .ref b ∧ SqT K H' b ((bsr n ths i).map V.int)) nD (by omega) (fun _ => rfl) (fun _ _ => trivial) (fun i v H H' s h => ?_) (fun i hi H' Q' s h => ?_) (fun xs H' hl hD s hv => ?_) (fun i v H x y h hx => ?_)
  · obtain ⟨b, rfl, hb⟩ := h
    exact ⟨b, rfl, s.tup hb⟩
  · refine ⟨_, rfl, n, rfl, by omega, by omega, fun D2 nD2 => ?_⟩
    rw [Int.toNat_natCast]
    refine lc_fs ((List.range n).map Int.ofNat) walk_range (by rw [List.length_map, List.length_range]) yRng (fun c => decide ((Int.ofNat i, c) ∈ ths ∨ (c, Int.ofNat i) ∈ ths)) V.int nD2 (by omega) (fun _ => rfl) (fun _ _ => trivial) (fun c _ H2 Q2 s2 hq => ?_) (fun c _ _ H2 Q2 _ hq => ⟨_, rfl, hq _ (Same.refl _)⟩) (fun H2 hD2 s2 => ?_)
    · have hP2 := dp_same (s.trans s2) _ _ hT2
      refine ⟨_, rfl, _, rfl, by show 2 ≤ sizeLine; decide, fun u nu => ?_⟩
      have hP3 := dp_same (Same.new (o := .tup [.int (0 + (i : Int)), .int c]) nu) _ _ hP2
      refine ⟨_, rfl, rowD [Int.ofNat i, c], _, row_dp (r := [Int.ofNat i, c]) (SqT.of (by rw [upd_same, Int.zero_add]; rfl)), .inr hP3, shRow _, shPL _, _, rfl, ?_⟩
      rw [any_pair]
      by_cases m1 : (Int.ofNat i, c) ∈ ths
      · rw [decide_eq_true m1]
        refine iteT ?_
        have := hq _ (Same.new (o := .tup [.int (0 + (i : Int)), .int c]) nu)
        rw [decide_eq_true (.inl m1)] at this
        exact this
      · rw [decide_eq_false m1]
        refine iteF ?_
        refine ⟨_, rfl, _, rfl, by show 2 ≤ sizeLine; decide, fun u2 nu2 => ?_⟩
        have hP4 := dp_same (Same.new (o := .tup [.int c, .int (0 + (i : Int))]) nu2) _ _ hP3
        refine ⟨_, rfl, rowD [c, Int.ofNat i], _, row_dp (r := [c, Int.ofNat i]) (SqT.of (by rw [upd_same, Int.zero_add]; rfl)), .inr hP4, shRow _, shPL _, _, rfl, ?_⟩
        rw [any_pair]
        have := hq _ ((Same.new (o := .tup [.int (0 + (i : Int)), .int c]) nu).trans (Same.new (o := .tup [.int c, .int (0 + (i : Int))]) nu2))
        rw [decide_eq_decide.mpr (show ((Int.ofNat i, c) ∈ ths ∨ (c, Int.ofNat i) ∈ ths) ↔ (c, Int.ofNat i) ∈ ths from ⟨fun z => z.elim (fun z => absurd z m1) id, .inr⟩)] at this
        exact this
    · refine ⟨D2, _, rfl, .inl ⟨SqL.of hD2, fun t nt => ?_⟩⟩
      exact h _ _ (s2.trans (Same.new nt)) ⟨t, rfl, SqT.of upd_same⟩
  · have hr1 := rws_of (K := K) (H := H') (f := bsr n ths) (xs := xs) 0 fun i v e => by rw [Nat.zero_add]; exact hv i v e
    rw [hl, ← List.range_eq_range'] at hr1
    exact q D H' nD s ⟨xs, besd n ths, hD, hr1, near_bsr hi⟩
  · obtain ⟨b, rfl, hb⟩ := h
    exact ⟨b, rfl, tup_upd hb hx⟩
def sp__law_tree (K : PySem.W.Frag) (cs : CS) : Sp := fun vs H Q E => ∃ (p : Addr) (n : Nat), vs = [.ref p, .int (n : Nat)] ∧ Src H p ∧ 1 ≤ n ∧ n ≤ 24 ∧ ∀ d us prs H', H d = none → H' d = some (.lst us) → TPs H' us prs → TreeK n prs → Src H' p → Exb p H H' → Q (.ref d) H'
theorem ok__law_tree (F : Fun K "_law_tree" "_law_tree" s__law_tree f fd) (T : Txt P w K mg base cs) (c__law_take : Cal P w K mg base CX0 1 "_law_take" ["source", "top"] s__law_take (sp__law_take K cs)) : FnOk P w K mg base CX0 2 f fd ["source", "n"] (sp__law_tree K cs) := by
  refine F.ok sc__law_tree (fun vs H Q E h => ?_) (fun cdv A outer s H vs Q E hr h => ?_)
  · obtain ⟨p, n, rfl, _⟩ := h
    rfl
  obtain ⟨p, n, rfl, hs, n1, n24, q⟩ := h
  refine ⟨_, (pss_cons (ps_par (i := 2) (j := 3) (by rfl) sc__law_tree.nd rfl rfl (by decide) rfl rfl (pa_cons (pe_cal c__law_take (hr.mono (by decide)) pass0 (pa_cons (pv 0) (pa_cons pe_int pa_nil))) (pa_cons (pe_lst pa_nil) pa_nil)) (by rfl))
      (pss_cons (ps_for PassesOwn.never rfl (pi_range2 (by rfl) T.n_range (pa_cons pe_int (pa_cons (pv 1) pa_nil))) (pg_name (i := 4) sc__law_tree.nd rfl (Or.inl rfl)) (pss_one (ps_expr (pe_bm PySem.F.plainAttrs_list PySem.F.slot_list_append PySem.F.type_list_append mt_append (pv 3) (pa_cons (pe_tup (pa_cons (pe_ix (ixL K) (pe_lst (pa_cons (pe_op op_sub (pv 4) pe_int) (pa_cons pe_int (pa_cons (pe_cal c__law_take (hr.mono (by decide)) pass0 (pa_cons (pv 0) (pa_cons (pv 4) pa_nil))) (pa_cons (pe_cal c__law_take (hr.mono (by decide)) pass0 (pa_cons (pv 0) (pa_cons (pv 4) pa_nil))) pa_nil))))) (pv 2) (fun _ _ => rfl)) (pa_cons (pv 4) pa_nil))) pa_nil)))))
      (pss_one (ps_ret (pv 3))))), ?_⟩
  refine ⟨_, rfl, p, 4, rfl, hs, by decide, by decide, fun kd H1 k0 k4 s1 e1 => ⟨Nat.zero_le _, fun d nd => ?_⟩⟩
  have nd0 : H d = none := by
    cases e : H d with
    | none => rfl
    | some o =>
      by_cases z : d = p
      · subst z
        obtain ⟨a, b, hp, _⟩ := s1
        rw [hp] at nd
        cases nd
      · rw [e1 d o z e] at nd
        cases nd
  have ndp : d ≠ p := s1.ne nd
  refine ⟨_, _, rfl, _, rfl, 1, _, rfl, ⟨by decide, by decide, by omega, by omega⟩, ?_⟩
  have e0 : (((n : Nat) : Int) - 1).toNat = n - 1 := by omega
  rw [e0]
  refine for_range (fun i σ H' => (∃ y, σ = [some (.ref p), some (.int (n : Nat)), some (.int kd), some (.ref d), y]) ∧ ∃ us prs, H' d = some (.lst us) ∧ TPs H' us prs ∧ TreeK (i + 1) prs ∧ Src H' p ∧ Exb p H H') ⟨⟨_, rfl⟩, [], [], upd_same, TPs.nil, ⟨rfl, fun i e he => by simp at he⟩, s1.put ndp, fun b o hb ho => ?_⟩ ?_ ?_
  · rw [upd_ne (ne_of_none ho nd0)]
    exact e1 b o hb ho
  · rintro i σ H2 hi ⟨⟨y, rfl⟩, us, prs, hd, hT, hK, s2, e2⟩
    have vpos : (0 : Int) < 1 + (i : Nat) := by omega
    refine ⟨.ref d, rfl, .inl ⟨rfl, _, SqL.of hd⟩, ?_⟩
    refine ⟨_, rfl, _, 1, rfl, rfl, _, rfl, _, rfl, p, _, rfl, s2, vpos, by omega, fun r1 H3 a0 a1 s3 e3 => ?_⟩
    refine ⟨_, rfl, _, rfl, p, _, rfl, s3, vpos, by omega, fun r2 H4 b0 b1 s4 e4 => ⟨by show 4 ≤ sizeLine; decide, fun L nL => ?_⟩⟩
    obtain ⟨j, rfl⟩ : ∃ j : Nat, kd = (j : Int) := ⟨kd.toNat, by omega⟩
    have hw : ∃ w : Int, ([.int (1 + (i : Nat) - 1), .int 0, .int r1, .int r2] : List V)[j]? = some (.int w) ∧ 0 ≤ w ∧ w < ((i + 1 : Nat) : Int) := by
      have hj : j < 4 := by omega
      match j, hj with
      | 0, _ => exact ⟨_, rfl, by omega, by omega⟩
      | 1, _ => exact ⟨_, rfl, by omega, by omega⟩
      | 2, _ => exact ⟨_, rfl, a0, by omega⟩
      | 3, _ => exact ⟨_, rfl, b0, by omega⟩
    obtain ⟨w_, hw1, hw0, hw2⟩ := hw
    refine ⟨_, rfl, L, _, _, .int w_, rfl, rfl, SqL.of upd_same, atI_nat hw1, _, rfl, by show 2 ≤ sizeLine; decide, fun t nt => ?_⟩
    have hd4 := e4.lst ndp (e3.lst ndp hd)
    have e5 : (1 : Int) + (i : Nat) = ((i + 1 : Nat) : Int) := by omega
    rw [e5] at nt ⊢
    have st := (Same.new (H := H4) (o := .lst [.int (((i + 1 : Nat) : Int) - 1), .int 0, .int r1, .int r2]) nL).trans (Same.new (o := .tup [.int w_, .int ((i + 1 : Nat) : Int)]) nt)
    have s5 : Src (upd (upd H4 L (.lst [.int (((i + 1 : Nat) : Int) - 1), .int 0, .int r1, .int r2])) t (.tup [.int w_, .int ((i + 1 : Nat) : Int)])) p := by
      obtain ⟨a, b, hp, h⟩ := s4
      exact ⟨a, b, st _ _ hp, h⟩
    have hl := hT.1
    have hl2 := hK.len
    refine ⟨d, us, _, rfl, rfl, st _ _ hd4, smallLt (by omega), ?_⟩
    refine ⟨⟨_, rfl⟩, us ++ [.ref t], prs ++ [(w_, ((i + 1 : Nat) : Int))], upd_same, ?_, hK.snoc hw0 hw2, s5.put ndp, fun b o hb ho => ?_⟩
    · exact ((((hT.exb s2 e3).exb s3 e4).same st).snoc ⟨t, rfl, upd_same⟩).upd (st _ _ hd4)
    · rw [upd_ne (ne_of_none ho nd0)]
      exact st _ _ (e4 _ _ hb (e3 _ _ hb (e2 _ _ hb ho)))
  · rintro σ H2 ⟨⟨y, rfl⟩, us, prs, hd, hT, hK, s2, e2⟩
    refine ⟨.ref d, rfl, ?_⟩
    rw [show n - 1 + 1 = n by omega] at hK
    exact q d us prs H2 nd0 hd hT hK s2 e2
def sp__law_net (K : PySem.W.Frag) (cs : CS) : Sp := fun vs H Q E => ∃ (p : Addr) (n more : Nat), vs = [.ref p, .int (n : Nat), .int (more : Nat)] ∧ Src H p ∧ 1 ≤ n ∧ n ≤ 24 ∧ more ≤ 30 ∧ ∀ r ths H', Bw.TT K H' r (thR ths) → GoodN n ths → Src H' p → Exb p H H' → Q (.ref r) H'
theorem ok__law_net (F : Fun K "_law_net" "_law_net" s__law_net f fd) (T : Txt P w K mg base cs) (c__law_take : Cal P w K mg base CX0 1 "_law_take" ["source", "top"] s__law_take (sp__law_take K cs)) (c__law_tree : Cal P w K mg base CX0 2 "_law_tree" ["source", "n"] s__law_tree (sp__law_tree K cs)) : FnOk P w K mg base CX0 3 f fd ["source", "n", "more"] (sp__law_net K cs) := by
  refine F.ok sc__law_net (fun vs H Q E h => ?_) (fun cdv A outer s H vs Q E hr h => ?_)
  · obtain ⟨p, n, more, rfl, _⟩ := h
    rfl
  obtain ⟨p, n, more, rfl, hs, n1, n24, hm, q⟩ := h
  refine ⟨_, (pss_cons (ps_set (i := 3) sc__law_net.nd rfl (Or.inl rfl) (pe_cal c__law_tree (hr.mono (by decide)) pass0 (pa_cons (pv 0) (pa_cons (pv 1) pa_nil))))
      (pss_cons (ps_for PassesOwn.never rfl (pi_range1 (by rfl) T.n_range (pa_cons (pv 2) pa_nil)) (pg_name (i := 4) sc__law_net.nd rfl (Or.inl rfl)) (pss_cons (ps_par (i := 5) (j := 6) (by rfl) sc__law_net.nd rfl rfl (by decide) rfl rfl (pa_cons (pe_cal c__law_take (hr.mono (by decide)) pass0 (pa_cons (pv 0) (pa_cons (pv 1) pa_nil))) (pa_cons (pe_cal c__law_take (hr.mono (by decide)) pass0 (pa_cons (pv 0) (pa_cons (pv 1) pa_nil))) pa_nil)) (by rfl))
      (pss_one (ps_if (PW.pt (pw_and (pt_cmpR op_lt (pv 5) (pv 6) (nomark _)) (pw_and1 (pt_cmpR (ninX K (hu65 hr)) (pe_tup (pa_cons (pv 5) (pa_cons (pv 6) pa_nil))) (pv 3) rfl)))) (pss_one (ps_expr (pe_bm PySem.F.plainAttrs_list PySem.F.slot_list_append PySem.F.type_list_append mt_append (pv 3) (pa_cons (pe_tup (pa_cons (pv 5) (pa_cons (pv 6) pa_nil))) pa_nil)))) pss_nil))))
      (pss_one (ps_ret (pe_callTy (tupOf K) (by rfl) T.n_tuple (by decide +kernel) (pa_cons (pe_callB (sortPO K) (by rfl) T.n_sorted (by decide +kernel) (pa_cons (pv 3) pa_nil)) pa_nil)))))), ?_⟩
  refine ⟨_, rfl, _, rfl, p, n, rfl, hs, n1, n24, fun d us prs H1 nd hd hT hK s1 e1 => ?_⟩
  have ndp : d ≠ p := hs.ne nd
  refine ⟨_, rfl, _, rfl, by omega, by omega, ?_⟩
  rw [Int.toNat_natCast]
  have hkl := hK.len
  refine for_range (fun i σ H' => (∃ y1 y2 y3, σ = [some (.ref p), some (.int (n : Nat)), some (.int (more : Nat)), some (.ref d), y1, y2, y3]) ∧ ∃ us prs, H' d = some (.lst us) ∧ TPs H' us prs ∧ prs.Nodup ∧ InN n prs ∧ Tree n prs ∧ prs.length ≤ n - 1 + i ∧ Src H' p ∧ Exb p H H') ⟨⟨_, _, _, rfl⟩, us, prs, hd, hT, hK.nodup, hK.inN, hK.tree, by omega, s1, e1⟩ ?_ ?_
  · rintro i σ H2 hi ⟨⟨y1, y2, y3, rfl⟩, us, prs, hd, hT, hnd, hin, htr, hl, s2, e2⟩
    refine ⟨_, rfl, _, rfl, p, n, rfl, s2, by omega, by omega, fun a H3 a0 a1 s3 e3 => ⟨_, rfl, _, rfl, p, n, rfl, s3, by omega, by omega, fun b H4 b0 b1 s4 e4 => ⟨_, _, rfl, ?_⟩⟩⟩
    have hd4 := e4.lst ndp (e3.lst ndp hd)
    have hT4 := (hT.exb s2 e3).exb s3 e4
    have e42 := (e2.trans e3).trans e4
    have hul := hT.1
    by_cases c : a < b
    · refine ⟨_, rfl, _, rfl, _, _, rfl, rfl, _, rfl, itT (decide_eq_true c) ?_⟩
      refine ⟨_, rfl, _, rfl, by show 2 ≤ sizeLine; decide, fun t nt => ?_⟩
      have st : Same H4 (upd H4 t (.tup [.int a, .int b])) := Same.new nt
      refine ⟨_, rfl, rowD [a, b], _, row_dp (r := [a, b]) (SqT.of upd_same), .inl (.lst (SqL.of (st _ _ hd4)) (hT4.same st).dp), shRow _, shPL _, _, rfl, ?_⟩
      rw [any_pair]
      by_cases m : (a, b) ∈ prs
      · rw [decide_eq_true m]
        exact iteF ⟨⟨_, _, _, rfl⟩, us, prs, st _ _ hd4, hT4.same st, hnd, hin, htr, by omega, st.src s4, e42.trans (Exb.of st)⟩
      · rw [decide_eq_false m]
        refine iteT ?_
        refine ⟨.ref d, rfl, .inl ⟨rfl, _, SqL.of (st _ _ hd4)⟩, _, rfl, _, rfl, by show 2 ≤ sizeLine; decide, fun t2 nt2 => ?_⟩
        have st2 := st.trans (Same.new (o := .tup [.int a, .int b]) nt2)
        refine ⟨d, us, _, rfl, rfl, st2 _ _ hd4, smallLt (by omega), ?_⟩
        refine ⟨⟨_, _, _, rfl⟩, us ++ [.ref t2], prs ++ [(a, b)], upd_same, ((hT4.same st2).snoc ⟨t2, rfl, upd_same⟩).upd (st2 _ _ hd4), ?_, fun e he => ?_, fun v h0 hv => ?_, by rw [List.length_append]; show prs.length + 1 ≤ _; omega, (st2.src s4).put ndp, fun x o hx ho => ?_⟩
        · refine List.nodup_append.mpr ⟨hnd, nodup1 _, fun x hx y hy z => ?_⟩
          rw [List.mem_singleton.mp hy] at z
          exact m (z ▸ hx)
        · rcases List.mem_append.mp he with he | he
          · exact hin e he
          · rw [List.mem_singleton.mp he]
            exact ⟨a0, c, b1⟩
        · obtain ⟨w_, hw, hwm⟩ := htr v h0 hv
          exact ⟨w_, hw, List.mem_append_left _ hwm⟩
        · rw [upd_ne (ne_of_none ho nd)]
          exact st2 _ _ (e42 _ _ hx ho)
    · refine ⟨_, rfl, _, rfl, _, _, rfl, rfl, _, rfl, itF (decide_eq_false c) ?_⟩
      exact ⟨⟨_, _, _, rfl⟩, us, prs, hd4, hT4, hnd, hin, htr, by omega, s4, e42⟩
  · rintro σ H2 ⟨⟨y1, y2, y3, rfl⟩, us, prs, hd, hT, hnd, hin, htr, hl, s2, e2⟩
    refine ⟨.ref d, rfl, ?_⟩
    dsimp only [tNil]
    refine sort_TPs (SqL.of hd) hT fun ys qrs p2 np hp hs2 ht => ?_
    refine ⟨p2, _, rfl, .inl ⟨SqL.of upd_same, fun t nt => ?_⟩⟩
    have st := (Same.new (o := .lst ys) np).trans (Same.new (o := .tup ys) nt)
    refine q t qrs _ (TPs.tt (ht.same (Same.new nt)) (SqT.of upd_same)) (goodN_of n1 n24 hp hs2 hnd hin htr (by omega)) (st.src s2) (e2.trans (Exb.of st))
def sp__law_drawn (K : PySem.W.Frag) (cs : CS) : Sp := fun vs H Q E => ∃ (p l1 l2 : Addr) (n m : Nat) (ths oths : List (Int × Int)), vs = [.ref p, .ref l1, .ref l2] ∧ Src H p ∧ NL K H l1 n ths ∧ NL K H l2 m oths ∧ l1 ≠ p ∧ l2 ≠ p ∧ InN n ths ∧ 1 ≤ m ∧ m ≤ 24 ∧ n ≤ 24 ∧ ∀ (r : Addr) (ns : List Int) H', SqT K H' r (ns.map V.int) → ns.length = n → (∀ c ∈ ns, 0 ≤ c ∧ c < (m : Nat)) → Src H' p → Exb p H H' → Q (.ref r) H'
theorem ok__law_drawn (F : Fun K "_law_drawn" "_law_drawn" s__law_drawn f fd) (T : Txt P w K mg base cs) (c__law_one : Cal P w K mg base CX0 2 "_law_one" ["source", "things"] s__law_one (sp__law_one K cs)) : FnOk P w K mg base CX0 3 f fd ["source", "near", "other"] (sp__law_drawn K cs) := by
  refine F.ok sc__law_drawn (fun vs H Q E h => ?_) (fun cdv A outer s H vs Q E hr h => ?_)
  · obtain ⟨p, l1, l2, n, m, ths, oths, rfl, _⟩ := h
    rfl
  obtain ⟨p, l1, l2, n, m, ths, oths, rfl, hs, hN1, hN2, ne1, ne2, hin, m1, m24, n24, q⟩ := h
  refine ⟨_, (pss_cons (ps_set (i := 3) sc__law_drawn.nd rfl (Or.inr rfl) (pe_lst pa_nil))
      (pss_cons (ps_for PassesOwn.never rfl (pi_range1 (by rfl) T.n_range (pa_cons (pe_callB (lenS K) (by rfl) T.n_len PySem.boot_len (pa_cons (pv 1) pa_nil)) pa_nil)) (pg_name (i := 4) sc__law_drawn.nd rfl (Or.inr rfl)) (pss_cons (ps_setLc (i := 5) (own := [("p", 6)]) rfl sc__law_drawn.nd rfl rfl (sw_true rfl rfl rfl (by decide +kernel)) (pi_range1 (by rfl) T.n_range (pa_cons (pe_callB (lenS K) (by rfl) T.n_len PySem.boot_len (pa_cons (pv 2) pa_nil)) pa_nil)) (blkOk_by (own := [("p", 6)]) (N := ["source", "near", "other", "found", "v", "some", "p", "u"]) (sc := defScope s__law_drawn) (by decide +kernel)) (fun _ _ _ _ _ => (pg_name (i := 6) sc__law_drawn.nd rfl (Or.inr rfl))) (fun _ _ _ _ _ => (pts_one (pt_cmpR (eqD K hr.units) (pe_lc (own := [("u", 7)]) rfl sc__law_drawn.nd (piT K (pe_ix (ixL K) (pv 1) (pv 4) (fun _ _ => rfl))) (blkOk_by (own := [("u", 7)]) (N := ["source", "near", "other", "found", "v", "some", "p", "u"]) (sc := ({ kind := PySem.ScopeKind.function, names := [ (PySem.Str.ofString ".0", PySem.NameKind.local), (PySem.Str.ofString "p", PySem.NameKind.cell), (PySem.Str.ofString "found", PySem.NameKind.cell), (PySem.Str.ofString "near", PySem.NameKind.cell), (PySem.Str.ofString "other", PySem.NameKind.cell), (PySem.Str.ofString "v", PySem.NameKind.cell)], isGenerator := false, isCoroutine := false, more := [] : PySem.Scope })) (by decide +kernel)) (fun _ _ _ _ _ => (pg_name (i := 7) sc__law_drawn.nd rfl (Or.inl rfl))) (fun _ _ _ _ _ => (pts_one (PW.pt (pw_and (pt_cmpR op_lt (pv 7) (pv 4) (nomark _)) (pw_and1 (pt_cmpR (ninS K) (pv 6) (pe_ix (ixL K) (pv 2) (pe_ix (ixL K) (pv 3) (pv 7) (fun _ _ => rfl)) (fun _ _ => rfl)) rfl)))))) (fun _ _ _ _ _ => (pv 7))) (pe_lst pa_nil) (nomark _)))) (fun _ _ _ _ _ => (pv 6)))
      (pss_one (ps_expr (pe_bm PySem.F.plainAttrs_list PySem.F.slot_list_append PySem.F.type_list_append mt_append (pv 3) (pa_cons (pe_cal c__law_one (hr.mono (by decide)) pass0 (pa_cons (pv 0) (pa_cons (pe_op op_cat (pv 5) (pe_op op_rep (pe_lst (pa_cons pe_int pa_nil)) (pe_callTy call_int1 (by rfl) T.n_int (by decide +kernel) (pa_cons (pe_cmpR (eqD K hr.units) (pv 5) (pe_lst pa_nil) (nomark _)) pa_nil)))) pa_nil))) pa_nil))))))
      (pss_one (ps_ret (pe_callTy (tupOf K) (by rfl) T.n_tuple (by decide +kernel) (pa_cons (pv 3) pa_nil)))))), ?_⟩
  refine ⟨Nat.zero_le _, fun fo nf => ?_⟩
  have nfp := hs.ne nf
  have s0 : Same H (upd H fo (.lst [])) := Same.new nf
  obtain ⟨us1, hl1, hul1, _⟩ := hN1.at_
  refine ⟨.ref l1, rfl, l1, us1, rfl, .inl (SqL.of (s0 _ _ hl1)), _, rfl, by omega, by omega, ?_⟩
  rw [hul1, Int.toNat_natCast]
  refine for_range (fun i σ H' => (∃ y1 y2 y3 y4, σ = [some (.ref p), some (.ref l1), some (.ref l2), some (.ref fo), y1, y2, y3, y4]) ∧ ∃ ns : List Int, H' fo = some (.lst (ns.map V.int)) ∧ ns.length = i ∧ (∀ c ∈ ns, 0 ≤ c ∧ c < (m : Nat)) ∧ Src H' p ∧ Exb p H H') ⟨⟨_, _, _, _, rfl⟩, [], upd_same, rfl, fun c hc => (by cases hc), hs.put nfp, Exb.of s0⟩ ?_ ?_
  · rintro i σ H2 hi ⟨⟨y1, y2, y3, y4, rfl⟩, ns, hf, hnl, hnb, s2, e2⟩
    have hN1' := hN1.exb hs e2 ne1
    have hN2' := hN2.exb hs e2 ne2
    obtain ⟨us1, hl1, hul1, hat1⟩ := hN1'.at_
    obtain ⟨us2, nrs2, hl2, hR2, hO2⟩ := hN2'
    have hul2 : us2.length = m := by rw [hR2.len, hO2.len]
    obtain ⟨b1, row, hb1, hbs1, hrl, hrm⟩ := hat1 i hi
    have hrow : ∀ u ∈ row, 0 ≤ u ∧ u < (n : Nat) := fun u hu => adj_lt hin ((hrm u).mp hu)
    refine ⟨.ref l2, rfl, l2, us2, rfl, .inl (SqL.of hl2), m, by rw [hul2], by omega, by omega, fun D nD => ?_⟩
    rw [Int.toNat_natCast]
    refine lc_fs ((List.range m).map Int.ofNat) walk_range (by rw [List.length_map, List.length_range]) yRng (fun c => decide ((row.filter fun (u : Int) => decide (u < (i : Nat)) && !decide (c ∈ rowOf nrs2 (ns.getD u.toNat 0).toNat)) = [])) V.int nD (by omega) (fun _ => rfl) (fun _ _ => trivial) (fun c _ H3 Q3 s3 hq => ?_) (fun c _ _ H3 Q3 _ hq => ⟨_, rfl, hq _ (Same.refl _)⟩) (fun H3 hD3 s3 => ?_)
    · refine ⟨.ref l1, rfl, _, rfl, l1, us1, _, .ref b1, rfl, rfl, SqL.of (s3 _ _ hl1), atN hb1 (by omega), b1, rfl, ⟨_, s3.tup hbs1⟩, fun D2 nD2 => ?_⟩
      refine lc_fs row (walk_tup (xs := row.map V.int)) (by rw [List.length_map]) yInt (fun u => decide (u < (i : Nat)) && !decide (c ∈ rowOf nrs2 (ns.getD u.toNat 0).toNat)) V.int nD2 (by rw [List.length_map]; omega) (fun _ => rfl) (fun H' s' => (s3.trans s').tup hbs1) (fun u hu H4 Q4 s4 hq4 => ?_) (fun u _ _ H4 Q4 _ hq4 => ⟨_, rfl, hq4 _ (Same.refl _)⟩) (fun H4 hD4 s4 => ?_)
      · have hu2 := hrow u hu
        have s5 := s3.trans s4
        have e0 : (0 : Int) + (i : Nat) = (i : Nat) := by omega
        by_cases cu : u < (i : Nat)
        · refine ⟨_, rfl, _, rfl, _, _, rfl, rfl, _, rfl, itT (decide_eq_true (by rw [e0]; exact cu)) ?_⟩
          have hfu : (ns.map V.int)[u.toNat]? = some (.int (ns.getD u.toNat 0)) := by
            rw [List.getElem?_map, List.getElem?_eq_getElem (by omega), List.getD_eq_getElem?_getD, List.getElem?_eq_getElem (by omega)]
            rfl
          have hfb := hnb _ (getD_in (ns := ns) (i := u.toNat) (by omega))
          have hi2 : (ns.getD u.toNat 0).toNat < nrs2.length := by rw [hO2.len]; omega
          have hr2 : nrs2[(ns.getD u.toNat 0).toNat]? = some nrs2[(ns.getD u.toNat 0).toNat] := List.getElem?_eq_getElem hi2
          obtain ⟨b2, hb2, hbs2⟩ := Rws.get hR2 hr2
          refine ⟨_, rfl, .ref l2, rfl, .ref fo, rfl, _, rfl, fo, _, _, _, rfl, rfl, SqL.of (s5 _ _ hf), atN hfu (by omega), l2, us2, _, .ref b2, rfl, rfl, SqL.of (s5 _ _ hl2), atN hb2 (by omega), b2, _, rfl, .inr (s5.tup hbs2), rfl, flat_ints _, _, rfl, ?_⟩
          have := hq4 _ (Same.refl _)
          rw [decide_eq_true cu, row_of hr2] at this
          rw [inV_dec]
          exact this
        · refine ⟨_, rfl, _, rfl, _, _, rfl, rfl, _, rfl, itF (decide_eq_false (by rw [e0]; exact cu)) ?_⟩
          have := hq4 _ (Same.refl _)
          rw [decide_eq_false cu] at this
          exact this
      · refine ⟨Nat.zero_le _, fun e ne => ?_⟩
        exact eqL (ms := []) (SqL.of (by rw [upd_ne (ne_of_none hD4 ne)]; exact hD4)) (SqL.of upd_same) ⟨_, rfl, hq _ (s4.trans (Same.new ne))⟩
    generalize hL : ((List.range m).map Int.ofNat).filter (fun c => decide ((row.filter fun (u : Int) => decide (u < (i : Nat)) && !decide (c ∈ rowOf nrs2 (ns.getD u.toNat 0).toNat)) = [])) = L at hD3
    have hLb : ∀ c ∈ L, 0 ≤ c ∧ c < (m : Nat) := fun c hc => by
      rw [← hL] at hc
      obtain ⟨k, hk, rfl⟩ := List.mem_map.mp (List.mem_filter.mp hc).1
      have := List.mem_range.mp hk
      show (0 : Int) ≤ (k : Int) ∧ (k : Int) < (m : Nat)
      omega
    have hLl : L.length ≤ m := by
      rw [← hL]
      refine Nat.le_trans (List.length_filter_le ..) ?_
      rw [List.length_map, List.length_range]
      exact Nat.le_refl _
    have neD : fo ≠ D := ne_of_none hf nD
    refine ⟨.ref fo, rfl, .inl ⟨rfl, _, SqL.of (s3 _ _ hf)⟩, _, rfl, .ref D, rfl, by show 1 ≤ sizeLine; decide, fun z nz => ⟨.ref D, rfl, Nat.zero_le _, fun e ne => ?_⟩⟩
    have sz : Same H3 (upd H3 z (.lst [.int 0])) := Same.new nz
    have se := sz.trans (Same.new (o := .lst []) ne)
    refine eqL (ns := L) (ms := []) (SqL.of (se _ _ hD3)) (SqL.of upd_same) (.inr ⟨_, rfl, ?_⟩)
    have kb := b01 (decide (L = []) = true)
    have k1 : (if decide (L = []) = true then (1 : Int) else 0).toNat ≤ 1 := by
      split <;> decide
    refine ⟨z, _, [.int 0], rfl, rfl, by rw [upd_ne (ne_of_none upd_same ne)]; exact upd_same, by omega, by omega, small (by rw [List.length_singleton, Nat.one_mul]; omega), fun r nr => ?_⟩
    generalize hk : (if decide (L = []) = true then (1 : Int) else 0) = kk at kb k1
    have sr := se.trans (Same.new (o := .lst (List.replicate kk.toNat [V.int 0]).flatten) nr)
    have hfl : (List.replicate kk.toNat [V.int 0]).flatten.length = kk.toNat := by
      rw [List.length_flatten, List.map_replicate, List.length_singleton]
      simp
    refine ⟨D, r, _, _, rfl, rfl, sr _ _ hD3, upd_same, small (by rw [hfl, List.length_map]; omega), fun w_ nw => ?_⟩
    have sw := (s3.trans sr).trans (Same.new (o := .lst (L.map V.int ++ (List.replicate kk.toNat [V.int 0]).flatten)) nw)
    have sp := sw.src s2
    have all_ : ∀ v ∈ L.map V.int ++ (List.replicate kk.toNat [V.int 0]).flatten, ∃ c : Int, v = .int c ∧ 0 ≤ c ∧ c < (m : Nat) := fun v hv => by
      rcases List.mem_append.mp hv with hv | hv
      · obtain ⟨c, hc, rfl⟩ := List.mem_map.mp hv
        exact ⟨c, rfl, hLb c hc⟩
      · obtain ⟨l, hl, hv⟩ := List.mem_flatten.mp hv
        rw [List.eq_of_mem_replicate hl] at hv
        exact ⟨0, List.mem_singleton.mp hv, by omega, by omega⟩
    have len_ : (L.map V.int ++ (List.replicate kk.toNat [V.int 0]).flatten).length = L.length + kk.toNat := by rw [List.length_append, hfl, List.length_map]
    refine ⟨p, w_, _, rfl, sp, upd_same, ((s3.trans sr).src s2).ne nw, ?_, by rw [len_]; omega, fun v H6 hv s6 e6 => ?_⟩
    · rw [len_]
      by_cases hL0 : L = []
      · rw [decide_eq_true hL0, if_pos rfl] at hk
        omega
      · have := List.length_pos_iff.mpr hL0
        omega
    · obtain ⟨c, rfl, c0, c1⟩ := all_ v hv
      refine ⟨fo, _, _, rfl, rfl, e6.lst nfp (sw _ _ hf), smallLt (by rw [List.length_map]; omega), ?_⟩
      refine ⟨⟨_, _, _, _, rfl⟩, ns ++ [c], by rw [upd_same, snocV], by rw [List.length_append, hnl]; rfl, fun x hx => ?_, s6.put nfp, fun b o hb ho => ?_⟩
      · rcases List.mem_append.mp hx with hx | hx
        · exact hnb x hx
        · rw [List.mem_singleton.mp hx]
          exact ⟨c0, c1⟩
      · rw [upd_ne (ne_of_none ho nf)]
        exact e6 _ _ hb (sw _ _ (e2 _ _ hb ho))
  · rintro σ H2 ⟨⟨y1, y2, y3, y4, rfl⟩, ns, hf, hnl, hnb, s2, e2⟩
    refine ⟨.ref fo, rfl, fo, _, rfl, .inl ⟨SqL.of hf, fun t nt => ?_⟩⟩
    exact q t ns _ (SqT.of upd_same) hnl hnb ((Same.new nt).src s2) (e2.trans (Exb.new nt))
def sp__law_bent (K : PySem.W.Frag) (cs : CS) : Sp := fun vs H Q E => ∃ (p a : Addr) (ns : List Int) (m : Nat), vs = [.ref p, .ref a, .int (m : Nat)] ∧ Src H p ∧ SqT K H a (ns.map V.int) ∧ 1 ≤ ns.length ∧ ns.length ≤ 24 ∧ 1 ≤ m ∧ m ≤ 24 ∧ ∀ v θ H', ThV K H' v θ → Src H' p → Exb p H H' → Q v H'
theorem ok__law_bent (F : Fun K "_law_bent" "_law_bent" s__law_bent f fd) (T : Txt P w K mg base cs) (c__law_take : Cal P w K mg base CX0 1 "_law_take" ["source", "top"] s__law_take (sp__law_take K cs)) (c__law_one : Cal P w K mg base CX0 2 "_law_one" ["source", "things"] s__law_one (sp__law_one K cs)) : FnOk P w K mg base CX0 3 f fd ["source", "places", "many"] (sp__law_bent K cs) := by
  refine F.ok sc__law_bent (fun vs H Q E h => ?_) (fun cdv A outer s H vs Q E hr h => ?_)
  · obtain ⟨p, a, ns, m, rfl, _⟩ := h
    rfl
  obtain ⟨p, a, ns, m, rfl, hs, hS, l1, l24, m1, m24, q⟩ := h
  refine ⟨_, (pss_cons (ps_par (i := 3) (j := 4) (by rfl) sc__law_bent.nd rfl rfl (by decide) rfl rfl (pa_cons (pe_cal c__law_take (hr.mono (by decide)) pass0 (pa_cons (pv 0) (pa_cons (pe_callB (lenS K) (by rfl) T.n_len PySem.boot_len (pa_cons (pv 1) pa_nil)) pa_nil))) (pa_cons (pe_cal c__law_take (hr.mono (by decide)) pass0 (pa_cons (pv 0) (pa_cons pe_int pa_nil))) pa_nil)) (by rfl))
      (pss_cons (ps_if (pt_cmpR op_lt (pv 4) pe_int (nomark _)) (pss_one (ps_ret (pe_op (catA K) (pe_op (catA K) (pe_slice (slT K) (pv 1) poN (po_some (pv 3))) (pe_tup (pa_cons (pe_cal c__law_one (hr.mono (by decide)) pass0 (pa_cons (pv 0) (pa_cons (pe_lst (pa_cons (pe_un un_neg pe_int) (pa_cons (pv 2) (pa_cons pe_int (pa_cons (pe_op op_sub (pv 2) pe_int) (pa_cons (pe_cal c__law_take (hr.mono (by decide)) pass0 (pa_cons (pv 0) (pa_cons (pv 2) pa_nil))) (pa_cons pe_str (pa_cons (pe_tup (pa_cons pe_int pa_nil)) pa_nil)))))))) pa_nil))) pa_nil))) (pe_slice (slT K) (pv 1) (po_some (pe_op op_add (pv 3) pe_int)) poN)))) pss_nil)
      (pss_one (ps_ret (pe_ix (ixL K) (pe_lst (pa_cons (pe_slice (slT K) (pv 1) poN (po_some (pe_un un_neg pe_int))) (pa_cons (pe_op (catA K) (pv 1) (pe_tup (pa_cons (pe_ix (ixT K) (pv 1) (pe_un un_neg pe_int) (fun _ _ => rfl)) pa_nil))) (pa_cons (pe_revT (pv 1)) (pa_cons (pe_cal c__law_one (hr.mono (by decide)) pass0 (pa_cons (pv 0) (pa_cons (pe_lst (pa_cons (pe_tup pa_nil) (pa_cons pe_int (pa_cons pe_str (pa_cons (pe_tup (pa_cons (pe_tup (pa_cons pe_int (pa_cons pe_int pa_nil))) pa_nil)) pa_nil))))) pa_nil))) pa_nil))))) (pe_op op_sub (pv 4) pe_int) (fun _ _ => rfl)))))), ?_⟩
  refine ⟨_, rfl, .ref a, rfl, a, _, rfl, .inr hS, p, _, rfl, hs, by rw [List.length_map]; omega, by rw [List.length_map]; omega, fun at_ H1 a0 a1 s1 e1 => ⟨_, rfl, p, 8, rfl, s1, by decide, by decide, fun way H2 w0 w1 s2 e2 => ⟨_, _, rfl, ?_⟩⟩⟩
  rw [List.length_map] at a1
  have e02 := e1.trans e2
  have hS2 := e02.tup hs hS
  by_cases c : way < 4
  · refine ⟨_, rfl, _, 4, rfl, rfl, _, rfl, itT (decide_eq_true c) ?_⟩
    refine ⟨.ref a, rfl, _, rfl, _, rfl, slA hS2 fun x1 H3 m3 h3 => ?_⟩
    have s3 := m3.src s2
    refine ⟨_, rfl, 1, rfl, _, rfl, _, rfl, _, 1, rfl, rfl, _, rfl, _, rfl, p, _, rfl, s3, by omega, by omega, fun r H4 r0 r1 s4 e4 => ⟨by show 1 ≤ sizeLine; decide, fun z nz => ⟨by show 7 ≤ sizeLine; decide, fun L nL => ?_⟩⟩⟩
    have sz : Same H4 (upd H4 z (.tup [.int 0])) := Same.new nz
    refine ⟨p, L, _, rfl, (Same.new nL).src (sz.src s4), upd_same, (sz.src s4).ne nL, by show 0 < 7; decide, by show 7 < 1000000; decide, fun v H5 hv s5 e5 => ⟨by show 1 ≤ sizeLine; decide, fun t nt => ?_⟩⟩
    have sL : Same H4 (upd (upd H4 z (.tup [.int 0])) L (.lst [.int (-1), .int (m : Nat), .int 0, .int ((m : Nat) - 1), .int r, .str "0", .ref z])) := sz.trans (Same.new nL)
    have hz5 : SqT K H5 z [.int 0] := e5.tup (sL.src s4) ((Same.new nL).tup (SqT.of upd_same))
    obtain ⟨o, ho⟩ : ∃ o, PartO K H5 v o := by
      simp only [List.mem_cons, List.not_mem_nil, or_false] at hv
      rcases hv with rfl | rfl | rfl | rfl | rfl | rfl | rfl
      · exact ⟨some _, rfl⟩
      · exact ⟨some _, rfl⟩
      · exact ⟨some _, rfl⟩
      · exact ⟨some _, rfl⟩
      · exact ⟨some _, rfl⟩
      · exact ⟨none, .inl ⟨_, rfl⟩⟩
      · exact ⟨none, .inr ⟨z, _, rfl, hz5⟩⟩
    have st : Same H5 (upd H5 t (.tup [v])) := Same.new nt
    have e25 : Exb p H2 H5 := ((Exb.of m3).trans e4).trans ((Exb.of sL).trans e5)
    have h3t := st.tup (e5.tup (sL.src s4) (sL.tup (e4.tup s3 h3)))
    obtain ⟨j, rfl⟩ : ∃ j : Nat, at_ = (j : Int) := ⟨at_.toNat, by omega⟩
    rw [cutV_to] at h3t
    refine ctA h3t (SqT.of upd_same) (by rw [List.length_take, List.length_map]; show _ + 1 ≤ _; omega) fun c1 H6 m6 h6 => ?_
    have s5t := (st.trans m6).src s5
    have e26 := e25.trans (Exb.of (st.trans m6))
    refine ⟨.ref a, rfl, _, rfl, _, 1, rfl, rfl, _, rfl, slA (e26.tup s2 hS2) fun x2 H7 m7 h7 => ?_⟩
    rw [show ((j : Nat) : Int) + 1 = ((j + 1 : Nat) : Int) by omega, cutV_from] at h7
    refine ctA (m7.tup h6) h7 (by rw [List.length_append, List.length_take, List.length_drop, List.length_map]; show _ + 1 + _ ≤ _; omega) fun c2 H8 m8 h8 => ?_
    have sE := (st.trans m6).trans (m7.trans m8)
    have hp8 : Parts K H8 ((ns.map V.int).take j ++ [v] ++ (ns.map V.int).drop (j + 1)) ((ns.take j).map some ++ [o] ++ (ns.drop (j + 1)).map some) := by
      rw [← List.map_take, ← List.map_drop]
      exact ((Parts.ints _).app (Parts.one (ho.same sE))).app (Parts.ints _)
    exact q _ _ H8 (hp8.th h8 (by rw [List.length_append, List.length_append, List.length_map, List.length_map, List.length_take, List.length_drop]; show _ + 1 + _ < _; omega)) (sE.src s5) (e02.trans (e25.trans (Exb.of sE)))
  · refine ⟨_, rfl, _, 4, rfl, rfl, _, rfl, itF (decide_eq_false c) ?_⟩
    obtain ⟨x0, hx0⟩ : ∃ x0, ns.getLast? = some x0 := ⟨ns.getLast (by intro z; rw [z] at l1; cases l1), List.getLast?_eq_some_getLast _⟩
    refine ⟨.ref a, rfl, 1, rfl, _, rfl, slA hS2 fun x1 H3 m3 h3 => ?_⟩
    have hS3 := m3.tup hS2
    refine ⟨.ref a, rfl, .ref a, rfl, 1, rfl, a, _, -1, .int x0, rfl, rfl, hS3, atLastI hx0, by show 1 ≤ sizeLine; decide, fun t nt => ?_⟩
    have st : Same H3 (upd H3 t (.tup [.int x0])) := Same.new nt
    refine ctA (st.tup hS3) (SqT.of upd_same) (by rw [List.length_map]; show _ + 1 ≤ _; omega) fun x2 H4 m4 h4 => ?_
    have s34 := st.trans m4
    refine ⟨.ref a, rfl, a, _, rfl, s34.tup hS3, fun x3 n3 => ?_⟩
    have sr : Same H4 (upd H4 x3 (.tup (ns.map V.int).reverse)) := Same.new n3
    refine ⟨_, rfl, Nat.zero_le _, fun e ne => ⟨by show 2 ≤ sizeLine; decide, fun z nz => ⟨by show 1 ≤ sizeLine; decide, fun y ny => ⟨by show 4 ≤ sizeLine; decide, fun L nL => ?_⟩⟩⟩⟩
    have g1 := Same.new (H := upd H4 x3 (.tup (ns.map V.int).reverse)) (o := .tup []) ne
    have g2 := Same.new (o := .tup [.int 0, .int 0]) nz
    have g3 := Same.new (o := .tup [.ref z]) ny
    have g4 := Same.new (o := .lst [.ref e, .int 0, .str "map", .ref y]) nL
    have sA := (m3.trans s34).trans sr
    have sB := sA.trans (g1.trans (g2.trans g3))
    refine ⟨p, L, _, rfl, (sB.trans g4).src s2, upd_same, (sB.src s2).ne nL, by show 0 < 4; decide, by show 4 < 1000000; decide, fun v H5 hv s5 e5 => ⟨by show 4 ≤ sizeLine; decide, fun M nM => ?_⟩⟩
    have sM := Same.new (H := H5) (o := .lst [.ref x1, .ref x2, .ref x3, v]) nM
    have s2L := (sB.trans g4).src s2
    have big : ∀ {b xs}, SqT K H4 b xs → SqT K (upd H5 M (.lst [.ref x1, .ref x2, .ref x3, v])) b xs := fun h => sM.tup (e5.tup s2L ((sr.trans ((g1.trans (g2.trans g3)).trans g4)).tup h))
    have hth : ∀ w ∈ [V.ref x1, .ref x2, .ref x3, v], ∃ θ, ThV K (upd H5 M (.lst [.ref x1, .ref x2, .ref x3, v])) w θ := fun w hw => by
      simp only [List.mem_cons, List.not_mem_nil, or_false] at hw
      rcases hw with rfl | rfl | rfl | rfl
      · refine ⟨.row (ns.dropLast.map some), thI (big (s34.tup ?_)) (by rw [List.length_dropLast]; omega)⟩
        have : cutV (ns.map V.int) none (some (-1)) = ns.dropLast.map V.int := by
          rw [cutV_init (by rw [List.length_map]; omega), List.map_dropLast]
        rw [← this]
        exact h3
      · refine ⟨.row ((ns ++ [x0]).map some), thI (big ?_) (by rw [List.length_append]; show _ + 1 < _; omega)⟩
        rw [List.map_append]
        exact h4
      · refine ⟨.row (ns.reverse.map some), thI ?_ (by rw [List.length_reverse]; omega)⟩
        rw [List.map_reverse]
        exact sM.tup (e5.tup s2L (((g1.trans (g2.trans g3)).trans g4).tup (SqT.of upd_same)))
      · simp only [List.mem_cons, List.not_mem_nil, or_false] at hv
        rcases hv with rfl | rfl | rfl | rfl
        · exact ⟨.row [], thI (ns := []) (sM.tup (e5.tup s2L (((g2.trans g3).trans g4).tup (SqT.of upd_same)))) (by decide)⟩
        · exact ⟨.num, _, rfl⟩
        · exact ⟨.txt, _, rfl⟩
        · exact ⟨.row [none], (Parts.one (o := none) (.inr ⟨z, _, rfl, sM.tup (e5.tup s2L ((g3.trans g4).tup (SqT.of upd_same)))⟩)).th (sM.tup (e5.tup s2L (g4.tup (SqT.of upd_same)))) (by decide)⟩
    obtain ⟨j, hj⟩ : ∃ j : Nat, way - 4 = (j : Int) := ⟨(way - 4).toNat, by omega⟩
    have hj4 : j < [V.ref x1, .ref x2, .ref x3, v].length := by show j < 4; omega
    obtain ⟨θ, hθ⟩ := hth _ (List.getElem_mem hj4)
    refine ⟨_, rfl, _, 4, rfl, rfl, M, _, _, _, rfl, rfl, SqL.of upd_same, atN (List.getElem?_eq_getElem hj4) hj, ?_⟩
    exact q _ θ _ hθ (sM.src s5) (e02.trans ((Exb.of (sB.trans g4)).trans (e5.trans (Exb.of sM))))
def sp__law_is_map (K : PySem.W.Frag) (cs : CS) : Sp := fun vs H Q E => ∃ (l1 l2 : Addr) (v : V) (n m : Nat) (ths oths : List (Int × Int)) (θ : Th), vs = [.ref l1, .ref l2, v] ∧ NL K H l1 n ths ∧ NL K H l2 m oths ∧ InN n ths ∧ n ≤ 24 ∧ m ≤ 24 ∧ ThV K H v θ ∧ (IsMapN n m ths oths θ → ∀ H', Same H H' → Q (.bl true) H') ∧ (¬ IsMapN n m ths oths θ → ∀ H', Same H H' → Q (.bl false) H')
theorem ok__law_is_map (F : Fun K "_law_is_map" "_law_is_map" s__law_is_map f fd) (T : Txt P w K mg base cs)  : FnOk P w K mg base CX0 1 f fd ["near", "other", "thing"] (sp__law_is_map K cs) := by
  refine F.ok sc__law_is_map (fun vs H Q E h => ?_) (fun cdv A outer s H vs Q E hr h => ?_)
  · obtain ⟨l1, l2, v, n, m, ths, oths, θ, rfl, _⟩ := h
    rfl
  obtain ⟨l1, l2, v, n, m, ths, oths, θ, rfl, ⟨us1, nrs1, hl1, hR1, hO1⟩, ⟨us2, nrs2, hl2, hR2, hO2⟩, hin, n24, m24, hv, qt, qf⟩ := h
  have hul1 : us1.length = n := by rw [hR1.len, hO1.len]
  have hul2 : us2.length = m := by rw [hR2.len, hO2.len]
  have dv : ∀ a b : Int, decide (V.int a = V.int b) = decide (a = b) := fun a b => decide_eq_decide.mpr ⟨V.int.inj, congrArg _⟩
  refine ⟨_, (pss_cons (ps_if (PW.pt (pw_or (pt_not (pt_val (pe_callB (isI K) (by rfl) T.n_isinstance (by decide +kernel) (pa_cons (pv 2) (pa_cons (pe_ty (T := "tuple") (by rfl) T.n_tuple (by decide +kernel)) pa_nil))))) (pw_or1 (pt_cmpR op_ne (pe_callB (lenS K) (by rfl) T.n_len PySem.boot_len (pa_cons (pv 2) pa_nil)) (pe_callB (lenS K) (by rfl) T.n_len PySem.boot_len (pa_cons (pv 0) pa_nil)) (nomark _))))) (pss_one (ps_ret pe_bl)) pss_nil)
      (pss_cons (ps_for PassesOwn.never rfl (piT K (pv 2)) (pg_name (i := 3) sc__law_is_map.nd rfl (Or.inl rfl)) (pss_one (ps_if (PW.pt (pw_or (pt_not (pt_val (pe_callB (isI K) (by rfl) T.n_isinstance (by decide +kernel) (pa_cons (pv 3) (pa_cons (pe_ty (T := "int") (by rfl) T.n_int (by decide +kernel)) pa_nil))))) (pw_or1 (pt_not (pt_chain op_le op_lt pe_int (pv 3) (pe_callB (lenS K) (by rfl) T.n_len PySem.boot_len (pa_cons (pv 1) pa_nil))))))) (pss_one (ps_ret pe_bl)) pss_nil)))
      (pss_one (ps_ret (pe_cmpR (eqD K hr.units) (pe_lc (own := [("v", 4)]) rfl sc__law_is_map.nd (pi_range1 (by rfl) T.n_range (pa_cons (pe_callB (lenS K) (by rfl) T.n_len PySem.boot_len (pa_cons (pv 0) pa_nil)) pa_nil)) (blkOk_by (own := [("v", 4)]) (N := ["near", "other", "thing", "place", "v", "u"]) (sc := defScope s__law_is_map) (by decide +kernel)) (fun _ _ _ _ _ => (pg_name (i := 4) sc__law_is_map.nd rfl (Or.inr rfl))) (fun _ _ _ _ _ => (pts_one (pt_cmpR (neD K hr.units) (pe_lc (own := [("u", 5)]) rfl sc__law_is_map.nd (piT K (pe_ix (ixL K) (pv 0) (pv 4) (fun _ _ => rfl))) (blkOk_by (own := [("u", 5)]) (N := ["near", "other", "thing", "place", "v", "u"]) (sc := ({ kind := PySem.ScopeKind.function, names := [ (PySem.Str.ofString ".0", PySem.NameKind.local), (PySem.Str.ofString "v", PySem.NameKind.cell), (PySem.Str.ofString "near", PySem.NameKind.cell), (PySem.Str.ofString "other", PySem.NameKind.cell), (PySem.Str.ofString "thing", PySem.NameKind.cell)], isGenerator := false, isCoroutine := false, more := [] : PySem.Scope })) (by decide +kernel)) (fun _ _ _ _ _ => (pg_name (i := 5) sc__law_is_map.nd rfl (Or.inl rfl))) (fun _ _ _ _ _ => (pts_one (pt_cmpR (ninS K) (pe_ix (ixT K) (pv 2) (pv 5) (fun _ _ => rfl)) (pe_ix (ixL K) (pv 1) (pe_ix (ixT K) (pv 2) (pv 4) (fun _ _ => rfl)) (fun _ _ => rfl)) rfl))) (fun _ _ _ _ _ => (pv 5))) (pe_lst pa_nil) (nomark _)))) (fun _ _ _ _ _ => (pv 4))) (pe_lst pa_nil) (nomark _)))))), ?_⟩
  cases θ with
  | num =>
    obtain ⟨i, rfl⟩ := hv
    exact ⟨.int i, rfl, .int i, .ty "tuple", .type "int", .type "tuple", false, rfl, .ty _, .base (.int i), kit_ty (by decide +kernel), false, rfl, iteT (qf (fun ⟨_, e, _⟩ => by cases e) _ (Same.refl _))⟩
  | txt =>
    obtain ⟨s, rfl⟩ := hv
    exact ⟨.str s, rfl, .str s, .ty "tuple", .type "str", .type "tuple", false, rfl, .ty _, .base (.str s), kit_ty (by decide +kernel), false, rfl, iteT (qf (fun ⟨_, e, _⟩ => by cases e) _ (Same.refl _))⟩
  | row ps =>
    obtain ⟨a, xs, rfl, hS, hl, hl3, hp⟩ := id hv
    refine ⟨.ref a, rfl, .ref a, .ty "tuple", .type "tuple", .type "tuple", true, rfl, .ty _, tyT hS, kit_ty (by decide +kernel), true, rfl, iteF ?_⟩
    refine ⟨.ref a, rfl, a, _, rfl, .inr hS, .ref l1, rfl, l1, _, rfl, .inl (SqL.of hl1), rfl, _, rfl, ?_⟩
    rw [dv]
    by_cases c : ps.length = n
    case neg =>
      refine itT (by rw [decide_eq_false (by omega)]; rfl) (qf (fun z => c ?_) _ (Same.refl _))
      obtain ⟨ms, e, e2, _⟩ := z
      cases e
      rw [List.length_map]
      exact e2
    refine itF (by rw [decide_eq_true (by omega)]; rfl) ?_
    refine ⟨.ref a, rfl, a, rfl, ⟨_, hS⟩, ?_⟩
    refine for_tup (xs := xs) (fun k σ H' => (∃ y4 y5 y6, σ = [some (.ref l1), some (.ref l2), some (.ref a), y4, y5, y6]) ∧ H' = H ∧ ∀ (j : Nat) o, j < k → ps[j]? = some o → ∃ c : Int, o = some c ∧ 0 ≤ c ∧ c < (m : Nat)) ⟨⟨_, _, _, rfl⟩, rfl, fun j q hj => absurd hj (by omega)⟩ (fun k σ H' _ h => by rw [h.2.1]; exact hS) ?_ ?_
    · rintro k x σ H1 hk ⟨⟨y4, y5, y6, rfl⟩, rfl, ok⟩
      have hk2 : k < ps.length := by rw [← hl]; exact (List.getElem?_eq_some_iff.mp hk).1
      have hpk := hp k x _ hk (List.getElem?_eq_getElem hk2)
      cases ho : ps[k] with
      | none =>
        rw [ho] at hpk
        have bad : ¬ IsMapN n m ths oths (.row ps) := fun ⟨ms, e, _⟩ => by
          cases e
          rw [List.getElem_map] at ho
          cases ho
        rcases hpk with ⟨s, rfl⟩ | ⟨b, ys, rfl, hb⟩
        · exact ⟨.str s, rfl, .str s, .ty "int", .type "str", .type "int", false, rfl, .ty _, .base (.str s), kit_ty (by decide +kernel), false, rfl, iteT (qf bad _ (Same.refl _))⟩
        · exact ⟨.ref b, rfl, .ref b, .ty "int", .type "tuple", .type "int", false, rfl, .ty _, tyT hb, kit_ty (by decide +kernel), false, rfl, iteT (qf bad _ (Same.refl _))⟩
      | some i =>
        rw [ho] at hpk
        cases (show x = .int i from hpk)
        refine ⟨.int i, rfl, .int i, .ty "int", .type "int", .type "int", true, rfl, .ty _, .base (.int i), kit_ty (by decide +kernel), true, rfl, iteF ?_⟩
        by_cases c2 : 0 ≤ i ∧ i < (m : Nat)
        · refine ⟨_, rfl, 0, _, rfl, rfl, _, rfl, itT (decide_eq_true c2.1) ⟨.ref l2, rfl, l2, _, rfl, .inl (SqL.of hl2), _, _, rfl, rfl, _, rfl, ?_⟩⟩
          rw [hul2, decide_eq_true c2.2]
          refine iteF ⟨⟨_, _, _, rfl⟩, rfl, fun j q hj hq => ?_⟩
          by_cases e : j < k
          · exact ok j q e hq
          · obtain rfl : j = k := by omega
            rw [List.getElem?_eq_getElem hk2, ho] at hq
            cases Option.some.inj hq
            exact ⟨i, rfl, c2⟩
        · have bad : ¬ IsMapN n m ths oths (.row ps) := fun ⟨ms, e, _, h, _⟩ => by
            cases e
            rw [List.getElem_map] at ho
            cases ho
            exact c2 (h _ (List.getElem_mem _))
          by_cases c0 : 0 ≤ i
          · refine ⟨_, rfl, 0, _, rfl, rfl, _, rfl, itT (decide_eq_true c0) ⟨.ref l2, rfl, l2, _, rfl, .inl (SqL.of hl2), _, _, rfl, rfl, _, rfl, ?_⟩⟩
            rw [hul2, decide_eq_false (fun z => c2 ⟨c0, z⟩)]
            exact iteT (qf bad _ (Same.refl _))
          · refine ⟨_, rfl, 0, _, rfl, rfl, _, rfl, itF (decide_eq_false c0) ⟨_, rfl, iteT ?_⟩⟩
            exact qf bad _ (Same.refl _)
    · rintro σ H1 ⟨⟨y4, y5, y6, rfl⟩, rfl, ok⟩
      obtain ⟨ns, rfl⟩ : ∃ ns : List Int, ps = ns.map some := some_of (List.all_eq_true.mpr fun o ho => by
        obtain ⟨i, hi, rfl⟩ := List.getElem_of_mem ho
        obtain ⟨c, hc, _⟩ := ok i _ (by omega) (List.getElem?_eq_getElem hi)
        rw [hc]
        rfl)
      obtain ⟨a', ea, hSi, _⟩ := ThV.ints hv
      cases ea
      rw [List.length_map] at hl hl3 c
      have hb : ∀ c ∈ ns, 0 ≤ c ∧ c < (m : Nat) := fun c hc => by
        obtain ⟨i, hi, rfl⟩ := List.getElem_of_mem hc
        obtain ⟨d, hd, h⟩ := ok i (some ns[i]) (by omega) (by rw [List.getElem?_map, List.getElem?_eq_getElem hi]; rfl)
        cases hd
        exact h
      have atS : ∀ u : Int, 0 ≤ u → u < (n : Nat) → (ns.map V.int)[u.toNat]? = some (.int (ns.getD u.toNat 0)) := fun u h0 h1 => by
        rw [List.getElem?_map, List.getElem?_eq_getElem (by omega), List.getD_eq_getElem?_getD, List.getElem?_eq_getElem (by omega)]
        rfl
      have key := map_look hO1 hO2 hin c hb
      refine ⟨.ref l1, rfl, l1, us1, rfl, .inl (SqL.of hl1), n, by rw [hul1], by omega, by omega, fun D nD => ?_⟩
      rw [Int.toNat_natCast]
      refine lc_fs ((List.range n).map Int.ofNat) walk_range (by rw [List.length_map, List.length_range]) yRng (fun v => decide (badU nrs2 ns (rowOf nrs1 v.toNat) v ≠ [])) V.int nD (by omega) (fun _ => rfl) (fun _ _ => trivial) (fun v hv H3 Q3 s3 hq => ?_) (fun c _ _ H3 Q3 _ hq => ⟨_, rfl, hq _ (Same.refl _)⟩) (fun H3 hD3 s3 => ?_)
      · obtain ⟨k, hk, rfl⟩ := List.mem_map.mp hv
        have hkn := List.mem_range.mp hk
        have hi1 : k < nrs1.length := by rw [hO1.len]; exact hkn
        have hr1 : nrs1[k]? = some nrs1[k] := List.getElem?_eq_getElem hi1
        obtain ⟨b1, hb1, hbs1⟩ := Rws.get hR1 hr1
        have hro := row_of hr1
        have hmem := hO1.mem _ _ hr1
        have hasc := hO1.asc _ (List.getElem_mem hi1)
        generalize nrs1[k] = row at hr1 hbs1 hro hmem hasc
        have hrow : ∀ u ∈ row, 0 ≤ u ∧ u < (n : Nat) := fun u hu => adj_lt hin ((hmem u).mp hu)
        have hrl : row.length ≤ n := nodup_len n row (asc_nd hasc) hrow
        refine ⟨.ref l1, rfl, _, rfl, l1, us1, _, .ref b1, rfl, rfl, SqL.of (s3 _ _ hl1), atN hb1 rfl, b1, rfl, ⟨_, s3.tup hbs1⟩, fun D2 nD2 => ?_⟩
        refine lc_fs row (walk_tup (xs := row.map V.int)) (by rw [List.length_map]) yInt (fun u => !decide (ns.getD u.toNat 0 ∈ rowOf nrs2 (ns.getD (Int.ofNat k).toNat 0).toNat)) V.int nD2 (by rw [List.length_map]; omega) (fun _ => rfl) (fun H' s' => (s3.trans s').tup hbs1) (fun u hu H4 Q4 s4 hq4 => ?_) (fun u _ _ H4 Q4 _ hq4 => ⟨_, rfl, hq4 _ (Same.refl _)⟩) (fun H4 hD4 s4 => ?_)
        · have hu2 := hrow u hu
          have s5 := s3.trans s4
          have hkb := hb _ (getD_in (ns := ns) (i := (Int.ofNat k).toNat) (by show k < _; omega))
          have hi2 : (ns.getD (Int.ofNat k).toNat 0).toNat < nrs2.length := by rw [hO2.len]; omega
          have hr2 : nrs2[(ns.getD (Int.ofNat k).toNat 0).toNat]? = some nrs2[(ns.getD (Int.ofNat k).toNat 0).toNat] := List.getElem?_eq_getElem hi2
          obtain ⟨b2, hb2, hbs2⟩ := Rws.get hR2 hr2
          refine ⟨.ref a, rfl, _, rfl, a, _, _, _, rfl, rfl, s5.tup hSi, atN (atS u hu2.1 hu2.2) (by omega), .ref l2, rfl, .ref a, rfl, _, rfl, a, _, _, _, rfl, rfl, s5.tup hSi, atN (atS (Int.ofNat k) (by show (0 : Int) ≤ (k : Int); omega) (by show ((k : Nat) : Int) < _; omega)) rfl, l2, us2, _, .ref b2, rfl, rfl, SqL.of (s5 _ _ hl2), atN hb2 (by omega), b2, _, rfl, .inr (s5.tup hbs2), rfl, flat_ints _, _, rfl, ?_⟩
          have := hq4 _ (Same.refl _)
          rw [row_of hr2] at this
          rw [inV_dec]
          exact this
        · refine ⟨Nat.zero_le _, fun e ne => ?_⟩
          refine neL (ms := []) (SqL.of (by rw [upd_ne (ne_of_none hD4 ne)]; exact hD4)) (SqL.of upd_same) ⟨_, rfl, ?_⟩
          have := hq _ (s4.trans (Same.new (o := .lst []) ne))
          rw [show (Int.ofNat k).toNat = k from rfl, hro] at this
          rw [← decide_not]
          exact this
      · refine ⟨Nat.zero_le _, fun e ne => ?_⟩
        refine eqL (ms := []) (SqL.of (by rw [upd_ne (ne_of_none hD3 ne)]; exact hD3)) (SqL.of upd_same) ?_
        have se := s3.trans (Same.new (o := .lst []) ne)
        by_cases hm : IsMapN n m ths oths (.row (ns.map some))
        · rw [decide_eq_true (key.mpr hm)]
          exact qt hm _ se
        · rw [decide_eq_false (fun z => hm (key.mp z))]
          exact qf hm _ se
def sp__law_told (K : PySem.W.Frag) (cs : CS) : Sp := fun vs H Q E => ∃ (r a : Addr) (row ps : List Int), vs = [.ref r, .ref a] ∧ SqT K H r (row.map V.int) ∧ SqT K H a (ps.map V.int) ∧ ps.length < 1000 ∧ ∀ v H', Same H H' → Dp K H' v (pullD row ps) → Q v H'
theorem ok__law_told (F : Fun K "_law_told" "_law_told" s__law_told f fd) (T : Txt P w K mg base cs) (c_pulled : Cal P w K mg base (L2.CX P w) 3 "pulled" ["standing", "places"] s_pulled (sp_pulled K cs)) : FnOk P w K mg base CX0 4 f fd ["row", "places"] (sp__law_told K cs) := by
  refine F.ok sc__law_told (fun vs H Q E h => ?_) (fun cdv A outer s H vs Q E hr h => ?_)
  · obtain ⟨r, a, row, ps, rfl, _⟩ := h
    rfl
  obtain ⟨r, a, row, ps, rfl, hR, hS, hl, q⟩ := h
  refine ⟨_, (pss_one (ps_try_as (i := 2) (tb := fun W => (tRet (tCallS (sp_pulled K cs) (WE W) (tCons (tVar 0) (tCons (tVar 1) tNil))))) (ts := fun a cls d => (tRet (tLst (tCons (tCB (rIsX K a cls d) (tCons (tVar 2) (tCons (tC (V.ref cs.BadPlace)) tNil))) (tCons (tWhat K a cls d (tVar 2)) tNil))))) (Wout := fun _ _ _ _ => False) rfl rfl sc__law_told.nd rfl rfl ⟨rfl, by decide, Or.inl T.gm_Refused⟩ takes0 (fun W pn xe tk _ => (pss_one (ps_ret (pe_calS c_pulled (hr.mono (by decide)) tk (pa_cons (pv 0) (pa_cons (pv 1) pa_nil)))))) (fun a oe cls d pn hz hf => (pss_one (ps_ret (pe_lst (pa_cons (pe_callB (isX K hz hf) (by rfl) T.n_isinstance (by decide +kernel) (pa_cons (pv 2) (pa_cons (pe_glob rfl T.gm_BadPlace rfl) pa_nil))) (pa_cons (whatX K hz hf (pv 2)) pa_nil)))))))), ?_⟩
  refine ⟨.ref r, rfl, .ref a, rfl, r, a, row, ps, rfl, hR, hS, hl, fun ns e t H1 s1 ht => ?_, fun p e d nd => ?_⟩
  · refine q _ _ s1 ?_
    unfold pullD
    rw [e]
    exact row_dp ht
  · refine ⟨true, T.ex_BadPlace_Refused, fun _ a na => ?_, fun z => Bool.noConfusion z⟩
    refine ⟨_, rfl, cs.BadPlace, .ref cs.BadPlace, .ref cs.BadPlace, true, d, _, rfl, rfl, T.xc_BadPlace, fun u h => h, T.ki_BadPlace_BadPlace, rfl, upd_same, ?_⟩
    refine ⟨_, rfl, rfl, cs.BadPlace, d, _, rfl, T.xc_BadPlace, rfl, upd_same, by show 2 ≤ sizeLine; decide, fun y ny => ?_⟩
    refine q _ _ ((Same.new nd).trans (Same.new ny)) ?_
    unfold pullD
    rw [e]
    exact .lst (SqL.of upd_same) (.cons (.bl _) (.cons (.int _) .nil))
def sp__law_due (K : PySem.W.Frag) (cs : CS) : Sp := fun vs H Q E => ∃ (r a : Addr) (row ps : List Int), vs = [.ref r, .ref a] ∧ SqT K H r (row.map V.int) ∧ SqT K H a (ps.map V.int) ∧ ps.length < 1000 ∧ ∀ v H', Same H H' → Dp K H' v (pullD row ps) → Q v H'
theorem ok__law_due (F : Fun K "_law_due" "_law_due" s__law_due f fd) (T : Txt P w K mg base cs)  : FnOk P w K mg base CX0 1 f fd ["row", "places"] (sp__law_due K cs) := by
  refine F.ok sc__law_due (fun vs H Q E h => ?_) (fun cdv A outer s H vs Q E hr h => ?_)
  · obtain ⟨r, a, row, ps, rfl, _⟩ := h
    rfl
  obtain ⟨r, a, row, ps, rfl, hR, hS, hl, q⟩ := h
  refine ⟨_, (pss_cons (ps_for PassesOwn.never rfl (piT K (pv 1)) (pg_name (i := 2) sc__law_due.nd rfl (Or.inl rfl)) (pss_one (ps_if (pt_not (pt_chain op_le op_lt pe_int (pv 2) (pe_callB (lenS K) (by rfl) T.n_len PySem.boot_len (pa_cons (pv 0) pa_nil)))) (pss_one (ps_ret (pe_lst (pa_cons pe_bl (pa_cons (pv 2) pa_nil))))) pss_nil)))
      (pss_one (ps_ret (pe_callTy (tupOf K) (by rfl) T.n_tuple (by decide +kernel) (pa_cons (pe_lc (own := [("place", 2)]) rfl sc__law_due.nd (piT K (pv 1)) (blkOk_by (own := [("place", 2)]) (N := ["row", "places", "place"]) (sc := defScope s__law_due) (by decide +kernel)) (fun _ _ _ _ _ => (pg_name (i := 2) sc__law_due.nd rfl (Or.inl rfl))) (fun _ _ _ _ _ => pts_nil) (fun _ _ _ _ _ => (pe_ix (ixT K) (pv 0) (pv 2) (fun _ _ => rfl)))) pa_nil))))), ?_⟩
  refine ⟨.ref a, rfl, a, rfl, ⟨_, hS⟩, ?_⟩
  refine for_tup (xs := ps.map V.int) (fun k σ H' => (∃ y, σ = [some (.ref r), some (.ref a), y]) ∧ H' = H ∧ ∀ (j : Nat) q, j < k → ps[j]? = some q → 0 ≤ q ∧ q < (row.length : Int)) ⟨⟨_, rfl⟩, rfl, fun j q hj => absurd hj (by omega)⟩ (fun k σ H' _ h => by rw [h.2.1]; exact hS) ?_ ?_
  · rintro k x σ H1 hk ⟨⟨y, rfl⟩, rfl, ok⟩
    obtain ⟨hk2, rfl⟩ := num_map k ps x hk
    have badQ : ¬ (0 ≤ ps[k] ∧ ps[k] < (row.length : Int)) → ∀ d, H1 d = none → Q (.ref d) (upd H1 d (.lst [.bl true, .int ps[k]])) := fun c d nd => by
      refine q _ _ (Same.new nd) ?_
      unfold pullD
      rw [pull_bad (List.getElem?_eq_getElem hk2) c ok]
      exact .lst (SqL.of upd_same) (.cons (.bl _) (.cons (.int _) .nil))
    by_cases c : 0 ≤ ps[k] ∧ ps[k] < (row.length : Int)
    · refine ⟨_, rfl, 0, _, rfl, rfl, _, rfl, itT (decide_eq_true c.1) ⟨_, rfl, r, _, rfl, .inr hR, _, _, rfl, rfl, _, rfl, ?_⟩⟩
      rw [List.length_map, decide_eq_true c.2]
      refine iteF ⟨⟨_, rfl⟩, rfl, fun j q hj hq => ?_⟩
      by_cases e : j < k
      · exact ok j q e hq
      · obtain rfl : j = k := by omega
        rw [List.getElem?_eq_getElem hk2] at hq
        cases Option.some.inj hq
        exact c
    · by_cases c0 : 0 ≤ ps[k]
      · refine ⟨_, rfl, 0, _, rfl, rfl, _, rfl, itT (decide_eq_true c0) ⟨_, rfl, r, _, rfl, .inr hR, _, _, rfl, rfl, _, rfl, ?_⟩⟩
        rw [List.length_map, decide_eq_false (fun z => c ⟨c0, z⟩)]
        refine iteT ?_
        exact ⟨_, rfl, by show 2 ≤ sizeLine; decide, fun d nd => badQ c d nd⟩
      · refine ⟨_, rfl, 0, _, rfl, rfl, _, rfl, itF (decide_eq_false c0) ⟨_, rfl, iteT ?_⟩⟩
        exact ⟨_, rfl, by show 2 ≤ sizeLine; decide, fun d nd => badQ c d nd⟩
  · rintro σ H1 ⟨⟨y, rfl⟩, rfl, ok⟩
    rw [List.length_map] at ok
    have ok2 : ∀ p ∈ ps, 0 ≤ p ∧ p < (row.length : Int) := fun p hp => by
      obtain ⟨i, hi, rfl⟩ := List.getElem_of_mem hp
      exact ok i _ hi (List.getElem?_eq_getElem hi)
    refine ⟨.ref a, rfl, a, rfl, ⟨_, hS⟩, fun D nD => ?_⟩
    refine lc_mapI (fun p => row.getD p.toNat 0) hS nD (by omega) (fun _ => rfl) (fun c hc H' Q' s h => ?_) (fun H3 hD2 s3 => ?_)
    · have := ok2 c hc
      have g : (row.map V.int)[c.toNat]? = some (.int (row.getD c.toNat 0)) := by
        rw [List.getElem?_map, List.getElem?_eq_getElem (by omega), List.getD_eq_getElem?_getD, List.getElem?_eq_getElem (by omega)]
        rfl
      exact ⟨.ref r, rfl, _, rfl, r, _, _, _, rfl, rfl, s.tup hR, atN g (by omega), h _ _ (Same.refl _) rfl⟩
    · refine ⟨D, _, rfl, .inl ⟨SqL.of hD2, fun p np => ?_⟩⟩
      refine q _ _ (s3.trans (Same.new np)) ?_
      unfold pullD
      rw [pull_good ok2]
      exact row_dp (SqT.of upd_same)
def sp_law (K : PySem.W.Frag) (cs : CS) : Sp := fun vs H Q E => ∃ (a : Addr) (ns : List Int), vs = [.ref a] ∧ SqL K H a (ns.map V.int) ∧ ns.length ≤ 63 ∧ ∀ H', Q (.bl true) H'
theorem ok_law (F : Fun K "law" "law" s_law f fd) (T : Txt P w K mg base cs) (c_made_net : Cal P w K mg base CX0 5 "made_net" ["many", "threads"] s_made_net (sp_made_net K cs)) (c_is_net_map : Cal P w K mg base CX0 3 "is_net_map" ["net", "other", "places"] s_is_net_map (sp_is_net_map K cs)) (c_pulled : Cal P w K mg base (L2.CX P w) 3 "pulled" ["standing", "places"] s_pulled (sp_pulled K cs)) (c__law_pool : Cal P w K mg base CX0 1 "_law_pool" ["script", "k"] s__law_pool (sp__law_pool K cs)) (c__law_take : Cal P w K mg base CX0 1 "_law_take" ["source", "top"] s__law_take (sp__law_take K cs)) (c__law_one : Cal P w K mg base CX0 2 "_law_one" ["source", "things"] s__law_one (sp__law_one K cs)) (c__law_near : Cal P w K mg base CX0 1 "_law_near" ["n", "threads"] s__law_near (sp__law_near K cs)) (c__law_net : Cal P w K mg base CX0 3 "_law_net" ["source", "n", "more"] s__law_net (sp__law_net K cs)) (c__law_drawn : Cal P w K mg base CX0 3 "_law_drawn" ["source", "near", "other"] s__law_drawn (sp__law_drawn K cs)) (c__law_bent : Cal P w K mg base CX0 3 "_law_bent" ["source", "places", "many"] s__law_bent (sp__law_bent K cs)) (c__law_is_map : Cal P w K mg base CX0 1 "_law_is_map" ["near", "other", "thing"] s__law_is_map (sp__law_is_map K cs)) (c__law_told : Cal P w K mg base CX0 4 "_law_told" ["row", "places"] s__law_told (sp__law_told K cs)) (c__law_due : Cal P w K mg base CX0 1 "_law_due" ["row", "places"] s__law_due (sp__law_due K cs)) : FnOk P w K mg base CX0 6 f fd ["script"] (sp_law K cs) := by
  refine F.ok sc_law (fun vs H Q E h => ?_) (fun cdv A outer s H vs Q E hr h => ?_)
  · obtain ⟨a, ns, rfl, _⟩ := h
    rfl
  obtain ⟨a, ns, rfl, hS, hz, q⟩ := h
  have dv : ∀ a b : Bool, decide (V.bl a = V.bl b) = decide (a = b) := fun a b => decide_eq_decide.mpr ⟨V.bl.inj, congrArg _⟩
  refine ⟨_, (pss_cons (ps_for PassesOwn.never rfl (pi_range1 (by rfl) T.n_range (pa_cons pe_int pa_nil)) (pg_name (i := 1) sc_law.nd rfl (Or.inl rfl)) (pss_cons (ps_set (i := 2) sc_law.nd rfl (Or.inr rfl) (pe_cal c__law_pool (hr.mono (by decide)) pass0 (pa_cons (pv 0) (pa_cons (pv 1) pa_nil))))
      (pss_cons (ps_asg (pe_tup (pa_cons (pe_op op_add pe_int (pe_cal c__law_take (hr.mono (by decide)) pass0 (pa_cons (pv 2) (pa_cons pe_int pa_nil)))) (pa_cons (pe_op op_add pe_int (pe_cal c__law_take (hr.mono (by decide)) pass0 (pa_cons (pv 2) (pa_cons pe_int pa_nil)))) pa_nil))) (pg_tup rfl (pgs_cons (pg_name (i := 3) sc_law.nd rfl (Or.inl rfl)) (pgs_cons (pg_name (i := 4) sc_law.nd rfl (Or.inr rfl)) pgs_nil))))
      (pss_cons (ps_par (i := 5) (j := 6) (by rfl) sc_law.nd rfl rfl (by decide) rfl rfl (pa_cons (pe_cal c__law_net (hr.mono (by decide)) pass0 (pa_cons (pv 2) (pa_cons (pv 3) (pa_cons pe_int pa_nil)))) (pa_cons (pe_cal c__law_net (hr.mono (by decide)) pass0 (pa_cons (pv 2) (pa_cons (pv 4) (pa_cons pe_int pa_nil)))) pa_nil)) (by rfl))
      (pss_cons (ps_asg (pe_tup (pa_cons (pe_cal c__law_near (hr.mono (by decide)) pass0 (pa_cons (pv 3) (pa_cons (pv 5) pa_nil))) (pa_cons (pe_cal c__law_near (hr.mono (by decide)) pass0 (pa_cons (pv 4) (pa_cons (pv 6) pa_nil))) (pa_cons (pe_cal c_made_net (hr.mono (by decide)) pass0 (pa_cons (pv 3) (pa_cons (pv 5) pa_nil))) (pa_cons (pe_cal c_made_net (hr.mono (by decide)) pass0 (pa_cons (pv 4) (pa_cons (pv 6) pa_nil))) pa_nil))))) (pg_tup rfl (pgs_cons (pg_name (i := 7) sc_law.nd rfl (Or.inl rfl)) (pgs_cons (pg_name (i := 8) sc_law.nd rfl (Or.inl rfl)) (pgs_cons (pg_name (i := 9) sc_law.nd rfl (Or.inl rfl)) (pgs_cons (pg_name (i := 10) sc_law.nd rfl (Or.inl rfl)) pgs_nil))))))
      (pss_cons (ps_set (i := 11) sc_law.nd rfl (Or.inl rfl) (pe_cal c__law_drawn (hr.mono (by decide)) pass0 (pa_cons (pv 2) (pa_cons (pv 7) (pa_cons (pv 8) pa_nil)))))
      (pss_cons (ps_set (i := 12) sc_law.nd rfl (Or.inl rfl) (pe_callTy (tupOf K) (by rfl) T.n_tuple (by decide +kernel) (pa_cons (pe_lc (own := [("k", 14)]) rfl sc_law.nd (pi_range1 (by rfl) T.n_range (pa_cons (pe_cal c__law_one (hr.mono (by decide)) pass0 (pa_cons (pv 2) (pa_cons (pe_lst (pa_cons (pv 4) (pa_cons (pv 4) (pa_cons pe_int (pa_cons pe_int pa_nil))))) pa_nil))) pa_nil)) (blkOk_by (own := [("k", 14)]) (N := ["script", "turn", "source", "n", "many", "threads", "others", "near", "other", "net", "onto", "thing", "row", "places", "k"]) (sc := defScope s_law) (by decide +kernel)) (fun _ _ _ _ _ => (pg_name (i := 14) sc_law.nd rfl (Or.inl rfl))) (fun _ _ _ _ _ => pts_nil) (fun _ _ _ _ _ => (pe_op op_sub (pe_cal c__law_take (hr.mono (by decide)) pass0 (pa_cons (pv 2) (pa_cons (pe_op op_pow pe_int pe_int) pa_nil))) pe_int))) pa_nil)))
      (pss_cons (ps_if (PW.pt (pw_or (pt_cmpR (neD K hr.units) (pe_cal c__law_told (hr.mono (by decide)) pass0 (pa_cons (pv 12) (pa_cons (pv 11) pa_nil))) (pe_cal c__law_due (hr.mono (by decide)) pass0 (pa_cons (pv 12) (pa_cons (pv 11) pa_nil))) (nomark _)) (pw_or1 (pt_cmpR op_ne (pe_cal c_is_net_map (hr.mono (by decide)) pass0 (pa_cons (pv 9) (pa_cons (pv 10) (pa_cons (pv 11) pa_nil)))) (pe_cal c__law_is_map (hr.mono (by decide)) pass0 (pa_cons (pv 7) (pa_cons (pv 8) (pa_cons (pv 11) pa_nil)))) (nomark _))))) (pss_one (ps_ret pe_bl)) pss_nil)
      (pss_cons (ps_if (pt_cmpR op_eq (pe_cal c__law_take (hr.mono (by decide)) pass0 (pa_cons (pv 2) (pa_cons pe_int pa_nil))) pe_int (nomark _)) (pss_one (ps_set (i := 11) sc_law.nd rfl (Or.inl rfl) (pe_cal c__law_bent (hr.mono (by decide)) pass0 (pa_cons (pv 2) (pa_cons (pv 11) (pa_cons (pv 4) pa_nil)))))) pss_nil)
      (pss_cons (ps_if (pt_cmpR op_ne (pe_calK0 c_is_net_map kb_is_net_map_places_other_net (hr.mono (by decide)) pass0 (pk_cons (pv 11) (pk_cons (pv 10) (pk_cons (pv 9) pk_nil)))) (pe_cal c__law_is_map (hr.mono (by decide)) pass0 (pa_cons (pv 7) (pa_cons (pv 8) (pa_cons (pv 11) pa_nil)))) (nomark _)) (pss_one (ps_ret pe_bl)) pss_nil)
      (pss_cons (ps_set (i := 13) sc_law.nd rfl (Or.inl rfl) (pe_callTy (tupOf K) (by rfl) T.n_tuple (by decide +kernel) (pa_cons (pe_lc (own := [("k", 14)]) rfl sc_law.nd (pi_range1 (by rfl) T.n_range (pa_cons (pe_cal c__law_take (hr.mono (by decide)) pass0 (pa_cons (pv 2) (pa_cons pe_int pa_nil))) pa_nil)) (blkOk_by (own := [("k", 14)]) (N := ["script", "turn", "source", "n", "many", "threads", "others", "near", "other", "net", "onto", "thing", "row", "places", "k"]) (sc := defScope s_law) (by decide +kernel)) (fun _ _ _ _ _ => (pg_name (i := 14) sc_law.nd rfl (Or.inl rfl))) (fun _ _ _ _ _ => pts_nil) (fun _ _ _ _ _ => (pe_op op_sub (pe_cal c__law_take (hr.mono (by decide)) pass0 (pa_cons (pv 2) (pa_cons (pe_op op_add (pv 4) pe_int) pa_nil))) pe_int))) pa_nil)))
      (pss_one (ps_if (PW.pt (pw_or (pt_cmpR (neD K hr.units) (pe_cal c__law_told (hr.mono (by decide)) pass0 (pa_cons (pv 12) (pa_cons (pv 13) pa_nil))) (pe_cal c__law_due (hr.mono (by decide)) pass0 (pa_cons (pv 12) (pa_cons (pv 13) pa_nil))) (nomark _)) (pw_or1 (pt_cmpR (neD K hr.units) (pe_calK0 c_pulled kb_pulled_places_standing (hr.mono (by decide)) (passes_call (E := fun _ _ _ => False) takes0 (fun _ _ _ _ h => h)) (pk_cons (pe_tup pa_nil) (pk_cons (pv 12) pk_nil))) (pe_tup pa_nil) (nomark _))))) (pss_one (ps_ret pe_bl)) pss_nil)))))))))))))
      (pss_one (ps_ret pe_bl))), ?_⟩
  refine ⟨_, rfl, by decide, by decide, ?_⟩
  refine for_range (fun k σ H' => (∃ y1 y2 y3 y4 y5 y6 y7 y8 y9 y10 y11 y12 y13 y14, σ = [some (.ref a), y1, y2, y3, y4, y5, y6, y7, y8, y9, y10, y11, y12, y13, y14]) ∧ Same H H') ⟨⟨_, _, _, _, _, _, _, _, _, _, _, _, _, _, rfl⟩, Same.refl _⟩ ?_ ?_
  rotate_left
  · rintro σ H1 ⟨⟨y1, y2, y3, y4, y5, y6, y7, y8, y9, y10, y11, y12, y13, y14, rfl⟩, m1⟩
    exact q _
  rintro k σ H1 hk ⟨⟨y1, y2, y3, y4, y5, y6, y7, y8, y9, y10, y11, y12, y13, y14, rfl⟩, m1⟩
  have hk3 : k < 3 := hk
  refine ⟨.ref a, rfl, .int (0 + (k : Int)), rfl, a, ns, _, rfl, m1.seq hS, by omega, by omega, fun p H2 np m2 s2 => ?_⟩
  refine ⟨_, rfl, p, 7, rfl, s2, by decide, by decide, fun c1 H3 c10 c11 s3 e3 => ⟨1, c1, rfl, rfl, _, rfl, p, 7, rfl, s3, by decide, by decide, fun c2 H4 c20 c21 s4 e4 => ⟨1, c2, rfl, rfl, by show 2 ≤ sizeLine; decide, fun t1 nt1 => ?_⟩⟩⟩
  obtain ⟨n, hn⟩ : ∃ n : Nat, 1 + c1 = (n : Int) := ⟨(1 + c1).toNat, by omega⟩
  obtain ⟨m, hm⟩ : ∃ m : Nat, 1 + c2 = (m : Int) := ⟨(1 + c2).toNat, by omega⟩
  show gTup _ _ _ (V.ref t1) _ (upd H4 t1 (.tup [.int (1 + c1), .int (1 + c2)])) _
  rw [hn, hm]
  have st1 := Same.new (o := .tup [.int (n : Int), .int (m : Int)]) nt1
  have s5 := st1.src s4
  have e5 := (e3.trans e4).trans (Exb.of st1)
  have ht1 : SqT K (upd H4 t1 (.tup [.int (n : Int), .int (m : Int)])) t1 [.int (n : Int), .int (m : Int)] := SqT.of upd_same
  generalize upd H4 t1 (.tup [.int (n : Int), .int (m : Int)]) = H5 at *
  refine ⟨t1, _, rfl, ht1, rfl, _, _, rfl, _, _, rfl, rfl, ?_⟩
  -- threads, others
  refine ⟨_, rfl, _, rfl, p, n, 2, rfl, s5, by omega, by omega, by decide, fun r1 ths H6 hT1 gN1 s6 e6 => ?_⟩
  refine ⟨_, rfl, _, rfl, p, m, 4, rfl, s6, by omega, by omega, by decide, fun r2 oths H7 hT2 gN2 s7 e7 => ⟨_, _, rfl, ?_⟩⟩
  have hT1' := tt_exb s6 e7 hT1
  -- near, other, net, onto
  refine ⟨_, rfl, _, rfl, r1, n, ths, rfl, hT1', gN1.n24, gN1.rng, fun l1 H8 nl1 m8 hL1 => ?_⟩
  refine ⟨_, rfl, _, rfl, r2, m, oths, rfl, hT2.same m8, gN2.n24, gN2.rng, fun l2 H9 nl2 m9 hL2 => ?_⟩
  refine ⟨_, rfl, _, rfl, r1, n, ths, rfl, (hT1'.same m8).same m9, gN1, fun n1 H10 m10 hB1 => ?_⟩
  refine ⟨_, rfl, _, rfl, r2, m, oths, rfl, ((hT2.same m8).same m9).same m10, gN2, fun n2 H11 m11 hB2 => ⟨by show 4 ≤ sizeLine; decide, fun t2 nt2 => ?_⟩⟩
  have st2 := Same.new (o := .tup [.ref l1, .ref l2, .ref n1, .ref n2]) nt2
  have m711 := ((m8.trans m9).trans (m10.trans m11)).trans st2
  have s12 := m711.src s7
  have e12 := ((e5.trans e6).trans e7).trans (Exb.of m711)
  have nl1p := s7.ne nl1
  have nl2p := (m8.src s7).ne nl2
  have hL1 := ((hL1.same m9).same m10).same (m11.trans st2)
  have hL2 := (hL2.same m10).same (m11.trans st2)
  have hB1 := hB1.same (m11.trans st2)
  have hB2 := hB2.same st2
  have ht2 : SqT K (upd H11 t2 (.tup [.ref l1, .ref l2, .ref n1, .ref n2])) t2 [.ref l1, .ref l2, .ref n1, .ref n2] := SqT.of upd_same
  generalize upd H11 t2 (.tup [.ref l1, .ref l2, .ref n1, .ref n2]) = H12 at *
  refine ⟨t2, _, rfl, ht2, rfl, _, _, rfl, _, _, rfl, _, _, rfl, _, _, rfl, rfl, ?_⟩
  have mp := gN2.n1
  have np' := gN1.n1
  have n24 := gN1.n24
  have m24 := gN2.n24
  -- thing
  refine ⟨_, rfl, _, rfl, _, rfl, p, l1, l2, n, m, ths, oths, rfl, s12, hL1, hL2, nl1p, nl2p, gN1.rng, mp, m24, n24, fun th tn H13 hth htl htb s13 e13 => ?_⟩
  have hL1 := hL1.exb s12 e13 nl1p
  have hL2 := hL2.exb s12 e13 nl2p
  have hB1 := NB.exb s12 e13 hB1
  have hB2 := NB.exb s12 e13 hB2
  -- row
  refine ⟨_, rfl, _, rfl, _, rfl, by show 4 ≤ sizeLine; decide, fun L nL => ?_⟩
  have sL := Same.new (o := .lst [.int (m : Int), .int (m : Int), .int 0, .int 3]) nL
  refine ⟨p, L, _, rfl, sL.src s13, upd_same, s13.ne nL, by show 0 < 4; decide, by show 4 < 1000000; decide, fun v H14 hv s14 e14 => ?_⟩
  obtain ⟨j, rfl, j0, j24⟩ : ∃ j : Int, v = .int j ∧ 0 ≤ j ∧ j ≤ 24 := by
    simp only [List.mem_cons, List.not_mem_nil, or_false] at hv
    rcases hv with rfl | rfl | rfl | rfl
    · exact ⟨_, rfl, by omega, by omega⟩
    · exact ⟨_, rfl, by omega, by omega⟩
    · exact ⟨_, rfl, by omega, by omega⟩
    · exact ⟨_, rfl, by omega, by omega⟩
  have e14 : Exb p H13 H14 := (Exb.of sL).trans e14
  refine ⟨j, rfl, by omega, by omega, fun D nD => ?_⟩
  refine lc_drawI p nD s14 (by omega) (fun _ => rfl) (fun i Ha Qa hi sa ea h => ⟨_, rfl, 10, 9, rfl, rfl, ⟨by decide, by decide, by decide⟩, p, _, rfl, sa, by decide, by decide, fun r Hb r0 r1 sb eb => ⟨r, 500, rfl, rfl, h _ _ sb eb⟩⟩) (fun rn H15 hrl neD hD s15 e15 => ?_)
  refine ⟨D, _, rfl, .inl ⟨SqL.of hD, fun rw_ nrw => ?_⟩⟩
  have srw := Same.new (o := .tup (rn.map V.int)) nrw
  have e1316 := (e14.trans e15).trans (Exb.of srw)
  have hrw : SqT K (upd H15 rw_ (.tup (rn.map V.int))) rw_ (rn.map V.int) := SqT.of upd_same
  have s16 := srw.src s15
  have hth := e1316.tup s13 hth
  have hL1 := hL1.exb s13 e1316 nl1p
  have hL2 := hL2.exb s13 e1316 nl2p
  have hB1 := NB.exb s13 e1316 hB1
  have hB2 := NB.exb s13 e1316 hB2
  have e16 := (e12.trans e13).trans e1316
  clear e1316 e12 e13 e14 e15
  generalize upd H15 rw_ (.tup (rn.map V.int)) = H16 at *
  refine gN ?_
  dsimp only
  refine seqK (fun σ' H' => σ' = [some (.ref a), some (.int (0 + (k : Int))), some (.ref p), some (.int (n : Int)), some (.int (m : Int)), some (.ref r1), some (.ref r2), some (.ref l1), some (.ref l2), some (.ref n1), some (.ref n2), some (.ref th), some (.ref rw_), y13, y14] ∧ Same H16 H') (fun N hN => ?_) ?_
  · refine ⟨_, rfl, _, rfl, rw_, th, rn, tn, rfl, hrw, hth, by omega, fun v1 Ha sa d1 => ⟨_, rfl, _, rfl, rw_, th, rn, tn, rfl, sa.tup hrw, sa.tup hth, by omega, fun v2 Hb sb d2 => ⟨_, _, dp_same sb _ _ d1, d2, pullD_sh _ _, pullD_sh _ _, _, rfl, ?_⟩⟩⟩
    rw [pullD_eqv]
    refine iteF ?_
    have sab := sa.trans sb
    have hv := thI (sab.tup hth) (by omega)
    by_cases hm : IsMapN n m ths oths (.row (tn.map some))
    · refine ⟨_, rfl, _, rfl, _, rfl, n1, n2, _, n, m, ths, oths, _, rfl, hB1.same sab, hB2.same sab, gN1.rng, gN1.len, hv, fun _ Hc sc => ⟨_, rfl, _, rfl, _, rfl, l1, l2, _, n, m, ths, oths, _, rfl, hL1.same (sab.trans sc), hL2.same (sab.trans sc), gN1.rng, n24, m24, hv.same sc, fun _ Hd sd => ?_, fun z => absurd hm z⟩, fun z => absurd hm z⟩
      exact ⟨rfl, _, rfl, itF (by simp) (hN _ _ ⟨rfl, (sab.trans sc).trans sd⟩)⟩
    · refine ⟨_, rfl, _, rfl, _, rfl, n1, n2, _, n, m, ths, oths, _, rfl, hB1.same sab, hB2.same sab, gN1.rng, gN1.len, hv, fun z => absurd z hm, fun _ Hc sc => ⟨_, rfl, _, rfl, _, rfl, l1, l2, _, n, m, ths, oths, _, rfl, hL1.same (sab.trans sc), hL2.same (sab.trans sc), gN1.rng, n24, m24, hv.same sc, fun z => absurd z hm, fun _ Hd sd => ?_⟩⟩
      exact ⟨rfl, _, rfl, itF (by simp) (hN _ _ ⟨rfl, (sab.trans sc).trans sd⟩)⟩
  rintro σ' H17 ⟨rfl, s1617⟩
  have s17 := s1617.src s16
  have e17 := e16.trans (Exb.of s1617)
  -- the other thing
  refine seqK (fun σ' H' => ∃ v θ, σ' = [some (.ref a), some (.int (0 + (k : Int))), some (.ref p), some (.int (n : Int)), some (.int (m : Int)), some (.ref r1), some (.ref r2), some (.ref l1), some (.ref l2), some (.ref n1), some (.ref n2), some v, some (.ref rw_), y13, y14] ∧ ThV K H' v θ ∧ Src H' p ∧ Exb p H17 H') (fun N hN => ?_) ?_
  · refine ⟨_, rfl, p, 2, rfl, s17, by decide, by decide, fun c Ha c0 c1 sa ea => ?_⟩
    have hth := ea.tup s17 (s1617.tup hth)
    refine ⟨rfl, _, rfl, ite2 (fun _ => ?_) (fun _ => ?_)⟩
    · refine ⟨_, rfl, _, rfl, _, rfl, p, th, tn, m, rfl, sa, hth, by omega, by omega, mp, m24, fun v θ Hb hv sb eb => hN _ _ ⟨v, θ, rfl, hv, sb, ea.trans eb⟩⟩
    · exact hN _ _ ⟨_, _, rfl, thI hth (by omega), sa, ea⟩
  rintro σ' H18 ⟨v, θ, rfl, hv, s18, e1718⟩
  have e18 := e17.trans e1718
  have hL1 := (hL1.same s1617).exb s17 e1718 nl1p
  have hL2 := (hL2.same s1617).exb s17 e1718 nl2p
  have hB1 := NB.exb s17 e1718 (hB1.same s1617)
  have hB2 := NB.exb s17 e1718 (hB2.same s1617)
  have hrw := e1718.tup s17 (s1617.tup hrw)
  refine seqK (fun σ' H' => σ' = [some (.ref a), some (.int (0 + (k : Int))), some (.ref p), some (.int (n : Int)), some (.int (m : Int)), some (.ref r1), some (.ref r2), some (.ref l1), some (.ref l2), some (.ref n1), some (.ref n2), some v, some (.ref rw_), y13, y14] ∧ Same H18 H') (fun N hN => ?_) ?_
  · by_cases hm : IsMapN n m ths oths θ
    · refine ⟨_, rfl, _, rfl, _, rfl, n1, n2, _, n, m, ths, oths, _, rfl, hB1, hB2, gN1.rng, gN1.len, hv, fun _ Hc sc => ⟨_, rfl, _, rfl, _, rfl, l1, l2, _, n, m, ths, oths, _, rfl, hL1.same sc, hL2.same sc, gN1.rng, n24, m24, hv.same sc, fun _ Hd sd => ?_, fun z => absurd hm z⟩, fun z => absurd hm z⟩
      exact ⟨rfl, _, rfl, itF (by simp) (hN _ _ ⟨rfl, sc.trans sd⟩)⟩
    · refine ⟨_, rfl, _, rfl, _, rfl, n1, n2, _, n, m, ths, oths, _, rfl, hB1, hB2, gN1.rng, gN1.len, hv, fun z => absurd z hm, fun _ Hc sc => ⟨_, rfl, _, rfl, _, rfl, l1, l2, _, n, m, ths, oths, _, rfl, hL1.same sc, hL2.same sc, gN1.rng, n24, m24, hv.same sc, fun z => absurd z hm, fun _ Hd sd => ?_⟩⟩
      exact ⟨rfl, _, rfl, itF (by simp) (hN _ _ ⟨rfl, sc.trans sd⟩)⟩
  rintro σ' H19 ⟨rfl, s1819⟩
  have s19 := s1819.src s18
  have e19 := e18.trans (Exb.of s1819)
  have hrw := s1819.tup hrw
  -- places
  refine ⟨_, rfl, p, 9, rfl, s19, by decide, by decide, fun c Ha c0 c9 sa ea => ⟨c, rfl, by omega, by omega, fun D2 nD2 => ?_⟩⟩
  refine lc_drawI p nD2 sa (by omega) (fun _ => rfl) (fun i Hb Qb hi sb eb h => ⟨_, rfl, _, rfl, _, 2, rfl, rfl, p, _, rfl, sb, by omega, by omega, fun r Hc r0 r1 sc ec => ⟨r, 1, rfl, rfl, h _ _ sc ec⟩⟩) (fun pn H20 hpl neD2 hD2 s20 e20 => ?_)
  refine ⟨D2, _, rfl, .inl ⟨SqL.of hD2, fun pt npt => ?_⟩⟩
  have spt := Same.new (o := .tup (pn.map V.int)) npt
  have hpt : SqT K (upd H20 pt (.tup (pn.map V.int))) pt (pn.map V.int) := SqT.of upd_same
  have s21 := spt.src s20
  have e1921 := (ea.trans e20).trans (Exb.of spt)
  have hrw := e1921.tup s19 hrw
  have e21 := e19.trans e1921
  generalize upd H20 pt (.tup (pn.map V.int)) = H21 at *
  have hpl2 : pn.length < 1000 := by omega
  refine ⟨_, rfl, _, rfl, rw_, pt, rn, pn, rfl, hrw, hpt, hpl2, fun v1 Hx sx d1 => ⟨_, rfl, _, rfl, rw_, pt, rn, pn, rfl, sx.tup hrw, sx.tup hpt, hpl2, fun v2 Hy sy d2 => ⟨_, _, dp_same sy _ _ d1, d2, pullD_sh _ _, pullD_sh _ _, _, rfl, ?_⟩⟩⟩
  rw [pullD_eqv]
  refine iteF ?_
  have sxy := sx.trans sy
  refine ⟨Nat.zero_le _, fun e0 ne0 => ⟨_, rfl, ?_⟩⟩
  have s0 := Same.new (o := .tup []) ne0
  refine ⟨rw_, e0, rn, [], rfl, (sxy.trans s0).tup hrw, SqT.of upd_same, by decide, fun ns2 hp2 t5 H22 s22 ht5 => ?_, fun p2 hp2 => by cases hp2⟩
  cases (show ns2 = [] from by cases hp2; rfl)
  refine ⟨Nat.zero_le _, fun e9 ne9 => ?_⟩
  have s9 := Same.new (o := .tup []) ne9
  refine neT (ns := []) (ms := []) (s9.tup ht5) (SqT.of upd_same) ⟨_, rfl, itF (by simp) ?_⟩
  exact ⟨⟨_, _, _, _, _, _, _, _, _, _, _, _, _, _, rfl⟩, Same.used m1 np m2 (e21.trans (Exb.of ((sxy.trans s0).trans (s22.trans s9))))⟩
end
theorem law_start {K : PySem.W.Frag} {cs : CS} {H : Hp} (a : Addr) (ns : List Int) (hl : ns.length ≤ 63) (hS : SqL K H a (ns.map V.int)) : sp_law K cs [.ref a] H (fun v _ => v = .bl true) fun _ _ _ => False := ⟨a, ns, rfl, hS, hl, fun _ => rfl⟩
/-! ### what the top has written -/
theorem all_mk {l : PySem.W.OpenLaw} {w : World} {K : PySem.W.Frag} {h : Heap} {mg : Str → Option Value} {fa : Addr} (X : K.In h) (G : h.Ns mainGlobals mg) (hfa : mg "law" = some (.ref fa))
    {od0 an0 : Option Addr} {sl0 : Array (Option Value)} {oc0 kV0 dc0 pm0 cd0 ct0 : Value} {f0 : Addr}
    {od1 an1 : Option Addr} {sl1 : Array (Option Value)} {oc1 kV1 dc1 pm1 cd1 ct1 : Value} {f1 : Addr}
    {od2 an2 : Option Addr} {sl2 : Array (Option Value)} {oc2 kV2 dc2 pm2 cd2 ct2 : Value} {f2 : Addr}
    {od3 an3 : Option Addr} {sl3 : Array (Option Value)} {oc3 kV3 dc3 pm3 cd3 ct3 : Value} {f3 : Addr}
    {od4 an4 : Option Addr} {sl4 : Array (Option Value)} {oc4 kV4 dc4 pm4 cd4 ct4 : Value} {f4 : Addr}
    {od5 an5 : Option Addr} {sl5 : Array (Option Value)} {oc5 kV5 dc5 pm5 cd5 ct5 : Value} {f5 : Addr}
    {od6 an6 : Option Addr} {sl6 : Array (Option Value)} {oc6 kV6 dc6 pm6 cd6 ct6 : Value} {f6 : Addr}
    {od7 an7 : Option Addr} {sl7 : Array (Option Value)} {oc7 kV7 dc7 pm7 cd7 ct7 : Value} {f7 : Addr}
    {od8 an8 : Option Addr} {sl8 : Array (Option Value)} {oc8 kV8 dc8 pm8 cd8 ct8 : Value} {f8 : Addr}
    {od9 an9 : Option Addr} {sl9 : Array (Option Value)} {oc9 kV9 dc9 pm9 cd9 ct9 : Value} {f9 : Addr}
    {od10 an10 : Option Addr} {sl10 : Array (Option Value)} {oc10 kV10 dc10 pm10 cd10 ct10 : Value} {f10 : Addr}
    {od11 an11 : Option Addr} {sl11 : Array (Option Value)} {oc11 kV11 dc11 pm11 cd11 ct11 : Value} {f11 : Addr}
    {od12 an12 : Option Addr} {sl12 : Array (Option Value)} {oc12 kV12 dc12 pm12 cd12 ct12 : Value} {f12 : Addr}
    {od13 an13 : Option Addr} {sl13 : Array (Option Value)} {oc13 kV13 dc13 pm13 cd13 ct13 : Value} {f13 : Addr}
    {od14 an14 : Option Addr} {sl14 : Array (Option Value)} {oc14 kV14 dc14 pm14 cd14 ct14 : Value} {f14 : Addr}
    {od15 an15 : Option Addr} {sl15 : Array (Option Value)} {oc15 kV15 dc15 pm15 cd15 ct15 : Value} {f15 : Addr}
    {od16 an16 : Option Addr} {sl16 : Array (Option Value)} {oc16 kV16 dc16 pm16 cd16 ct16 : Value} {f16 : Addr}
    {od17 an17 : Option Addr} {sl17 : Array (Option Value)} {oc17 kV17 dc17 pm17 cd17 ct17 : Value} {f17 : Addr}
    {od18 an18 : Option Addr} {sl18 : Array (Option Value)} {oc18 kV18 dc18 pm18 cd18 ct18 : Value} {f18 : Addr}
    {od19 an19 : Option Addr} {sl19 : Array (Option Value)} {oc19 kV19 dc19 pm19 cd19 ct19 : Value} {f19 : Addr}
    {od20 an20 : Option Addr} {sl20 : Array (Option Value)} {oc20 kV20 dc20 pm20 cd20 ct20 : Value} {f20 : Addr}
    {od21 an21 : Option Addr} {sl21 : Array (Option Value)} {oc21 kV21 dc21 pm21 cd21 ct21 : Value} {f21 : Addr}
    {C_Net C_Refused C_BadPlace : Addr}
    {nm_Refused q_Refused : Str} {N_Refused : Addr} {bs_Refused bm_Refused : List Value} {sn_Refused : List Str} {su_Refused : List Value} {ab_Refused : Bool} {co_Refused : Option Bool} {dd_Refused : Option Addr} {m0_Refused m1_Refused m2_Refused m3_Refused m5_Refused : Option Value}
    {nm_BadPlace q_BadPlace : Str} {N_BadPlace : Addr} {bs_BadPlace bm_BadPlace : List Value} {sn_BadPlace : List Str} {su_BadPlace : List Value} {ab_BadPlace : Bool} {co_BadPlace : Option Bool} {dd_BadPlace : Option Addr} {m0_BadPlace m1_BadPlace m2_BadPlace m3_BadPlace m5_BadPlace : Option Value}
    
    (A_Net : PySem.W.nsIn K mainGlobals "Net" = some (some (.ref C_Net)))
    (A_Refused : PySem.W.nsIn K mainGlobals "Refused" = some (some (.ref C_Refused)))
    (A_BadPlace : PySem.W.nsIn K mainGlobals "BadPlace" = some (some (.ref C_BadPlace)))
    (a0 : PySem.W.findIn K (.ref C_Refused) "__init__" = some (some (.ref f0)))
    (t0 : PySem.W.typeIn K (.ref f0) = some (.type "function"))
    (l0 : K.lookup f0 = some ⟨oc0, od0, .func (PySem.W.fnOf "__init__" "Refused.__init__" (defArgs s_Refused_init) (defBody s_Refused_init) (defScope s_Refused_init) .none kV0 dc0 pm0 an0 cd0 ct0), sl0⟩)
    (c0 : PySem.W.codeIn K cd0 "Refused.__init__" = true)
    (k0 : PySem.W.keepIn K (.ref f0) = true)
    (a1 : PySem.W.findIn K (.ref C_Net) "__init__" = some (some (.ref f1)))
    (t1 : PySem.W.typeIn K (.ref f1) = some (.type "function"))
    (l1 : K.lookup f1 = some ⟨oc1, od1, .func (PySem.W.fnOf "__init__" "Net.__init__" (defArgs s_Net_init) (defBody s_Net_init) (defScope s_Net_init) .none kV1 dc1 pm1 an1 cd1 ct1), sl1⟩)
    (c1 : PySem.W.codeIn K cd1 "Net.__init__" = true)
    (k1 : PySem.W.keepIn K (.ref f1) = true)
    (a2 : PySem.W.nsIn K mainGlobals "is_number" = some (some (.ref f2)))
    (l2 : K.lookup f2 = some ⟨oc2, od2, .func (PySem.W.fnOf "is_number" "is_number" (defArgs s_is_number) (defBody s_is_number) (defScope s_is_number) .none kV2 dc2 pm2 an2 cd2 ct2), sl2⟩)
    (c2 : PySem.W.codeIn K cd2 "is_number" = true)
    (k2 : PySem.W.keepIn K (.ref f2) = true)
    (a3 : PySem.W.nsIn K mainGlobals "are_numbers" = some (some (.ref f3)))
    (l3 : K.lookup f3 = some ⟨oc3, od3, .func (PySem.W.fnOf "are_numbers" "are_numbers" (defArgs s_are_numbers) (defBody s_are_numbers) (defScope s_are_numbers) .none kV3 dc3 pm3 an3 cd3 ct3), sl3⟩)
    (c3 : PySem.W.codeIn K cd3 "are_numbers" = true)
    (k3 : PySem.W.keepIn K (.ref f3) = true)
    (a4 : PySem.W.nsIn K mainGlobals "is_pair" = some (some (.ref f4)))
    (l4 : K.lookup f4 = some ⟨oc4, od4, .func (PySem.W.fnOf "is_pair" "is_pair" (defArgs s_is_pair) (defBody s_is_pair) (defScope s_is_pair) .none kV4 dc4 pm4 an4 cd4 ct4), sl4⟩)
    (c4 : PySem.W.codeIn K cd4 "is_pair" = true)
    (k4 : PySem.W.keepIn K (.ref f4) = true)
    (a5 : PySem.W.nsIn K mainGlobals "is_thread" = some (some (.ref f5)))
    (l5 : K.lookup f5 = some ⟨oc5, od5, .func (PySem.W.fnOf "is_thread" "is_thread" (defArgs s_is_thread) (defBody s_is_thread) (defScope s_is_thread) .none kV5 dc5 pm5 an5 cd5 ct5), sl5⟩)
    (c5 : PySem.W.codeIn K cd5 "is_thread" = true)
    (k5 : PySem.W.keepIn K (.ref f5) = true)
    (a6 : PySem.W.nsIn K mainGlobals "come_to" = some (some (.ref f6)))
    (l6 : K.lookup f6 = some ⟨oc6, od6, .func (PySem.W.fnOf "come_to" "come_to" (defArgs s_come_to) (defBody s_come_to) (defScope s_come_to) .none kV6 dc6 pm6 an6 cd6 ct6), sl6⟩)
    (c6 : PySem.W.codeIn K cd6 "come_to" = true)
    (k6 : PySem.W.keepIn K (.ref f6) = true)
    (a7 : PySem.W.nsIn K mainGlobals "made_net" = some (some (.ref f7)))
    (l7 : K.lookup f7 = some ⟨oc7, od7, .func (PySem.W.fnOf "made_net" "made_net" (defArgs s_made_net) (defBody s_made_net) (defScope s_made_net) .none kV7 dc7 pm7 an7 cd7 ct7), sl7⟩)
    (c7 : PySem.W.codeIn K cd7 "made_net" = true)
    (k7 : PySem.W.keepIn K (.ref f7) = true)
    (a8 : PySem.W.nsIn K mainGlobals "is_net_map" = some (some (.ref f8)))
    (l8 : K.lookup f8 = some ⟨oc8, od8, .func (PySem.W.fnOf "is_net_map" "is_net_map" (defArgs s_is_net_map) (defBody s_is_net_map) (defScope s_is_net_map) .none kV8 dc8 pm8 an8 cd8 ct8), sl8⟩)
    (c8 : PySem.W.codeIn K cd8 "is_net_map" = true)
    (k8 : PySem.W.keepIn K (.ref f8) = true)
    (a9 : PySem.W.nsIn K mainGlobals "pulled" = some (some (.ref f9)))
    (l9 : K.lookup f9 = some ⟨oc9, od9, .func (PySem.W.fnOf "pulled" "pulled" (defArgs s_pulled) (defBody s_pulled) (defScope s_pulled) .none kV9 dc9 pm9 an9 cd9 ct9), sl9⟩)
    (c9 : PySem.W.codeIn K cd9 "pulled" = true)
    (k9 : PySem.W.keepIn K (.ref f9) = true)
    (a10 : PySem.W.nsIn K mainGlobals "_law_pool" = some (some (.ref f10)))
    (l10 : K.lookup f10 = some ⟨oc10, od10, .func (PySem.W.fnOf "_law_pool" "_law_pool" (defArgs s__law_pool) (defBody s__law_pool) (defScope s__law_pool) .none kV10 dc10 pm10 an10 cd10 ct10), sl10⟩)
    (c10 : PySem.W.codeIn K cd10 "_law_pool" = true)
    (k10 : PySem.W.keepIn K (.ref f10) = true)
    (a11 : PySem.W.nsIn K mainGlobals "_law_take" = some (some (.ref f11)))
    (l11 : K.lookup f11 = some ⟨oc11, od11, .func (PySem.W.fnOf "_law_take" "_law_take" (defArgs s__law_take) (defBody s__law_take) (defScope s__law_take) .none kV11 dc11 pm11 an11 cd11 ct11), sl11⟩)
    (c11 : PySem.W.codeIn K cd11 "_law_take" = true)
    (k11 : PySem.W.keepIn K (.ref f11) = true)
    (a12 : PySem.W.nsIn K mainGlobals "_law_one" = some (some (.ref f12)))
    (l12 : K.lookup f12 = some ⟨oc12, od12, .func (PySem.W.fnOf "_law_one" "_law_one" (defArgs s__law_one) (defBody s__law_one) (defScope s__law_one) .none kV12 dc12 pm12 an12 cd12 ct12), sl12⟩)
    (c12 : PySem.W.codeIn K cd12 "_law_one" = true)
    (k12 : PySem.W.keepIn K (.ref f12) = true)
    (a13 : PySem.W.nsIn K mainGlobals "_law_near" = some (some (.ref f13)))
    (l13 : K.lookup f13 = some ⟨oc13, od13, .func (PySem.W.fnOf "_law_near" "_law_near" (defArgs s__law_near) (defBody s__law_near) (defScope s__law_near) .none kV13 dc13 pm13 an13 cd13 ct13), sl13⟩)
    (c13 : PySem.W.codeIn K cd13 "_law_near" = true)
    (k13 : PySem.W.keepIn K (.ref f13) = true)
    (a14 : PySem.W.nsIn K mainGlobals "_law_tree" = some (some (.ref f14)))
    (l14 : K.lookup f14 = some ⟨oc14, od14, .func (PySem.W.fnOf "_law_tree" "_law_tree" (defArgs s__law_tree) (defBody s__law_tree) (defScope s__law_tree) .none kV14 dc14 pm14 an14 cd14 ct14), sl14⟩)
    (c14 : PySem.W.codeIn K cd14 "_law_tree" = true)
    (k14 : PySem.W.keepIn K (.ref f14) = true)
    (a15 : PySem.W.nsIn K mainGlobals "_law_net" = some (some (.ref f15)))
    (l15 : K.lookup f15 = some ⟨oc15, od15, .func (PySem.W.fnOf "_law_net" "_law_net" (defArgs s__law_net) (defBody s__law_net) (defScope s__law_net) .none kV15 dc15 pm15 an15 cd15 ct15), sl15⟩)
    (c15 : PySem.W.codeIn K cd15 "_law_net" = true)
    (k15 : PySem.W.keepIn K (.ref f15) = true)
    (a16 : PySem.W.nsIn K mainGlobals "_law_drawn" = some (some (.ref f16)))
    (l16 : K.lookup f16 = some ⟨oc16, od16, .func (PySem.W.fnOf "_law_drawn" "_law_drawn" (defArgs s__law_drawn) (defBody s__law_drawn) (defScope s__law_drawn) .none kV16 dc16 pm16 an16 cd16 ct16), sl16⟩)
    (c16 : PySem.W.codeIn K cd16 "_law_drawn" = true)
    (k16 : PySem.W.keepIn K (.ref f16) = true)
    (a17 : PySem.W.nsIn K mainGlobals "_law_bent" = some (some (.ref f17)))
    (l17 : K.lookup f17 = some ⟨oc17, od17, .func (PySem.W.fnOf "_law_bent" "_law_bent" (defArgs s__law_bent) (defBody s__law_bent) (defScope s__law_bent) .none kV17 dc17 pm17 an17 cd17 ct17), sl17⟩)
    (c17 : PySem.W.codeIn K cd17 "_law_bent" = true)
    (k17 : PySem.W.keepIn K (.ref f17) = true)
    (a18 : PySem.W.nsIn K mainGlobals "_law_is_map" = some (some (.ref f18)))
    (l18 : K.lookup f18 = some ⟨oc18, od18, .func (PySem.W.fnOf "_law_is_map" "_law_is_map" (defArgs s__law_is_map) (defBody s__law_is_map) (defScope s__law_is_map) .none kV18 dc18 pm18 an18 cd18 ct18), sl18⟩)
    (c18 : PySem.W.codeIn K cd18 "_law_is_map" = true)
    (k18 : PySem.W.keepIn K (.ref f18) = true)
    (a19 : PySem.W.nsIn K mainGlobals "_law_told" = some (some (.ref f19)))
    (l19 : K.lookup f19 = some ⟨oc19, od19, .func (PySem.W.fnOf "_law_told" "_law_told" (defArgs s__law_told) (defBody s__law_told) (defScope s__law_told) .none kV19 dc19 pm19 an19 cd19 ct19), sl19⟩)
    (c19 : PySem.W.codeIn K cd19 "_law_told" = true)
    (k19 : PySem.W.keepIn K (.ref f19) = true)
    (a20 : PySem.W.nsIn K mainGlobals "_law_due" = some (some (.ref f20)))
    (l20 : K.lookup f20 = some ⟨oc20, od20, .func (PySem.W.fnOf "_law_due" "_law_due" (defArgs s__law_due) (defBody s__law_due) (defScope s__law_due) .none kV20 dc20 pm20 an20 cd20 ct20), sl20⟩)
    (c20 : PySem.W.codeIn K cd20 "_law_due" = true)
    (k20 : PySem.W.keepIn K (.ref f20) = true)
    (a21 : PySem.W.nsIn K mainGlobals "law" = some (some (.ref f21)))
    (l21 : K.lookup f21 = some ⟨oc21, od21, .func (PySem.W.fnOf "law" "law" (defArgs s_law) (defBody s_law) (defScope s_law) .none kV21 dc21 pm21 an21 cd21 ct21), sl21⟩)
    (c21 : PySem.W.codeIn K cd21 "law" = true)
    (k21 : PySem.W.keepIn K (.ref f21) = true)
    (P1_Net : PySem.W.plainGet K C_Net Str.empty = true)
    (P2_Net : PySem.W.hasDictIn K C_Net = true)
    (P3_Net : PySem.W.plainOver K C_Net = true)
    (P4_Net : PySem.W.findIn K (.ref C_Net) "__setattr__" = some (some (.builtin "object.__setattr__")))
    (PN_Net_many : PySem.W.findIn K (.ref C_Net) "many" = some none)
    (PN_Net_threads : PySem.W.findIn K (.ref C_Net) "threads" = some none)
    (PN_Net_near : PySem.W.findIn K (.ref C_Net) "near" = some none)
    (M1_Net : PySem.W.makesIn K C_Net = true)
    (M3_Net : PySem.W.isFn K (.ref f1) = true)
    (M4_Net : PySem.W.keepIn K (.ref C_Net) = true)
    (E1_Refused : K.lookup C_Refused = some (excClassObj nm_Refused q_Refused C_Refused N_Refused bs_Refused bm_Refused true sn_Refused su_Refused ab_Refused co_Refused dd_Refused m0_Refused m1_Refused m2_Refused m3_Refused m5_Refused "ValueError.__new__"))
    (E4_Refused : PySem.W.subIn K (.ref C_Refused) (.type "BaseException") = some true)
    (E5_Refused : PySem.W.typeIn K (.ref C_Refused) = some (.type "type"))
    (E9_Refused : PySem.W.hasDictIn K C_Refused = true)
    (E1_BadPlace : K.lookup C_BadPlace = some (excClassObj nm_BadPlace q_BadPlace C_BadPlace N_BadPlace bs_BadPlace bm_BadPlace true sn_BadPlace su_BadPlace ab_BadPlace co_BadPlace dd_BadPlace m0_BadPlace m1_BadPlace m2_BadPlace m3_BadPlace m5_BadPlace "ValueError.__new__"))
    (E4_BadPlace : PySem.W.subIn K (.ref C_BadPlace) (.type "BaseException") = some true)
    (E5_BadPlace : PySem.W.typeIn K (.ref C_BadPlace) = some (.type "type"))
    (E9_BadPlace : PySem.W.hasDictIn K C_BadPlace = true)
    (E2_BadPlace : HandSPX.refsVE bm_BadPlace = true)
    (E3_BadPlace : PySem.W.findIn K (.ref C_BadPlace) "__setattr__" = some (some (.builtin "object.__setattr__")))
    (E6_BadPlace : PySem.W.keepIn K (.ref C_BadPlace) = true)
    (E7_BadPlace : PySem.W.findIn K (.ref C_BadPlace) "__getattribute__" = some (some (.builtin "BaseException.__getattribute__")))
    (E8_BadPlace : PySem.W.findIn K (.ref C_BadPlace) "__getattr__" = some none)
    (EA_BadPlace : (PySem.W.clsIn K C_BadPlace).isSome = true)
    (EB_BadPlace : PySem.W.findIn K (.ref C_BadPlace) "__class__" = some (some (.builtin "object.__class__")))
    (EC_BadPlace : PySem.W.mroIn K C_BadPlace (.type "object") = some true)
    (ED_BadPlace : PySem.W.findIn K (.ref C_BadPlace) "what" = some none)
    (EI_BadPlace : PySem.W.findIn K (.ref C_BadPlace) "__init__" = some (some (.ref f0)))
    (EG : PySem.W.specialIn K (.builtin "object.__class__") "__get__" = some (some (.builtin "getset_descriptor.__get__")))
    (ET : PySem.W.takesIn K (.builtin "object.__class__") = some true)
    (X_BadPlace_Refused : PySem.W.exmOne K (.ref C_BadPlace) (.ref C_Refused) = some true)
    (I_BadPlace_BadPlace : PySem.W.kitOne K (.ref C_BadPlace) (.ref C_BadPlace) = some true)
    (z_all : PySem.W.nsIn K mainGlobals "all" = some none)
    (z_bool : PySem.W.nsIn K mainGlobals "bool" = some none)
    (z_enumerate : PySem.W.nsIn K mainGlobals "enumerate" = some none)
    (z_int : PySem.W.nsIn K mainGlobals "int" = some none)
    (z_isinstance : PySem.W.nsIn K mainGlobals "isinstance" = some none)
    (z_len : PySem.W.nsIn K mainGlobals "len" = some none)
    (z_max : PySem.W.nsIn K mainGlobals "max" = some none)
    (z_range : PySem.W.nsIn K mainGlobals "range" = some none)
    (z_sorted : PySem.W.nsIn K mainGlobals "sorted" = some none)
    (z_tuple : PySem.W.nsIn K mainGlobals "tuple" = some none)
    (y_MOST_PLACES : ∃ t, PySem.W.nsIn K mainGlobals "MOST_PLACES" = some (some (.int 24 t)))
    (y_MOST_THREADS : ∃ t, PySem.W.nsIn K mainGlobals "MOST_THREADS" = some (some (.int 60 t))) :
    ∃ fd : FuncData, (∀ (s : Shared) (v : Value), BindsTo s fd ⟨[v], []⟩ [("script", v)]) ∧ ∀ base : Heap, K.In base → base.Ns mainGlobals mg → FnOk l.prog w K mg base CX0 6 fa fd ["script"] (sp_law K ⟨(), 0, 0, 0⟩) := by
  have e := hfa.symm.trans (PySem.W.mg_of X G a21)
  cases e
  have T0 : Txn K mg (⟨(), C_Net, C_Refused, C_BadPlace⟩ : CS) := ⟨PySem.W.mg_none_of X G z_all, PySem.W.mg_none_of X G z_bool, PySem.W.mg_none_of X G z_enumerate, PySem.W.mg_none_of X G z_int, PySem.W.mg_none_of X G z_isinstance, PySem.W.mg_none_of X G z_len, PySem.W.mg_none_of X G z_max, PySem.W.mg_none_of X G z_range, PySem.W.mg_none_of X G z_sorted, PySem.W.mg_none_of X G z_tuple, (let ⟨t, y⟩ := y_MOST_PLACES; ⟨t, PySem.W.mg_of X G y⟩), (let ⟨t, y⟩ := y_MOST_THREADS; ⟨t, PySem.W.mg_of X G y⟩), PySem.W.mg_of X G A_Net, PySem.W.mg_of X G A_Refused, PySem.W.mg_of X G A_BadPlace, ⟨P1_Net, P2_Net, P3_Net, P4_Net⟩, PN_Net_many, PN_Net_threads, PN_Net_near, ⟨⟨⟨_, _, _, _, _, _, _, _, _, _, _, _, _, _, _, E1_BadPlace, E2_BadPlace⟩, E3_BadPlace, E4_BadPlace, E5_BadPlace, E6_BadPlace⟩, ED_BadPlace, ⟨E7_BadPlace, E8_BadPlace, E4_BadPlace, E9_BadPlace⟩, EA_BadPlace, EB_BadPlace, EG, ET, EC_BadPlace⟩, X_BadPlace_Refused, I_BadPlace_BadPlace⟩
  have F0 := fun_mk (x := "__init__") (qual := "Refused.__init__") (st := s_Refused_init) l0 c0 k0
  have b0 := F0.binds (ps := ["self", "what"]) fun _ _ _ _ _ _ us hl => match us, hl with | [_, _], _ => rfl
  have F1 := fun_mk (x := "__init__") (qual := "Net.__init__") (st := s_Net_init) l1 c1 k1
  have b1 := F1.binds (ps := ["self", "many", "threads"]) fun _ _ _ _ _ _ us hl => match us, hl with | [_, _, _], _ => rfl
  have F2 := fun_mk (x := "is_number") (qual := "is_number") (st := s_is_number) l2 c2 k2
  have b2 := F2.binds (ps := ["thing"]) fun _ _ _ _ _ _ us hl => match us, hl with | [_], _ => rfl
  have F3 := fun_mk (x := "are_numbers") (qual := "are_numbers") (st := s_are_numbers) l3 c3 k3
  have b3 := F3.binds (ps := ["thing"]) fun _ _ _ _ _ _ us hl => match us, hl with | [_], _ => rfl
  have F4 := fun_mk (x := "is_pair") (qual := "is_pair") (st := s_is_pair) l4 c4 k4
  have b4 := F4.binds (ps := ["thing"]) fun _ _ _ _ _ _ us hl => match us, hl with | [_], _ => rfl
  have F5 := fun_mk (x := "is_thread") (qual := "is_thread") (st := s_is_thread) l5 c5 k5
  have b5 := F5.binds (ps := ["thread", "many"]) fun _ _ _ _ _ _ us hl => match us, hl with | [_, _], _ => rfl
  have F6 := fun_mk (x := "come_to") (qual := "come_to") (st := s_come_to) l6 c6 k6
  have b6 := F6.binds (ps := ["net", "x"]) fun _ _ _ _ _ _ us hl => match us, hl with | [_, _], _ => rfl
  have F7 := fun_mk (x := "made_net") (qual := "made_net") (st := s_made_net) l7 c7 k7
  have b7 := F7.binds (ps := ["many", "threads"]) fun _ _ _ _ _ _ us hl => match us, hl with | [_, _], _ => rfl
  have F8 := fun_mk (x := "is_net_map") (qual := "is_net_map") (st := s_is_net_map) l8 c8 k8
  have b8 := F8.binds (ps := ["net", "other", "places"]) fun _ _ _ _ _ _ us hl => match us, hl with | [_, _, _], _ => rfl
  have F9 := fun_mk (x := "pulled") (qual := "pulled") (st := s_pulled) l9 c9 k9
  have b9 := F9.binds (ps := ["standing", "places"]) fun _ _ _ _ _ _ us hl => match us, hl with | [_, _], _ => rfl
  have F10 := fun_mk (x := "_law_pool") (qual := "_law_pool") (st := s__law_pool) l10 c10 k10
  have b10 := F10.binds (ps := ["script", "k"]) fun _ _ _ _ _ _ us hl => match us, hl with | [_, _], _ => rfl
  have F11 := fun_mk (x := "_law_take") (qual := "_law_take") (st := s__law_take) l11 c11 k11
  have b11 := F11.binds (ps := ["source", "top"]) fun _ _ _ _ _ _ us hl => match us, hl with | [_, _], _ => rfl
  have F12 := fun_mk (x := "_law_one") (qual := "_law_one") (st := s__law_one) l12 c12 k12
  have b12 := F12.binds (ps := ["source", "things"]) fun _ _ _ _ _ _ us hl => match us, hl with | [_, _], _ => rfl
  have F13 := fun_mk (x := "_law_near") (qual := "_law_near") (st := s__law_near) l13 c13 k13
  have b13 := F13.binds (ps := ["n", "threads"]) fun _ _ _ _ _ _ us hl => match us, hl with | [_, _], _ => rfl
  have F14 := fun_mk (x := "_law_tree") (qual := "_law_tree") (st := s__law_tree) l14 c14 k14
  have b14 := F14.binds (ps := ["source", "n"]) fun _ _ _ _ _ _ us hl => match us, hl with | [_, _], _ => rfl
  have F15 := fun_mk (x := "_law_net") (qual := "_law_net") (st := s__law_net) l15 c15 k15
  have b15 := F15.binds (ps := ["source", "n", "more"]) fun _ _ _ _ _ _ us hl => match us, hl with | [_, _, _], _ => rfl
  have F16 := fun_mk (x := "_law_drawn") (qual := "_law_drawn") (st := s__law_drawn) l16 c16 k16
  have b16 := F16.binds (ps := ["source", "near", "other"]) fun _ _ _ _ _ _ us hl => match us, hl with | [_, _, _], _ => rfl
  have F17 := fun_mk (x := "_law_bent") (qual := "_law_bent") (st := s__law_bent) l17 c17 k17
  have b17 := F17.binds (ps := ["source", "places", "many"]) fun _ _ _ _ _ _ us hl => match us, hl with | [_, _, _], _ => rfl
  have F18 := fun_mk (x := "_law_is_map") (qual := "_law_is_map") (st := s__law_is_map) l18 c18 k18
  have b18 := F18.binds (ps := ["near", "other", "thing"]) fun _ _ _ _ _ _ us hl => match us, hl with | [_, _, _], _ => rfl
  have F19 := fun_mk (x := "_law_told") (qual := "_law_told") (st := s__law_told) l19 c19 k19
  have b19 := F19.binds (ps := ["row", "places"]) fun _ _ _ _ _ _ us hl => match us, hl with | [_, _], _ => rfl
  have F20 := fun_mk (x := "_law_due") (qual := "_law_due") (st := s__law_due) l20 c20 k20
  have b20 := F20.binds (ps := ["row", "places"]) fun _ _ _ _ _ _ us hl => match us, hl with | [_, _], _ => rfl
  have F21 := fun_mk (x := "law") (qual := "law") (st := s_law) l21 c21 k21
  refine ⟨PySem.W.fnOf "law" "law" (defArgs s_law) (defBody s_law) (defScope s_law) .none kV21 dc21 pm21 an21 cd21 ct21, fun s v => .of_eq rfl, fun base _ _ => ?_⟩
  have T : Txt l.prog w K mg base (⟨(), C_Net, C_Refused, C_BadPlace⟩ : CS) := ⟨T0, trivial, ⟨_, _, ⟨M1_Net, a1, M3_Net, M4_Net⟩, ok_Net_init F1 T0, T0.gm_Net, b1⟩, ⟨T0.gm_BadPlace, T0.xc_BadPlace, _, _, EI_BadPlace, t0, ok_Refused_init F0 T0, b0⟩⟩
  have c_is_number : Cal l.prog w K mg base CX0 1 "is_number" ["thing"] s_is_number (sp_is_number K (⟨(), C_Net, C_Refused, C_BadPlace⟩ : CS)) := ⟨_, _, ok_is_number F2 T , F2, PySem.W.mg_of X G a2, b2⟩
  have c_are_numbers : Cal l.prog w K mg base CX0 2 "are_numbers" ["thing"] s_are_numbers (sp_are_numbers K (⟨(), C_Net, C_Refused, C_BadPlace⟩ : CS)) := ⟨_, _, ok_are_numbers F3 T c_is_number, F3, PySem.W.mg_of X G a3, b3⟩
  have c_is_pair : Cal l.prog w K mg base CX0 3 "is_pair" ["thing"] s_is_pair (sp_is_pair K (⟨(), C_Net, C_Refused, C_BadPlace⟩ : CS)) := ⟨_, _, ok_is_pair F4 T c_are_numbers, F4, PySem.W.mg_of X G a4, b4⟩
  have c_is_thread : Cal l.prog w K mg base CX0 4 "is_thread" ["thread", "many"] s_is_thread (sp_is_thread K (⟨(), C_Net, C_Refused, C_BadPlace⟩ : CS)) := ⟨_, _, ok_is_thread F5 T c_is_pair, F5, PySem.W.mg_of X G a5, b5⟩
  have c_come_to : Cal l.prog w K mg base CX0 1 "come_to" ["net", "x"] s_come_to (sp_come_to K (⟨(), C_Net, C_Refused, C_BadPlace⟩ : CS)) := ⟨_, _, ok_come_to F6 T , F6, PySem.W.mg_of X G a6, b6⟩
  have c_made_net : Cal l.prog w K mg base CX0 5 "made_net" ["many", "threads"] s_made_net (sp_made_net K (⟨(), C_Net, C_Refused, C_BadPlace⟩ : CS)) := ⟨_, _, ok_made_net F7 T c_is_thread c_come_to, F7, PySem.W.mg_of X G a7, b7⟩
  have c_is_net_map : Cal l.prog w K mg base CX0 3 "is_net_map" ["net", "other", "places"] s_is_net_map (sp_is_net_map K (⟨(), C_Net, C_Refused, C_BadPlace⟩ : CS)) := ⟨_, _, ok_is_net_map F8 T c_are_numbers, F8, PySem.W.mg_of X G a8, b8⟩
  have c_pulled : Cal l.prog w K mg base (L2.CX l.prog w) 3 "pulled" ["standing", "places"] s_pulled (sp_pulled K (⟨(), C_Net, C_Refused, C_BadPlace⟩ : CS)) := ⟨_, _, ok_pulled F9 T , F9, PySem.W.mg_of X G a9, b9⟩
  have c__law_pool : Cal l.prog w K mg base CX0 1 "_law_pool" ["script", "k"] s__law_pool (sp__law_pool K (⟨(), C_Net, C_Refused, C_BadPlace⟩ : CS)) := ⟨_, _, ok__law_pool F10 T , F10, PySem.W.mg_of X G a10, b10⟩
  have c__law_take : Cal l.prog w K mg base CX0 1 "_law_take" ["source", "top"] s__law_take (sp__law_take K (⟨(), C_Net, C_Refused, C_BadPlace⟩ : CS)) := ⟨_, _, ok__law_take F11 T , F11, PySem.W.mg_of X G a11, b11⟩
  have c__law_one : Cal l.prog w K mg base CX0 2 "_law_one" ["source", "things"] s__law_one (sp__law_one K (⟨(), C_Net, C_Refused, C_BadPlace⟩ : CS)) := ⟨_, _, ok__law_one F12 T c__law_take, F12, PySem.W.mg_of X G a12, b12⟩
  have c__law_near : Cal l.prog w K mg base CX0 1 "_law_near" ["n", "threads"] s__law_near (sp__law_near K (⟨(), C_Net, C_Refused, C_BadPlace⟩ : CS)) := ⟨_, _, ok__law_near F13 T , F13, PySem.W.mg_of X G a13, b13⟩
  have c__law_tree : Cal l.prog w K mg base CX0 2 "_law_tree" ["source", "n"] s__law_tree (sp__law_tree K (⟨(), C_Net, C_Refused, C_BadPlace⟩ : CS)) := ⟨_, _, ok__law_tree F14 T c__law_take, F14, PySem.W.mg_of X G a14, b14⟩
  have c__law_net : Cal l.prog w K mg base CX0 3 "_law_net" ["source", "n", "more"] s__law_net (sp__law_net K (⟨(), C_Net, C_Refused, C_BadPlace⟩ : CS)) := ⟨_, _, ok__law_net F15 T c__law_take c__law_tree, F15, PySem.W.mg_of X G a15, b15⟩
  have c__law_drawn : Cal l.prog w K mg base CX0 3 "_law_drawn" ["source", "near", "other"] s__law_drawn (sp__law_drawn K (⟨(), C_Net, C_Refused, C_BadPlace⟩ : CS)) := ⟨_, _, ok__law_drawn F16 T c__law_one, F16, PySem.W.mg_of X G a16, b16⟩
  have c__law_bent : Cal l.prog w K mg base CX0 3 "_law_bent" ["source", "places", "many"] s__law_bent (sp__law_bent K (⟨(), C_Net, C_Refused, C_BadPlace⟩ : CS)) := ⟨_, _, ok__law_bent F17 T c__law_take c__law_one, F17, PySem.W.mg_of X G a17, b17⟩
  have c__law_is_map : Cal l.prog w K mg base CX0 1 "_law_is_map" ["near", "other", "thing"] s__law_is_map (sp__law_is_map K (⟨(), C_Net, C_Refused, C_BadPlace⟩ : CS)) := ⟨_, _, ok__law_is_map F18 T , F18, PySem.W.mg_of X G a18, b18⟩
  have c__law_told : Cal l.prog w K mg base CX0 4 "_law_told" ["row", "places"] s__law_told (sp__law_told K (⟨(), C_Net, C_Refused, C_BadPlace⟩ : CS)) := ⟨_, _, ok__law_told F19 T c_pulled, F19, PySem.W.mg_of X G a19, b19⟩
  have c__law_due : Cal l.prog w K mg base CX0 1 "_law_due" ["row", "places"] s__law_due (sp__law_due K (⟨(), C_Net, C_Refused, C_BadPlace⟩ : CS)) := ⟨_, _, ok__law_due F20 T , F20, PySem.W.mg_of X G a20, b20⟩
  have zz := ok_law F21 T c_made_net c_is_net_map c_pulled c__law_pool c__law_take c__law_one c__law_near c__law_net c__law_drawn c__law_bent c__law_is_map c__law_told c__law_due
  exact zz
end K
open PySem PySem.W PyProof.Rows
set_option maxHeartbeats 0 in
theorem PySem.Challenge.cw_betweencoats_k40_maps_of_nets_and_pulled_holds : PySem.Challenge.rw_betweencoats_k40_maps_of_nets_and_pulled.Holds := by
  w_on; o_law; k_head; (case hw => w_witness2)
  k_fill
  refine L2.walk_of (l := PySem.Challenge.rw_betweencoats_k40_maps_of_nets_and_pulled) (n := 63) (k := 6) (x := "script") (CX := fun _ => L2.CX0) (sp := fun w => K.sp_law _ ⟨(), 0, 0, 0⟩) rfl (by decide) rfl ⟨rfl, by decide, by decide⟩ (fun w h Y => PySem.W.kIn_of Y) ?F (fun _ _ a ns hl _ hS => K.law_start a ns hl hS) (fun _ _ _ _ _ h => h)
  case F =>
    intro w mg fa h KX G hmg
    refine' K.all_mk KX G hmg ?A_Net ?A_Refused ?A_BadPlace ?a0 ?t0 ?l0 ?c0 ?k0 ?a1 ?t1 ?l1 ?c1 ?k1 ?a2 ?l2 ?c2 ?k2 ?a3 ?l3 ?c3 ?k3 ?a4 ?l4 ?c4 ?k4 ?a5 ?l5 ?c5 ?k5 ?a6 ?l6 ?c6 ?k6 ?a7 ?l7 ?c7 ?k7 ?a8 ?l8 ?c8 ?k8 ?a9 ?l9 ?c9 ?k9 ?a10 ?l10 ?c10 ?k10 ?a11 ?l11 ?c11 ?k11 ?a12 ?l12 ?c12 ?k12 ?a13 ?l13 ?c13 ?k13 ?a14 ?l14 ?c14 ?k14 ?a15 ?l15 ?c15 ?k15 ?a16 ?l16 ?c16 ?k16 ?a17 ?l17 ?c17 ?k17 ?a18 ?l18 ?c18 ?k18 ?a19 ?l19 ?c19 ?k19 ?a20 ?l20 ?c20 ?k20 ?a21 ?l21 ?c21 ?k21 ?P1_Net ?P2_Net ?P3_Net ?P4_Net ?PN_Net_many ?PN_Net_threads ?PN_Net_near ?M1_Net ?M3_Net ?M4_Net ?E1_Refused ?E4_Refused ?E5_Refused ?E9_Refused ?E1_BadPlace ?E4_BadPlace ?E5_BadPlace ?E9_BadPlace ?E2_BadPlace ?E3_BadPlace ?E6_BadPlace ?E7_BadPlace ?E8_BadPlace ?EA_BadPlace ?EB_BadPlace ?EC_BadPlace ?ED_BadPlace ?EI_BadPlace ?EG ?ET ?X_BadPlace_Refused ?I_BadPlace_BadPlace ?z_all ?z_bool ?z_enumerate ?z_int ?z_isinstance ?z_len ?z_max ?z_range ?z_sorted ?z_tuple ?y_MOST_PLACES ?y_MOST_THREADS
    (case A_Net => first | k_is | rfl)
    (case A_Refused => first | k_is | rfl)
    (case A_BadPlace => first | k_is | rfl)
    (case a0 => first | k_is | rfl)
    (case t0 => first | k_is | rfl)
    (case l0 => first | k_is | rfl)
    (case c0 => first | k_is | rfl)
    (case k0 => first | k_is | rfl)
    (case a1 => first | k_is | rfl)
    (case t1 => first | k_is | rfl)
    (case l1 => first | k_is | rfl)
    (case c1 => first | k_is | rfl)
    (case k1 => first | k_is | rfl)
    (case a2 => first | k_is | rfl)
    (case l2 => first | k_is | rfl)
    (case c2 => first | k_is | rfl)
    (case k2 => first | k_is | rfl)
    (case a3 => first | k_is | rfl)
    (case l3 => first | k_is | rfl)
    (case c3 => first | k_is | rfl)
    (case k3 => first | k_is | rfl)
    (case a4 => first | k_is | rfl)
    (case l4 => first | k_is | rfl)
    (case c4 => first | k_is | rfl)
    (case k4 => first | k_is | rfl)
    (case a5 => first | k_is | rfl)
    (case l5 => first | k_is | rfl)
    (case c5 => first | k_is | rfl)
    (case k5 => first | k_is | rfl)
    (case a6 => first | k_is | rfl)
    (case l6 => first | k_is | rfl)
    (case c6 => first | k_is | rfl)
    (case k6 => first | k_is | rfl)
    (case a7 => first | k_is | rfl)
    (case l7 => first | k_is | rfl)
    (case c7 => first | k_is | rfl)
    (case k7 => first | k_is | rfl)
    (case a8 => first | k_is | rfl)
    (case l8 => first | k_is | rfl)
    (case c8 => first | k_is | rfl)
    (case k8 => first | k_is | rfl)
    (case a9 => first | k_is | rfl)
    (case l9 => first | k_is | rfl)
    (case c9 => first | k_is | rfl)
    (case k9 => first | k_is | rfl)
    (case a10 => first | k_is | rfl)
    (case l10 => first | k_is | rfl)
    (case c10 => first | k_is | rfl)
    (case k10 => first | k_is | rfl)
    (case a11 => first | k_is | rfl)
    (case l11 => first | k_is | rfl)
    (case c11 => first | k_is | rfl)
    (case k11 => first | k_is | rfl)
    (case a12 => first | k_is | rfl)
    (case l12 => first | k_is | rfl)
    (case c12 => first | k_is | rfl)
    (case k12 => first | k_is | rfl)
    (case a13 => first | k_is | rfl)
    (case l13 => first | k_is | rfl)
    (case c13 => first | k_is | rfl)
    (case k13 => first | k_is | rfl)
    (case a14 => first | k_is | rfl)
    (case l14 => first | k_is | rfl)
    (case c14 => first | k_is | rfl)
    (case k14 => first | k_is | rfl)
    (case a15 => first | k_is | rfl)
    (case l15 => first | k_is | rfl)
    (case c15 => first | k_is | rfl)
    (case k15 => first | k_is | rfl)
    (case a16 => first | k_is | rfl)
    (case l16 => first | k_is | rfl)
    (case c16 => first | k_is | rfl)
    (case k16 => first | k_is | rfl)
    (case a17 => first | k_is | rfl)
    (case l17 => first | k_is | rfl)
    (case c17 => first | k_is | rfl)
    (case k17 => first | k_is | rfl)
    (case a18 => first | k_is | rfl)
    (case l18 => first | k_is | rfl)
    (case c18 => first | k_is | rfl)
    (case k18 => first | k_is | rfl)
    (case a19 => first | k_is | rfl)
    (case l19 => first | k_is | rfl)
    (case c19 => first | k_is | rfl)
    (case k19 => first | k_is | rfl)
    (case a20 => first | k_is | rfl)
    (case l20 => first | k_is | rfl)
    (case c20 => first | k_is | rfl)
    (case k20 => first | k_is | rfl)
    (case a21 => first | k_is | rfl)
    (case l21 => first | k_is | rfl)
    (case c21 => first | k_is | rfl)
    (case k21 => first | k_is | rfl)
    (case P1_Net => first | k_is | rfl)
    (case P2_Net => first | k_is | rfl)
    (case P3_Net => first | k_is | rfl)
    (case P4_Net => first | k_is | rfl)
    (case PN_Net_many => first | k_is | rfl)
    (case PN_Net_threads => first | k_is | rfl)
    (case PN_Net_near => first | k_is | rfl)
    (case M1_Net => first | k_is | rfl)
    (case M3_Net => first | k_is | rfl)
    (case M4_Net => first | k_is | rfl)
    (case E1_Refused => first | k_is | rfl)
    (case E4_Refused => first | k_is | rfl)
    (case E5_Refused => first | k_is | rfl)
    (case E9_Refused => first | k_is | rfl)
    (case E1_BadPlace => first | k_is | rfl)
    (case E4_BadPlace => first | k_is | rfl)
    (case E5_BadPlace => first | k_is | rfl)
    (case E9_BadPlace => first | k_is | rfl)
    (case E2_BadPlace => first | rfl | decide +kernel | k_is)
    (case E3_BadPlace => first | k_is | rfl)
    (case E6_BadPlace => first | k_is | rfl)
    (case E7_BadPlace => first | k_is | rfl)
    (case E8_BadPlace => first | k_is | rfl)
    (case EA_BadPlace => first | k_is | rfl)
    (case EB_BadPlace => first | k_is | rfl)
    (case EC_BadPlace => first | k_is | rfl)
    (case ED_BadPlace => first | k_is | rfl)
    (case EI_BadPlace => first | k_is | rfl)
    (case EG => first | k_is | rfl)
    (case ET => first | k_is | rfl)
    (case X_BadPlace_Refused => first | k_is | rfl)
    (case I_BadPlace_BadPlace => first | k_is | rfl)
    (case z_all => first | k_is | rfl)
    (case z_bool => first | k_is | rfl)
    (case z_enumerate => first | k_is | rfl)
    (case z_int => first | k_is | rfl)
    (case z_isinstance => first | k_is | rfl)
    (case z_len => first | k_is | rfl)
    (case z_max => first | k_is | rfl)
    (case z_range => first | k_is | rfl)
    (case z_sorted => first | k_is | rfl)
    (case z_tuple => first | k_is | rfl)
    (case y_MOST_PLACES => exact ⟨_, by k_is⟩)
    (case y_MOST_THREADS => exact ⟨_, by k_is⟩)
